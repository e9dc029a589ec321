import PyProof.Rows.All
import Wide.All
import OpenK.AllK
import Wide.FinOn
import Lean
import PyProof.EqAt
import PyProof.EqKinds
import PyProof.TupleCall
import PyProof.NeKinds
import KE.KRevIter
import KE.KDictSum
import KE.KIntText
import PySem.Challenge.RW_turngrid_k55_two_desks
set_option Elab.async false
set_option linter.all false
set_option maxRecDepth 100000
set_option Elab.async false
set_option linter.all false
set_option maxRecDepth 100000
noncomputable section
namespace L2
open PySem PySem.Spec PyProof.Rows
abbrev j7:=Sum Int Str
def jjx:j7->Value->Bool
 | .inl k,v=>Value.isInt k v
 | .inr x,v=>Value.isStrOf x v
def jAZ (w:World):j7->Int
 | .inl k=>hashInt k
 | .inr x=>hashStr w x
theorem jaY:∀ {k:j7} {v:Value},jjx k v = true->(∃ i t,k = Sum.inl i∧v = Value.int i t) ∨ (∃ x t,k = Sum.inr x∧v = Value.str x t)
 | .inl i,v,h=>by
  obtain ⟨t,e⟩:=Value.isInt_shape (k:=i) (v:=v) h
  exact .inl ⟨i,t,rfl,e⟩
 | .inr x,v,h=>by
  obtain ⟨t,e⟩:=Value.isStrOf_shape (x:=x) (v:=v) h
  exact .inr ⟨x,t,rfl,e⟩
theorem jtE (i:Int) (t:Tok):jjx (.inl i) (.int i t) = true:=by simp [jjx,Value.isInt]
theorem jjc (x:Str) (t:Tok):jjx (.inr x) (.str x t) = true:=by simp [jjx,Value.isStrOf]
theorem jyS (a b:Int):decide ((Sum.inl a:j7) = Sum.inl b) = (a == b):=by
 by_cases e:a = b
 ·subst e; simp
 ·have h:¬ (Sum.inl a:j7) = Sum.inl b:=fun q=>e (Sum.inl.inj q)
  rw [decide_eq_false h]
  exact (beq_eq_false_iff_ne.mpr e).symm
theorem jy2 (a b:Str):decide ((Sum.inr a:j7) = Sum.inr b) = decide (a = b):=by
 by_cases e:a = b
 ·subst e; simp
 ·have h:¬ (Sum.inr a:j7) = Sum.inr b:=fun q=>e (Sum.inr.inj q)
  rw [decide_eq_false h,decide_eq_false e]
theorem jyM (a:Int) (b:Str):decide ((Sum.inl a:j7) = Sum.inr b) = false:=decide_eq_false (fun q=>by cases q)
theorem jyg (a:Str) (b:Int):decide ((Sum.inr a:j7) = Sum.inl b) = false:=decide_eq_false (fun q=>by cases q)
def jat (prog:Program) (w:World):PySem.KeyKind prog w j7 where
 is:=jjx
 hash:=jAZ w
 inj:=fun v a b ha hb=>by
  rcases jaY ha with ⟨i,t,rfl,rfl⟩ | ⟨x,t,rfl,rfl⟩
  ·rcases jaY hb with ⟨j,u,rfl,e⟩ | ⟨y,u,rfl,e⟩
   ·injection e with e1 _; rw [e1]
   ·exact by cases e
  ·rcases jaY hb with ⟨j,u,rfl,e⟩ | ⟨y,u,rfl,e⟩
   ·exact by cases e
   ·injection e with e1 _; rw [e1]
 byValue:=fun k v h=>by
  rcases jaY h with ⟨i,t,rfl,rfl⟩ | ⟨x,t,rfl,rfl⟩ <;> rfl
 pyHash:=fun hv h=>by
  rcases jaY hv with ⟨i,t,rfl,rfl⟩ | ⟨x,t,rfl,rfl⟩
  ·exact wpAny_pyHash_int h
  ·exact wpAny_pyHash_str h
 eqBool:=fun hu hv h=>by
  rcases jaY hu with ⟨i,t,rfl,rfl⟩ | ⟨x,t,rfl,rfl⟩
  ·rcases jaY hv with ⟨j,u,rfl,rfl⟩ | ⟨y,u,rfl,rfl⟩
   ·rw [jyS] at h; exact wpAny_eqBool_int h
   ·rw [jyM] at h; exact SeqAt.EqAt.int_str i t y u _ _ _ _ h
  ·rcases jaY hv with ⟨j,u,rfl,rfl⟩ | ⟨y,u,rfl,rfl⟩
   ·rw [jyg] at h; exact SeqAt.EqAt.str_int x t j u _ _ _ _ h
   ·rw [jy2] at h; exact wpAny_eqBool_str h
 «strs»:=fun k x t v h=>by
  rcases jaY h with ⟨i,u,rfl,e⟩ | ⟨y,u,rfl,e⟩
  ·exact by cases e
  ·injection e with e1 _
   subst e1
   cases v <;> rfl
theorem jqU (prog:Program) (w:World) (i:Int) (t:Tok):(jat prog w).is (.inl i) (.int i t) = true:=jtE i t
theorem jqS (prog:Program) (w:World) (x:Str) (t:Tok):(jat prog w).is (.inr x) (.str x t) = true:=jjc x t
end L2
namespace L2
open PySem PySem.Spec PyProof.Rows
inductive V where
 | non | bl (b:Bool) | int (i:Int) | str (x:Str) | byt (b:Array UInt8) | flt (b:UInt64) | ref (a:Addr) | ty (n:String)
 deriving DecidableEq
def RelV:V->Value->Prop
 | .non,u=>u = Value.none
 | .bl b,u=>u = Value.bool b
 | .int i,u=>∃ t,u = Value.int i t
 | .str x,u=>∃ t,u = Value.str x t
 | .byt b,u=>∃ t,u = Value.bytes b t
 | .flt b,u=>∃ t,u = Value.float b t
 | .ref a,u=>u = Value.ref a
 | .ty n,u=>u = Value.type n
abbrev Vals:List V->List Value->Prop:=Paired RelV
theorem Vals.length {xs:List V} {us:List Value} (r:Vals xs us):xs.length = us.length:=Paired.length r
theorem Vals.get:∀ {xs:List V} {us:List Value} {i:Nat} {x:V},Vals xs us->xs[i]? = some x->∃ u,us[i]? = some u∧RelV x u
 | _,_,_,_,.nil,e=>by simp at e
 | _,_,0,_,.cons r _,e=>by simp at e; subst e; exact ⟨_,rfl,r⟩
 | _,_,i + 1,x,.cons _ t,e=>by
  obtain ⟨u,h1,h2⟩:=Vals.get (i:=i) (x:=x) t (by simpa using e)
  exact ⟨u,by simpa using h1,h2⟩
theorem Vals.set {x:V} {u:Value} (r:RelV x u):∀ {xs:List V} {us:List Value} (i:Nat),Vals xs us->Vals (xs.set i x) (us.set i u)
 | _,_,_,.nil=>.nil
 | _,_,0,.cons _ t=>.cons r t
 | _,_,i + 1,.cons q t=>.cons q (Vals.set r i t)
theorem Vals.append:∀ {xs ys:List V} {us ws:List Value},Vals xs us->Vals ys ws->Vals (xs ++ ys) (us ++ ws)
 | _,_,_,_,.nil,s=>s
 | _,_,_,_,.cons r t,s=>.cons r (Vals.append t s)
theorem Vals.take:∀ {xs:List V} {us:List Value} (n:Nat),Vals xs us->Vals (xs.take n) (us.take n)
 | _,_,0,_=>.nil
 | _,_,_ + 1,.nil=>.nil
 | _,_,n + 1,.cons r t=>.cons r (Vals.take n t)
theorem Vals.drop:∀ {xs:List V} {us:List Value} (n:Nat),Vals xs us->Vals (xs.drop n) (us.drop n)
 | _,_,0,r=>r
 | _,_,_ + 1,.nil=>.nil
 | _,_,n + 1,.cons _ t=>Vals.drop n t
theorem Vals.none_of:∀ {xs:List V} {us:List Value} {i:Nat},Vals xs us->xs[i]? = none->us[i]? = none:=fun {xs us i} r e=>by
 have h1:=r.length
 have h2:xs.length ≤ i:=List.getElem?_eq_none_iff.mp e
 exact List.getElem?_eq_none_iff.mpr (by omega)
def RelO:Option V->Option Value->Prop
 | some v,some u=>RelV v u
 | none,none=>True
 | _,_=>False
def KV {κ:Type}:List (κ × V)->List (κ × Value)->Prop:=Paired fun (p:κ × V) (q:κ × Value)=>p.1 = q.1∧RelV p.2 q.2
def kV:j7->V
 | .inl i=>.int i
 | .inr x=>.str x
inductive HO where
 /-- a list -/
 | lst (xs:List V)
 /-- a tuple (never changes) -/
 | tup (xs:List V)
 /-- a dict whose keys are ints and texts; one whose keys are tuples of ints and texts (the empty one is both) -/
 | dK (kvs:List (j7 × V)) | dT (kvs:List (List j7 × V))
 /-- a set of ints: its members, its size -/
 | set (S:Int->Bool) (n:Nat)
 /-- an instance of the class at C, its dict at dx, its attributes -/
 | ins (C dx:Addr) (fs:List (Str × V))
 /-- the dict of the instance at x -/
 | own (x:Addr)
 /-- the dict of an exception -/
 | xd (fs:List (Str × V))
 /-- a bound method, f of x -/
 | met (f x:Addr)
 /-- a range object lo, lo + 1, .. below hi -/
 | rng (lo hi:Int)
 /-- a thing that is known to the object (the script; a dict while a loop walks it): read, never written while it is so -/
 | frz (o:Obj) (u:HO)
 /-- a code object's table -/
 | tbl (ps:Array Value)
 /-- any other thing, by what is true of its one object (a def of one's own: SetO a S n := HO.ext fun h => ..) -/
 | ext (φ:Heap->Prop)
abbrev Hp:=Addr->Option HO
def jG (H:Hp) (a:Addr) (o:HO):Hp:=fun b=>if b = a then some o else H b
theorem jW {H:Hp} {a:Addr} {o:HO}:jG H a o a = some o:=by unfold jG; rw [if_pos rfl]
theorem jy {H:Hp} {a b:Addr} {o:HO} (h:b ≠ a):jG H a o b = H b:=by unfold jG; rw [if_neg h]
theorem jdf {H:Hp} {a b:Addr} {o u:HO} (h:H a = some o) (h':H b = some u) (d:o ≠ u):a ≠ b:=by
 intro e; subst e; rw [h] at h'; exact d (Option.some.inj h')
theorem j9 {H:Hp} {a b:Addr} {o:HO} (h:H a = some o) (h':H b = none):a ≠ b:=by
 intro e; subst e; rw [h] at h'; cases h'
section
variable (P:Program) (w:World)
def ObjOk (H:Hp) (h:Heap) (a:Addr):HO->Prop
 | .lst xs=>xs.length ≤ sizeLine∧∃ (its:List Value) (n:Nat),Vals xs its∧h.get? a = some { cls:=.type "list",data:=.seq its.toArray n }
 | .tup xs=>xs.length ≤ sizeLine∧∃ its:List Value,Vals xs its∧IsTup h a its.toArray
 | .dK kvs=>kvs.length ≤ sizeLine∧(a == sysModules) = false∧∃ vs,KV kvs vs∧h.DictOf (jat P w) a vs
 | .dT kvs=>kvs.length ≤ sizeLine∧(a == sysModules) = false∧∃ xs:List (List j7 × Addr × Value),
   Paired (fun (p:List j7 × V) (q:List j7 × Addr × Value)=>p.1 = q.1∧H q.2.1 = some (.tup (p.1.map kV))∧RelV p.2 q.2.2) kvs xs ∧
   ∃ o es ep,h.get? a = some o∧o.ExactDict∧o.data = .dict es ep∧es.toList = xs.map (entryOfKey (tupleKind (jat P w)))∧(xs.map (·.1)).Nodup
 | .set S n=>h.SetOf (intKind P w) a S n
 | .ins C dx fs=>H dx = some (.own a)∧fs.length ≤ 1000∧dx ≠ a∧h.get? a = some (PySem.W.instObj C dx) ∧
   ∃ mA,h.Ns1 dx mA∧(∀ f,RelO (fs.lookup f) (mA f))∧PySem.Within mA (fs.map (·.1))
 | .own _=>∃ o,h.get? a = some o
 | .xd fs=>∃ mA,h.Ns1 a mA∧∀ f,RelO (fs.lookup f) (mA f)
 | .rng lo hi=>∃ t u v,h.get? a = some { cls:=.type "range",data:=.fields #[.int lo t,.int hi u,.int 1 v] }
 | .frz o u=>h.get? a = some o∧ObjOk H h a u
 | .tbl ps=>h.get? a = some { cls:=.none,data:=.fields ps }
 | .met f x=>h.get? a = some (PySem.W.methodObj (.ref f) (.ref x))
 | .ext φ=>φ h∧(∃ o,h.get? a = some o)∧∀ h1 h2:Heap,φ h1->(∀ o,h1.get? a = some o->h2.get? a = some o)->φ h2
def HOk (H:Hp) (h:Heap):Prop:=∀ a o,H a = some o->ObjOk P w H h a o
end
section
variable {P:Program} {w:World} {H H':Hp} {h h':Heap} {a:Addr} {o:HO}
theorem ObjOk.lt (x:ObjOk P w H h a o):a < h.objs.size:=by
 cases o with
 | lst xs=>obtain ⟨_,_,_,_,e⟩:=x; exact Heap.lt_size e
 | tup xs=>obtain ⟨_,_,_,p⟩:=x; exact p.lt
 | dK kvs=>obtain ⟨_,_,_,_,o,_,_,e,_⟩:=x; exact Heap.lt_size e
 | dT kvs=>obtain ⟨_,_,_,_,o,_,_,e,_⟩:=x; exact Heap.lt_size e
 | set S n=>obtain ⟨o,_,_,_,e,_⟩:=x; exact Heap.lt_size e
 | ins C dx fs=>obtain ⟨_,_,_,e,_⟩:=x; exact Heap.lt_size e
 | own y=>obtain ⟨_,e⟩:=x; exact Heap.lt_size e
 | xd fs=>obtain ⟨_,⟨_,_,_,e,_⟩,_⟩:=x; exact Heap.lt_size e
 | rng lo hi=>obtain ⟨_,_,_,e⟩:=x; exact Heap.lt_size e
 | frz ob u=>obtain ⟨e,_⟩:=x; exact Heap.lt_size e
 | tbl ps=>exact Heap.lt_size (show h.get? a = some _ from x)
 | met f y=>exact Heap.lt_size (show h.get? a = some _ from x)
 | ext φ=>obtain ⟨_,⟨_,e⟩,_⟩:=x; exact Heap.lt_size e
theorem Paired.mapP {α β:Type} {F G:α->β->Prop}:∀ {l₁:List α} {l₂:List β},Paired F l₁ l₂->(∀ a b,F a b->G a b)->Paired G l₁ l₂
 | _,_,.nil,_=>.nil
 | _,_,.cons r t,f=>.cons (f _ _ r) (Paired.mapP t f)
theorem ObjOk.stay (x:ObjOk P w H h a o) (k:∀ b u,(b = a ∨ H b = some (.own a))->h.get? b = some u->h'.get? b = some u)
  (ho:∀ b,H b = some (.own a)->H' b = some (.own a)) (ht:∀ b xs,H b = some (.tup xs)->H' b = some (.tup xs)):ObjOk P w H' h' a o:=by
 induction o with
 | lst xs=>obtain ⟨z,its,n,r,e⟩:=x; exact ⟨z,its,n,r,k _ _ (.inl rfl) e⟩
 | tup xs=>obtain ⟨z,its,r,ob,e,c⟩:=x; exact ⟨z,its,r,ob,k _ _ (.inl rfl) e,c⟩
 | dK kvs=>obtain ⟨z,y,vs,r,ob,es,ep,e,c⟩:=x; exact ⟨z,y,vs,r,ob,es,ep,k _ _ (.inl rfl) e,c⟩
 | dT kvs =>
  obtain ⟨z,y,xs,r,ob,es,ep,e,c⟩:=x
  exact ⟨z,y,xs,Paired.mapP r fun p q z=>⟨z.1,ht _ _ z.2.1,z.2.2⟩,ob,es,ep,k _ _ (.inl rfl) e,c⟩
 | set S n=>obtain ⟨ob,es,ep,t,e,c⟩:=x; exact ⟨ob,es,ep,t,k _ _ (.inl rfl) e,c⟩
 | ins C dx fs =>
  obtain ⟨d,z,ne,e,mA,⟨od,es,ep,e2,c⟩,r⟩:=x
  exact ⟨ho _ d,z,ne,k _ _ (.inl rfl) e,mA,⟨od,es,ep,k _ _ (.inr d) e2,c⟩,r⟩
 | own y=>obtain ⟨ob,e⟩:=x; exact ⟨ob,k _ _ (.inl rfl) e⟩
 | xd fs=>obtain ⟨mA,⟨od,es,ep,e,c⟩,r⟩:=x; exact ⟨mA,⟨od,es,ep,k _ _ (.inl rfl) e,c⟩,r⟩
 | rng lo hi=>obtain ⟨t,u,v,e⟩:=x; exact ⟨t,u,v,k _ _ (.inl rfl) e⟩
 | frz ob u ih=>obtain ⟨e,q⟩:=x; exact ⟨k _ _ (.inl rfl) e,ih q⟩
 | tbl ps =>
  have e:h.get? a = some { cls:=.none,data:=.fields ps }:=x
  show h'.get? a = some { cls:=.none,data:=.fields ps }
  exact k a _ (.inl rfl) e
 | met f y =>
  have e:h.get? a = some (PySem.W.methodObj (.ref f) (.ref y)):=x
  show h'.get? a = some (PySem.W.methodObj (.ref f) (.ref y))
  exact k a _ (.inl rfl) e
 | ext φ=>obtain ⟨p,⟨o,e⟩,st⟩:=x; exact ⟨st _ _ p fun o q=>k _ _ (.inl rfl) q,⟨o,k _ _ (.inl rfl) e⟩,st⟩
theorem HOk.lt (x:HOk P w H h) (e:H a = some o):a < h.objs.size:=(x a o e).lt
theorem HOk.fresh (x:HOk P w H h) (e:h.objs.size ≤ a):H a = none:=by
 cases q:H a with
 | none=>rfl
 | some u=>exact absurd (Nat.lt_of_lt_of_le (x.lt q) e) (Nat.lt_irrefl _)
theorem HOk.kept (x:HOk P w H h) (k:∀ b u,h.get? b = some u->h'.get? b = some u):HOk P w H h':=fun a o e =>
 (x a o e).stay (fun b u _ q=>k b u q) (fun _ q=>q) fun _ _ q=>q
theorem HOk.laid (x:HOk P w H h) (k:∀ b u,h.get? b = some u->h'.get? b = some u) (hp:h.objs.size ≤ a) (new:ObjOk P w (jG H a o) h' a o):HOk P w (jG H a o) h':=fun b u e=>by
 have hn:=x.fresh hp
 by_cases hb:b = a
 ·subst hb; rw [jW] at e; cases e; exact new
 ·rw [jy hb] at e
  exact (x b u e).stay (fun c v _ q=>k c v q) (fun c q=>by rw [jy (j9 q hn)]; exact q) fun c xs q=>by rw [jy (j9 q hn)]; exact q
end
def Rd (H:Hp) (a:Addr) (u:HO):Prop:=H a = some u ∨ ∃ o,H a = some (.frz o u)
theorem Rd.of {H:Hp} {a:Addr} {u:HO} (h:H a = some u):Rd H a u:=.inl h
theorem Rd.ok {P:Program} {w:World} {H:Hp} {h:Heap} {a:Addr} {u:HO} (r:Rd H a u) (x:HOk P w H h):ObjOk P w H h a u:=by
 rcases r with r | ⟨o,r⟩
 ·exact x a u r
 ·obtain ⟨_,q⟩:=x a _ r
  exact q
def Mut:Option HO->Prop
 | some (.lst _)=>True
 | some (.dK _)=>True
 | some (.dT _)=>True
 | some (.set _ _)=>True
 | some (.ins _ _ _)=>True
 | some (.ext _)=>True
 | _=>False
section
variable {P:Program} {w:World} {H:Hp} {h h':Heap} {x e:Addr} {o':HO}
theorem HOk.write (ok:HOk P w H h) (mu:Mut (H x)) (he:e = x ∨ H e = some (.own x)) (k:∀ b u,b ≠ e->h.get? b = some u->h'.get? b = some u) (heo:∃ u,h'.get? e = some u)
  (new:ObjOk P w (jG H x o') h' x o'):HOk P w (jG H x o') h':=fun b u q=>by
 have nown:∀ c y,H c = some (.own y)->c ≠ x:=fun c y r z=>by subst z; rw [r] at mu; exact mu
 have ntup:∀ c xs,H c = some (.tup xs)->c ≠ x:=fun c xs r z=>by subst z; rw [r] at mu; exact mu
 by_cases hb:b = x
 ·subst hb; rw [jW] at q; cases q; exact new
 ·rw [jy hb] at q
  by_cases hbe:b = e
  ·have q':H b = some (.own x):=by
    rcases he with z | z
    ·exact absurd (hbe.trans z) hb
    ·rw [hbe]; exact z
   rw [q] at q'; cases q'
   obtain ⟨v,hv⟩:=heo
   exact ⟨v,by rw [hbe]; exact hv⟩
  ·refine (ok b u q).stay (fun c v hc r=>k c v ?_ r) (fun c r=>by rw [jy (nown c b r)]; exact r) fun c xs r=>by rw [jy (ntup c xs r)]; exact r
   rcases hc with rfl | hc
   ·exact hbe
   ·rintro rfl
    rcases he with z | z
    ·exact nown c b hc z
    ·rw [hc] at z; cases z; exact hb rfl
end
structure Un (fs ex:List Addr) (H H':Hp) (h h':Heap):Prop where
 keep:∀ b o,h.get? b = some o->H b = none->b ∉ fs->b ∉ ex->h'.get? b = some o
 slot:∀ b o,h.get? b = some o->H b = none->b ∈ fs->b ∉ ex->∃ sl,h'.get? b = some { o with slots:=sl }
 free:∀ b o,h.get? b = some o->H b = none->b ∉ ex->H' b = none
 there:∀ b o,h.get? b = some o->b ∉ ex->∃ o',h'.get? b = some o'
 tups:∀ b xs,H b = some (.tup xs)->H' b = some (.tup xs)
 frzs:∀ b o u,H b = some (.frz o u)->H' b = some (.frz o u)
 tbls:∀ b ps,H b = some (.tbl ps)->∃ more,H' b = some (.tbl (ps ++ more))
section
variable {fs fs' ex ex':List Addr} {H H1 H2:Hp} {h h1 h2 h':Heap} {a x e:Addr} {o:HO}
theorem Un.any (u:Un fs ex H H1 h h1) {b:Addr} {ob:Obj} (q:h.get? b = some ob) (n:H b = none) (hx:b ∉ ex):∃ sl,h1.get? b = some { ob with slots:=sl }:=by
 by_cases hb:b ∈ fs
 ·exact u.slot b ob q n hb hx
 ·exact ⟨ob.slots,u.keep b ob q n hb hx⟩
theorem Un.trans (a:Un fs ex H H1 h h1) (b:Un fs ex H1 H2 h1 h2):Un fs ex H H2 h h2 where
 keep:=fun c ob q n hc hx=>b.keep c ob (a.keep c ob q n hc hx) (a.free c ob q n hx) hc hx
 slot:=fun c ob q n hc hx=>by
  obtain ⟨sl,e1⟩:=a.slot c ob q n hc hx
  obtain ⟨sl',e2⟩:=b.slot c _ e1 (a.free c ob q n hx) hc hx
  exact ⟨sl',e2⟩
 free:=fun c ob q n hx=>by
  obtain ⟨o',e1⟩:=a.there c ob q hx
  exact b.free c o' e1 (a.free c ob q n hx) hx
 there:=fun c ob q hx=>by
  obtain ⟨o',e1⟩:=a.there c ob q hx
  exact b.there c o' e1 hx
 tups:=fun c xs q=>b.tups c xs (a.tups c xs q)
 frzs:=fun c ob xs q=>b.frzs c ob xs (a.frzs c ob xs q)
 tbls:=fun c ps q=>by
  obtain ⟨m1,e1⟩:=a.tbls c ps q
  obtain ⟨m2,e2⟩:=b.tbls c _ e1
  exact ⟨m1 ++ m2,by rw [e2,Array.append_assoc]⟩
theorem Un.kept (k:∀ b u,h.get? b = some u->h'.get? b = some u):Un fs ex H H h h' :=
 ⟨fun b ob q _ _ _=>k b ob q,fun b ob q _ _ _=>⟨ob.slots,k b ob q⟩,fun _ _ _ n _=>n,fun b ob q _=>⟨ob,k b ob q⟩,fun _ _ q=>q,fun _ _ _ q=>q,fun _ ps q=>⟨#[],by rw [q]; simp⟩⟩
theorem Un.refl:Un fs ex H H h h:=Un.kept fun _ _ q=>q
theorem Un.laid (k:∀ b u,h.get? b = some u->h'.get? b = some u) (hp:h.objs.size ≤ a) (hn:H a = none):Un fs ex H (jG H a o) h h' where
 keep:=fun b u q _ _ _=>k b u q
 slot:=fun b u q _ _ _=>⟨u.slots,k b u q⟩
 free:=fun b u q n _=>by rw [jy (Nat.ne_of_lt (Nat.lt_of_lt_of_le (Heap.lt_size q) hp))]; exact n
 there:=fun b u q _=>⟨u,k b u q⟩
 tups:=fun b xs q=>by rw [jy (j9 q hn)]; exact q
 frzs:=fun b u xs q=>by rw [jy (j9 q hn)]; exact q
 tbls:=fun b ps q=>⟨#[],by rw [jy (j9 q hn),q]; simp⟩
theorem Un.write (mu:Mut (H x)) (he:e = x ∨ H e = some (.own x)) (k:∀ b u,b ≠ e->h.get? b = some u->h'.get? b = some u) (heo:∃ u,h'.get? e = some u):Un fs ex H (jG H x o) h h':=by
 have hx:∀ b,H b = none->b ≠ x:=fun b n z=>by subst z; rw [n] at mu; exact mu
 have hb:∀ b,H b = none->b ≠ e:=fun b n z=>by
  subst z
  rcases he with r | r
  ·exact hx b n r
  ·rw [n] at r; cases r
 have hm:∀ b u,H b = some u->¬ Mut (some u)->b ≠ x:=fun b u q nm z=>by subst z; rw [q] at mu; exact nm mu
 refine ⟨fun b u q n _ _=>k b u (hb b n) q,fun b u q n _ _=>⟨u.slots,k b u (hb b n) q⟩,fun b u q n _=>by rw [jy (hx b n)]; exact n,fun b u q _=>?_,
  fun b xs q=>by rw [jy (hm b _ q fun z=>z)]; exact q,fun b u xs q=>by rw [jy (hm b _ q fun z=>z)]; exact q,fun b ps q=>⟨#[],by rw [jy (hm b _ q fun z=>z),q]; simp⟩⟩
 by_cases hbe:b = e
 ·subst hbe; exact heo
 ·exact ⟨u,k b u hbe q⟩
theorem Un.mono (u:Un fs ex H H1 h h1) (hs:∀ b ∈ fs,b ∈ fs') (hx:∀ b ∈ ex,b ∈ ex'):Un fs' ex' H H1 h h1 :=
 ⟨fun b ob q n hb he=>u.keep b ob q n (fun z=>hb (hs b z)) fun z=>he (hx b z),fun _ _ q n _ he=>u.any q n fun z=>he (hx _ z),fun b ob q n he=>u.free b ob q n fun z=>he (hx b z),fun b ob q he=>u.there b ob q fun z=>he (hx b z),u.tups,u.frzs,u.tbls⟩
end
def trk (h:Heap) (H:Hp):List Addr:=(List.range h.objs.size).filter fun a=>(H a).isSome
def jhs (h:Heap) (H:Hp):Heap:=PySem.W.hideAll h (trk h H)
theorem jum (h:Heap) (H:Hp):(jhs h H).objs.size = h.objs.size:=PySem.W.hideAll_size _ _
theorem jvW {h:Heap} {H:Hp} {b:Addr} {o:Obj} (e:h.get? b = some o) (n:H b = none):(jhs h H).get? b = some o :=
 PySem.W.hideAll_get _ e fun hm=>by
  have q:(H b).isSome = true:=(List.mem_filter.mp hm).2
  rw [n] at q; simp at q
theorem jwV {h:Heap} {H:Hp} {b:Addr} {o:Obj} (e:(jhs h H).get? b = some o):h.get? b = some o∧H b = none:=by
 have e':h.get? b = some o:=PySem.W.of_hideAll (trk h H) e
 refine ⟨e',?_⟩
 cases q:H b with
 | none=>rfl
 | some x =>
  have hm:b ∈ trk h H:=List.mem_filter.mpr ⟨List.mem_range.mpr (Heap.lt_size e'),by simp [q]⟩
  have z:(jhs h H).get? b = none:=PySem.W.hideAll_none (trk h H) hm
  rw [z] at e; cases e
def jwM (g h:Heap) (L:Addr):List (Addr × Obj):=(List.range h.objs.size).filterMap fun a=>if a = L ∨ (g.get? a).isSome = true then none else (h.get? a).map fun o=>(a,o)
def jR (g h:Heap) (L d:Addr):List (Addr × Obj):=(jwM g h L).filter fun p=>decide (p.1 ≠ d)
end L2
namespace L2
open PySem PySem.Spec PyProof.Rows
structure Mod (K:PySem.W.Frag) (mg:Str->Option Value) (base:Heap):Prop where
 kin:K.In base
 glob:base.Ns mainGlobals mg
 blt:∃ mb,base.Ns builtinsNs mb∧∀ x:Str,x ≠ "__name__"->mb x = bootBuiltins x
 nolimit:base.NoLimit
structure Cx where
 prog:Program
 w:World
 K:PySem.W.Frag
 mg:Str->Option Value
 base:Heap
 A:Around
 N:List Str
 s₀:Shared
 H₀:Hp
 env:Env
 outer:List Env
 stack:List Env
 ex:List Addr
 fn:Str->Bool
 calm:Bool
 pn:List (Addr × Obj)
 xe:Value->Shared->Prop
def frs (l:List Env):List Addr:=l.filterMap (·.frame)
abbrev Cx.fs (X:Cx):List Addr:=frs X.outer
def Vis (sc:Scope) (x:Str):Prop:=sc.names.lookup x = some .local ∨ sc.names.lookup x = some .cell ∨ sc.names.lookup x = some .free
def Loc (sc:Scope) (x:Str):Prop:=sc.names.lookup x = some .local ∨ sc.names.lookup x = some .cell
def jAC (env:Env) (h:Heap) (m:Str->Option Value) (x:Str) (u:Value):Prop :=
 (env.kindOf x = some .local∧m x = some u) ∨ ((env.kindOf x = some .cell ∨ env.kindOf x = some .free)∧∃ c,env.cells.lookup x = some c∧h.IsCell c (some u))
structure Cx.Ok (X:Cx):Prop where
 mod:Mod X.K X.mg X.base
 kind:X.env.scope.kind = .function
 glob:X.env.globals = mainGlobals
 blt:X.env.builtins = builtinsNs
 above:X.s₀.heap.objs.size ≤ X.env.locals
 inj:∀ x y c,X.env.cells.lookup x = some c->X.env.cells.lookup y = some c->x = y
 has:∀ x,(X.env.kindOf x = some .cell ∨ X.env.kindOf x = some .free)->∃ c,X.env.cells.lookup x = some c
 cab:∀ x c,X.fn x = true->X.env.cells.lookup x = some c->X.s₀.heap.objs.size ≤ c
 hd:X.calm = true->X.A.handled = none
 frames:X.A.frames = some X.stack
 stk:X.stack = X.outer ∨ (X.stack = X.env :: X.outer∧X.env.frame = some X.env.locals)
 exf:∀ b ∈ X.ex,b ≠ X.env.locals∧∀ x c,X.env.cells.lookup x = some c->c ≠ b
 bs:∀ b o,X.base.get? b = some o->X.s₀.heap.get? b = some o∧X.H₀ b = none
 bsz:X.base.objs.size ≤ X.s₀.heap.objs.size
 noex:∀ b o,X.base.get? b = some o->b ∉ X.ex
 exfs:∀ b ∈ X.ex,b ∉ X.fs
 funs:X.s₀.heap.FunFrames X.base X.outer
 frf:∀ b ∈ X.fs,X.H₀ b = none
structure Inv (X:Cx) (pins:List (Addr × Obj)) (σ:List (Option V)) (H:Hp) (s:Shared):Prop where
 ok:X.Ok
 os:s.os = X.s₀.os
 bare:AllBare s.gens
 base:Un X.fs X.ex X.H₀ H X.s₀.heap s.heap
 loc:∃ m,s.heap.Ns X.env.locals m∧∀ (i:Nat) (x:Str) (v:V),X.N[i]? = some x->σ[i]? = some (some v)->Vis X.env.scope x->∃ u,RelV v u∧jAC X.env s.heap m x u
 cell:∀ x c,X.env.cells.lookup x = some c->∃ v,s.heap.IsCell c v
 free:H X.env.locals = none
 freeC:∀ x c,X.env.cells.lookup x = some c->H c = none
 pin:∀ p ∈ X.pn ++ pins,s.heap.get? p.1 = some p.2∧H p.1 = none∧p.1 ≠ X.env.locals∧p.1 ∉ X.fs∧∀ v,p.2.data ≠ .cell v
 hok:HOk X.prog X.w H s.heap
 len:σ.length = X.N.length
section
variable {X:Cx} {pins:List (Addr × Obj)} {σ:List (Option V)} {H H':Hp} {s:Shared} {h':Heap}
theorem Cx.Ok.nofr (ok:X.Ok) {b:Addr} {o:Obj} (e:X.base.get? b = some o):b ∉ X.fs:=fun hb=>by
 have:=(ok.funs.mem hb).1
 rw [e] at this; cases this
theorem Inv.bs (I:Inv X pins σ H s):∀ b o,X.base.get? b = some o->s.heap.get? b = some o∧H b = none:=fun b o e =>
 ⟨I.base.keep b o (I.ok.bs b o e).1 (I.ok.bs b o e).2 (I.ok.nofr e) (I.ok.noex b o e),I.base.free b o (I.ok.bs b o e).1 (I.ok.bs b o e).2 (I.ok.noex b o e)⟩
theorem Inv.bk (I:Inv X pins σ H s):∀ b o,X.base.get? b = some o->s.heap.get? b = some o:=fun b o e=>(I.bs b o e).1
theorem Inv.mod (I:Inv X pins σ H s):Mod X.K X.mg X.base:=I.ok.mod
theorem Inv.kIn (I:Inv X pins σ H s):X.K.In s.heap:=I.ok.mod.kin.keeps I.bk
theorem Inv.nolimit (I:Inv X pins σ H s):s.heap.NoLimit:=I.ok.mod.nolimit.keeps I.bk
theorem Inv.lt (I:Inv X pins σ H s):X.env.locals < s.heap.objs.size:=let ⟨_,hn,_⟩:=I.loc; hn.lt
theorem Inv.sz (I:Inv X pins σ H s):X.s₀.heap.objs.size ≤ s.heap.objs.size:=Nat.le_trans I.ok.above (Nat.le_of_lt I.lt)
theorem Inv.nofs (I:Inv X pins σ H s) {a:Addr} (h:s.heap.objs.size ≤ a):a ∉ X.fs:=fun hb=>by
 obtain ⟨_,o,ho,_⟩:=I.ok.funs.mem hb
 exact absurd (Nat.lt_of_lt_of_le (Heap.lt_size ho) (Nat.le_trans I.sz h)) (Nat.lt_irrefl _)
theorem Inv.cne (I:Inv X pins σ H s):∀ x c,X.env.cells.lookup x = some c->c ≠ X.env.locals:=fun x c e z=>by
 obtain ⟨v,o,ho,hd⟩:=I.cell x c e
 obtain ⟨m,⟨o',es,ep,ho',hd',_⟩,_⟩:=I.loc
 rw [z,ho'] at ho; cases ho; rw [hd'] at hd; cases hd
theorem Inv.funs (I:Inv X pins σ H s):s.heap.FunFrames X.base X.outer:=by
 have all:∀ (l:List Env),(∀ b ∈ frs l,b ∈ X.fs)->X.s₀.heap.FunFrames X.base l->s.heap.FunFrames X.base l:=by
  intro l
  induction l with
  | nil=>intro _ _; trivial
  | cons env r ih =>
   intro hs hl
   obtain ⟨hk,⟨L,o,hf,hn,ho,hd⟩,hr⟩:=hl
   have hL:L ∈ X.fs:=hs L (by unfold frs; rw [List.filterMap_cons,hf]; exact List.mem_cons_self)
   obtain ⟨sl,e⟩:=I.base.slot L o ho (I.ok.frf L hL) hL fun z=>I.ok.exfs L z hL
   exact ⟨hk,⟨L,_,hf,hn,e,hd⟩,ih (fun b hb=>hs b (by unfold frs; rw [List.filterMap_cons,hf]; exact List.mem_cons_of_mem _ hb)) hr⟩
 exact all X.outer (fun _ hb=>hb) I.ok.funs
theorem Inv.stack (I:Inv X pins σ H s):s.heap.FunFrames X.base X.stack:=by
 rcases I.ok.stk with e | ⟨e,hf⟩
 ·rw [e]; exact I.funs
 ·rw [e]
  obtain ⟨m,hn,_⟩:=I.loc
  refine .cons (by rw [I.ok.kind]; decide) hf hn ?_ I.funs
  exact Heap.get?_none_of_le (Nat.le_trans I.ok.bsz I.ok.above)
theorem Inv.stkSub (I:Inv X pins σ H s):∀ b ∈ frs X.stack,b ∈ X.env.locals :: X.fs:=fun b hb=>by
 rcases I.ok.stk with e | ⟨e,hf⟩
 ·rw [e] at hb; exact List.mem_cons_of_mem _ hb
 ·rw [e] at hb
  unfold frs at hb
  rw [List.filterMap_cons,hf] at hb
  exact hb
theorem Inv.stkFree (I:Inv X pins σ H s):∀ b ∈ frs X.stack,H b = none:=fun b hb=>by
 rcases List.mem_cons.mp (I.stkSub b hb) with e | hb
 ·rw [e]; exact I.free
 ·obtain ⟨_,o,ho,_⟩:=I.ok.funs.mem hb
  exact I.base.free b o ho (I.ok.frf b hb) fun z=>I.ok.exfs b z hb
theorem Inv.step {g':Array GenState} {t':Nat} {d':Drawn} {ch:List Addr} (I:Inv X pins σ H s)
  (hch:∀ b ∈ ch,(b ∈ X.ex ∨ X.s₀.heap.objs.size ≤ b)∧b ≠ X.env.locals∧(∀ x c,X.env.cells.lookup x = some c->c ≠ b)∧∀ p ∈ X.pn ++ pins,p.1 ≠ b)
  (keep:∀ b o,b ≠ X.env.locals->b ∉ X.fs->b ∉ ch->s.heap.get? b = some o->H b = none->h'.get? b = some o)
  (slot:∀ b o,b ≠ X.env.locals->b ∈ X.fs->b ∉ ch->s.heap.get? b = some o->H b = none->∃ sl,h'.get? b = some { o with slots:=sl }) (free:∀ b o,b ∉ ch->s.heap.get? b = some o->H b = none->H' b = none)
  (there:∀ b o,b ∉ ch->s.heap.get? b = some o->∃ o',h'.get? b = some o')
  (tups:∀ b xs,H b = some (.tup xs)->H' b = some (.tup xs)) (frzs:∀ b o u,H b = some (.frz o u)->H' b = some (.frz o u)) (tbls:∀ b ps,H b = some (.tbl ps)->∃ more,H' b = some (.tbl (ps ++ more)))
  (ns:∀ m,s.heap.Ns X.env.locals m->h'.Ns X.env.locals m) (hok:HOk X.prog X.w H' h') (hg:AllBare g') :
  Inv X pins σ H' { s with heap:=h',gens:=g',drawn:=d',toks:=t' }:=by
 have neL:∀ b o,X.s₀.heap.get? b = some o->b ≠ X.env.locals:=fun b o e=>Nat.ne_of_lt (Nat.lt_of_lt_of_le (Heap.lt_size e) I.ok.above)
 have neC:∀ b o,X.s₀.heap.get? b = some o->b ∉ X.ex->b ∉ ch:=fun b o e hx hb=>by
  rcases (hch b hb).1 with z | z
  ·exact hx z
  ·exact absurd (Nat.lt_of_lt_of_le (Heap.lt_size e) z) (Nat.lt_irrefl _)
 have cellK:∀ x c,X.env.cells.lookup x = some c->∀ v,s.heap.IsCell c v->h'.IsCell c v:=fun x c e v ⟨o,ho,hd⟩=>by
  have nch:c ∉ ch:=fun z=>(hch c z).2.2.1 x c e rfl
  by_cases hc:c ∈ X.fs
  ·obtain ⟨sl,q⟩:=slot c o (I.cne x c e) hc nch ho (I.freeC x c e)
   exact ⟨_,q,hd⟩
  ·exact ⟨o,keep c o (I.cne x c e) hc nch ho (I.freeC x c e),hd⟩
 refine ⟨I.ok,I.os,hg,⟨fun b o e n hb hx=>?_,fun b o e n hb hx=>?_,fun b o e n hx=>?_,fun b o e hx=>?_,fun b xs e=>tups b xs (I.base.tups b xs e),fun b o xs e=>frzs b o xs (I.base.frzs b o xs e),fun b ps e=>?_⟩,?_,fun x c e=>?_,?_,fun x c e=>?_,fun p hp=>?_,hok,I.len⟩
 ·exact keep b o (neL b o e) hb (neC b o e hx) (I.base.keep b o e n hb hx) (I.base.free b o e n hx)
 ·obtain ⟨sl,e1⟩:=I.base.slot b o e n hb hx
  obtain ⟨sl',e2⟩:=slot b _ (neL b o e) hb (neC b o e hx) e1 (I.base.free b o e n hx)
  exact ⟨sl',e2⟩
 ·obtain ⟨o',e1⟩:=I.base.there b o e hx
  exact free b o' (neC b o e hx) e1 (I.base.free b o e n hx)
 ·obtain ⟨o',e1⟩:=I.base.there b o e hx
  exact there b o' (neC b o e hx) e1
 ·obtain ⟨m1,e1⟩:=I.base.tbls b ps e
  obtain ⟨m2,e2⟩:=tbls b _ e1
  exact ⟨m1 ++ m2,by rw [e2,Array.append_assoc]⟩
 ·obtain ⟨m,hn,hl⟩:=I.loc
  refine ⟨m,ns m hn,fun i x v e1 e2 e3=>?_⟩
  obtain ⟨u,r,l⟩:=hl i x v e1 e2 e3
  refine ⟨u,r,?_⟩
  rcases l with l | ⟨k,c,e,z⟩
  ·exact .inl l
  ·exact .inr ⟨k,c,e,cellK x c e _ z⟩
 ·obtain ⟨v,z⟩:=I.cell x c e
  exact ⟨v,cellK x c e v z⟩
 ·obtain ⟨m,⟨o,_,_,ho,_⟩,_⟩:=I.loc
  exact free _ o (fun z=>(hch _ z).2.1 rfl) ho I.free
 ·obtain ⟨v,o,ho,hd⟩:=I.cell x c e
  exact free c o (fun z=>(hch c z).2.2.1 x c e rfl) ho (I.freeC x c e)
 ·obtain ⟨e,n,ne,nf,d⟩:=I.pin p hp
  have nch:p.1 ∉ ch:=fun z=>(hch p.1 z).2.2.2 p hp rfl
  exact ⟨keep p.1 p.2 ne nf nch e n,free p.1 p.2 nch e n,ne,nf,d⟩
theorem Inv.un {t':Nat} (I:Inv X pins σ H s) (u:Un X.fs [] H H' s.heap h') (hok:HOk X.prog X.w H' h'):Inv X pins σ H' { s with heap:=h',toks:=t' }:=by
 obtain ⟨m,⟨o,es,ep,ho,r⟩,_⟩:=id I.loc
 obtain ⟨sl,hL⟩:=u.any ho I.free (by simp)
 exact I.step (g':=s.gens) (d':=s.drawn) (ch:=[]) (fun _ z=>by cases z) (fun b o _ hb _ e n=>u.keep b o e n hb (by simp)) (fun b o _ hb _ e n=>u.slot b o e n hb (by simp)) (fun b o _ e n=>u.free b o e n (by simp)) (fun b o _ e=>u.there b o e (by simp)) u.tups u.frzs u.tbls (fun m' hm=>by
  obtain ⟨o',es',ep',ho',r'⟩:=hm
  rw [ho] at ho'; cases ho'
  exact ⟨_,es',ep',hL,r'⟩) hok I.bare
theorem Inv.call {g':Array GenState} {t':Nat} {d':Drawn} {ch:List Addr} (I:Inv X pins σ H s) (u:Un (frs X.stack) ch H H' s.heap h') (hok:HOk X.prog X.w H' h') (hg:AllBare g')
  (hch:∀ b ∈ ch,(b ∈ X.ex ∨ X.s₀.heap.objs.size ≤ b)∧b ≠ X.env.locals∧(∀ x c,X.env.cells.lookup x = some c->c ≠ b)∧∀ p ∈ X.pn ++ pins,p.1 ≠ b) :
  Inv X pins σ H' { s with heap:=h',gens:=g',drawn:=d',toks:=t' }:=by
 obtain ⟨m,⟨o,es,ep,ho,r⟩,_⟩:=id I.loc
 obtain ⟨sl,hL⟩:=u.any ho I.free fun z=>(hch _ z).2.1 rfl
 exact I.step (ch:=ch) hch (fun b o hL hb hc e n=>u.keep b o e n (fun z=>(List.mem_cons.mp (I.stkSub b z)).elim hL hb) hc) (fun b o _ _ hc e n=>u.any e n hc) (fun b o hc e n=>u.free b o e n hc) (fun b o hc e=>u.there b o e hc) u.tups u.frzs u.tbls (fun m' hm=>by
  obtain ⟨o',es',ep',ho',r'⟩:=hm
  rw [ho] at ho'; cases ho'
  exact ⟨_,es',ep',hL,r'⟩) hok hg
theorem Inv.turned {t':Nat} {it:Addr} (I:Inv X pins σ H s) (k:∀ b o,b ≠ it->s.heap.get? b = some o->h'.get? b = some o) (hn:H it = none) (hL:it ≠ X.env.locals)
  (h1:it ∈ X.ex ∨ X.s₀.heap.objs.size ≤ it) (h2:∀ x c,X.env.cells.lookup x = some c->c ≠ it) (h3:∀ p ∈ X.pn ++ pins,p.1 ≠ it):Inv X pins σ H { s with heap:=h',toks:=t' }:=by
 have nit:∀ b u,H b = some u->b ≠ it:=fun b u e z=>by rw [z,hn] at e; cases e
 refine I.step (g':=s.gens) (d':=s.drawn) (ch:=[it]) (fun b hb=>?_) (fun b o _ _ hc e _=>k b o (fun z=>hc (by simp [z])) e) (fun b o _ _ hc e _=>⟨o.slots,k b o (fun z=>hc (by simp [z])) e⟩) (fun _ _ _ _ n=>n)
  (fun b o hc e=>⟨o,k b o (fun z=>hc (by simp [z])) e⟩) (fun _ _ e=>e) (fun _ _ _ e=>e) (fun b ps e=>⟨#[],by rw [e]; simp⟩) (fun m hm=>?_) (fun b u e=>?_) I.bare
 ·have e:b = it:=by simpa using hb
  subst e
  exact ⟨h1,hL,h2,h3⟩
 ·obtain ⟨o,es,ep,ho,r⟩:=hm
  exact ⟨o,es,ep,k _ o (Ne.symm hL) ho,r⟩
 ·refine (I.hok b u e).stay (fun c v hc q=>k c v ?_ q) (fun _ q=>q) fun _ _ q=>q
  rcases hc with z | z
  ·rw [z]; exact nit b u e
  ·exact nit c _ z
theorem Inv.tok (I:Inv X pins σ H s) (t:Nat):Inv X pins σ H { s with toks:=t }:=I.un (h':=s.heap) (t':=t) Un.refl I.hok
theorem Inv.kept {t':Nat} (I:Inv X pins σ H s) (k:∀ b u,s.heap.get? b = some u->h'.get? b = some u):Inv X pins σ H { s with heap:=h',toks:=t' }:=I.un (Un.kept k) (I.hok.kept k)
theorem Inv.laid {a:Addr} {o:HO} {t':Nat} (I:Inv X pins σ H s) (k:∀ b u,s.heap.get? b = some u->h'.get? b = some u) (hp:s.heap.objs.size ≤ a) (new:ObjOk X.prog X.w (jG H a o) h' a o) :
  Inv X pins σ (jG H a o) { s with heap:=h',toks:=t' }:=I.un (Un.laid k hp (I.hok.fresh hp)) (I.hok.laid k hp new)
theorem Inv.write {x e:Addr} {o:HO} {t':Nat} (I:Inv X pins σ H s) (mu:Mut (H x)) (he:e = x ∨ H e = some (.own x)) (k:∀ b u,b ≠ e->s.heap.get? b = some u->h'.get? b = some u) (heo:∃ u,h'.get? e = some u)
  (new:ObjOk X.prog X.w (jG H x o) h' x o):Inv X pins σ (jG H x o) { s with heap:=h',toks:=t' }:=I.un (Un.write mu he k heo) (I.hok.write mu he k heo new)
theorem Inv.weak {σ':List (Option V)} (I:Inv X pins σ H s) (hl:σ'.length = σ.length) (w:∀ (i:Nat) v,σ'[i]? = some (some v)->σ[i]? = some (some v)):Inv X pins σ' H s :=
 ⟨I.ok,I.os,I.bare,I.base,let ⟨m,hn,hl'⟩:=I.loc; ⟨m,hn,fun i x v e1 e2 e3=>hl' i x v e1 (w i v e2) e3⟩,I.cell,I.free,I.freeC,I.pin,I.hok,hl.trans I.len⟩
theorem Inv.pins_of {pins':List (Addr × Obj)} (I:Inv X pins σ H s) (h:∀ p ∈ pins',s.heap.get? p.1 = some p.2∧H p.1 = none∧p.1 ≠ X.env.locals∧p.1 ∉ X.fs∧∀ v,p.2.data ≠ .cell v):Inv X pins' σ H s :=
 ⟨I.ok,I.os,I.bare,I.base,I.loc,I.cell,I.free,I.freeC,fun p hp=>(List.mem_append.mp hp).elim (fun z=>I.pin p (List.mem_append_left _ z)) (h p),I.hok,I.len⟩
theorem jpX {N:List Str} (hN:N.Nodup) {i j:Nat} {x:Str} (a:N[i]? = some x) (b:N[j]? = some x):i = j:=by
 obtain ⟨h1,e1⟩:=List.getElem?_eq_some_iff.mp a
 obtain ⟨h2,e2⟩:=List.getElem?_eq_some_iff.mp b
 exact (List.getElem_inj hN).mp (e1.trans e2.symm)
theorem jtf {M:Model} {A:Around} {E:Value->Shared->Prop} {i:Nat} {x:Str} {v:V} {u:Value} {Q:Unit->Shared->Prop} (I:Inv X pins σ H s) (hN:X.N.Nodup) (hi:X.N[i]? = some x) (hx:Loc X.env.scope x) (r:RelV v u)
  (h:∀ s',Inv X pins (σ.set i (some v)) H s'->(∃ a,Heap.SameBut a s.heap s'.heap∧(a = X.env.locals ∨ X.env.cells.lookup x = some a))->Q () s') (hf:X.fn x = true ∨ X.env.scope.names.lookup x = some .local:=by first | exact .inl rfl | exact .inr rfl | assumption):wpAny M A (storeName X.env x u) Q E s:=by
 obtain ⟨m,hn,hl⟩:=id I.loc
 have hcls:(X.env.scope.kind == .class || (X.env.scope.kind == .module && X.env.locals != X.env.globals)) = false:=by rw [I.ok.kind]; rfl
 have hiσ:i < σ.length:=by rw [I.len]; exact (List.getElem?_eq_some_iff.mp hi).1
 have cne:=I.cne
 have tracked:∀ {a:Addr} {h':Heap},(∃ o,s.heap.get? a = some o∧H a = none)->Heap.SameBut a s.heap h'->HOk X.prog X.w H h':=fun {a h'} ha hs b ob e=>by
  obtain ⟨_,_,hfree⟩:=ha
  refine (I.hok b ob e).stay (fun c w' hc q=>(hs.2 c ?_).trans q) (fun _ q=>q) fun _ _ q=>q
  rintro rfl
  rcases hc with rfl | hc
  ·rw [hfree] at e; cases e
  ·rw [hfree] at hc; cases hc
 rcases hx with hk | hk
 ·refine wpAny_storeName_local hk hn (fun h' hn' hs=>?_) hcls
  obtain ⟨oL,_,_,hoL,_⟩:=id hn
  refine h _ ⟨I.ok,I.os,I.bare,⟨fun b o e n hb hx=>?_,fun b o e n hb hx=>?_,I.base.free,fun b o e hx=>?_,I.base.tups,I.base.frzs,I.base.tbls⟩,⟨_,hn',fun j y v' e1 e2 e3=>?_⟩,fun y c e=>?_,I.free,I.freeC,fun p hp=>?_,tracked ⟨oL,hoL,I.free⟩ hs,by simpa using I.len⟩ ⟨_,hs,.inl rfl⟩
  ·exact (hs.2 b (Nat.ne_of_lt (Nat.lt_of_lt_of_le (Heap.lt_size e) I.ok.above))).trans (I.base.keep b o e n hb hx)
  ·obtain ⟨sl,e1⟩:=I.base.slot b o e n hb hx
   exact ⟨sl,(hs.2 b (Nat.ne_of_lt (Nat.lt_of_lt_of_le (Heap.lt_size e) I.ok.above))).trans e1⟩
  ·obtain ⟨o',e1⟩:=I.base.there b o e hx
   exact ⟨o',(hs.2 b (Nat.ne_of_lt (Nat.lt_of_lt_of_le (Heap.lt_size e) I.ok.above))).trans e1⟩
  ·by_cases hj:j = i
   ·subst hj
    rw [hi] at e1; cases e1
    rw [List.getElem?_set_self hiσ] at e2
    cases e2
    exact ⟨u,r,.inl ⟨hk,by simp⟩⟩
   ·rw [List.getElem?_set_ne (Ne.symm hj)] at e2
    obtain ⟨u',r',q⟩:=hl j y v' e1 e2 e3
    refine ⟨u',r',?_⟩
    rcases q with ⟨k,e⟩ | ⟨k,c,e,z⟩
    ·refine .inl ⟨k,?_⟩
     have:y ≠ x:=fun e=>hj (jpX hN e1 (e ▸ hi))
     simp [this,e]
    ·exact .inr ⟨k,c,e,z.sameBut hs (cne y c e)⟩
  ·obtain ⟨w',z⟩:=I.cell y c e
   exact ⟨w',z.sameBut hs (cne y c e)⟩
  ·obtain ⟨e,n,ne,nf,d⟩:=I.pin p hp
   exact ⟨(hs.2 p.1 ne).trans e,n,ne,nf,d⟩
 ·have hfn:X.fn x = true:=by
   rcases hf with z | z
   ·exact z
   ·rw [z] at hk; cases hk
  obtain ⟨c,hc⟩:=I.ok.has x (.inl hk)
  obtain ⟨w',z⟩:=I.cell x c hc
  refine wpAny_storeName_cell I.ok.kind hk hc z (fun h' hc' hs=>?_)
  obtain ⟨oc,hoc,hocd⟩:=id z
  refine h { s with heap:=h' } ⟨I.ok,I.os,I.bare,⟨fun b o e n hb hx=>?_,fun b o e n hb hx=>?_,I.base.free,fun b o e hx=>?_,I.base.tups,I.base.frzs,I.base.tbls⟩,⟨m,hn.sameBut hs (Ne.symm (cne x c hc)),fun j y v' e1 e2 e3=>?_⟩,fun y c' e=>?_,I.free,I.freeC,fun p hp=>?_,tracked ⟨oc,hoc,I.freeC x c hc⟩ hs,by simpa using I.len⟩ ⟨c,hs,.inr hc⟩
  ·exact (hs.2 b (Nat.ne_of_lt (Nat.lt_of_lt_of_le (Heap.lt_size e) (I.ok.cab x c hfn hc)))).trans (I.base.keep b o e n hb hx)
  ·obtain ⟨sl,e1⟩:=I.base.slot b o e n hb hx
   exact ⟨sl,(hs.2 b (Nat.ne_of_lt (Nat.lt_of_lt_of_le (Heap.lt_size e) (I.ok.cab x c hfn hc)))).trans e1⟩
  ·obtain ⟨o',e1⟩:=I.base.there b o e hx
   exact ⟨o',(hs.2 b (Nat.ne_of_lt (Nat.lt_of_lt_of_le (Heap.lt_size e) (I.ok.cab x c hfn hc)))).trans e1⟩
  ·by_cases hj:j = i
   ·subst hj
    rw [hi] at e1; cases e1
    rw [List.getElem?_set_self hiσ] at e2
    cases e2
    exact ⟨u,r,.inr ⟨.inl hk,c,hc,hc'⟩⟩
   ·rw [List.getElem?_set_ne (Ne.symm hj)] at e2
    obtain ⟨u',r',q⟩:=hl j y v' e1 e2 e3
    refine ⟨u',r',?_⟩
    rcases q with q | ⟨k,c',e,z'⟩
    ·exact .inl q
    ·refine .inr ⟨k,c',e,z'.sameBut hs ?_⟩
     rintro rfl
     exact hj (jpX hN e1 (I.ok.inj _ _ _ e hc ▸ hi))
  ·by_cases hcc:c' = c
   ·subst hcc; exact ⟨_,hc'⟩
   ·obtain ⟨w2,z2⟩:=I.cell y c' e
    exact ⟨w2,z2.sameBut hs hcc⟩
  ·obtain ⟨e,n,ne,nf,d⟩:=I.pin p hp
   refine ⟨(hs.2 p.1 ?_).trans e,n,ne,nf,d⟩
   intro q
   rw [q,hoc] at e
   have q':oc = p.2:=Option.some.inj e
   exact d w' (by rw [← q']; exact hocd)
theorem jqn {M:Model} {A:Around} {E:Value->Shared->Prop} {i:Nat} {x:Str} {v:V} {u:Value} {Q:Unit->Shared->Prop} (I:Inv X pins σ H s) (hN:X.N.Nodup) (hi:X.N[i]? = some x) (hx:Loc X.env.scope x) (r:RelV v u)
  (h:∀ s',Inv X pins (σ.set i (some v)) H s'->Q () s') (hf:X.fn x = true ∨ X.env.scope.names.lookup x = some .local:=by first | exact .inl rfl | exact .inr rfl | assumption):wpAny M A (storeName X.env x u) Q E s :=
 jtf I hN hi hx r (fun s' I' _=>h s' I') hf
theorem Inv.call' {s':Shared} {ch:List Addr} (I:Inv X pins σ H s) (ho:s'.os = s.os) (u:Un (frs X.stack) ch H H' s.heap s'.heap) (hok:HOk X.prog X.w H' s'.heap) (hg:AllBare s'.gens)
  (hch:∀ b ∈ ch,(b ∈ X.ex ∨ X.s₀.heap.objs.size ≤ b)∧b ≠ X.env.locals∧(∀ x c,X.env.cells.lookup x = some c->c ≠ b)∧∀ p ∈ X.pn ++ pins,p.1 ≠ b):Inv X pins σ H' s':=by
 obtain ⟨h',g',d',t',o'⟩:=s'
 have e:o' = s.os:=ho
 subst e
 exact I.call (g':=g') (t':=t') (d':=d') u hok hg hch
end
abbrev XK:=Value->Option Addr->Hp->Prop
abbrev St:=List (Option V)
abbrev VK:=V->Hp->Prop
abbrev TE:=St->Hp->VK->Prop
abbrev TT:=St->Hp->(Bool->Hp->Prop)->Prop
abbrev TA:=St->Hp->(List V->Hp->Prop)->Prop
structure jed where
 nx:St->Hp->Prop
 rt:VK
 bk:St->Hp->Prop:=fun _ _=>False
 ct:St->Hp->Prop:=fun _ _=>False
abbrev TS:=jed->St->Hp->Prop
def EP (X:Cx) (pins:List (Addr × Obj)) (σ:St) (Q:VK) (u:Value) (s':Shared):Prop:=∃ v H',Inv X pins σ H' s'∧RelV v u∧Q v H'
def TP (X:Cx) (pins:List (Addr × Obj)) (σ:St) (Q:Bool->Hp->Prop) (b:Bool) (s':Shared):Prop:=∃ H',Inv X pins σ H' s'∧Q b H'
def AP (X:Cx) (pins:List (Addr × Obj)) (σ:St) (Q:List V->Hp->Prop) (us:List Value) (s':Shared):Prop:=∃ vs H',Inv X pins σ H' s'∧Vals vs us∧Q vs H'
def SP (X:Cx) (pins:List (Addr × Obj)) (D:jed) (f:Flow) (s':Shared):Prop :=
 match f with
 | .next=>∃ σ' H',Inv X pins σ' H' s'∧D.nx σ' H'
 | .brk=>∃ σ' H',Inv X pins σ' H' s'∧D.bk σ' H'
 | .cont=>∃ σ' H',Inv X pins σ' H' s'∧D.ct σ' H'
 | .ret u=>∃ v σ' H',Inv X pins σ' H' s'∧RelV v u∧D.rt v H'
def PE (X:Cx) (e:Expr) (t:TE):Prop :=
 ∀ (pins:List (Addr × Obj)) (s:Shared) (σ:St) (H:Hp) (Q:VK),Inv X pins σ H s->t σ H Q->wpAny (model X.prog X.w) X.A (eval e X.env) (EP X pins σ Q) X.xe s
def PT (X:Cx) (e:Expr) (t:TT):Prop :=
 ∀ (pins:List (Addr × Obj)) (s:Shared) (σ:St) (H:Hp) (Q:Bool->Hp->Prop),Inv X pins σ H s->t σ H Q->wpAny (model X.prog X.w) X.A (isTrue e X.env (eval e X.env)) (TP X pins σ Q) X.xe s
def PW (X:Cx) (e:Expr) (t:TT):Prop :=
 ∀ (whole:Sem Value) (pins:List (Addr × Obj)) (s:Shared) (σ:St) (H:Hp) (Q:Bool->Hp->Prop),Inv X pins σ H s->t σ H Q->wpAny (model X.prog X.w) X.A (isTrue e X.env whole) (TP X pins σ Q) X.xe s
theorem PW.pt {X:Cx} {e:Expr} {t:TT} (h:PW X e t):PT X e t:=h _
def PA (X:Cx) (es:List Expr) (t:TA):Prop :=
 ∀ (pos:Pos) (pins:List (Addr × Obj)) (s:Shared) (σ:St) (H:Hp) (Q:List V->Hp->Prop),Inv X pins σ H s->t σ H Q->wpAny (model X.prog X.w) X.A (spliced (backTo pos (starEach es X.env))) (AP X pins σ Q) X.xe s
def PS (X:Cx) (st:Stmt) (t:TS):Prop :=
 ∀ (pins:List (Addr × Obj)) (s:Shared) (σ:St) (H:Hp) (D:jed),Inv X pins σ H s->t D σ H->wpAny (model X.prog X.w) X.A (exec st X.env) (SP X pins D) X.xe s
def PSs (X:Cx) (st:List Stmt) (t:TS):Prop :=
 ∀ (pins:List (Addr × Obj)) (s:Shared) (σ:St) (H:Hp) (D:jed),Inv X pins σ H s->t D σ H->wpAny (model X.prog X.w) X.A (execs st X.env) (SP X pins D) X.xe s
theorem jF {α:Type} {t:Sem α} {Q Q':α->Shared->Prop} {M:Model} {A:Around} {E:Value->Shared->Prop} {s:Shared} (h:wpAny M A t Q E s) (hQ:∀ a s,Q a s->Q' a s):wpAny M A t Q' E s:=wpAny_mono h hQ fun _ _ x=>x
end L2
namespace L2
open PySem PySem.Spec PyProof.Rows
section
variable {X:Cx}
def jd7 (i:Nat):TE:=fun σ H Q=>∃ v,σ[i]? = some (some v)∧Q v H
def tC (v:V):TE:=fun _ H Q=>Q v H
theorem jyl {i:Nat} {x:Str} {pos:Pos} (hN:X.N[i]? = some x) (hv:Vis X.env.scope x) (hd:(x == ("__debug__":Str)) = false:=by decide) (hcd:(x == ("__classdict__":Str)) = false:=by decide):PE X (.Name x pos) (jd7 i):=by
 intro pins s σ H Q I h
 obtain ⟨v,e,h⟩:=h
 obtain ⟨m,hn,hl⟩:=I.loc
 obtain ⟨u,r,l⟩:=hl i x v hN e hv
 have fin:EP X pins σ Q u s:=⟨v,H,I,r,h⟩
 rcases l with ⟨hk,hm⟩ | ⟨hk,c,hc,hcell⟩
 ·exact wpAny_Name (wpAny_loadName_local I.ok.kind hk hn hm fin) hd
 ·rcases hk with hk | hk
  ·exact wpAny_Name (wpAny_loadName_cell I.ok.kind hk hc hcell fin) hd
  ·exact wpAny_Name (wpAny_loadName_free I.ok.kind hk hc hcell fin hcd) hd
theorem jyr {i j pos}:PE X (.Constant (.int i) j pos) (tC (.int i)):=fun _ _ _ H _ I h=>wpAny_Constant_int ⟨.int i,H,I.tok _,⟨_,rfl⟩,h⟩
theorem jzN {b j pos}:PE X (.Constant (.bool b) j pos) (tC (.bl b)):=fun _ _ _ H _ I h=>Constant_bool ⟨.bl b,H,I,rfl,h⟩
theorem jzA {j pos}:PE X (.Constant .none j pos) (tC .non):=fun _ _ _ H _ I h=>Constant_none ⟨.non,H,I,rfl,h⟩
theorem jyq {x j pos}:PE X (.Constant (.str x) j pos) (tC (.str x)):=fun _ _ _ H _ I h=>Calls.Constant_str ⟨.str x,H,I.tok _,⟨_,rfl⟩,h⟩
def Gl (X:Cx) (x:Str):Prop:=X.env.kindOf x = some .globalImplicit
theorem jdv {E:Value->Shared->Prop} {pins:List (Addr × Obj)} {s:Shared} {σ:St} {H:Hp} {x:Str} {u:Value} {pos:Pos} {Q:Value->Shared->Prop} (I:Inv X pins σ H s) (hg:Gl X x) (hm:X.mg x = some u) (h:Q u s)
  (hd:(x == ("__debug__":Str)) = false:=by decide):wpAny (model X.prog X.w) X.A (eval (.Name x pos) X.env) Q E s :=
 Calls.Name_function_global I.ok.kind hg (Calls.loadGlobal_global (by rw [I.ok.glob]; exact I.mod.glob.keeps I.bk) hm h) hd
theorem jgb {E:Value->Shared->Prop} {pins:List (Addr × Obj)} {s:Shared} {σ:St} {H:Hp} {x:Str} {u:Value} {pos:Pos} {Q:Value->Shared->Prop} (I:Inv X pins σ H s) (hg:Gl X x) (hm:X.mg x = none) (hv:bootBuiltins x = some u) (h:Q u s)
  (hn:x ≠ "__name__":=by decide) (hd:(x == ("__debug__":Str)) = false:=by decide):wpAny (model X.prog X.w) X.A (eval (.Name x pos) X.env) Q E s:=by
 obtain ⟨mb,h1,h2⟩:=I.mod.blt
 exact Calls.Name_function_global I.ok.kind hg (Calls.loadGlobal_builtin (by rw [I.ok.glob]; exact I.mod.glob.keeps I.bk) hm (by rw [I.ok.blt]; exact h1.keeps I.bk) ((h2 x hn).trans hv) h) hd
theorem jgN {x:Str} {v:V} {u:Value} {pos:Pos} (hg:Gl X x) (hm:X.mg x = some u) (r:RelV v u) (hd:(x == ("__debug__":Str)) = false:=by decide):PE X (.Name x pos) (tC v) :=
 fun _ _ _ H _ I h=>jdv I hg hm ⟨v,H,I,r,h⟩ hd
theorem jxF {x:Str} {v:V} {u:Value} {pos:Pos} (hg:Gl X x) (hm:X.mg x = none) (hv:bootBuiltins x = some u) (r:RelV v u) (hn:x ≠ "__name__":=by decide) (hd:(x == ("__debug__":Str)) = false:=by decide):PE X (.Name x pos) (tC v) :=
 fun _ _ _ H _ I h=>jgb I hg hm hv ⟨v,H,I,r,h⟩ hn hd
variable {a b:Expr} {ta tb:TE} {pos:Pos}
def PC (X:Cx) (op:CmpOp) (a b:Expr) (t:TE):Prop :=
 ∀ (pins:List (Addr × Obj)) (s:Shared) (σ:St) (H:Hp) (Q:VK),Inv X pins σ H s->t σ H Q ->
  wpAny (model X.prog X.w) X.A (eval a X.env) (fun v s₁=>wpAny (model X.prog X.w) X.A (eval b X.env) (fun u s₂=>wpAny (model X.prog X.w) X.A (compareOp op v u) (EP X pins σ Q) X.xe s₂) X.xe s₁) X.xe s
theorem jht (b:Expr) {op:CmpOp} (h:op ≠ .In) (h2:op ≠ .NotIn):behindInMarks op b = false:=by
 have e1:(op == CmpOp.In) = false:=by cases op <;> first | rfl | exact absurd rfl h
 have e2:(op == CmpOp.NotIn) = false:=by cases op <;> first | rfl | exact absurd rfl h2
 cases b <;> simp [behindInMarks,e1,e2]
def tB (t:TE):TT:=fun σ H Q=>t σ H fun x H1=>∃ c,x = .bl c∧Q c H1
theorem jzt {op:CmpOp} {t:TE} (h:PC X op a b t) (h1:behindInMarks op b = false:=by first | exact jht _ (by decide) (by decide) | rfl):PE X (.Compare a [op] [b] pos) t:=fun pins s σ H Q I hw=>wpAny_Compare1 (h pins s σ H Q I hw) h1
theorem jze {op:CmpOp} {t:TE} (h:PC X op a b t) (h1:behindInMarks op b = false:=by first | exact jht _ (by decide) (by decide) | rfl):PT X (.Compare a [op] [b] pos) (tB t):=by
 intro pins s σ H Q I hw
 refine wpAny_isTrue_Compare1 (jF (h pins s σ H _ I hw) fun v s1 h1=>jF h1 fun u s2 h2=>jF h2 fun c s3 qZ=>?_) h1
 obtain ⟨x,H1,I1,r1,q1⟩:=qZ
 obtain ⟨d,rfl,q⟩:=q1
 cases r1
 exact wpAny_truthy_bool ⟨H1,I1,q⟩
theorem jut {e:Expr} {t:TE} (h:PE X e t) (he:∀ whole,isTrue e X.env whole = (do let v ← whole; standAt e.pos; holding [v] (truthy v)):=by intro _; rfl):PT X e (tB t):=by
 intro pins s σ H Q I hw
 refine isTrue_plain (jF (h pins s σ H _ I hw) fun v s1 qZ=>?_) (he _)
 obtain ⟨x,H1,I1,r1,q1⟩:=qZ
 obtain ⟨d,rfl,q⟩:=q1
 cases r1
 exact wpAny_truthy_bool ⟨H1,I1,q⟩
variable {tA tB':TT} {jR:List Expr}
def jAE (t u:TT):TT:=fun σ H Q=>t σ H fun c H1=>if c = true then u σ H1 Q else Q false H1
def tOr (t u:TT):TT:=fun σ H Q=>t σ H fun c H1=>if c = true then Q true H1 else u σ H1 Q
def jAz (t:TT):TT:=fun σ H Q=>t σ H fun c H1=>Q (!c) H1
theorem jxC (ha:PT X a tA):PW X (.BoolOp .And [a] pos) tA:=by
 intro wh pins s σ H Q I h
 refine isTrue_and (jF (ha pins s σ H Q I h) fun c s1 e=>?_)
 cases c with
 | true=>exact isTrue_and_nil e
 | false=>exact e
theorem jt2 (ha:PT X a tA):PW X (.BoolOp .Or [a] pos) tA:=by
 intro wh pins s σ H Q I h
 refine isTrue_or (jF (ha pins s σ H Q I h) fun c s1 e=>?_)
 cases c with
 | false=>exact isTrue_or_nil e
 | true=>exact e
theorem jyv (ha:PT X a tA) (hb:PW X (.BoolOp .And (b :: jR) pos) tB'):PW X (.BoolOp .And (a :: b :: jR) pos) (jAE tA tB'):=by
 intro wh pins s σ H Q I h
 refine isTrue_and (jF (ha pins s σ H _ I h) fun c s1 qZ=>?_)
 obtain ⟨H1,I1,q1⟩:=qZ
 cases c with
 | true=>exact hb wh pins s1 σ H1 Q I1 q1
 | false=>exact ⟨H1,I1,q1⟩
theorem jwh (ha:PT X a tA) (hb:PW X (.BoolOp .Or (b :: jR) pos) tB'):PW X (.BoolOp .Or (a :: b :: jR) pos) (tOr tA tB'):=by
 intro wh pins s σ H Q I h
 refine isTrue_or (jF (ha pins s σ H _ I h) fun c s1 qZ=>?_)
 obtain ⟨H1,I1,q1⟩:=qZ
 cases c with
 | true=>exact ⟨H1,I1,q1⟩
 | false=>exact hb wh pins s1 σ H1 Q I1 q1
theorem jtH (ha:PT X a tA):PT X (.UnaryOp .Not a pos) (jAz tA):=by
 intro pins s σ H Q I h
 exact isTrue_not (ha pins s σ H (fun c H1=>Q (!c) H1) I h)
def jz3 (ta tb:TE):TE:=fun σ H Q=>ta σ H fun x H1=>∃ c,x = .bl c∧if c = true then tb σ H1 Q else Q (.bl false) H1
def jzL (ta:TE):TE:=fun σ H Q=>ta σ H fun x H1=>∃ c,x = .bl c∧Q (.bl (!c)) H1
theorem jtK {op} {t:TE} (h:PE X a t):PE X (.BoolOp op [a] pos) t:=fun pins s σ H Q I hw=>BoolOp_one (h pins s σ H Q I hw)
theorem jtF (ha:PE X a ta) (hb:PE X (.BoolOp .And (b :: jR) pos) tb):PE X (.BoolOp .And (a :: b :: jR) pos) (jz3 ta tb):=by
 intro pins s σ H Q I h
 refine BoolOp_and (jF (ha pins s σ H _ I h) fun v s1 qZ=>?_)
 obtain ⟨x,H1,I1,r1,q1⟩:=qZ
 obtain ⟨c,rfl,q1⟩:=q1
 cases r1
 refine wpAny_truthy_bool ?_
 cases c with
 | true=>exact hb pins s1 σ H1 Q I1 q1
 | false=>exact ⟨.bl false,H1,I1,rfl,q1⟩
theorem jyo (ha:PE X a ta):PE X (.UnaryOp .Not a pos) (jzL ta):=by
 intro pins s σ H Q I h
 refine UnaryOp_ (jF (ha pins s σ H _ I h) fun v s1 qZ=>?_)
 obtain ⟨x,H1,I1,r1,q1⟩:=qZ
 obtain ⟨c,rfl,q1⟩:=q1
 cases r1
 exact not_of (wpAny_truthy_bool ⟨.bl (!c),H1,I1,rfl,q1⟩)
def tIf (t:TT) (ta tb:TE):TE:=fun σ H Q=>t σ H fun c H1=>if c = true then ta σ H1 Q else tb σ H1 Q
theorem juR {c:Expr} (hc:PT X c tA) (ha:PE X a ta) (hb:PE X b tb):PE X (.IfExp c a b pos) (tIf tA ta tb):=by
 intro pins s σ H Q I h
 refine wpAny_IfExp (jF (hc pins s σ H _ I h) fun d s1 qZ=>?_)
 obtain ⟨H1,I1,q1⟩:=qZ
 cases d with
 | true=>exact ha pins s1 σ H1 Q I1 q1
 | false=>exact hb pins s1 σ H1 Q I1 q1
end
end L2
namespace L2
open PySem PySem.Spec PyProof.Rows
def SqL (K:PySem.W.Frag) (H:Hp) (a:Addr) (xs:List V):Prop :=
 Rd H a (.lst xs) ∨
  ∃ (o:Obj) (its:Array Value) (n:Nat),K.lookup a = some o∧o.cls = .type "list"∧o.dict = none∧o.data = .seq its n∧its.size ≤ sizeLine∧Vals xs its.toList
def SqT (K:PySem.W.Frag) (H:Hp) (a:Addr) (xs:List V):Prop :=
 Rd H a (.tup xs) ∨
  ∃ (o:Obj) (its:Array Value) (n:Nat),K.lookup a = some o∧o.cls = .type "tuple"∧o.data = .seq its n∧its.size ≤ sizeLine∧Vals xs its.toList
def jAB:Value->Option V
 | .none=>some .non
 | .bool b=>some (.bl b)
 | .int i _=>some (.int i)
 | .str x _=>some (.str x)
 | .bytes b _=>some (.byt b)
 | .float b _=>some (.flt b)
 | .ref a=>some (.ref a)
 | .type n=>some (.ty n)
 | _=>none
theorem RelV.abs {x:V} {u:Value} (r:RelV x u):jAB u = some x:=by
 cases x with
 | non=>cases r; rfl
 | bl _=>cases r; rfl
 | int _=>obtain ⟨t,rfl⟩:=r; rfl
 | str _=>obtain ⟨t,rfl⟩:=r; rfl
 | byt _=>obtain ⟨t,rfl⟩:=r; rfl
 | flt _=>obtain ⟨t,rfl⟩:=r; rfl
 | ref _=>cases r; rfl
 | ty _=>cases r; rfl
theorem RelV.inj {x y:V} {u:Value} (r:RelV x u) (q:RelV y u):x = y:=Option.some.inj (r.abs.symm.trans q.abs)
theorem Vals.inj:∀ {xs ys:List V} {us:List Value},Vals xs us->Vals ys us->xs = ys
 | _,_,_,.nil,.nil=>rfl
 | _,_,_,.cons r t,.cons r' t'=>by rw [r.inj r',Vals.inj t t']
section
variable {X:Cx} {pins:List (Addr × Obj)} {σ:St} {H:Hp} {s:Shared} {a:Addr} {xs ys:List V}
theorem SqL.of {K:PySem.W.Frag} (h:H a = some (.lst xs)):SqL K H a xs:=.inl (.inl h)
theorem SqT.of {K:PySem.W.Frag} (h:H a = some (.tup xs)):SqT K H a xs:=.inl (.inl h)
theorem Inv.list (I:Inv X pins σ H s) (h:SqL X.K H a xs):∃ its:List Value,Vals xs its∧PlainL s.heap a its.toArray∧xs.length ≤ sizeLine:=by
 rcases h with h | ⟨o,its,n,hk,hc,hd,hs,hz,r⟩
 ·obtain ⟨z,its,n,r,e⟩:=h.ok I.hok
  exact ⟨its,r,⟨_,n,e,rfl,rfl,rfl⟩,z⟩
 ·refine ⟨its.toList,r,⟨o,n,I.kIn a o hk,hc,hd,by simpa using hs⟩,?_⟩
  have e:=r.length
  simp only [Array.length_toList] at e
  omega
theorem Inv.tuple (I:Inv X pins σ H s) (h:SqT X.K H a xs):∃ its:List Value,Vals xs its∧IsTup s.heap a its.toArray∧xs.length ≤ sizeLine:=by
 rcases h with h | ⟨o,its,n,hk,hc,hs,hz,r⟩
 ·obtain ⟨z,its,r,p⟩:=h.ok I.hok
  exact ⟨its,r,p,z⟩
 ·refine ⟨its.toList,r,⟨o,I.kIn a o hk,hc,n,by simpa using hs⟩,?_⟩
  have e:=r.length
  simp only [Array.length_toList] at e
  omega
theorem Inv.list_inj (I:Inv X pins σ H s) (h:SqL X.K H a xs) (h':SqL X.K H a ys):xs = ys:=by
 obtain ⟨its,r,⟨o,n,e,_,_,d⟩,_⟩:=I.list h
 obtain ⟨its',r',⟨o',n',e',_,_,d'⟩,_⟩:=I.list h'
 rw [e] at e'; cases e'
 rw [d] at d'
 injection d' with d1 _
 have:its = its':=by simpa using congrArg Array.toList d1
 subst this
 exact r.inj r'
theorem Inv.tuple_inj (I:Inv X pins σ H s) (h:SqT X.K H a xs) (h':SqT X.K H a ys):xs = ys:=by
 obtain ⟨its,r,⟨o,e,_,n,d⟩,_⟩:=I.tuple h
 obtain ⟨its',r',⟨o',e',_,n',d'⟩,_⟩:=I.tuple h'
 rw [e] at e'; cases e'
 rw [d] at d'
 injection d' with d1 _
 have:its = its':=by simpa using congrArg Array.toList d1
 subst this
 exact r.inj r'
end
abbrev Cx.wish (X:Cx) (E:Value->Shared->Prop):Cx:={ X with xe:=E }
abbrev Cx.nox (X:Cx):Cx:=X.wish fun _ _=>False
theorem Cx.Ok.wish {X:Cx} (ok:X.Ok) (E:Value->Shared->Prop):(X.wish E).Ok :=
 ⟨ok.mod,ok.kind,ok.glob,ok.blt,ok.above,ok.inj,ok.has,ok.cab,ok.hd,ok.frames,ok.stk,ok.exf,ok.bs,ok.bsz,ok.noex,ok.exfs,ok.funs,ok.frf⟩
theorem Cx.Ok.unwish {X:Cx} {E:Value->Shared->Prop} (ok:(X.wish E).Ok):X.Ok :=
 ⟨ok.mod,ok.kind,ok.glob,ok.blt,ok.above,ok.inj,ok.has,ok.cab,ok.hd,ok.frames,ok.stk,ok.exf,ok.bs,ok.bsz,ok.noex,ok.exfs,ok.funs,ok.frf⟩
section
variable {X:Cx} {pins:List (Addr × Obj)} {σ:St} {H:Hp} {s:Shared} {E:Value->Shared->Prop}
theorem Inv.wish (I:Inv X pins σ H s) (E:Value->Shared->Prop):Inv (X.wish E) pins σ H s:=⟨I.ok.wish E,I.os,I.bare,I.base,I.loc,I.cell,I.free,I.freeC,I.pin,I.hok,I.len⟩
theorem Inv.unwish (I:Inv (X.wish E) pins σ H s):Inv X pins σ H s:=⟨I.ok.unwish,I.os,I.bare,I.base,I.loc,I.cell,I.free,I.freeC,I.pin,I.hok,I.len⟩
theorem SP.unwish {D:jed} {f:Flow} {s':Shared} (h:SP (X.wish E) pins D f s'):SP X pins D f s':=by
 cases f with
 | next=>obtain ⟨σ',H',I,q⟩:=h; exact ⟨σ',H',I.unwish,q⟩
 | brk=>obtain ⟨σ',H',I,q⟩:=h; exact ⟨σ',H',I.unwish,q⟩
 | cont=>obtain ⟨σ',H',I,q⟩:=h; exact ⟨σ',H',I.unwish,q⟩
 | ret u=>obtain ⟨v,σ',H',I,r,q⟩:=h; exact ⟨v,σ',H',I.unwish,r,q⟩
theorem PE.nox {e:Expr} {t:TE} (h:PE X.nox e t):PE X e t:=fun pins s σ H Q I hw =>
 wpAny_mono (h pins s σ H Q (I.wish _) hw) (fun _ _ ⟨v,H',I',r,q⟩=>⟨v,H',I'.unwish,r,q⟩) fun _ _ z=>False.elim z
theorem PT.nox {e:Expr} {t:TT} (h:PT X.nox e t):PT X e t:=fun pins s σ H Q I hw =>
 wpAny_mono (h pins s σ H Q (I.wish _) hw) (fun _ _ ⟨H',I',q⟩=>⟨H',I'.unwish,q⟩) fun _ _ z=>False.elim z
theorem PSs.nox {st:List Stmt} {t:TS} (h:PSs X.nox st t):PSs X st t:=fun pins s σ H D I hw =>
 wpAny_mono (h pins s σ H D (I.wish _) hw) (fun _ _ q=>q.unwish) fun _ _ z=>False.elim z
end
section
variable {X:Cx} {st:Stmt} {jR:List Stmt} {t u:TS} {e:Expr} {te:TE} {pos:Pos}
def jAb:TS:=fun D σ H=>D.nx σ H
def jAV (t u:TS):TS:=fun D σ H=>t { D with nx:=u D } σ H
theorem jm9:PSs X [] jAb:=fun _ _ σ H _ I h=>wpAny_execs_nil ⟨σ,H,I,h⟩
theorem jdu (h1:PS X st t) (h2:PSs X jR u):PSs X (st :: jR) (jAV t u):=by
 intro pins s σ H D I h
 refine wpAny_execs_cons (jF (h1 pins s σ H { D with nx:=u D } I h) fun f s1 q=>?_)
 cases f with
 | next =>
  obtain ⟨σ',H',I',q⟩:=q
  exact h2 pins s1 σ' H' D I' q
 | ret v=>exact q
 | brk=>exact q
 | cont=>exact q
theorem jjk (h1:PS X st t):PSs X [st] t:=by
 intro pins s σ H D I h
 refine wpAny_execs_cons (jF (h1 pins s σ H D I h) fun f s1 q=>?_)
 cases f with
 | next=>exact wpAny_execs_nil q
 | ret v=>exact q
 | brk=>exact q
 | cont=>exact q
theorem Inv.quiet {pins:List (Addr × Obj)} {σ:St} {H:Hp} {s:Shared} (I:Inv X pins σ H s):interactive X.env = false:=by simp [interactive,I.ok.kind]
def jz9 (te:TE):TS:=fun D σ H=>te σ H fun _ H1=>D.nx σ H1
theorem jxw (he:PE X e te) (hs:swapsWith e none pos.line X.env = pure false:=by rfl):PS X (.Expr e pos) (jz9 te):=by
 intro pins s σ H D I h
 exact wpAny_Expr_any (jF (he pins s σ H _ I h) fun v s1 ⟨x,H1,I1,r1,q1⟩=>⟨σ,H1,I1,q1⟩) I.quiet hs
def jAP (te:TE):TS:=fun D σ H=>te σ H D.rt
theorem joF (he:PE X e te):PS X (.Return (some e) pos) (jAP te):=by
 intro pins s σ H D I h
 exact wpAny_Return_some (jF (he pins s σ H _ I h) fun v s1 ⟨x,H1,I1,r1,q1⟩=>⟨x,σ,H1,I1,r1,q1⟩)
def jAH (c:TT) (t u:TS):TS:=fun D σ H=>c σ H fun b H1=>if b = true then t D σ H1 else u D σ H1
theorem jrZ {c:Expr} {a b:List Stmt} {tc:TT} (hc:PT X c tc) (ha:PSs X a t) (hb:PSs X b u):PS X (.If c a b pos) (jAH tc t u):=by
 intro pins s σ H D I h
 refine wpAny_If (jF (hc pins s σ H _ I h) fun d s1 qZ=>?_)
 obtain ⟨H1,I1,q1⟩:=qZ
 cases d with
 | true=>exact ha pins s1 σ H1 D I1 q1
 | false=>exact hb pins s1 σ H1 D I1 q1
def jx8:TS:=fun _ _ _=>False
theorem jvl:PS X st jx8:=fun _ _ _ _ _ _ h=>h.elim
end
abbrev TG:=V->St->Hp->(St->Hp->Prop)->Prop
abbrev TGs:=List V->St->Hp->(St->Hp->Prop)->Prop
def PG (X:Cx) (target:Expr) (t:TG):Prop :=
 ∀ (pins:List (Addr × Obj)) (s:Shared) (σ:St) (H:Hp) (v:V) (u:Value) (Q:St->Hp->Prop),Inv X pins σ H s->RelV v u->t v σ H Q ->
  wpAny (model X.prog X.w) X.A (assign target X.env u) (fun _ s'=>∃ σ' H',Inv X pins σ' H' s'∧Q σ' H') X.xe s
def PGs (X:Cx) (ts:List Expr) (t:TGs):Prop :=
 ∀ (pins:List (Addr × Obj)) (s:Shared) (σ:St) (H:Hp) (vs:List V) (us:List Value) (Q:St->Hp->Prop),Inv X pins σ H s->Vals vs us->t vs σ H Q ->
  wpAny (model X.prog X.w) X.A (assignInOrder ((assignEach ts X.env).map (·.2)) us) (fun _ s'=>∃ σ' H',Inv X pins σ' H' s'∧Q σ' H') X.xe s
section
variable {X:Cx} {pos:Pos}
def jwE (i:Nat):TG:=fun v σ H Q=>Q (σ.set i (some v)) H
theorem jrB {i:Nat} {x:Str} (hN:X.N.Nodup) (hi:X.N[i]? = some x) (hx:Loc X.env.scope x) (hf:X.fn x = true ∨ X.env.scope.names.lookup x = some .local:=by first | exact .inl rfl | exact .inr rfl | assumption):PG X (.Name x pos) (jwE i):=by
 intro pins s σ H v u Q I r h
 exact wpAny_assign_Name (jqn I hN hi hx r (fun s' I'=>⟨_,H,I',h⟩) hf)
def jAO:TGs:=fun vs σ H Q=>vs = []∧Q σ H
def jz5 (t:TG) (u:TGs):TGs:=fun vs σ H Q=>∃ v r,vs = v :: r∧t v σ H fun σ' H'=>u r σ' H' Q
theorem jxs:PGs X [] jAO:=by
 intro pins s σ H vs us Q I r h
 obtain ⟨e,h⟩:=h
 subst e
 cases r
 exact assignInOrder_nil ⟨σ,H,I,h⟩
theorem jvp {e:Expr} {es:List Expr} {t:TG} {u:TGs} (h1:PG X e t) (h2:PGs X es u)
  (hs:(assignEach (e :: es) X.env).map (·.2) = assign e X.env :: (assignEach es X.env).map (·.2):=by rfl):PGs X (e :: es) (jz5 t u):=by
 intro pins s σ H vs us Q I r h
 obtain ⟨v,vr,e1,h⟩:=h
 subst e1
 cases r with
 | cons r rr =>
  rw [hs]
  refine assignInOrder_cons (jF (h1 pins s σ H _ _ _ I r h) fun _ s1 qZ=>?_)
  obtain ⟨σ1,H1,I1,q1⟩:=qZ
  exact h2 pins s1 σ1 H1 _ _ Q I1 rr q1
def jAM (K:PySem.W.Frag) (n:Nat) (t:TGs):TG:=fun v σ H Q=>∃ a xs,v = .ref a∧SqT K H a xs∧xs.length = n∧t xs σ H Q
theorem jx7 {es:List Expr} {k:Nat} {t:TGs} {n:Nat} (hc:X.calm = true) (h:PGs X es t)
  (hn:(assignEach es X.env).length = n:=by rfl) (hst:(assignEach es X.env).findIdx? (·.1) = none:=by rfl):PG X (.Tuple es k pos) (jAM X.K n t):=by
 intro pins s σ H v u Q I r hw
 obtain ⟨a,xs,e1,hq,hl,hw⟩:=hw
 subst e1
 cases r
 obtain ⟨its,rv,ht,hz⟩:=I.tuple hq
 refine assign_Tuple_tuple (I.ok.hd hc) ht (by simp [hn,← hl,rv.length]) hst fun h' hx=>?_
 have I1:Inv X pins σ H { s with heap:=h' }:=I.kept (t':=s.toks) fun b o e=>hx b o (Nat.ne_of_lt (Heap.lt_size e)) e
 exact h pins _ σ H xs _ Q I1 (by simpa using rv) hw
def jx2 (te:TE) (g:TG):TS:=fun D σ H=>te σ H fun x H1=>g x σ H1 D.nx
theorem jyi {tg e:Expr} {te:TE} {g:TG} (he:PE X e te) (hg:PG X tg g) (hs:swapsWithSole [tg] e pos.line X.env = pure false:=by rfl) (hw:swappedStores [tg] e X.env = pure none:=by rfl)
  (h1:(assignEach [tg] X.env).map (·.2) = [assign tg X.env]:=by rfl):PS X (.Assign [tg] e pos) (jx2 te g):=by
 intro pins s σ H D I h
 refine wpAny_Assign_stores (jF (he pins s σ H _ I h) fun v s1 qZ=>?_) hs hw
 obtain ⟨x,H1,I1,r1,q1⟩:=qZ
 rw [h1]
 exact jF (hg pins s1 σ H1 x v _ I1 r1 q1) fun _ s2 q=>q
theorem jk2 {i:Nat} {x:Str} {e:Expr} {te:TE} {pos':Pos} (hN:X.N.Nodup) (hi:X.N[i]? = some x) (hx:Loc X.env.scope x) (he:PE X e te) (hs:swapsWith e (some (.Name x pos')) pos.line X.env = pure false:=by rfl) (hf:X.fn x = true ∨ X.env.scope.names.lookup x = some .local:=by first | exact .inl rfl | exact .inr rfl | assumption) :
  PS X (.Assign [.Name x pos'] e pos) (jx2 te (jwE i)):=by
 intro pins s σ H D I h
 refine wpAny_Assign_Name (jF (he pins s σ H _ I h) fun v s1 qZ=>?_) hs
 obtain ⟨y,H1,I1,r1,q1⟩:=qZ
 exact jqn I1 hN hi hx r1 (fun s2 I2=>⟨_,H1,I2,q1⟩) hf
end
section
variable {X:Cx} {pos:Pos}
def jyL (c:TT) (tb:TS):TS:=fun D σ H=>∃ W:Nat->St->Hp->Prop,(∃ m,W m σ H)∧∀ m σ H,W m σ H ->
 c σ H fun b H1=>if b = true then ∃ N:St->Hp->Prop,(∀ σ' H',N σ' H'->∃ m',m' < m∧W m' σ' H')∧tb { D with nx:=N,ct:=N,bk:=D.nx } σ H1 else D.nx σ H1
theorem jvR {c:Expr} {body:List Stmt} {tc:TT} {tb:TS} (hp:PassesOwn (model X.prog X.w) X.A X.env X.xe) (hc:PT X c tc) (hb:PSs X body tb):PS X (.While c body [] pos) (jyL tc tb):=by
 intro pins s σ H D I h
 obtain ⟨W,⟨m0,w0⟩,turn⟩:=h
 refine wpAny_While (codeAny_whileLoop (fun n s'=>∃ σ' H',Inv X pins σ' H' s'∧W n σ' H') ?_ m0 ⟨σ,H,I,w0⟩)
 rintro n s1 ⟨σ1,H1,I1,w1⟩
 refine wpAny_passesOwn hp (jF (hc pins s1 σ1 H1 _ I1 (turn n σ1 H1 w1)) fun b s2 qZ=>?_)
 obtain ⟨H2,I2,q2⟩:=qZ
 cases b with
 | true =>
  obtain ⟨N,hN,q2⟩:=q2
  rw [if_pos rfl]
  refine wpAny_passesOwn hp (jF (hb pins s2 σ1 H2 _ I2 q2) fun f s3 q3=>?_)
  cases f with
  | next =>
   obtain ⟨σ3,H3,I3,n3⟩:=q3
   obtain ⟨m',hm,w3⟩:=hN σ3 H3 n3
   exact ⟨m',hm,σ3,H3,I3,w3⟩
  | cont =>
   obtain ⟨σ3,H3,I3,n3⟩:=q3
   obtain ⟨m',hm,w3⟩:=hN σ3 H3 n3
   exact ⟨m',hm,σ3,H3,I3,w3⟩
  | brk=>exact q3
  | ret v=>exact q3
 | false =>
  rw [if_neg Bool.false_ne_true]
  exact wpAny_execs_nil ⟨σ1,H2,I2,q2⟩
end
structure It where
 go:Nat->Hp->Prop
 yld:Nat->Hp->V->Hp->Prop
 stop:Nat->Hp->Prop
def je3 (X:Cx) (pins:List (Addr × Obj)) (H:Hp) (b:Addr):Prop :=
 H b = none∧b ≠ X.env.locals∧b ∉ X.fs∧(b ∈ X.ex ∨ X.s₀.heap.objs.size ≤ b)∧(∀ x c,X.env.cells.lookup x = some c->c ≠ b)∧∀ p ∈ X.pn ++ pins,p.1 ≠ b
theorem Inv.fpOk {X:Cx} {pins:List (Addr × Obj)} {σ:St} {H H':Hp} {s:Shared} {b:Addr} (I:Inv X pins σ H s) (hb:s.heap.objs.size ≤ b) (hn:H' b = none):je3 X pins H' b:=by
 refine ⟨hn,Nat.ne_of_gt (Nat.lt_of_lt_of_le I.lt hb),I.nofs hb,.inr (Nat.le_trans I.sz hb),fun x c e z=>?_,fun p hp z=>?_⟩
 ·obtain ⟨v,q⟩:=I.cell x c e
  exact absurd (Nat.lt_of_lt_of_le q.lt (by rw [z]; exact hb)) (Nat.lt_irrefl _)
 ·exact absurd (Nat.lt_of_lt_of_le (Heap.lt_size (I.pin p hp).1) (by rw [z]; exact hb)) (Nat.lt_irrefl _)
structure jio (P:Program) (w:World) (K:PySem.W.Frag) (tg:Expr) (J:It) (fp:List Addr) (it:Addr) (tn:Nat->Heap->Prop):Prop where
 mem:it ∈ fp
 obj:∀ i h,tn i h->∀ b ∈ fp,∃ o,h.get? b = some o∧∀ v,o.data ≠ .cell v
 keep:∀ i h h',tn i h->(∀ b ∈ fp,∀ o,h.get? b = some o->h'.get? b = some o)->tn i h'
 item:∀ (X:Cx),X.prog = P->X.w = w->X.K = K->X.calm = true->∀ (i:Nat) (pins:List (Addr × Obj)) (s:Shared) (σ:St) (H:Hp) (E:Value->Shared->Prop),Inv X pins σ H s->(∀ b ∈ fp,je3 X pins H b)->tn i s.heap->J.go i H ->
  wpAny (model P w) X.A (pyNext (.ref it)) (fun r s1=>∃ u,r = some u ∧
   wpAny (model P w) X.A (letOwnedTupleGo tg (.ref it) u) (fun _ s2=>∃ x H',Inv X pins σ H' s2∧RelV x u∧J.yld i H x H'∧tn (i + 1) s2.heap∧∀ b ∈ fp,H' b = none) E s1) E s
 done:∀ (X:Cx),X.prog = P->X.w = w->X.K = K->X.calm = true->∀ (i:Nat) (pins:List (Addr × Obj)) (s:Shared) (σ:St) (H:Hp) (E:Value->Shared->Prop),Inv X pins σ H s->(∀ b ∈ fp,je3 X pins H b)->tn i s.heap->J.stop i H ->
  wpAny (model P w) X.A (pyNext (.ref it)) (fun r s1=>r = none∧Inv X pins σ H s1) E s
 self:∀ (A:Around) (i:Nat) (s:Shared) (Q:Value->Shared->Prop) (E:Value->Shared->Prop),tn i s.heap->Q (.ref it) s->wpAny (model P w) A (pyIter (.ref it)) Q E s
abbrev TI:=St->Hp->(It->Hp->Prop)->Prop
def PIE (X:Cx) (pins:List (Addr × Obj)) (σ:St) (tg:Expr) (R:It->Hp->Prop) (itv:Value) (s2:Shared):Prop :=
 ∃ (it:Addr) (fp:List Addr) (tn:Nat->Heap->Prop) (J:It) (H':Hp),itv = .ref it∧Inv X pins σ H' s2∧jio X.prog X.w X.K tg J fp it tn∧tn 0 s2.heap∧(∀ b ∈ fp,je3 X pins H' b)∧R J H'
def PI (X:Cx) (tg iter:Expr) (wi:TI):Prop :=
 ∀ (pins:List (Addr × Obj)) (s:Shared) (σ:St) (H:Hp) (R:It->Hp->Prop),Inv X pins σ H s->wi σ H R ->
  wpAny (model X.prog X.w) X.A (eval iter X.env) (fun v s1=>wpAny (model X.prog X.w) X.A (pyIter v) (PIE X pins σ tg R) X.xe s1) X.xe s
theorem jla {M:Model} {A:Around} {E:Value->Shared->Prop} {s:Shared} {tg:Expr} {it:Addr} {u:Value} {o:Obj} {n:String} {vs:Array Value} {Q:Unit->Shared->Prop} (ho:s.heap.get? it = some o) (hc:o.cls = .type n) (hd:o.data = .fields vs)
  (hn:["enumerate","zip","dict_itemiterator","dict_reverseitemiterator","odict_iterator","itertools.zip_longest","itertools.pairwise"].contains n = false) (hQ:Q () s):wpAny M A (letOwnedTupleGo tg (.ref it) u) Q E s:=by
 unfold letOwnedTupleGo
 cases tg <;> first
  | exact wpAny_pure hQ
  | (cases u <;> first
    | exact wpAny_pure hQ
    | (refine wpAny_bind (wpAny_load ho ?_)
       rw [hc,hd]
       show wpAny M A (if (["enumerate","zip","dict_itemiterator","dict_reverseitemiterator","odict_iterator","itertools.zip_longest","itertools.pairwise"].contains n && vs[0]? == some (rawInt _)) = true then _ else _) Q E s
       rw [if_neg (by intro h; rw [hn,Bool.false_and] at h; cases h)]
       exact wpAny_pure hQ))
def Itl (K:PySem.W.Frag) (a:Addr):It :=
 ⟨fun i H=>∃ xs x,SqL K H a xs∧xs[i]? = some x,fun i H x H'=>H' = H∧∀ xs,SqL K H a xs->xs[i]? = some x,fun i H=>∃ xs,SqL K H a xs∧xs.length ≤ i⟩
def Itt (K:PySem.W.Frag) (a:Addr):It :=
 ⟨fun i H=>∃ xs x,SqT K H a xs∧xs[i]? = some x,fun i H x H'=>H' = H∧∀ xs,SqT K H a xs->xs[i]? = some x,fun i H=>∃ xs,SqT K H a xs∧xs.length ≤ i⟩
def Itr (lo:Int) (n:Nat):It:=⟨fun i _=>i < n,fun i H x H'=>H' = H∧x = .int (lo + i),fun i _=>n ≤ i⟩
theorem jtN {P:Program} {w:World} {K:PySem.W.Frag} {tg:Expr} (a it:Addr):jio P w K tg (Itl K a) [it] it (fun i h=>h.IsListIter it a i) where
 mem:=by simp
 obj:=fun i h st b hb=>by
  have e:b = it:=by simpa using hb
  subst e
  obtain ⟨o,e,c,d⟩:=st
  exact ⟨o,e,fun v z=>by rw [d] at z; cases z⟩
 keep:=fun i h h' st k=>st.at fun o e=>k it (by simp) o e
 item:=by
  intro X hP hw hK hc i pins s σ H E I hf st hg
  subst hP hw hK
  obtain ⟨xs,x,hq,hx⟩:=hg
  obtain ⟨its,rv,p,hz⟩:=I.list hq
  obtain ⟨u,hu,ru⟩:=rv.get hx
  obtain ⟨f0,f1,f2,f3,f4,f5⟩:=hf it (by simp)
  refine wpAny_pyNext_list_item st p.isList (x:=u) (by simpa using hu) fun h' st' sb=>?_
  have I1:Inv X pins σ H { s with heap:=h' }:=I.turned (t':=s.toks) (fun b o hb e=>(sb.2 b hb).trans e) f0 f1 f3 f4 f5
  obtain ⟨o,e,c,d⟩:=id st'
  exact ⟨u,rfl,jla (s:={ s with heap:=h' }) e c d (by decide) ⟨x,H,I1,ru,⟨rfl,fun ys hy=>by rw [I.list_inj hy hq]; exact hx⟩,st',fun b hb=>(hf b hb).1⟩⟩
 done:=by
  intro X hP hw hK hc i pins s σ H E I hf st hg
  subst hP hw hK
  obtain ⟨xs,hq,hx⟩:=hg
  obtain ⟨its,rv,p,hz⟩:=I.list hq
  obtain ⟨f0,f1,f2,f3,f4,f5⟩:=hf it (by simp)
  have hl:=rv.length
  exact wpAny_pyNext_list_end (I.ok.hd hc) st p.isList (by simp; omega) fun h' eb=>⟨rfl,I.turned (t':=s.toks) (fun b o hb e=>eb b o hb e) f0 f1 f3 f4 f5⟩
 self:=fun _ _ _ _ _ st h=>wpAny_pyIter_listiter st h
theorem jlv {P:Program} {w:World} {K:PySem.W.Frag} {tg:Expr} (a it:Addr):jio P w K tg (Itt K a) [it] it (fun i h=>h.IsTupleIter it a i) where
 mem:=by simp
 obj:=fun i h st b hb=>by
  have e:b = it:=by simpa using hb
  subst e
  obtain ⟨o,e,c,d⟩:=st
  exact ⟨o,e,fun v z=>by rw [d] at z; cases z⟩
 keep:=fun i h h' st k=>st.at fun o e=>k it (by simp) o e
 item:=by
  intro X hP hw hK hc i pins s σ H E I hf st hg
  subst hP hw hK
  obtain ⟨xs,x,hq,hx⟩:=hg
  obtain ⟨its,rv,p,hz⟩:=I.tuple hq
  obtain ⟨u,hu,ru⟩:=rv.get hx
  obtain ⟨f0,f1,f2,f3,f4,f5⟩:=hf it (by simp)
  refine wpAny_pyNext_tuple_item st (show s.heap.IsTuple a its.toArray from p) (x:=u) (by simpa using hu) fun h' st' sb=>?_
  have I1:Inv X pins σ H { s with heap:=h' }:=I.turned (t':=s.toks) (fun b o hb e=>(sb.2 b hb).trans e) f0 f1 f3 f4 f5
  obtain ⟨o,e,c,d⟩:=id st'
  exact ⟨u,rfl,jla (s:={ s with heap:=h' }) e c d (by decide) ⟨x,H,I1,ru,⟨rfl,fun ys hy=>by rw [I.tuple_inj hy hq]; exact hx⟩,st',fun b hb=>(hf b hb).1⟩⟩
 done:=by
  intro X hP hw hK hc i pins s σ H E I hf st hg
  subst hP hw hK
  obtain ⟨xs,hq,hx⟩:=hg
  obtain ⟨its,rv,p,hz⟩:=I.tuple hq
  obtain ⟨f0,f1,f2,f3,f4,f5⟩:=hf it (by simp)
  have hl:=rv.length
  exact wpAny_pyNext_tuple_end (I.ok.hd hc) st (show s.heap.IsTuple a its.toArray from p) (by simp; omega) fun h' eb=>⟨rfl,I.turned (t':=s.toks) (fun b o hb e=>eb b o hb e) f0 f1 f3 f4 f5⟩
 self:=fun _ _ _ _ _ st h=>wpAny_pyIter_tupleiter st h
theorem jst {P:Program} {w:World} {K:PySem.W.Frag} {tg:Expr} (it:Addr) (lo:Int) (n:Nat):jio P w K tg (Itr lo n) [it] it (fun i h=>IsRangeIter h it (lo + (i:Nat) * 1) ((n:Int) - (i:Nat)) 1) where
 mem:=by simp
 obj:=fun i h st b hb=>by
  have e:b = it:=by simpa using hb
  subst e
  exact ⟨_,st,fun v z=>by
   have z':Data.fields _ = Data.cell v:=z
   cases z'⟩
 keep:=fun i h h' st k=>k it (by simp) _ st
 item:=by
  intro X hP hw hK hc i pins s σ H E I hf st hg
  subst hP hw hK
  obtain ⟨f0,f1,f2,f3,f4,f5⟩:=hf it (by simp)
  have W:=Walks.range (prog:=X.prog) (w:=X.w) (I.ok.hd hc) it lo 1 n
  refine W.item i s _ _ hg st fun v h' tk hv st' kk=>?_
  obtain ⟨t,rfl⟩:=hv
  have I1:Inv X pins σ H { s with heap:=h',toks:=tk }:=I.turned (fun b o hb e=>kk b o (by simpa using hb) e) f0 f1 f3 f4 f5
  refine ⟨_,rfl,jla (s:={ s with heap:=h',toks:=tk }) (n:="range_iterator") st' rfl rfl (by decide) ⟨.int (lo + i),H,I1,⟨t,?_⟩,⟨rfl,rfl⟩,st',fun b hb=>(hf b hb).1⟩⟩
  rw [Int.mul_one]
 done:=by
  intro X hP hw hK hc i pins s σ H E I hf st hg
  subst hP hw hK
  obtain ⟨f0,f1,f2,f3,f4,f5⟩:=hf it (by simp)
  exact wpAny_pyNext_range_end (I.ok.hd hc) st (by have:n ≤ i:=hg; omega) fun h' eb=>⟨rfl,I.turned (t':=s.toks) (fun b o hb e=>eb b o hb e) f0 f1 f3 f4 f5⟩
 self:=fun _ _ _ _ _ st h=>wpAny_pyIter_rangeiter st h
end L2
namespace L2
open PySem PySem.Spec PyProof.Rows
section
variable {X:Cx} {tg:Expr}
def jA2 (K:PySem.W.Frag) (tl:TE):TI:=fun σ H R=>tl σ H fun x H1=>∃ a,x = .ref a∧(∃ xs,SqT K H1 a xs)∧R (Itt K a) H1
theorem jzw {l:Expr} {tl:TE} (hl:PE X l tl):PI X tg l (jA2 X.K tl):=by
 intro pins s σ H R I h
 refine jF (hl pins s σ H _ I h) fun v s1 qZ=>?_
 obtain ⟨x,H1,I1,r1,q1⟩:=qZ
 obtain ⟨a,e,⟨xs,hq⟩,q⟩:=q1
 subst e
 cases r1
 obtain ⟨its,rv,p,hz⟩:=I1.tuple hq
 refine wpAny_pyIter_tuple (show s1.heap.IsTuple a its.toArray from p) ?_
 refine ⟨s1.heap.objs.size,[s1.heap.objs.size],_,_,H1,rfl,I1.kept (t':=s1.toks) fun b o e=>Heap.get?_push_of_some _ e,jlv a _,⟨_,Heap.get?_push_size _ rfl,rfl,rfl⟩,fun b hb=>?_,q⟩
 have e:b = s1.heap.objs.size:=by simpa using hb
 subst e
 exact I1.fpOk (Nat.le_refl _) (I1.hok.fresh (Nat.le_refl _))
theorem jvU {pins:List (Addr × Obj)} {σ:St} {H:Hp} {s:Shared} {R:It->Hp->Prop} {E:Value->Shared->Prop} {lo hi:Int} {t u v:Tok} {tk:Nat} (I:Inv X pins σ H s) (h1:-(2 ^ 62) ≤ lo) (h2:lo < 2 ^ 62) (h3:-(2 ^ 62) ≤ hi) (h4:hi < 2 ^ 62)
  (q:R (Itr lo (hi - lo).toNat) H):wpAny (model X.prog X.w) X.A (pyIter (.ref s.heap.objs.size)) (PIE X pins σ tg R) E { s with heap:=s.heap.push { cls:=.type "range",data:=.fields #[.int lo t,.int hi u,.int 1 v] },toks:=tk }:=by
 refine wpAny_pyIter_range (IsRange.new ..) (small_one h1 h2 h3 h4) ?_
 have I1:Inv X pins σ H { s with heap:=s.heap.push { cls:=.type "range",data:=.fields #[.int lo t,.int hi u,.int 1 v] },toks:=tk }:=I.kept fun b o e=>Heap.get?_push_of_some _ e
 refine ⟨(s.heap.push { cls:=.type "range",data:=.fields #[.int lo t,.int hi u,.int 1 v] }).objs.size,[(s.heap.push { cls:=.type "range",data:=.fields #[.int lo t,.int hi u,.int 1 v] }).objs.size],_,_,H,rfl,
  I1.kept (t':=tk) fun b o e=>Heap.get?_push_of_some _ e,jst _ lo (hi - lo).toNat,?_,fun b hb=>?_,q⟩
 ·have e1:lo + ((0:Nat):Int) * 1 = lo:=by simp
  have e2:(((hi - lo).toNat:Nat):Int) - ((0:Nat):Int) = Builtin.Range.rangeSize lo hi 1:=by rw [rangeSize_one]; split <;> omega
  show IsRangeIter _ _ (lo + ((0:Nat):Int) * 1) ((((hi - lo).toNat:Nat):Int) - ((0:Nat):Int)) 1
  rw [e1,e2]
  exact Heap.get?_push_size _ rfl
 ·have e:b = (s.heap.push { cls:=.type "range",data:=.fields #[.int lo t,.int hi u,.int 1 v] }).objs.size:=by simpa using hb
  subst e
  exact I1.fpOk (Nat.le_refl _) (I1.hok.fresh (Nat.le_refl _))
def jzO (ta:TA):TI:=fun σ H R=>ta σ H fun vs H1=>∃ j:Int,vs = [.int j]∧-(2 ^ 62) ≤ j∧j < 2 ^ 62∧R (Itr 0 j.toNat) H1
theorem jtV {a:Expr} {ta:TA} {p pos:Pos} (hg:Gl X "range") (hm:X.mg "range" = none) (ha:PA X [a] ta) (hs:starEach [a] X.env = [(false,eval a X.env)]:=by rfl):PI X tg (.Call (.Name "range" p) [a] [] pos) (jzO ta):=by
 intro pins s σ H R I h
 refine Call_ (jgb I hg hm boot_range (PyProof.Rows.callWith_type1 (jF (ha pos pins s σ H _ I h) fun us s1 qZ=>?_) hs rfl))
 obtain ⟨vs,H1,I1,r1,q1⟩:=qZ
 obtain ⟨j,e,q1,q2,q⟩:=q1
 subst e
 cases r1 with
 | cons r rr =>
  cases rr
  obtain ⟨t,rfl⟩:=r
  exact call_range_1 (jvU I1 (by omega) (by omega) q1 q2 (by simpa using q))
def jAU (wi:TI) (g:TG) (tb:TS):TS:=fun D σ H=>wi σ H fun J H1=>∃ W:Nat->Nat->St->Hp->Prop,(∃ m,W 0 m σ H1)∧∀ i m σ H,W i m σ H ->
 (J.stop i H∧D.nx σ H) ∨ (J.go i H∧∃ N:St->Hp->Prop,(∀ σ' H',N σ' H'->∃ m',m' < m∧W (i + 1) m' σ' H')∧∀ x H',J.yld i H x H'->g x σ H' fun σ2 H2=>tb { D with nx:=N,ct:=N,bk:=D.nx } σ2 H2)
def jia (fp:List Addr) (h:Heap):List (Addr × Obj):=fp.filterMap fun b=>(h.get? b).map fun o=>(b,o)
theorem jhp {fp:List Addr} {h:Heap} {b:Addr} {o:Obj} (hb:b ∈ fp) (e:h.get? b = some o):(b,o) ∈ jia fp h:=List.mem_filterMap.mpr ⟨b,hb,by rw [e]; rfl⟩
theorem jtG {fp:List Addr} {h:Heap} {p:Addr × Obj} (hp:p ∈ jia fp h):p.1 ∈ fp∧h.get? p.1 = some p.2:=by
 obtain ⟨b,hb,e⟩:=List.mem_filterMap.mp hp
 cases q:h.get? b with
 | none=>rw [q] at e; cases e
 | some o =>
  rw [q] at e
  have e':(b,o) = p:=Option.some.inj e
  subst e'
  exact ⟨hb,q⟩
theorem Inv.pinned {pins:List (Addr × Obj)} {σ:St} {H:Hp} {s:Shared} {fp:List Addr} (I:Inv X pins σ H s) (hf:∀ b ∈ fp,je3 X pins H b) (ho:∀ b ∈ fp,∃ o,s.heap.get? b = some o∧∀ v,o.data ≠ .cell v):Inv X (pins ++ jia fp s.heap) σ H s :=
 I.pins_of fun p hp=>(List.mem_append.mp hp).elim (fun z=>I.pin p (List.mem_append_right _ z)) fun z=>by
  obtain ⟨hb,e⟩:=jtG z
  obtain ⟨f0,f1,f2,_⟩:=hf p.1 hb
  obtain ⟨o,e',d⟩:=ho p.1 hb
  rw [e] at e'; cases e'
  exact ⟨e,f0,f1,f2,d⟩
theorem Inv.unpinned {pins pl:List (Addr × Obj)} {σ:St} {H:Hp} {s:Shared} (I:Inv X (pins ++ pl) σ H s):Inv X pins σ H s:=I.pins_of fun p hp=>I.pin p (List.mem_append_right _ (List.mem_append_left _ hp))
theorem jtU {iter:Expr} {body:List Stmt} {wi:TI} {g:TG} {tb:TS} {pos:Pos} (hp:PassesOwn (model X.prog X.w) X.A X.env X.xe) (hc:X.calm = true) (hi:PI X tg iter wi) (hg:PG X tg g) (hb:PSs X body tb)
  (hs:∀ x,foldedSetIterable iter X.env x = pure x:=by intro _; rfl):PS X (.For tg iter body [] pos) (jAU wi g tb):=by
 intro pins s σ H D I h
 refine wpAny_For (jF (hi pins s σ H _ I h) fun v s1 h1=>jF h1 fun itv s2 h2=>?_) hs
 obtain ⟨it,fp,tn,J,H2,e,I2,T,st2,f2,W,⟨m0,w0⟩,turn⟩:=h2
 subst e
 -- what stays true of the iterator's objects through the loop
 have stat:∀ {H':Hp},(∀ b ∈ fp,H' b = none)->∀ b ∈ fp,je3 X pins H' b:=fun hn b hb=>⟨hn b hb,(f2 b hb).2⟩
 refine codeAny_forLoop_any (fun n s'=>∃ i σ' H',Inv X pins σ' H' s'∧tn i s'.heap∧(∀ b ∈ fp,H' b = none)∧W i n σ' H') ?_ m0 ⟨0,σ,H2,I2,st2,fun b hb=>(f2 b hb).1,w0⟩
 rintro n s3 ⟨i,σ3,H3,I3,st3,fr3,w3⟩
 rcases turn i n σ3 H3 w3 with ⟨stop,qn⟩ | ⟨go,N,hN,step⟩
 ·refine wpAny_passesOwn hp (jF (T.done X rfl rfl rfl hc i pins s3 σ3 H3 X.xe I3 (stat fr3) st3 stop) fun r s4 qZ=>?_)
  obtain ⟨hr,I4⟩:=qZ
  subst hr
  exact wpAny_execs_nil ⟨σ3,H3,I4,qn⟩
 ·refine wpAny_passesOwn hp (jF (T.item X rfl rfl rfl hc i pins s3 σ3 H3 X.xe I3 (stat fr3) st3 go) fun r s4 qZ=>?_)
  obtain ⟨u,hr,h4⟩:=qZ
  subst hr
  refine wpAny_passesOwn hp (jF h4 fun _ s5 qZ=>?_)
  obtain ⟨x,H5,I5,r5,y5,st5,fr5⟩:=qZ
  have I5':=I5.pinned (stat fr5) (T.obj _ _ st5)
  refine wpAny_passesOwn hp (jF (hg _ s5 σ3 H5 x u _ I5' r5 (step x H5 y5)) fun _ s6 qZ=>?_)
  obtain ⟨σ6,H6,I6,q6⟩:=qZ
  refine wpAny_passesOwn hp (jF (hb _ s6 σ6 H6 _ I6 q6) fun f s7 q7=>?_)
  have again:∀ {σ7:St} {H7:Hp},Inv X (pins ++ jia fp s5.heap) σ7 H7 s7->N σ7 H7->∃ m,m < n∧∃ i σ' H',Inv X pins σ' H' s7∧tn i s7.heap∧(∀ b ∈ fp,H' b = none)∧W i m σ' H':=fun {σ7 H7} I7 n7=>by
   obtain ⟨m',hm,w7⟩:=hN σ7 H7 n7
   refine ⟨m',hm,i + 1,σ7,H7,I7.unpinned,T.keep _ _ _ st5 fun b hb o e=>(I7.pin (b,o) (List.mem_append_right _ (List.mem_append_right _ (jhp hb e)))).1,fun b hb=>?_,w7⟩
   obtain ⟨o,e,d⟩:=T.obj _ _ st5 b hb
   exact (I7.pin (b,o) (List.mem_append_right _ (List.mem_append_right _ (jhp hb e)))).2.1
  cases f with
  | next=>obtain ⟨σ7,H7,I7,n7⟩:=q7; exact again I7 n7
  | cont=>obtain ⟨σ7,H7,I7,n7⟩:=q7; exact again I7 n7
  | brk=>obtain ⟨σ7,H7,I7,q7⟩:=q7; exact ⟨σ7,H7,I7.unpinned,q7⟩
  | ret v=>obtain ⟨x7,σ7,H7,I7,r7,q7⟩:=q7; exact ⟨x7,σ7,H7,I7.unpinned,r7,q7⟩
end
end L2
namespace L2
open PySem PySem.Spec PyProof.Rows
abbrev R2:=V->V->Hp->VK->Prop
def OpR (X:Cx) (f:Value->Value->Sem Value) (r:R2):Prop :=
 ∀ (pins:List (Addr × Obj)) (s:Shared) (σ:St) (H:Hp) (x y:V) (v u:Value) (Q:VK),Inv X pins σ H s->RelV x v->RelV y u->r x y H Q ->
  wpAny (model X.prog X.w) X.A (f v u) (EP X pins σ Q) X.xe s
def UnR (X:Cx) (f:Value->Sem Value) (r:V->Hp->VK->Prop):Prop :=
 ∀ (pins:List (Addr × Obj)) (s:Shared) (σ:St) (H:Hp) (x:V) (v:Value) (Q:VK),Inv X pins σ H s->RelV x v->r x H Q ->
  wpAny (model X.prog X.w) X.A (f v) (EP X pins σ Q) X.xe s
def CallR (X:Cx) (f:Value) (r:List V->Hp->VK->Prop):Prop :=
 ∀ (pins:List (Addr × Obj)) (s:Shared) (σ:St) (H:Hp) (xs:List V) (us:List Value) (Q:VK),Inv X pins σ H s->Vals xs us->r xs H Q ->
  wpAny (model X.prog X.w) X.A (call f us) (EP X pins σ Q) X.xe s
def tOp (r:R2) (ta tb:TE):TE:=fun σ H Q=>ta σ H fun x H1=>tb σ H1 fun y H2=>r x y H2 Q
def tUn (r:V->Hp->VK->Prop) (ta:TE):TE:=fun σ H Q=>ta σ H fun x H1=>r x H1 Q
def rI (C:Int->Int->Prop) (g:Int->Int->V):R2:=fun x y H Q=>∃ i j,x = .int i∧y = .int j∧C i j∧Q (g i j) H
def rI0 (g:Int->Int->V):R2:=fun x y H Q=>∃ i j,x = .int i∧y = .int j∧Q (g i j) H
def rU (g:Int->V):V->Hp->VK->Prop:=fun x H Q=>∃ i,x = .int i∧Q (g i) H
section
variable {X:Cx} {a b c:Expr} {ta tb tc:TE} {pos:Pos}
theorem jvr (ha:PE X a ta) (hb:PE X b tb) {pins:List (Addr × Obj)} {s:Shared} {σ:St} {H:Hp} {R:V->V->Hp->Prop} (I:Inv X pins σ H s)
  (h:ta σ H fun x H1=>tb σ H1 fun y H2=>R x y H2) {Q:Value->Shared->Prop} {f:Value->Value->Sem Value}
  (hf:∀ v u s2 x y H2,Inv X pins σ H2 s2->RelV x v->RelV y u->R x y H2->wpAny (model X.prog X.w) X.A (f v u) Q X.xe s2) :
  wpAny (model X.prog X.w) X.A (eval a X.env) (fun v s₁=>wpAny (model X.prog X.w) X.A (eval b X.env) (fun u s₂=>wpAny (model X.prog X.w) X.A (f v u) Q X.xe s₂) X.xe s₁) X.xe s:=by
 refine jF (ha pins s σ H _ I h) fun v s1 qZ=>?_
 obtain ⟨x,H1,I1,r1,q1⟩:=qZ
 refine jF (hb pins s1 σ H1 _ I1 q1) fun u s2 qZ=>?_
 obtain ⟨y,H2,I2,r2,q2⟩:=qZ
 exact hf v u s2 x y H2 I2 r1 r2 q2
theorem jwt {op:Operator} {r:R2} (ho:OpR X (binaryOp op) r) (ha:PE X a ta) (hb:PE X b tb):PE X (.BinOp a op b pos) (tOp r ta tb):=by
 intro pins s σ H Q I h
 exact wpAny_BinOp (jvr ha hb I h fun v u s2 x y H2 I2 rx ry q=>ho pins s2 σ H2 x y v u Q I2 rx ry q)
theorem jz1 {op:UnaryOp} {r:V->Hp->VK->Prop} (ho:UnR X (unaryOp op) r) (ha:PE X a ta):PE X (.UnaryOp op a pos) (tUn r ta):=by
 intro pins s σ H Q I h
 exact UnaryOp_ (jF (ha pins s σ H _ I h) fun v s1 ⟨x,H1,I1,r1,q1⟩=>ho pins s1 σ H1 x v Q I1 r1 q1)
theorem opI {f:Value->Value->Sem Value} {C:Int->Int->Prop} {g:Int->Int->Int}
  (rule:∀ (i j:Int) (t u:Tok) (s:Shared) (Q:Value->Shared->Prop) (E:Value->Shared->Prop),C i j->Q (.int (g i j) s.toks) { s with toks:=s.toks + 1 }->wpAny (model X.prog X.w) X.A (f (.int i t) (.int j u)) Q E s) :
  OpR X f (rI C fun i j=>.int (g i j)):=by
 intro pins s σ H x y v u Q I rx ry h
 obtain ⟨i,j,rfl,rfl,hc,q⟩:=h
 obtain ⟨t,rfl⟩:=rx
 obtain ⟨t',rfl⟩:=ry
 exact rule i j t t' s _ _ hc ⟨.int (g i j),H,I.tok _,⟨_,rfl⟩,q⟩
theorem jyK {f:Value->Value->Sem Value} {g:Int->Int->Int}
  (rule:∀ (i j:Int) (t u:Tok) (s:Shared) (Q:Value->Shared->Prop) (E:Value->Shared->Prop),Q (.int (g i j) s.toks) { s with toks:=s.toks + 1 }->wpAny (model X.prog X.w) X.A (f (.int i t) (.int j u)) Q E s) :
  OpR X f (rI0 fun i j=>.int (g i j)):=by
 intro pins s σ H x y v u Q I rx ry h
 obtain ⟨i,j,rfl,rfl,q⟩:=h
 obtain ⟨t,rfl⟩:=rx
 obtain ⟨t',rfl⟩:=ry
 exact rule i j t t' s _ _ ⟨.int (g i j),H,I.tok _,⟨_,rfl⟩,q⟩
theorem ju0 {f:Value->Value->Sem Value} {g:Int->Int->Bool}
  (rule:∀ (i j:Int) (t u:Tok) (s:Shared) (Q:Value->Shared->Prop) (E:Value->Shared->Prop),Q (.bool (g i j)) s->wpAny (model X.prog X.w) X.A (f (.int i t) (.int j u)) Q E s) :
  OpR X f (rI0 fun i j=>.bl (g i j)):=by
 intro pins s σ H x y v u Q I rx ry h
 obtain ⟨i,j,rfl,rfl,q⟩:=h
 obtain ⟨t,rfl⟩:=rx
 obtain ⟨t',rfl⟩:=ry
 exact rule i j t t' s _ _ ⟨.bl (g i j),H,I,rfl,q⟩
def jpn (i j:Int):Prop:=0 ≤ j∧j ≤ 1000000∧i.natAbs < 2 ^ 64
def CMul (i j:Int):Prop:=(-(2 ^ 64) < i∧i < 2 ^ 64) ∨ (-(2 ^ 64) < j∧j < 2 ^ 64)
theorem CMul.ok {i j:Int} (h:CMul i j):IntMulOk i j:=by
 rcases h with ⟨h1,h2⟩ | ⟨h1,h2⟩
 ·exact .of_left (intBits_le_64 h1 h2)
 ·exact .of_right (intBits_le_64 h1 h2)
theorem jza:OpR X (binaryOp .Add) (rI0 fun i j=>.int (i + j)):=jyK fun _ _ _ _ _ _ _ q=>add_int q
theorem jya:OpR X (binaryOp .Sub) (rI0 fun i j=>.int (i - j)):=jyK fun _ _ _ _ _ _ _ q=>sub_int q
theorem jw2:OpR X (binaryOp .Mod) (rI (fun _ j=>j ≠ 0) fun i j=>.int (i.fmod j)):=opI fun _ _ _ _ _ _ _ hc q=>mod_int' hc q
theorem jx9:OpR X (binaryOp .Pow) (rI jpn fun i j=>.int (i ^ j.toNat)):=opI fun _ _ _ _ _ _ _ hc q=>pow_int_small hc.1 hc.2.1 hc.2.2 q
theorem unI {f:Value->Sem Value} {g:Int->Int}
  (rule:∀ (i:Int) (t:Tok) (s:Shared) (Q:Value->Shared->Prop) (E:Value->Shared->Prop),Q (.int (g i) s.toks) { s with toks:=s.toks + 1 }->wpAny (model X.prog X.w) X.A (f (.int i t)) Q E s) :
  UnR X f (rU fun i=>.int (g i)):=by
 intro pins s σ H x v Q I rx h
 obtain ⟨i,rfl,q⟩:=h
 obtain ⟨t,rfl⟩:=rx
 exact rule i t s _ _ ⟨.int (g i),H,I.tok _,⟨_,rfl⟩,q⟩
theorem jzg:UnR X (unaryOp .USub) (rU fun i=>.int (-i)):=unI fun _ _ _ _ _ q=>neg_int q
end
def jy7:V->V->Bool
 | .non,.non=>true | .non,.int _=>true | .int _,.non=>true | .non,.bl _=>true | .bl _,.non=>true | .non,.str _=>true | .str _,.non=>true
 | .int _,.int _=>true | .bl _,.bl _=>true | .str _,.str _=>true | .byt _,.byt _=>true
 | .int _,.str _=>true | .str _,.int _=>true | .bl _,.str _=>true | .str _,.bl _=>true
 | _,_=>false
def rEq:R2:=fun x y H Q=>jy7 x y = true∧Q (.bl (decide (x = y))) H
def rNe:R2:=fun x y H Q=>jy7 x y = true∧Q (.bl (!decide (x = y))) H
theorem jrh {i j:Int}:decide (V.int i = V.int j) = (i == j):=by
 rw [Bool.eq_iff_iff]
 simp
theorem jtv {i j:Bool}:decide (V.bl i = V.bl j) = (i == j):=by
 rw [Bool.eq_iff_iff]
 simp
theorem jre {i j:Str}:decide (V.str i = V.str j) = (i == j):=by
 rw [Bool.eq_iff_iff]
 simp
theorem jrk {i j:Array UInt8}:decide (V.byt i = V.byt j) = (i.toList == j.toList):=by
 rw [Bool.eq_iff_iff]
 cases i
 cases j
 simp
section
variable {X:Cx} {a b c:Expr} {ta tb tc:TE} {pos:Pos}
theorem j5 {pins:List (Addr × Obj)} {σ:St} {H:Hp} {s:Shared} {Q:VK} {k k':Bool} (I:Inv X pins σ H s) (q:Q (.bl k) H) (e:k = k'):EP X pins σ Q (.bool k') s:=by
 subst e
 exact ⟨.bl k,H,I,rfl,q⟩
theorem jzT:OpR X (compareOp .Eq) rEq:=by
 intro pins s σ H x y v u Q I rx ry h
 obtain ⟨hs,q⟩:=h
 cases x with
 | non =>
  cases rx
  cases y with
  | non=>cases ry; exact PySem.EqNone.eq_none_none (j5 I q (by simp))
  | bl j=>cases ry; exact PySem.EqNone.eq_none_bool (j5 I q (by simp))
  | int j=>obtain ⟨t',rfl⟩:=ry; exact PySem.EqNone.eq_none_int (j5 I q (by simp))
  | str j=>obtain ⟨t',rfl⟩:=ry; exact PySem.EqNone.eq_none_str (j5 I q (by simp))
  | _=>exact absurd (show false = true from hs) Bool.false_ne_true
 | bl i =>
  cases rx
  cases y with
  | non=>cases ry; exact PySem.EqNone.eq_bool_none (j5 I q (by simp))
  | bl j=>cases ry; exact eq_bool (j5 I q jtv)
  | str j=>obtain ⟨t',rfl⟩:=ry; exact PySem.EqMixed.eq_bool_str (j5 I q (by simp))
  | _=>exact absurd (show false = true from hs) Bool.false_ne_true
 | int i =>
  obtain ⟨t,rfl⟩:=rx
  cases y with
  | non=>cases ry; exact PySem.EqNone.eq_int_none (j5 I q (by simp))
  | int j=>obtain ⟨t',rfl⟩:=ry; exact eq_int (j5 I q jrh)
  | str j=>obtain ⟨t',rfl⟩:=ry; exact PySem.EqMixed.eq_int_str (j5 I q (by simp))
  | _=>exact absurd (show false = true from hs) Bool.false_ne_true
 | str i =>
  obtain ⟨t,rfl⟩:=rx
  cases y with
  | non=>cases ry; exact PySem.EqNone.eq_str_none (j5 I q (by simp))
  | bl j=>cases ry; exact PySem.EqMixed.eq_str_bool (j5 I q (by simp))
  | int j=>obtain ⟨t',rfl⟩:=ry; exact PySem.EqMixed.eq_str_int (j5 I q (by simp))
  | str j=>obtain ⟨t',rfl⟩:=ry; exact eq_str (j5 I q jre)
  | _=>exact absurd (show false = true from hs) Bool.false_ne_true
 | byt i =>
  obtain ⟨t,rfl⟩:=rx
  cases y with
  | byt j=>obtain ⟨t',rfl⟩:=ry; exact PySem.W.eq_bytes (j5 I q jrk)
  | _=>exact absurd (show false = true from hs) Bool.false_ne_true
 | _=>cases y <;> exact absurd (show false = true from hs) Bool.false_ne_true
theorem jzR:OpR X (compareOp .NotEq) rNe:=by
 intro pins s σ H x y v u Q I rx ry h
 obtain ⟨hs,q⟩:=h
 cases x with
 | non =>
  cases rx
  cases y with
  | non=>cases ry; exact PySem.EqNone.ne_none_none (j5 I q (by simp))
  | bl j=>cases ry; exact PySem.EqNone.ne_none_bool (j5 I q (by simp))
  | int j=>obtain ⟨t',rfl⟩:=ry; exact PySem.EqNone.ne_none_int (j5 I q (by simp))
  | str j=>obtain ⟨t',rfl⟩:=ry; exact PySem.EqNone.ne_none_str (j5 I q (by simp))
  | _=>exact absurd (show false = true from hs) Bool.false_ne_true
 | bl i =>
  cases rx
  cases y with
  | non=>cases ry; exact PySem.EqNone.ne_bool_none (j5 I q (by simp))
  | bl j=>cases ry; exact ne_bool (j5 I q (congrArg not jtv))
  | str j=>obtain ⟨t',rfl⟩:=ry; exact PySem.EqMixed.ne_bool_str (j5 I q (by simp))
  | _=>exact absurd (show false = true from hs) Bool.false_ne_true
 | int i =>
  obtain ⟨t,rfl⟩:=rx
  cases y with
  | non=>cases ry; exact PySem.EqNone.ne_int_none (j5 I q (by simp))
  | int j=>obtain ⟨t',rfl⟩:=ry; exact ne_int (j5 I q (congrArg not jrh))
  | str j=>obtain ⟨t',rfl⟩:=ry; exact PySem.EqMixed.ne_int_str (j5 I q (by simp))
  | _=>exact absurd (show false = true from hs) Bool.false_ne_true
 | str i =>
  obtain ⟨t,rfl⟩:=rx
  cases y with
  | non=>cases ry; exact PySem.EqNone.ne_str_none (j5 I q (by simp))
  | bl j=>cases ry; exact PySem.EqMixed.ne_str_bool (j5 I q (by simp))
  | int j=>obtain ⟨t',rfl⟩:=ry; exact PySem.EqMixed.ne_str_int (j5 I q (by simp))
  | str j=>obtain ⟨t',rfl⟩:=ry; exact ne_str (j5 I q (congrArg not jre))
  | _=>exact absurd (show false = true from hs) Bool.false_ne_true
 | byt i =>
  obtain ⟨t,rfl⟩:=rx
  cases y with
  | byt j=>obtain ⟨t',rfl⟩:=ry; exact PySem.W.ne_bytes (j5 I q (congrArg not jrk))
  | _=>exact absurd (show false = true from hs) Bool.false_ne_true
 | _=>cases y <;> exact absurd (show false = true from hs) Bool.false_ne_true
theorem jzK:OpR X (compareOp .Lt) (rI0 fun i j=>.bl (decide (i < j))):=ju0 fun _ _ _ _ _ _ _ q=>lt_int q
theorem jzY:OpR X (compareOp .LtE) (rI0 fun i j=>.bl (decide (i ≤ j))):=ju0 fun _ _ _ _ _ _ _ q=>le_int q
theorem jAh:OpR X (compareOp .Gt) (rI0 fun i j=>.bl (decide (j < i))):=ju0 fun _ _ _ _ _ _ _ q=>gt_int q
theorem jtu:OpR X (compareOp .In) (fun x y H Q=>∃ i j,x = .str i∧y = .str j∧Q (.bl (!(Builtin.Str.occurrences j i 0 j.length 1).isEmpty)) H):=by
 intro pins s σ H x y v u Q I rx ry h
 obtain ⟨i,j,rfl,rfl,q⟩:=h
 obtain ⟨t,rfl⟩:=rx
 obtain ⟨t',rfl⟩:=ry
 exact in_str (j5 I q rfl)
theorem jyH:OpR X (compareOp .Is) (fun x y H Q=>y = .non∧Q (.bl (decide (x = .non))) H):=by
 intro pins s σ H x y v u Q I rx ry h
 obtain ⟨rfl,q⟩:=h
 cases ry
 refine is_none_gen (j5 I q ?_)
 cases x <;> first
  | (cases rx; rfl)
  | (obtain ⟨t,rfl⟩:=rx; rfl)
theorem OpR.or {f:Value->Value->Sem Value} {r r':R2} (h:OpR X f r) (h':OpR X f r'):OpR X f (fun x y H Q=>r x y H Q ∨ r' x y H Q):=by
 intro pins s σ H x y v u Q I rx ry q
 rcases q with q | q
 ·exact h pins s σ H x y v u Q I rx ry q
 ·exact h' pins s σ H x y v u Q I rx ry q
theorem j3 (b:Expr) {op:CmpOp} (h:op ≠ .In:=by decide) (h2:op ≠ .NotIn:=by decide):behindInMarks op b = false:=by
 have e1:(op == CmpOp.In) = false:=by cases op <;> first | rfl | exact absurd rfl h
 have e2:(op == CmpOp.NotIn) = false:=by cases op <;> first | rfl | exact absurd rfl h2
 cases b <;> simp [behindInMarks,e1,e2]
theorem jwQ {op:CmpOp} {r:R2} (ho:OpR X (compareOp op) r) (ha:PE X a ta) (hb:PE X b tb) (hm:behindInMarks op b = false):PE X (.Compare a [op] [b] pos) (tOp r ta tb):=by
 intro pins s σ H Q I h
 exact wpAny_Compare1 (jvr ha hb I h fun v u s2 x y H2 I2 rx ry q=>ho pins s2 σ H2 x y v u Q I2 rx ry q) hm
def jsI (t:TE):TT:=fun σ H Q=>t σ H fun x H'=>∃ k,x = .bl k∧Q k H'
theorem jf9 {op:CmpOp} {r:R2} (ho:OpR X (compareOp op) r) (ha:PE X a ta) (hb:PE X b tb) (hm:behindInMarks op b = false):PT X (.Compare a [op] [b] pos) (jsI (tOp r ta tb)):=by
 intro pins s σ H Q I h
 refine wpAny_isTrue_Compare1 (jF (ha pins s σ H _ I h) fun v s1 ⟨x,H1,I1,r1,q1⟩=>jF (hb pins s1 σ H1 _ I1 q1) fun u s2 ⟨y,H2,I2,r2,q2⟩ =>
  jF (ho pins s2 σ H2 x y v u _ I2 r1 r2 q2) fun c s3 ⟨z,H3,I3,r3,k,e,q3⟩=>?_) hm
 subst e
 cases r3
 exact wpAny_truthy_bool ⟨H3,I3,q3⟩
def jtM (r r':R2) (ta tb tc:TE):TE:=fun σ H Q=>ta σ H fun x H1=>tb σ H1 fun y H2=>r x y H2 fun z H3=>∃ k,z = .bl k ∧
 (if k = true then tc σ H3 fun w' H4=>r' y w' H4 Q else Q (.bl false) H3)
theorem juX {op op':CmpOp} {r r':R2} (ho:OpR X (compareOp op) r) (ho':OpR X (compareOp op') r') (ha:PE X a ta) (hb:PE X b tb) (hc:PE X c tc)
  (hm:lastMarks [op,op'] [b,c] = false:=by with_unfolding_all rfl):PE X (.Compare a [op,op'] [b,c] pos) (jtM r r' ta tb tc):=by
 intro pins s σ H Q I h
 refine Compare_chain (jF (ha pins s σ H _ I h) fun v s1 ⟨x,H1,I1,r1,q1⟩=>chain_link (jF (hb pins s1 σ H1 _ I1 q1) fun u s2 ⟨y,H2,I2,r2,q2⟩ =>
  jF (ho pins s2 σ H2 x y v u _ I2 r1 r2 q2) fun d s3 ⟨z,H3,I3,r3,k,e,q3⟩=>?_)) hm
 subst e
 cases r3
 refine wpAny_truthy_bool ?_
 cases k with
 | false=>exact ite_ff ⟨.bl false,H3,I3,rfl,q3⟩
 | true=>exact ite_tt (chain_last (jF (hc pins s3 σ H3 _ I3 q3) fun w' s4 ⟨z',H4,I4,r4,q4⟩=>ho' pins s4 σ H4 y z' u w' Q I4 r2 r4 q4))
theorem jlT:(sizeLine:Nat) < 2 ^ 63:=by rw [sizeLine_eq]; decide
theorem jsD:OpR X (binaryOp .Add) (fun x y H Q=>∃ i j,x = .str i∧y = .str j∧i.length + j.length ≤ sizeLine∧Q (.str (i ++ j)) H):=by
 intro pins s σ H x y v u Q I rx ry h
 obtain ⟨i,j,rfl,rfl,hz,q⟩:=h
 obtain ⟨t,rfl⟩:=rx
 obtain ⟨t',rfl⟩:=ry
 exact add_str (fun t' tk=>⟨.str (i ++ j),H,I.tok _,⟨_,rfl⟩,q⟩) hz
theorem jdG {x:V} {us:List Value} (r:Vals [x] us):∃ u,us = [u]∧RelV x u:=by
 cases r with
 | cons r1 r2=>cases r2; exact ⟨_,rfl,r1⟩
theorem jwv {x y:V} {us:List Value} (r:Vals [x,y] us):∃ u w',us = [u,w']∧RelV x u∧RelV y w':=by
 cases r with
 | cons r1 r2 =>
  cases r2 with
  | cons r3 r4=>cases r4; exact ⟨_,_,rfl,r1,r3⟩
theorem jvZ:CallR X (.builtin "abs") (fun xs H Q=>∃ i,xs = [.int i]∧Q (.int (if i < 0 then -i else i)) H):=by
 intro pins s σ H xs us Q I r h
 obtain ⟨i,rfl,q⟩:=h
 obtain ⟨u,rfl,t,rfl⟩:=jdG r
 exact call_abs_int fun u tk=>⟨.int (if i < 0 then -i else i),H,I.tok _,⟨_,rfl⟩,q⟩
theorem jtd (hc:X.calm = true):CallR X (.builtin "min") (fun xs H Q=>∃ i j,xs = [.int i,.int j]∧Q (.int (if j < i then j else i)) H):=by
 intro pins s σ H xs us Q I r h
 obtain ⟨i,j,rfl,q⟩:=h
 obtain ⟨u,w',rfl,⟨t,rfl⟩,⟨t',rfl⟩⟩:=jwv r
 refine min_two_ints (I.ok.hd hc) fun h' tk k=>⟨_,H,I.kept k,?_,q⟩
 by_cases hj:j < i
 ·rw [if_pos hj,if_pos hj]; exact ⟨_,rfl⟩
 ·rw [if_neg hj,if_neg hj]; exact ⟨_,rfl⟩
theorem jo0:CallR X (.type "str") (fun xs H Q=>∃ i,xs = [.int i]∧i.natAbs.log2 < 1920∧Q (.str (toString i)) H):=by
 intro pins s σ H xs us Q I r h
 obtain ⟨i,rfl,hz,q⟩:=h
 obtain ⟨u,rfl,t,rfl⟩:=jdG r
 exact PySem.P.str_of_int hz ⟨.str _,H,I.tok _,⟨_,rfl⟩,q⟩
end
end L2
namespace L2
open PySem PySem.Spec PyProof.Rows
structure ObjM (h:Heap) (x dx C:Addr) (mA:Str->Option Value):Prop where
 obj:h.get? x = some (PySem.W.instObj C dx)
 ns:h.Ns1 dx mA
 ne:dx ≠ x
theorem jtt {h:Heap} {dx:Addr} {mA:Str->Option Value} (n:h.Ns1 dx mA):∃ od,h.get? dx = some od∧∀ name,PySem.W.lookIn name od = some (mA name):=by
 obtain ⟨o,es,ep,ho,hd,hk,_,hm⟩:=n
 refine ⟨o,ho,fun name=>?_⟩
 have e:=hm name
 unfold nsFind findBy at e
 rw [← Array.find?_toList] at e
 unfold PySem.W.lookIn
 rw [hd]
 dsimp only
 split
 ·rename_i y q
  rw [q] at e
  exact congrArg some e
 ·rename_i q
  rw [q] at e
  have a:es.toList.any (·.refKey) = false:=by
   rw [List.any_eq_false]
   intro y hy
   obtain ⟨z,t,hkey⟩:=hk y (Array.mem_toList_iff.mp hy)
   simp [DictEntry.refKey,hkey]
  have a':¬ es.toList.any (·.refKey) = true:=by rw [a]; exact Bool.false_ne_true
  rw [if_neg a']
  exact congrArg some e
theorem ObjM.look {h:Heap} {x dx C:Addr} {mA:Str->Option Value} (I:ObjM h x dx C mA):∃ od,PySem.W.InstAt h x (PySem.W.instObj C dx) C (some od)∧∀ name,PySem.W.lookIn name od = some (mA name) :=
 let ⟨od,ho,hl⟩:=jtt I.ns
 ⟨od,⟨I.obj,rfl,rfl,ho⟩,hl⟩
section
variable {prog:Program} {w:World} {A:Around} {E:Value->Shared->Prop} {s:Shared} {K:PySem.W.Frag} {x dx C f:Addr} {mA:Str->Option Value} {name:Str} {v:Value}
theorem jw9 {expr:Bool} {Q:Value->Shared->Prop} (X:K.In s.heap) (I:ObjM s.heap x dx C mA) (hg:PySem.W.plainGet K C name = true) (hh:PySem.W.hasDictIn K C = true)
  (ha:PySem.W.findIn K (.ref C) name = some none) (hv:mA name = some v) (hv':PySem.W.handedIn v = true) (h:Q v { s with toks:=s.toks + 1 }) :
  wpAny (model prog w) A (getAttr (.ref x) name expr) Q E s:=by
 obtain ⟨od,J,hl⟩:=I.look
 exact PySem.W.get_value X J (PySem.W.plainGet_of hg).1 (PySem.W.findObj_own hh ha rfl (by rw [hl,hv])) hv' h
theorem juU {pl:Sem Bool} {Q:Value × List Value->Shared->Prop} (X:K.In s.heap) (I:ObjM s.heap x dx C mA) (hg:PySem.W.plainGet K C name = true)
  (hf:PySem.W.findIn K (.ref C) name = some (some (.ref f))) (ht:PySem.W.isFn K (.ref f) = true) (hv:mA name = none) (h:Q (.ref f,[.ref x]) s) :
  wpAny (model prog w) A (getMethod (.ref x) name pl) Q E s:=by
 obtain ⟨od,J,hl⟩:=I.look
 exact PySem.W.method_fn X J (PySem.W.plainGet_of hg).1 (PySem.W.plainGet_of hg).2 hf (beq_iff_eq.mp ht) (by show (PySem.W.lookIn name od).map (·.isSome) = some false; rw [hl,hv]; rfl) h
theorem jxh {ns:List Str} {Q:Unit->Shared->Prop} (X:K.In s.heap) (I:ObjM s.heap x dx C mA)
  (hs:PySem.W.findIn K (.ref C) "__setattr__" = some (some (.builtin "object.__setattr__"))) (hp:PySem.W.plainOver K C = true) (ht:PySem.W.takerIn K C name = some none) (hh:PySem.W.hasDictIn K C = true)
  (hw:PySem.Within mA ns) (hsz:ns.length ≤ sizeLine)
  (h:∀ h',ObjM h' x dx C (fun y=>if y = name then some v else mA y)->Heap.SameBut dx s.heap h'->Q () { s with heap:=h',toks:=s.toks + 2 }) :
  wpAny (model prog w) A (setAttr (.ref x) name v) Q E s:=by
 obtain ⟨od,J,hl⟩:=I.look
 refine PySem.W.set_plain X J hs (PySem.W.osa_open (s:={ s with toks:=s.toks + 1 }) (r:=none) X J hp ht fun b=>?_)
 obtain ⟨cd,hc,hd'⟩:=PySem.W.any_some hh
 have hx:s.heap.get? x = some ⟨.ref C,some dx,.plain,#[]⟩:=I.obj
 refine wpAny_bind (wpAny_pure (wpAny_bind (wpAny_bind (wpAny_loadPart hx (wpAny_bind (PySem.W.Looks.here (s:={ s with toks:=s.toks + 1 }) (PySem.W.looks_clsIn X hc) ?_))))))
 rw [hd']
 refine wpAny_pure (a:=some dx) (wpAny_bind (wpAny_pure (wpAny_bind ?_)))
 refine wpAny_nsSet1 (s:={ s with toks:=s.toks + 1 }) I.ns fun h' hn2 hs2=>?_
 obtain ⟨oD,esD,epD,hoD,hdD,hcD⟩:=hn2.count (PySem.Within.cons name v hw)
 refine wpAny_bind (wpAny_lookBehind hoD (by rw [hdD]; exact pastItsLine_dict (Nat.le_trans hcD (by rw [List.length_cons]; omega))) ?_)
 exact wpAny_pure (h _ ⟨(hs2.2 _ (Ne.symm I.ne)).trans I.obj,hn2,I.ne⟩ hs2)
theorem jvD {R:Result->Shared->Prop} {vs:List Value} {kw:List (Str × Value)} (X:K.In s.heap) (hm:PySem.W.makesIn K C = true)
  (hi:PySem.W.findIn K (.ref C) "__init__" = some (some (.ref f))) (hf:PySem.W.typeIn K (.ref f) = some (.type "function"))
  (h:codeAny (model prog w) (A.under (.builtin "type.__call__" ⟨.ref C :: vs,kw⟩)) (.call (.ref f) ⟨.ref (s.heap.objs.size + 1) :: vs,kw⟩) (PySem.W.InitBack (s.heap.objs.size + 1) R)
   { s with heap:=(s.heap.push PySem.W.emptyDict).push (PySem.W.instObj C s.heap.objs.size) }) :
  codeAny (model prog w) A (.call (.ref C) ⟨vs,kw⟩) R s:=by
 obtain ⟨hh,g,d,t,os⟩:=s
 exact PySem.W.make_core (PySem.W.makes_of X hm) (PySem.W.looks_findIn X hi) (fun self=>PySem.W.bind_fn X self hf) (.inl rfl) h
end
def jcm (f:Str) (v:V):List (Str × V)->List (Str × V)
 | []=>[(f,v)]
 | (g,x) :: r=>if g = f then (g,v) :: r else (g,x) :: jcm f v r
theorem jj1 (f g:Str) (v:V):∀ fs:List (Str × V),(jcm f v fs).lookup g = if g = f then some v else fs.lookup g
 | []=>by
  show List.lookup g [(f,v)] = _
  by_cases h:g = f
  ·have hb:(g == f) = true:=beq_iff_eq.mpr h
   simp only [List.lookup,hb,if_pos h]
  ·have hb:(g == f) = false:=beq_eq_false_iff_ne.mpr h
   simp only [List.lookup,hb,if_neg h]
 | (k,x) :: r=>by
  have ih:=jj1 f g v r
  rw [show jcm f v ((k,x) :: r) = (if k = f then (k,v) :: r else (k,x) :: jcm f v r) from rfl]
  by_cases hk:k = f
  ·rw [if_pos hk]
   by_cases h:g = k
   ·have hb:(g == k) = true:=beq_iff_eq.mpr h
    simp only [List.lookup,hb,if_pos (h.trans hk)]
   ·have hb:(g == k) = false:=beq_eq_false_iff_ne.mpr h
    simp only [List.lookup,hb,if_neg (fun e:g = f=>h (e.trans hk.symm))]
  ·rw [if_neg hk]
   by_cases h:g = k
   ·have hb:(g == k) = true:=beq_iff_eq.mpr h
    simp only [List.lookup,hb,if_neg (fun e:g = f=>hk (h.symm.trans e))]
   ·have hb:(g == k) = false:=beq_eq_false_iff_ne.mpr h
    simp only [List.lookup,hb]
    exact ih
theorem jiQ (f:Str) (v:V):∀ fs:List (Str × V),f ∈ (jcm f v fs).map (·.1)∧∀ g,g ∈ fs.map (·.1)->g ∈ (jcm f v fs).map (·.1)
 | []=>⟨by simp [jcm],fun g h=>by simp at h⟩
 | (k,x) :: r=>by
  obtain ⟨i1,i2⟩:=jiQ f v r
  rw [show jcm f v ((k,x) :: r) = (if k = f then (k,v) :: r else (k,x) :: jcm f v r) from rfl]
  by_cases hk:k = f
  ·rw [if_pos hk]
   subst hk
   exact ⟨by simp,fun g h=>by simpa using h⟩
  ·rw [if_neg hk]
   refine ⟨?_,fun g h=>?_⟩
   ·rw [List.map_cons]
    exact List.mem_cons_of_mem _ i1
   ·rw [List.map_cons] at h ⊢
    rcases List.mem_cons.mp h with e | e
    ·exact List.mem_cons.mpr (.inl e)
    ·exact List.mem_cons_of_mem _ (i2 g e)
theorem jke (f:Str) (v:V):∀ fs:List (Str × V),(jcm f v fs).length ≤ fs.length + 1
 | []=>by simp [jcm]
 | (k,x) :: r=>by
  have ih:=jke f v r
  rw [show jcm f v ((k,x) :: r) = (if k = f then (k,v) :: r else (k,x) :: jcm f v r) from rfl]
  by_cases hk:k = f
  ·rw [if_pos hk,List.length_cons,List.length_cons]; omega
  ·rw [if_neg hk,List.length_cons,List.length_cons]; omega
theorem RelO.some_of {v:V} {o:Option Value} (r:RelO (some v) o):∃ u,o = some u∧RelV v u:=by
 cases o with
 | none=>exact (show False from r).elim
 | some u=>exact ⟨u,rfl,r⟩
theorem RelO.none_of {o:Option Value} (r:RelO none o):o = none:=by
 cases o with
 | none=>rfl
 | some u=>exact (show False from r).elim
theorem juh {v:V} {u:Value} (r:RelV v u):PySem.W.handedIn u = true:=by
 cases v with
 | non=>cases (show u = Value.none from r); rfl
 | bl b=>cases (show u = Value.bool b from r); rfl
 | int i=>obtain ⟨t,e⟩:=(show ∃ t,u = Value.int i t from r); cases e; rfl
 | str x=>obtain ⟨t,e⟩:=(show ∃ t,u = Value.str x t from r); cases e; rfl
 | byt b=>obtain ⟨t,e⟩:=(show ∃ t,u = Value.bytes b t from r); cases e; rfl
 | flt b=>obtain ⟨t,e⟩:=(show ∃ t,u = Value.float b t from r); cases e; rfl
 | ref a=>cases (show u = Value.ref a from r); rfl
 | ty n=>cases (show u = Value.type n from r); rfl
section
variable {P:Program} {w:World} {H H':Hp} {h h':Heap} {a C dx:Addr} {fs fs':List (Str × V)}
theorem jjy (hok:HOk P w H h) (e:H a = some (.ins C dx fs)):∃ mA,ObjM h a dx C mA∧(∀ f,RelO (fs.lookup f) (mA f))∧PySem.Within mA (fs.map (·.1))∧fs.length ≤ 1000∧H dx = some (.own a):=by
 obtain ⟨d,z,ne,ob,mA,n,r,q⟩:=(show ObjOk P w H h a (.ins C dx fs) from hok a _ e)
 exact ⟨mA,⟨ob,n,ne⟩,r,q,z,d⟩
end
structure Cls (K:PySem.W.Frag) (C:Addr):Prop where
 pg:PySem.W.plainGet K C Str.empty = true
 hd:PySem.W.hasDictIn K C = true
 po:PySem.W.plainOver K C = true
 sa:PySem.W.findIn K (.ref C) "__setattr__" = some (some (.builtin "object.__setattr__"))
theorem Cls.get {K:PySem.W.Frag} {C:Addr} (c:Cls K C) (f:Str):PySem.W.plainGet K C f = true:=c.pg
def NoAttr (K:PySem.W.Frag) (C:Addr) (f:Str):Prop:=PySem.W.findIn K (.ref C) f = some none
theorem NoAttr.taker {K:PySem.W.Frag} {C:Addr} {f:Str} (n:NoAttr K C f):PySem.W.takerIn K C f = some none:=by
 unfold PySem.W.takerIn
 rw [show PySem.W.findIn K (.ref C) f = some none from n]
 rfl
structure jK (K:PySem.W.Frag) (C:Addr) (f:Str) (v:V) (u:Value):Prop where
 at_:PySem.W.findIn K (.ref C) f = some (some u)
 rel:RelV v u
 get:PySem.W.specialIn K u "__get__" = some none
 cp:PySem.W.copiedNames.contains f = false
structure jm3 (K:PySem.W.Frag) (C:Addr) (m:Str) (f:Addr):Prop where
 at_:PySem.W.findIn K (.ref C) m = some (some (.ref f))
 fn:PySem.W.isFn K (.ref f) = true
 kp:PySem.W.keepIn K (.ref f) = true
section
variable {X:Cx} {pins:List (Addr × Obj)} {σ:St} {H:Hp} {s:Shared} {a C dx:Addr} {fs:List (Str × V)} {f:Str} {v:V} {A:Around} {E:Value->Shared->Prop}
theorem jsU {b:Bool} {Q:Value->Shared->Prop} (I:Inv X pins σ H s) (e:H a = some (.ins C dx fs)) (c:Cls X.K C) (n:NoAttr X.K C f) (l:fs.lookup f = some v)
  (h:∀ u s',Inv X pins σ H s'->RelV v u->Q u s'):wpAny (model X.prog X.w) A (getAttr (.ref a) f b) Q E s:=by
 obtain ⟨mA,O,r,_,_,_⟩:=jjy I.hok e
 obtain ⟨u,hu,ru⟩:=RelO.some_of (v:=v) (o:=mA f) (by rw [← l]; exact r f)
 exact jw9 I.kIn O (c.get f) c.hd n hu (juh ru) (h u _ (I.tok _) ru)
theorem jgY {m:Str} {g:Addr} {pl:Sem Bool} {Q:Value × List Value->Shared->Prop} (I:Inv X pins σ H s) (e:H a = some (.ins C dx fs)) (c:Cls X.K C) (k:jm3 X.K C m g) (l:fs.lookup m = none)
  (h:Q (.ref g,[.ref a]) s):wpAny (model X.prog X.w) A (getMethod (.ref a) m pl) Q E s:=by
 obtain ⟨mA,O,r,_,_,_⟩:=jjy I.hok e
 have hn:mA m = none:=RelO.none_of (by rw [← l]; exact r m)
 exact juU I.kIn O (c.get m) k.at_ k.fn hn h
theorem jr2 {y:V} {u:Value} {Q:Unit->Shared->Prop} (I:Inv X pins σ H s) (e:H a = some (.ins C dx fs)) (c:Cls X.K C) (n:NoAttr X.K C f) (hl:fs.length < 1000) (ry:RelV y u)
  (h:∀ s',Inv X pins σ (jG H a (.ins C dx (jcm f y fs))) s'->Q () s'):wpAny (model X.prog X.w) A (setAttr (.ref a) f u) Q E s:=by
 obtain ⟨mA,O,r,wi,_,ho⟩:=jjy I.hok e
 have hz:(fs.map (·.1)).length ≤ sizeLine:=by rw [List.length_map,sizeLine_eq]; omega
 refine jxh I.kIn O c.sa c.po n.taker c.hd wi hz fun h' O' sb=>h _ ?_
 have hd:∃ o,h'.get? dx = some o:=let ⟨o,_,_,e',_⟩:=O'.ns; ⟨o,e'⟩
 refine I.write (x:=a) (e:=dx) (by rw [e]; exact True.intro) (.inr ho) (fun b q hb z=>(sb.2 b hb).trans z) hd ?_
 refine ⟨by rw [jy O.ne]; exact ho,?_,O.ne,O'.obj,_,O'.ns,fun g=>?_,fun g hg=>?_⟩
 ·have:=jke f y fs; omega
 ·show RelO ((jcm f y fs).lookup g) (if g = f then some u else mA g)
  rw [jj1]
  by_cases q:g = f
  ·rw [if_pos q,if_pos q]; exact ry
  ·rw [if_neg q,if_neg q]; exact r g
 ·by_cases q:g = f
  ·rw [q]; exact (jiQ f y fs).1
  ·refine (jiQ f y fs).2 g (wi g fun z=>hg ?_)
   show (if g = f then some u else mA g) = none
   rw [if_neg q]; exact z
theorem Inv.made (I:Inv X pins σ H s):Inv X pins σ (jG (jG H s.heap.objs.size (.own (s.heap.objs.size + 1))) (s.heap.objs.size + 1) (.ins C s.heap.objs.size []))
  { s with heap:=(s.heap.push PySem.W.emptyDict).push (PySem.W.instObj C s.heap.objs.size) }:=by
 have e1:(s.heap.push PySem.W.emptyDict).get? s.heap.objs.size = some PySem.W.emptyDict:=Heap.get?_push_size s.heap rfl
 have e2:((s.heap.push PySem.W.emptyDict).push (PySem.W.instObj C s.heap.objs.size)).get? (s.heap.objs.size + 1) = some (PySem.W.instObj C s.heap.objs.size):=by
  have:=Heap.get?_push_size (s.heap.push PySem.W.emptyDict) (o:=PySem.W.instObj C s.heap.objs.size) rfl
  rwa [Heap.size_push] at this
 have e3:(s.heap.push PySem.W.emptyDict).Ns s.heap.objs.size (fun _=>none):=⟨PySem.W.emptyDict,#[],_,e1,rfl,(fun e he=>absurd he (by simp)),fun _=>rfl⟩
 have I1:=I.laid (a:=s.heap.objs.size) (o:=.own (s.heap.objs.size + 1)) (h':=s.heap.push PySem.W.emptyDict) (t':=s.toks) (fun b u q=>Heap.get?_push_of_some _ q) (Nat.le_refl _) ⟨_,e1⟩
 refine I1.laid (a:=s.heap.objs.size + 1) (o:=.ins C s.heap.objs.size []) (t':=s.toks) (fun b u q=>Heap.get?_push_of_some _ q) (Nat.le_of_eq (Heap.size_push _ _)) ?_
 have ne:s.heap.objs.size ≠ s.heap.objs.size + 1:=Nat.ne_of_lt (Nat.lt_succ_self _)
 refine ⟨by rw [jy ne,jW],Nat.zero_le _,ne,e2,fun _=>none,(Heap.Ns1.of_empty e3).at fun o q=>Heap.get?_push_of_some _ q,fun _=>True.intro,fun y hy=>absurd rfl hy⟩
theorem jw6 {prog:Program} {w:World} {env:Env} {e:Expr} {f:Str} {pos:Pos} {s:Shared} {Q:Value->Shared->Prop} (hb:attributeBase e f env (eval e env) = eval e env)
  (h:wpAny (model prog w) A (eval e env) (fun o s₁=>wpAny (model prog w) A (getAttr o f true) Q E s₁) E s):wpAny (model prog w) A (eval (.Attribute e f pos) env) Q E s :=
 Attribute_any_ h (by rw [arm_eval_Attribute,hb])
end
def jA4 (K:PySem.W.Frag) (ta:TE) (f:Str):TE:=fun σ H Q=>ta σ H fun x H1=>∃ a C dx fs v,x = .ref a∧H1 a = some (.ins C dx fs)∧Cls K C∧NoAttr K C f∧fs.lookup f = some v∧Q v H1
def jAG (K:PySem.W.Frag) (ta tv:TE) (f:Str):TS:=fun D σ H=>tv σ H fun y H1=>ta σ H1 fun x H2=>∃ a C dx fs,x = .ref a∧H2 a = some (.ins C dx fs)∧Cls K C∧NoAttr K C f∧fs.length < 1000 ∧
 D.nx σ (jG H2 a (.ins C dx (jcm f y fs)))
section
variable {X:Cx} {o e value:Expr} {f:Str} {pos pos' tpos:Pos} {ta tv:TE}
theorem jyc (he:PE X e ta) (hb:attributeBase e f X.env (eval e X.env) = eval e X.env):PE X (.Attribute e f pos) (jA4 X.K ta f):=by
 intro pins s σ H Q I h
 refine jw6 hb (jF (he pins s σ H _ I h) fun u s1 qZ=>?_)
 obtain ⟨x,H1,I1,rx,a,C,dx,fs,v,ex,ea,c,n,l,q⟩:=qZ
 subst ex
 obtain rfl:u = Value.ref a:=rx
 exact jsU I1 ea c n l fun u' s2 I2 ru=>⟨v,H1,I2,ru,q⟩
theorem jyt (ha:PE X o ta) (hv:PE X value tv) (hs:swapsWith value (some (.Attribute o f pos')) pos.line X.env = pure false):PS X (.Assign [.Attribute o f pos'] value pos) (jAG X.K ta tv f):=by
 intro pins s σ H D I h
 refine plainObj_wpAny_Assign_Attribute (jF (hv pins s σ H _ I h) fun u s1 ⟨y,H1,I1,ry,q⟩=>jF (ha pins s1 σ H1 _ I1 q) fun ov s2 qZ=>?_) hs
 obtain ⟨x,H2,I2,rx,a,C,dx,fs,ex,ea,c,n,l,q2⟩:=qZ
 subst ex
 obtain rfl:ov = Value.ref a:=rx
 exact jr2 I2 ea c n l ry fun s3 I3=>⟨σ,_,I3,q2⟩
end
section
variable {X:Cx} {pins:List (Addr × Obj)} {σ:St} {H:Hp} {s:Shared} {A:Around} {E:Value->Shared->Prop} {Q:Value->Shared->Prop} {c:Value} {b:Bool}
inductive jef (K:PySem.W.Frag) (H:Hp):V->Value->Prop where
 | non:jef K H .non (.type "NoneType")
 | bl (x:Bool):jef K H (.bl x) (.type "bool")
 | int (i:Int):jef K H (.int i) (.type "int")
 | str (x:Str):jef K H (.str x) (.type "str")
 | flt (x:UInt64):jef K H (.flt x) (.type "float")
 | lst {a:Addr} {xs:List V} (e:H a = some (.lst xs)):jef K H (.ref a) (.type "list")
 | frz {a:Addr} {o:Obj} {xs:List V} (e:H a = some (.frz o (.lst xs))):jef K H (.ref a) (.type "list")
 | tup {a:Addr} {xs:List V} (e:H a = some (.tup xs)):jef K H (.ref a) (.type "tuple")
 | dK {a:Addr} {kvs:List (j7 × V)} (e:H a = some (.dK kvs)):jef K H (.ref a) (.type "dict")
 | dT {a:Addr} {kvs:List (List j7 × V)} (e:H a = some (.dT kvs)):jef K H (.ref a) (.type "dict")
 | ins {a C dx:Addr} {fs:List (Str × V)} (e:H a = some (.ins C dx fs)) (cl:Cls K C) (ha:PySem.W.findIn K (.ref C) "__class__" = some (some (.builtin "object.__class__")))
   (hn:PySem.W.specialIn K (.builtin "object.__class__") "__get__" = some (some (.builtin "getset_descriptor.__get__"))) (htk:PySem.W.takesIn K (.builtin "object.__class__") = some true)
   (hm:PySem.W.mroIn K C (.type "object") = some true):jef K H (.ref a) (.ref C)
theorem jfn {x:V} {u t:Value} (I:Inv X pins σ H s) (rx:RelV x u) (ty:jef X.K H x t) (e:PySem.W.kitOne X.K t c = some b) (h:∀ tk,Q (.bool b) { s with toks:=tk }) :
  wpAny (model X.prog X.w) A (call (.builtin "isinstance") [u,c]) Q E s:=by
 cases ty with
 | non=>cases (show u = Value.none from rx); exact PySem.W.kia_one PySem.W.kitx_none I.kIn True.intro e (fun z=>by cases z) h
 | bl y=>cases (show u = Value.bool y from rx); exact PySem.W.kia_one PySem.W.kitx_bool I.kIn True.intro e (fun z=>by cases z) h
 | int i=>obtain ⟨t,q⟩:=(show ∃ t,u = Value.int i t from rx); cases q; exact PySem.W.kia_one PySem.W.kitx_int I.kIn True.intro e (fun z=>by cases z) h
 | str y=>obtain ⟨t,q⟩:=(show ∃ t,u = Value.str y t from rx); cases q; exact PySem.W.kia_one PySem.W.kitx_str I.kIn True.intro e (fun z=>by cases z) h
 | flt y=>obtain ⟨t,q⟩:=(show ∃ t,u = Value.float y t from rx); cases q; exact PySem.W.kia_one PySem.W.kitx_float I.kIn True.intro e (fun z=>by cases z) h
 | @lst a xs ea =>
  cases (show u = Value.ref a from rx)
  obtain ⟨_,_,n,_,h1⟩:=(show ObjOk X.prog X.w H s.heap a (.lst xs) from I.hok a _ ea)
  exact PySem.W.kia_one PySem.W.kitx_list I.kIn ⟨_,h1,rfl⟩ e (fun z=>by cases z) h
 | @frz a ob xs ea =>
  cases (show u = Value.ref a from rx)
  obtain ⟨_,_,_,n,_,h1⟩:=(show ObjOk X.prog X.w H s.heap a (.frz ob (.lst xs)) from I.hok a _ ea)
  exact PySem.W.kia_one PySem.W.kitx_list I.kIn ⟨_,h1,rfl⟩ e (fun z=>by cases z) h
 | @tup a xs ea =>
  cases (show u = Value.ref a from rx)
  obtain ⟨_,_,_,p⟩:=(show ObjOk X.prog X.w H s.heap a (.tup xs) from I.hok a _ ea)
  obtain ⟨o,h1,h2,_⟩:=p
  exact PySem.W.kia_one PySem.W.kitx_tuple I.kIn ⟨o,h1,h2⟩ e (fun z=>by cases z) h
 | @dK a kvs ea =>
  cases (show u = Value.ref a from rx)
  obtain ⟨_,_,vs,_,p⟩:=(show ObjOk X.prog X.w H s.heap a (.dK kvs) from I.hok a _ ea)
  obtain ⟨o,es,ep,h1,h2,_⟩:=p
  exact PySem.W.kia_one PySem.W.kitx_dict I.kIn ⟨o,h1,h2.1⟩ e (fun z=>by cases z) h
 | @dT a kvs ea =>
  cases (show u = Value.ref a from rx)
  obtain ⟨_,_,xs,_,o,es,ep,h1,h2,_⟩:=(show ObjOk X.prog X.w H s.heap a (.dT kvs) from I.hok a _ ea)
  exact PySem.W.kia_one PySem.W.kitx_dict I.kIn ⟨o,h1,h2.1⟩ e (fun z=>by cases z) h
 | @ins a C dx fs ea cl ha hn htk hm =>
  cases (show u = Value.ref a from rx)
  obtain ⟨mA,O,_⟩:=jjy I.hok ea
  obtain ⟨od,J,_⟩:=O.look
  exact PySem.W.kia_one (PySem.W.kitx_own (cl.get _) cl.hd ha hn htk hm) I.kIn J e (fun z=>by cases z) h
end
end L2
namespace L2
open PySem PySem.Spec PyProof.Rows
structure Room (k:Nat) (A:Around):Prop where
 hd:A.handled = none
 dp:A.depth + 3 * k + 5 < recursionLimit
 un:A.units + 16 * k + 200 < cLine
theorem Room.mono {j k:Nat} {A:Around} (r:Room k A) (h:j ≤ k):Room j A:=⟨r.hd,by have:=r.dp; omega,by have:=r.un; omega⟩
theorem Room.deeper {k:Nat} {A:Around} (r:Room (k + 1) A) (env:Env):Room k (A.deeper env) :=
 ⟨r.hd,by have:=r.dp; show A.depth + 1 + 3 * k + 5 < _; omega,by have:=r.un; show A.units + 3 + 16 * k + 200 < _; omega⟩
theorem Room.in1 {k:Nat} {A:Around} (r:Room (k + 1) A):Room k A.in1 :=
 ⟨r.hd,by have:=r.dp; show A.depth + 3 * k + 5 < _; omega,by have:=r.un; show A.units + 1 + 16 * k + 200 < _; omega⟩
theorem jsj {A:Around} {C:Addr} {us:List Value} {kw:List (Str × Value)}:(A.under (.builtin "type.__call__" ⟨.ref C :: us,kw⟩)).depth = A.depth + 1:=by
 first | rfl | simp [Around.under,Code.weight,Code.isCreation,Code.isGuard,Code.isCaller,Code.frames,Code.isFrame,guardIds]
theorem jse {A:Around} {C:Addr} {us:List Value} {kw:List (Str × Value)}:(A.under (.builtin "type.__call__" ⟨.ref C :: us,kw⟩)).units = A.units + 1:=by
 first | rfl | simp [Around.under,Code.cUnits,Code.frames,Code.isFrame]
theorem Room.make {k:Nat} {A:Around} (r:Room (k + 1) A) (C:Addr) (us:List Value) (kw:List (Str × Value)):Room k (A.under (.builtin "type.__call__" ⟨.ref C :: us,kw⟩)) :=
 ⟨r.hd,by have:=r.dp; rw [jsj]; omega,by have:=r.un; rw [jse]; omega⟩
theorem Room.depth {k:Nat} {A:Around} (r:Room k A):A.depth < recursionLimit:=by have:=r.dp; omega
theorem Room.units {k:Nat} {A:Around} (r:Room k A):A.units + 64 < cLine:=by have:=r.un; omega
def jmz:TA:=fun _ H Q=>Q [] H
def jor (ta:TE) (tr:TA):TA:=fun σ H Q=>ta σ H fun x H1=>tr σ H1 fun xs H2=>Q (x :: xs) H2
section
variable {X:Cx} {e:Expr} {es:List Expr} {te:TE} {t:TA} {pos:Pos}
theorem jcn:PA X [] jmz:=fun _ _ _ _ H Q I h=>Calls.spliced_nil ⟨[],H,I,.nil,h⟩
theorem jbe (ha:PE X e te) (hr:PA X es t) (hs:starEach (e :: es) X.env = (false,eval e X.env) :: starEach es X.env:=by rfl):PA X (e :: es) (jor te t):=by
 intro pos pins s σ H Q I h
 rw [hs]
 show wpAny _ _ (spliced ((false,eval e X.env) :: backTo pos (starEach es X.env))) _ _ s
 refine Calls.spliced_cons (jF (ha pins s σ H _ I h) fun u s1 qZ=>?_)
 obtain ⟨x,H1,I1,r1,q1⟩:=qZ
 exact jF (hr pos pins s1 σ H1 _ I1 q1) fun us s2 ⟨xs,H2,I2,r2,q2⟩=>⟨x :: xs,H2,I2,.cons r1 r2,q2⟩
def jAA (t:TA):TE:=fun σ H Q=>t σ H fun xs H1=>xs.length ≤ sizeLine∧∀ p,H1 p = none->Q (.ref p) (jG H1 p (.tup xs))
def jAN (t:TA):TE:=fun σ H Q=>t σ H fun xs H1=>xs.length ≤ sizeLine∧∀ p,H1 p = none->Q (.ref p) (jG H1 p (.lst xs))
theorem jyT {x1} (h:PA X es t):PE X (.Tuple es x1 pos) (jAA t):=by
 intro pins s σ H Q I hq
 refine wpAny_Tuple_spliced (jF (h pos pins s σ H _ I hq) fun us s1 ⟨xs,H1,I1,r,z,q⟩=>⟨by rw [← r.length]; exact z,?_⟩)
 have hf:H1 s1.heap.objs.size = none:=I1.hok.fresh (Nat.le_refl _)
 refine ⟨.ref s1.heap.objs.size,jG H1 s1.heap.objs.size (.tup xs),I1.laid (t':=s1.toks) (fun b u e=>Heap.get?_push_of_some _ e) (Nat.le_refl _) ?_,rfl,q _ hf⟩
 exact ⟨z,us,r,⟨_,Heap.get?_push_size _ rfl,rfl,_,rfl⟩⟩
theorem jts (h:PA X es t):PE X (.List es pos) (jAN t):=by
 intro pins s σ H Q I hq
 refine wpAny_List_spliced (jF (h pos pins s σ H _ I hq) fun us s1 ⟨xs,H1,I1,r,z,q⟩=>⟨by rw [← r.length]; exact z,?_⟩)
 have hf:H1 s1.heap.objs.size = none:=I1.hok.fresh (Nat.le_refl _)
 refine ⟨.ref s1.heap.objs.size,jG H1 s1.heap.objs.size (.lst xs),I1.laid (t':=s1.toks) (fun b u e=>Heap.get?_push_of_some _ e) (Nat.le_refl _) ?_,rfl,q _ hf⟩
 exact ⟨z,us,0,r,Heap.get?_push_size _ rfl⟩
end
abbrev Sp:=List V->Hp->VK->XK->Prop
abbrev CXT:=List Env->Hp->Shared->XK->Value->Shared->Prop
structure Env0 (P:Program) (w:World) (K:PySem.W.Frag) (mg:Str->Option Value) (base:Heap) (A:Around) (outer:List Env) (s:Shared) (H:Hp):Prop where
 frames:A.frames = some outer
 mod:Mod K mg base
 bs:∀ b o,base.get? b = some o->s.heap.get? b = some o∧H b = none
 bsz:base.objs.size ≤ s.heap.objs.size
 funs:s.heap.FunFrames base outer
 frf:∀ b ∈ frs outer,H b = none
 hok:HOk P w H s.heap
 bare:AllBare s.gens
def CE (outer:List Env) (P:Program) (w:World) (H:Hp) (s:Shared) (Q:VK) (u:Value) (s':Shared):Prop :=
 ∃ v H',s'.os = s.os∧AllBare s'.gens∧Un (frs outer) [] H H' s.heap s'.heap∧HOk P w H' s'.heap∧RelV v u∧Q v H'
def CR (CX:CXT) (outer:List Env) (P:Program) (w:World) (H:Hp) (s:Shared) (Q:VK) (E:XK) (r:Result) (s':Shared):Prop :=
 match r with
 | .ok (.ret u)=>CE outer P w H s Q u s'
 | .ok _=>False
 | .error e=>CX outer H s E e s'
structure FnOk (P:Program) (w:World) (K:PySem.W.Frag) (mg:Str->Option Value) (base:Heap) (CX:CXT) (k:Nat) (f:Addr) (fd:FuncData) (ps:List Str) (sp:Sp):Prop where
 len:∀ vs H Q E,sp vs H Q E->vs.length = ps.length
 run:∀ (A:Around) (outer:List Env) (s:Shared) (H:Hp) (args:Args) (us:List Value) (vs:List V) (Q:VK) (E:XK),Room k A->Env0 P w K mg base A outer s H->BindsTo s fd args (ps.zip us)->Vals vs us->sp vs H Q E ->
  codeAny (model P w) A (.call (.ref f) args) (CR CX outer P w H s Q E) s
theorem FnOk.mono {P:Program} {w:World} {K:PySem.W.Frag} {mg:Str->Option Value} {base:Heap} {CX:CXT} {j k:Nat} {f:Addr} {fd:FuncData} {ps:List Str} {sp:Sp} (F:FnOk P w K mg base CX j f fd ps sp) (h:j ≤ k) :
  FnOk P w K mg base CX k f fd ps sp:=⟨F.len,fun A outer s H args us vs Q E hr=>F.run A outer s H args us vs Q E (hr.mono h)⟩
theorem FnOk.imp {P:Program} {w:World} {K:PySem.W.Frag} {mg:Str->Option Value} {base:Heap} {CX:CXT} {k:Nat} {f:Addr} {fd:FuncData} {ps:List Str} {sp sp':Sp} (F:FnOk P w K mg base CX k f fd ps sp)
  (h:∀ vs H Q E,sp' vs H Q E->sp vs H Q E):FnOk P w K mg base CX k f fd ps sp' :=
 ⟨fun vs H Q E q=>F.len vs H Q E (h _ _ _ _ q),fun A outer s H args us vs Q E hr he hb hv hs=>F.run A outer s H args us vs Q E hr he hb hv (h _ _ _ _ hs)⟩
theorem Env0.make {P:Program} {w:World} {K:PySem.W.Frag} {mg:Str->Option Value} {base:Heap} {A:Around} {outer:List Env} {s:Shared} {H:Hp} (e:Env0 P w K mg base A outer s H) (C:Addr) (us:List Value) (kw:List (Str × Value)) :
  Env0 P w K mg base (A.under (.builtin "type.__call__" ⟨.ref C :: us,kw⟩)) outer s H:=⟨by first | exact e.frames | (simpa [Around.under,Code.envs,Code.isFrame,pushEnvs] using e.frames),e.mod,e.bs,e.bsz,e.funs,e.frf,e.hok,e.bare⟩
theorem Env0.in1 {P:Program} {w:World} {K:PySem.W.Frag} {mg:Str->Option Value} {base:Heap} {A:Around} {outer:List Env} {s:Shared} {H:Hp} (e:Env0 P w K mg base A outer s H) :
  Env0 P w K mg base A.in1 outer s H:=⟨e.frames,e.mod,e.bs,e.bsz,e.funs,e.frf,e.hok,e.bare⟩
section
variable {X:Cx} {pins:List (Addr × Obj)} {σ:St} {H:Hp} {s s':Shared}
theorem Inv.env0 (I:Inv X pins σ H s):Env0 X.prog X.w X.K X.mg X.base X.A X.stack s H :=
 ⟨I.ok.frames,I.ok.mod,I.bs,Nat.le_trans I.ok.bsz I.sz,I.stack,I.stkFree,I.hok,I.bare⟩
theorem Inv.after {Q:VK} {u:Value} (I:Inv X pins σ H s) (h:CE X.stack X.prog X.w H s Q u s'):EP X pins σ Q u s':=by
 obtain ⟨v,H',os,bare,un,hok,r,q⟩:=h
 obtain ⟨hh,g,d,t,os'⟩:=s'
 obtain rfl:os' = s.os:=os
 exact ⟨v,H',I.call (h':=hh) (g':=g) (d':=d) (t':=t) (ch:=[]) un hok bare (fun b z=>absurd z (by simp)),r,q⟩
end
def jAa (sp:Sp) (dvs:List V) (E:XK) (t:TA):TE:=fun σ H Q=>t σ H fun vs H1=>sp (vs ++ dvs) H1 Q E
def jsq (C:Addr) (m:Str) (sp:Sp) (dvs:List V) (E:XK) (ta:TE) (t:TA):TE:=fun σ H Q=>ta σ H fun x H1=>∃ a dx fs,x = .ref a∧H1 a = some (.ins C dx fs)∧fs.lookup m = none ∧
 t σ H1 fun vs H2=>sp (x :: (vs ++ dvs)) H2 Q E
def jv5 (C:Addr) (sp:Sp) (dvs:List V) (E:XK) (t:TA):TE:=fun σ H Q=>t σ H fun vs H1=>∀ x dx,H1 x = none->H1 dx = none->dx ≠ x ->
 sp (.ref x :: (vs ++ dvs)) (jG (jG H1 dx (.own x)) x (.ins C dx [])) (fun v H2=>v = .non∧Q (.ref x) H2) E
def Binds (K:PySem.W.Frag) (fd:FuncData) (ps:List Str) (ds:List Value):Prop :=
 ∀ (s:Shared) (us:List Value),K.In s.heap->(us ++ ds).length = ps.length->BindsTo s fd ⟨us,[]⟩ (ps.zip (us ++ ds))
theorem Binds.all {K:PySem.W.Frag} {fd:FuncData} {ps:List Str} (h:∀ us:List Value,us.length = ps.length->bindArgs fd ⟨us,[]⟩ = pure (ps.zip us)):Binds K fd ps []:=fun s us _ hl=>by
 rw [List.append_nil] at hl ⊢
 exact .of_eq (h us hl)
def jgd (CX:CXT) (X:Cx) (E:XK):Prop:=∀ (pins:List (Addr × Obj)) (σ:St) (H:Hp) (s:Shared) (e:Value) (s':Shared),Inv X pins σ H s->CX X.stack H s E e s'->X.xe e s'
section
variable {X:Cx} {CX:CXT} {k:Nat} {f C:Addr} {fd:FuncData} {ps:List Str} {sp:Sp} {dvs:List V} {ds:List Value} {E:XK} {x m:Str} {p pos apos:Pos} {e o:Expr} {es:List Expr} {ta:TE} {t:TA}
theorem joI {pins:List (Addr × Obj)} {σ:St} {H:Hp} {s:Shared} {Q:VK} {us:List Value} {vs:List V} (F:FnOk X.prog X.w X.K X.mg X.base CX k f fd ps sp) (hr:Room k X.A) (hb:Binds X.K fd ps ds) (hd:Vals dvs ds) (hx:jgd CX X E)
  (I:Inv X pins σ H s) (r:Vals vs us) (h:sp (vs ++ dvs) H Q E):wpAny (model X.prog X.w) X.A (call (.ref f) us) (EP X pins σ Q) X.xe s:=by
 have r2:Vals (vs ++ dvs) (us ++ ds):=r.append hd
 have hl:(us ++ ds).length = ps.length:=by rw [← r2.length]; exact F.len _ _ _ _ h
 refine wpAny_call (codeAny_mono (F.run X.A X.stack s H ⟨us,[]⟩ (us ++ ds) (vs ++ dvs) Q E hr I.env0 (hb s us I.kIn hl) r2 h) fun r s' hq=>?_)
 cases r with
 | error e=>exact hx pins σ H s e s' I hq
 | ok fl =>
  cases fl with
  | ret u=>exact I.after hq
  | next=>exact False.elim hq
  | brk=>exact False.elim hq
  | cont=>exact False.elim hq
theorem jms (F:FnOk X.prog X.w X.K X.mg X.base CX k f fd ps sp) (hr:Room k X.A) (hg:Gl X x) (hm:X.mg x = some (.ref f)) (hk:PySem.W.keepIn X.K (.ref f) = true) (hb:Binds X.K fd ps ds) (hd:Vals dvs ds) (hx:jgd CX X E)
  (ha:PA X (e :: es) t) (hdb:(x == ("__debug__":Str)) = false:=by decide) (he:starEach (e :: es) X.env = (false,eval e X.env) :: starEach es X.env:=by rfl) (hpl:(backTo pos (starEach es X.env)).any (·.1) = false:=by rfl) :
  PE X (.Call (.Name x p) (e :: es) [] pos) (jAa sp dvs E t):=by
 intro pins s σ H Q I h
 refine wpAny_Call_Name_kw (jdv I hg hm ?_ hdb)
 refine PySem.W.callWith_K (h₀:=X.base) I.ok.mod.kin hk (jF (ha pos pins s σ H _ I h) fun us s1 ⟨vs,H1,I1,r,q⟩=>⟨I1.kIn,?_⟩) he hpl
 exact joI F hr hb hd hx I1 r q
theorem jgK {pl:Sem Bool} (he:PE X o ta) (c:Cls X.K C) (hm:jm3 X.K C m f) (F:FnOk X.prog X.w X.K X.mg X.base CX k f fd ps sp) (hr:Room k X.A) (hb:Binds X.K fd ps ds) (hd:Vals dvs ds) (hx:jgd CX X E) (ha:PA X (e :: es) t)
  (hst:starEach (e :: es) X.env = (false,eval e X.env) :: starEach es X.env:=by rfl) (hpl:(backTo pos (starEach es X.env)).any (·.1) = false:=by rfl)
  (ht:eval (.Call (.Attribute o m apos) (e :: es) [] pos) X.env = (do
   let ov ← eval o X.env
   standAt apos.atName
   let (f,first) ← holding [ov] (getMethod ov m pl)
   callWith pos f first (backTo pos (starEach (e :: es) X.env)) (backToKw pos (keywordEach [] X.env))):=by rfl) :
  PE X (.Call (.Attribute o m apos) (e :: es) [] pos) (jsq C m sp dvs E ta t):=by
 intro pins s σ H Q I h
 refine PySem.W.methodCall_KW (pl:=pl) (jF (he pins s σ H _ I h) fun u s1 qZ=>?_) ht
 obtain ⟨x,H1,I1,rx,a,dx,fs,ex,ea,l,q⟩:=qZ
 subst ex
 obtain rfl:u = Value.ref a:=rx
 refine jgY I1 ea c hm l ?_
 refine PySem.W.callWith_K (first:=[.ref a]) (h₀:=X.base) I.ok.mod.kin hm.kp (jF (ha pos pins s1 σ H1 _ I1 q) fun us s2 ⟨vs,H2,I2,r,q2⟩=>⟨I2.kIn,?_⟩) hst hpl
 exact joI (us:=.ref a :: us) (vs:=.ref a :: vs) F hr hb hd hx I2 (.cons rfl r) q2
structure Mk (K:PySem.W.Frag) (C f:Addr):Prop where
 makes:PySem.W.makesIn K C = true
 init:PySem.W.findIn K (.ref C) "__init__" = some (some (.ref f))
 fn:PySem.W.isFn K (.ref f) = true
 kp:PySem.W.keepIn K (.ref C) = true
theorem jvu {pins:List (Addr × Obj)} {σ:St} {H:Hp} {s:Shared} {Q:VK} {us:List Value} {vs:List V} (M:Mk X.K C f) (F:FnOk X.prog X.w X.K X.mg X.base CX k f fd ps sp) (hr:Room (k + 1) X.A) (hb:Binds X.K fd ps ds) (hd:Vals dvs ds)
  (hx:jgd CX X E) (I:Inv X pins σ H s) (r:Vals vs us)
  (h:∀ x dx,H x = none->H dx = none->dx ≠ x->sp (.ref x :: (vs ++ dvs)) (jG (jG H dx (.own x)) x (.ins C dx [])) (fun v H2=>v = .non∧Q (.ref x) H2) E) :
  wpAny (model X.prog X.w) X.A (call (.ref C) us) (EP X pins σ Q) X.xe s:=by
 have hq:=h (s.heap.objs.size + 1) s.heap.objs.size (I.hok.fresh (Nat.le_succ _)) (I.hok.fresh (Nat.le_refl _)) (Nat.ne_of_lt (Nat.lt_succ_self _))
 have I2:=Inv.made (C:=C) I
 have r2:Vals (V.ref (s.heap.objs.size + 1) :: (vs ++ dvs)) (Value.ref (s.heap.objs.size + 1) :: (us ++ ds)):=.cons rfl (r.append hd)
 have hl:(Value.ref (s.heap.objs.size + 1) :: us ++ ds).length = ps.length:=by
  have e:=r2.length
  rw [F.len _ _ _ _ hq] at e
  exact e.symm
 refine wpAny_call (jvD (f:=f) I.kIn M.makes M.init (beq_iff_eq.mp M.fn) (codeAny_mono (F.run _ X.stack _ _ ⟨Value.ref (s.heap.objs.size + 1) :: us,[]⟩ (Value.ref (s.heap.objs.size + 1) :: (us ++ ds)) _ _ E (hr.make C us [])
  (I2.env0.make C us []) (hb _ (Value.ref (s.heap.objs.size + 1) :: us) I2.kIn hl) r2 hq) fun r s' hq'=>?_))
 cases r with
 | error e=>exact hx pins σ _ _ e s' I2 hq'
 | ok fl =>
  cases fl with
  | ret u =>
   obtain ⟨v,H',I3,rv,ev,q3⟩:=I2.after hq'
   subst ev
   exact ⟨rv,⟨V.ref (s.heap.objs.size + 1),H',I3,rfl,q3⟩⟩
  | next=>exact False.elim hq'
  | brk=>exact False.elim hq'
  | cont=>exact False.elim hq'
theorem jqg (M:Mk X.K C f) (F:FnOk X.prog X.w X.K X.mg X.base CX k f fd ps sp) (hr:Room (k + 1) X.A) (hg:Gl X x) (hm:X.mg x = some (.ref C)) (hb:Binds X.K fd ps ds) (hd:Vals dvs ds) (hx:jgd CX X E)
  (hdb:(x == ("__debug__":Str)) = false:=by decide):PE X (.Call (.Name x p) [] [] pos) (jv5 C sp dvs E jmz):=by
 intro pins s σ H Q I h
 refine wpAny_Call_Name_kw (jdv I hg hm ?_ hdb)
 exact PySem.W.callWith_K0 I.kIn M.kp (jvu (us:=[]) M F hr hb hd hx I .nil h)
end
def PK (X:Cx) (kws:List Keyword) (t:TA):Prop :=
 ∀ (pos:Pos) (pins:List (Addr × Obj)) (s:Shared) (σ:St) (H:Hp) (Q:List V->Hp->Prop),Inv X pins σ H s->t σ H Q->wpAny (model X.prog X.w) X.A (evalAll ((backToKw pos (keywordEach kws X.env)).map (·.2))) (AP X pins σ Q) X.xe s
section
variable {X:Cx} {CX:CXT} {k:Nat} {f C:Addr} {fd:FuncData} {ps ks:List Str} {sp:Sp} {E:XK} {x m:Str} {p pos apos kpos:Pos} {e o:Expr} {es:List Expr} {kws:List Keyword} {te ta:TE} {t tk:TA} {nm:Option Str}
theorem jzu:PK X [] jmz:=fun _ _ _ _ H Q I h=>wpAny_evalAll_nil ⟨[],H,I,.nil,h⟩
theorem jxg (ha:PE X e te) (hr:PK X kws t):PK X (⟨nm,e,kpos⟩ :: kws) (jor te t):=by
 intro pos pins s σ H Q I h
 show wpAny _ _ (evalAll ((do let v ← eval e X.env; standAt pos; pure v) :: (backToKw pos (keywordEach kws X.env)).map (·.2))) _ _ s
 refine wpAny_evalAll_cons (wpAny_bind (jF (ha pins s σ H _ I h) fun u s1 ⟨x,H1,I1,r1,q1⟩=>wpAny_bind (wpAny_standAt (wpAny_pure ?_))))
 exact jF (hr pos pins s1 σ H1 _ I1 q1) fun us s2 ⟨xs,H2,I2,r2,q2⟩=>⟨x :: xs,H2,I2,.cons r1 r2,q2⟩
variable {g:List Value->List Value->List Value} {gV:List V->List V->List V}
end
structure ju (N P:List Str) (sc:Scope):Prop where
 kind:sc.kind = .function
 co:sc.isCoroutine = false
 gen:sc.isGenerator = false
 nd:N.Nodup
 pre:N.take P.length = P
 par:∀ x ∈ P,sc.names.lookup x = some .local ∨ sc.names.lookup x = some .cell
 nofree:∀ y ∈ sc.names,y.2 ≠ .free
theorem jnr {kindOf:Str->Option NameKind} {x:Str}:∀ {binds:List (Str × Value)} {m:Str->Option Value},(∀ v,(x,v) ∉ binds)->bindL kindOf binds m x = m x
 | [],_,_=>rfl
 | (n,v) :: r,m,h=>by
  unfold bindL
  rw [jnr fun w hw=>h w (List.mem_cons_of_mem _ hw)]
  split
  ·have:x ≠ n:=by rintro rfl; exact h v List.mem_cons_self
   simp [this]
  ·rfl
theorem jnS {kindOf:Str->Option NameKind} {x:Str}:∀ {binds:List (Str × Value)} {m:Str->Option Value},(∀ v,(x,v) ∉ binds)->bindC kindOf binds m x = m x
 | [],_,_=>rfl
 | (n,v) :: r,m,h=>by
  unfold bindC
  rw [jnS fun w hw=>h w (List.mem_cons_of_mem _ hw)]
  split
  ·rfl
  ·have:x ≠ n:=by rintro rfl; exact h v List.mem_cons_self
   simp [this]
theorem jno {kindOf:Str->Option NameKind} {x:Str} {v:Value}:∀ {P:List Str} {vs:List Value} {i:Nat} {m:Str->Option Value},P.Nodup->P[i]? = some x->vs[i]? = some v->kindOf x = some .local ->
  bindL kindOf (P.zip vs) m x = some v
 | [],_,_,_,_,h,_,_=>by simp at h
 | _ :: _,[],_,_,_,_,h,_=>by simp at h
 | p :: P,w :: vs,0,m,nd,h1,h2,hk=>by
  simp at h1 h2; subst h1; subst h2
  show bindL kindOf ((p,w) :: P.zip vs) m p = _
  unfold bindL
  rw [jnr fun v hv=>(List.nodup_cons.mp nd).1 (List.of_mem_zip hv).1,if_pos hk]
  simp
 | p :: P,w :: vs,i + 1,m,nd,h1,h2,hk=>by
  show bindL kindOf ((p,w) :: P.zip vs) m x = _
  unfold bindL
  exact jno (i:=i) (List.nodup_cons.mp nd).2 (by simpa using h1) (by simpa using h2) hk
theorem jnm {kindOf:Str->Option NameKind} {x:Str} {v:Value}:∀ {P:List Str} {vs:List Value} {i:Nat} {m:Str->Option Value},P.Nodup->P[i]? = some x->vs[i]? = some v->kindOf x ≠ some .local ->
  bindC kindOf (P.zip vs) m x = some v
 | [],_,_,_,_,h,_,_=>by simp at h
 | _ :: _,[],_,_,_,_,h,_=>by simp at h
 | p :: P,w :: vs,0,m,nd,h1,h2,hk=>by
  simp at h1 h2; subst h1; subst h2
  show bindC kindOf ((p,w) :: P.zip vs) m p = _
  unfold bindC
  rw [jnS fun v hv=>(List.nodup_cons.mp nd).1 (List.of_mem_zip hv).1,if_neg hk]
  simp
 | p :: P,w :: vs,i + 1,m,nd,h1,h2,hk=>by
  show bindC kindOf ((p,w) :: P.zip vs) m x = _
  unfold bindC
  exact jnm (i:=i) (List.nodup_cons.mp nd).2 (by simpa using h1) (by simpa using h2) hk
def jbc (N:List Str) (vs:List V):St:=vs.map some ++ List.replicate (N.length - vs.length) none
def jcW (CX:CXT) (P:Program) (w:World) (K:PySem.W.Frag) (mg:Str->Option Value) (base:Heap) (N:List Str) (qual:Str) (scope:Scope) (f:Addr) (cd:Value) (A:Around) (outer:List Env) (s:Shared) (H:Hp) (E:XK):Cx where
 prog:=P
 w:=w
 K:=K
 mg:=mg
 base:=base
 A:=A.deeper (envOfC qual scope s.heap.objs.size f cd)
 N:=N
 s₀:=s
 H₀:=H
 env:=envOfC qual scope s.heap.objs.size f cd
 outer:=outer
 stack:=envOfC qual scope s.heap.objs.size f cd :: outer
 ex:=[]
 calm:=true
 fn:=fun _=>true
 pn:=[]
 xe:=fun e s'=>wpAny (model P w) (A.deeper (envOfC qual scope s.heap.objs.size f cd)) (leaving (envOfC qual scope s.heap.objs.size f cd) e) (fun _ s''=>CX outer H s E e s'') (fun e' s''=>CX outer H s E e' s'') s'
theorem jqx {sc:Scope} {n:Nat} {x:Str} (h:sc.names.lookup x = some .cell):∃ c,(cellsFrom n sc.names []).lookup x = some c:=by
 have q:=PySem.W.cellsFrom_some sc.names n [] (.inl h)
 exact Option.isSome_iff_exists.mp q
theorem jtR {CX:CXT} {P:Program} {w:World} {K:PySem.W.Frag} {mg:Str->Option Value} {base:Heap} {N ps:List Str} {qual:Str} {scope:Scope} {f:Addr} {cd:Value} {A:Around} {outer:List Env} {s s1:Shared} {H:Hp} {E:XK} {us:List Value} {vs:List V}
  (S:ju N ps scope) (hd:A.handled = none) (e0:Env0 P w K mg base A outer s H) (hl:vs.length = ps.length) (r:Vals vs us)
  (x:InCallC s s.heap.objs.size (bindL (envOfC qual scope s.heap.objs.size f cd).kindOf (ps.zip us) fun _=>none) (cellsFrom (s.heap.objs.size + 1) scope.names []) (bindC (envOfC qual scope s.heap.objs.size f cd).kindOf (ps.zip us) fun _=>none) s1) :
  Inv (jcW CX P w K mg base N qual scope f cd A outer s H E) [] (jbc N vs) H s1:=by
 have hpl:ps.length ≤ N.length:=by have:=congrArg List.length S.pre; rw [List.length_take] at this; omega
 obtain ⟨h1,tk,rfl,hk⟩:=x.done
 have noA:∀ b:Addr,b ∉ (jcW CX P w K mg base N qual scope f cd A outer s H E).ex:=fun b z=>absurd (show b ∈ ([]:List Addr) from z) (by simp)
 refine ⟨⟨e0.mod,S.kind,rfl,rfl,Nat.le_refl _,fun y z c h1 h2=>?_,fun y hy=>?_,fun y c _ h=>?_,fun _=>hd,Around.frames_deeper e0.frames,.inr ⟨rfl,rfl⟩,fun b z=>absurd z (noA b),e0.bs,e0.bsz,fun b _ _=>noA b,fun b z=>absurd z (noA b),e0.funs,e0.frf⟩,
  rfl,e0.bare,Un.kept hk,⟨_,x.toInCall.ns,fun i y v h1 h2 h3=>?_⟩,fun y c h=>⟨_,x.cell y c h⟩,e0.hok.fresh (Nat.le_refl _),fun y c h=>?_,fun p hp=>absurd (show p ∈ ([]:List (Addr × Obj)) from hp) (by simp),e0.hok.kept hk,?_⟩
 ·exact name_of_addr x.apart (PySem.mem_of_lookup h1) (PySem.mem_of_lookup h2)
 ·have hy:scope.names.lookup y = some .cell ∨ scope.names.lookup y = some .free:=hy
  rcases hy with hy | hy
  ·exact jqx hy
  ·exact absurd rfl (S.nofree _ (PySem.mem_of_lookup hy))
 ·exact Nat.le_of_lt (x.above y c (PySem.mem_of_lookup h))
 ·have hi:i < vs.length:=by
   unfold jbc at h2
   by_cases hi:i < vs.length
   ·exact hi
   ·rw [List.getElem?_append_right (by simpa using hi)] at h2
    rw [List.getElem?_replicate] at h2
    split at h2 <;> cases h2
  have ha:vs[i]? = some v:=by
   unfold jbc at h2
   rw [List.getElem?_append_left (by simpa using hi),List.getElem?_map] at h2
   cases e:vs[i]? with
   | none=>rw [e] at h2; cases h2
   | some a=>rw [e] at h2; cases h2; rfl
  obtain ⟨u,hu,rv⟩:=r.get ha
  have hp:ps[i]? = some y:=by
   rw [← S.pre,List.getElem?_take_of_lt (by omega)]; exact h1
  have ndP:ps.Nodup:=by rw [← S.pre]; exact S.nd.sublist (List.take_sublist _ _)
  refine ⟨u,rv,?_⟩
  rcases S.par y (List.mem_of_getElem? hp) with k | k
  ·exact .inl ⟨k,jno ndP hp hu k⟩
  ·obtain ⟨c,e⟩:=jqx (n:=s.heap.objs.size + 1) k
   refine .inr ⟨.inl k,c,e,?_⟩
   have q:=x.cell y c e
   rw [jnm ndP hp hu (by show scope.names.lookup y ≠ _; rw [k]; decide)] at q
   exact q
 ·exact e0.hok.fresh (Nat.le_of_lt (x.above y c (PySem.mem_of_lookup h)))
 ·unfold jbc
  show _ = N.length
  rw [List.length_append,List.length_map,List.length_replicate]
  omega
theorem jwb {CX:CXT} {P:Program} {w:World} {K:PySem.W.Frag} {mg:Str->Option Value} {base:Heap} {k:Nat} {f:Addr} {name qual:Str} {params:Arguments} {body:List Stmt} {scope:Scope} {dV kV doc pm cdv ct oc:Value} {an od:Option Addr}
  {osl:Array (Option Value)} {N ps:List Str} {sp:Sp} (lk:K.lookup f = some ⟨oc,od,.func (PySem.W.fnOf name qual params body scope dV kV doc pm an cdv ct),osl⟩) (hcd:PySem.W.codeIn K cdv qual = true) (S:ju N ps scope)
  (len:∀ vs H Q E,sp vs H Q E->vs.length = ps.length)
  (hbody:∀ (A:Around) (outer:List Env) (s:Shared) (H:Hp) (vs:List V) (Q:VK) (E:XK),Room k (A.deeper (envOfC qual scope s.heap.objs.size f cdv))->sp vs H Q E ->
   ∃ t,PSs (jcW CX P w K mg base N qual scope f cdv A outer s H E) body t∧t { nx:=fun _ H'=>Q .non H',rt:=Q } (jbc N vs) H) :
  FnOk P w K mg base CX (k + 1) f (PySem.W.fnOf name qual params body scope dV kV doc pm an cdv ct) ps sp:=by
 refine ⟨len,fun A outer s H args us vs Q E hr e0 hb r hsp=>?_⟩
 have hl:=len _ _ _ _ hsp
 have KX:K.In s.heap:=e0.mod.kin.keeps fun b o e=>(e0.bs b o e).1
 have lim:s.heap.NoLimit:=e0.mod.nolimit.keeps fun b o e=>(e0.bs b o e).1
 have hkind:∀ y ∈ ps.zip us,scope.names.lookup y.1 = some .local ∨ (scope.names.lookup y.1 = some .cell∧((cellsFrom (s.heap.objs.size + 1) scope.names []).lookup y.1).isSome = true):=fun ⟨n,v⟩ hy=>by
  rcases S.par n (List.of_mem_zip hy).1 with q | q
  ·exact .inl q
  ·exact .inr ⟨q,PySem.W.cellsFrom_some _ _ _ (.inl q)⟩
 refine codeAny_call_function hr.depth (KX _ _ lk) rfl S.co S.gen rfl (PySem.W.codeRec_of KX hcd) (hb _ _ _ _ ?_)
 refine wpAny_newFunctionEnv_cells S.kind hkind fun env he s1 x=>?_
 subst he
 refine ⟨lim.keeps x.toInCall.keep,codeAny_func ?_⟩
 obtain ⟨t,ht,hq⟩:=hbody A outer s H vs Q E (hr.deeper _) hsp
 have I:Inv (jcW CX P w K mg base N qual scope f cdv A outer s H E) [] (jbc N vs) H s1:=jtR S hr.hd e0 hl r x
 refine wpAny_mono (ht [] s1 (jbc N vs) H _ I hq) (fun fl s' hs=>?_) fun e s' hs=>hs
 have fin:∀ {σ':St} {H':Hp} {v:V} {u:Value},Inv (jcW CX P w K mg base N qual scope f cdv A outer s H E) [] σ' H' s'->RelV v u->Q v H'->CE outer P w H s Q u s' :=
  fun {σ' H' v u} J rv q=>⟨v,H',J.os,J.bare,J.base,J.hok,rv,q⟩
 cases fl with
 | ret u =>
  obtain ⟨v,σ',H',J,rv,q⟩:=hs
  exact fin J rv q
 | next =>
  obtain ⟨σ',H',J,q⟩:=hs
  exact fin (v:=V.non) (u:=Value.none) J rfl q
 | brk =>
  obtain ⟨_,_,_,q⟩:=hs
  exact False.elim q
 | cont =>
  obtain ⟨_,_,_,q⟩:=hs
  exact False.elim q
end L2
namespace L2
open PySem PySem.Spec PyProof.Rows
section
variable {X:Cx} {x:Str} {p pos:Pos} {e:Expr} {es:List Expr} {t:TA} {id T:String} {r:List V->Hp->VK->Prop}
def tCB (r:List V->Hp->VK->Prop) (t:TA):TE:=fun σ H Q=>t σ H fun vs H1=>r vs H1 Q
theorem jkl (hc:CallR X (.builtin id) r) (hg:Gl X x) (hm:X.mg x = none) (hv:bootBuiltins x = some (.builtin id)) (ha:PA X (e :: es) t) (hn:x ≠ "__name__":=by decide) (hdb:(x == ("__debug__":Str)) = false:=by decide)
  (he:starEach (e :: es) X.env = (false,eval e X.env) :: starEach es X.env:=by rfl) (hpl:(backTo pos (starEach es X.env)).any (·.1) = false:=by rfl):PE X (.Call (.Name x p) (e :: es) [] pos) (tCB r t):=by
 intro pins s σ H Q I h
 refine wpAny_Call_Name_kw (jgb I hg hm hv ?_ hn hdb)
 exact PyProof.Rows.callWith_builtin1 (jF (ha pos pins s σ H _ I h) fun us s1 ⟨vs,H1,I1,r1,q1⟩=>hc pins s1 σ H1 vs us Q I1 r1 q1) he hpl
theorem jti (hc:CallR X (.type T) r) (hg:Gl X x) (hm:X.mg x = none) (hv:bootBuiltins x = some (.type T)) (ha:PA X (e :: es) t) (hn:x ≠ "__name__":=by decide) (hdb:(x == ("__debug__":Str)) = false:=by decide)
  (he:starEach (e :: es) X.env = (false,eval e X.env) :: starEach es X.env:=by rfl) (hpl:(backTo pos (starEach es X.env)).any (·.1) = false:=by rfl):PE X (.Call (.Name x p) (e :: es) [] pos) (tCB r t):=by
 intro pins s σ H Q I h
 refine wpAny_Call_Name_kw (jgb I hg hm hv ?_ hn hdb)
 exact PyProof.Rows.callWith_type1 (jF (ha pos pins s σ H _ I h) fun us s1 ⟨vs,H1,I1,r1,q1⟩=>hc pins s1 σ H1 vs us Q I1 r1 q1) he hpl
end
end L2
namespace HT
open PySem PyProof.Rows
def lexLt:List Int->List Int->Bool
 | [],[]=>false
 | [],_ :: _=>true
 | _ :: _,[]=>false
 | x :: xs,y :: ys=>if x = y then lexLt xs ys else decide (x < y)
theorem jr6 (x y:Int) (xs ys:List Int):lexLt (x :: xs) (y :: ys) = if x = y then lexLt xs ys else decide (x < y):=rfl
theorem jn5:lexLt [] [] = false:=rfl
theorem jmJ (y:Int) (ys:List Int):lexLt [] (y :: ys) = true:=rfl
theorem jnf (x:Int) (xs:List Int):lexLt (x :: xs) [] = false:=rfl
theorem jvi (A:Around) (s:Shared) (a:Int) (t:Tok) (c:Int) (u:Tok):∃ e,SeqAt.EqAt A s (.int a t) (.int c u) e∧(e = true ↔ a = c) :=
 ⟨(a == c),SeqAt.EqAt.int_int a t c u,by simp⟩
theorem ju7 (A:Around) (s:Shared) (a:Int) (t:Tok) (c:Int) (u:Tok) (prog:Program) (w:World) (E:Value->Shared->Prop) (Q:Value->Shared->Prop) (h:Q (.bool (decide (a < c))) s) :
  wpAny (model prog w) A (richCompare .Lt (.int a t) (.int c u)) Q E s :=
 (PyProof.Rows.lt_int h:wpAny (model prog w) A (compareOp .Lt (.int a t) (.int c u)) Q E s)
section
open PySem.SeqAt
open PySem.AutoSeq1 (wpAny_loadPart')
open PySem.MeetsSeq PySem.MeetsSeq2 PySem.MeetsSeq3
theorem jn7 (l b:Addr) (items items2:Array Value) (n n2:Nat) (dd dd2:Option Addr) (sl sl2:Array (Option Value)) (ns ms:List Int) (hi:IntsAre items.toList ns) (hj:IntsAre items2.toList ms) :
  Meets (Builtin.«tuple.__lt__» ⟨[.ref l,.ref b],[]⟩)
   (fun _ R s=>s.heap.get? l = some { cls:=.type "tuple",dict:=dd,data:=.seq items n,slots:=sl }∧s.heap.get? b = some { cls:=.type "tuple",dict:=dd2,data:=.seq items2 n2,slots:=sl2 } ∧
    R (.ok (.ret (.bool (lexLt ns ms)))) s) :=
 .of_wp fun prog w A R s h=>by
  obtain ⟨hp,g,d,tk,os⟩:=s; obtain ⟨hl,hb,h⟩:=h
  have f2:=AutoSeq1.sub_tuple_tuple
  have z1:items.size = ns.length:=by rw [← hi.length]; simp
  have z2:items2.size = ms.length:=by rw [← hj.length]; simp
  wp_walk using wpAny_loadPart' hl,wpAny_loadPart' hb,wpAny_forIn_list _ (fun jR b s'=>b.1 = none∧s' = ⟨hp,g,d,tk,os⟩∧∃ (vs ws:List Value) (ns' ms':List Int),jR = vs.zip ws ∧
   IntsAre vs ns'∧IntsAre ws ms'∧ns'.length + items2.size = ms'.length + items.size∧R (.ok (.ret (.bool (lexLt ns' ms')))) ⟨hp,g,d,tk,os⟩) _
  case turn =>
   rintro ⟨y,x⟩ jR b s' ⟨hb',rfl,vs,ws,ns',ms',hz,hvi,hwi,hlen,hR⟩
   cases hvi with
   | nil=>rw [List.zip_nil_left] at hz; cases hz
   | cons a t hvi' =>
    cases hwi with
    | nil=>rw [List.zip_nil_right] at hz; cases hz
    | cons c u hwi' =>
     rw [List.zip_cons_cons] at hz
     injection hz with hyx hrest
     injection hyx with hy hx
     subst hy hx
     rw [jr6] at hR
     simp only [List.length_cons] at hlen
     obtain ⟨e,he,hiff⟩:=jvi A.in1 ⟨hp,g,d,tk,os⟩ a t c u
     refine wpAny_bind (he prog w _ _ ?_)
     cases e with
     | true =>
      rw [if_pos (hiff.mp rfl)] at hR
      wp_walk
      exact ⟨rfl,rfl,_,_,_,_,hrest,hvi',hwi',by omega,hR⟩
     | false =>
      rw [if_neg (fun q=>absurd (hiff.mpr q) Bool.false_ne_true)] at hR
      have hri:=ju7 A.in1 ⟨hp,g,d,tk,os⟩ a t c u prog w
      wp_walk using hri
      exact ⟨_,rfl,by simpa using hR⟩
  case fin =>
   rintro ⟨b1,b2⟩ s' ⟨hb',rfl,vs,ws,ns',ms',hz,hvi,hwi,hlen,hR⟩
   simp only at hb'
   subst hb'
   have hv:lexLt ns' ms' = decide (items.size < items2.size):=by
    cases hvi with
    | nil =>
     cases hwi with
     | nil =>
      simp only [List.length_nil] at hlen
      rw [jn5]
      exact (decide_eq_false (by omega)).symm
     | cons c u hw =>
      simp only [List.length_nil,List.length_cons] at hlen
      rw [jmJ]
      exact (decide_eq_true (by omega)).symm
    | cons a t hv =>
     cases hwi with
     | nil =>
      simp only [List.length_nil,List.length_cons] at hlen
      rw [jnf]
      exact (decide_eq_false (by omega)).symm
     | cons c u hw =>
      rw [List.zip_cons_cons] at hz
      cases hz
   rw [hv] at hR
   wp_walk
   exact ⟨_,rfl,by simpa [Builtin.Tuple.tupleCompareSizes] using hR⟩
  case h =>
   exact ⟨rfl,rfl,items.toList,items2.toList,ns,ms,rfl,hi,hj,by omega,h⟩
end
section
variable {prog:Program} {w:World} {A:Around} {E:Value->Shared->Prop} {s:Shared}
theorem lt_tupInts {l b:Addr} {items items2:Array Value} {ns ms:List Int} {Q:Value->Shared->Prop} (hl:IsTup s.heap l items) (hb:IsTup s.heap b items2) (hi:IntsAre items.toList ns) (hj:IntsAre items2.toList ms)
  (hu:A.units < cLine) (h:Q (.bool (lexLt ns ms)) s):wpAny (model prog w) A (compareOp .Lt (.ref l) (.ref b)) Q E s:=by
 obtain ⟨⟨cls,dd,data,sl⟩,ho,hc,n,hd⟩:=id hl
 obtain ⟨⟨cls2,dd2,data2,sl2⟩,ho2,hc2,n2,hd2⟩:=id hb
 simp only at hc hd hc2 hd2
 subst hc hd hc2 hd2
 exact richCompare_meets_room (op:=.Lt) ⟨_,ho,rfl⟩ ⟨_,ho2,rfl⟩ PySem.F.slot_tuple_lt PySem.F.entry_tuple_lt (PySem.F.args_tuple_lt_2 _ _) (jn7 l b items items2 n n2 dd dd2 sl sl2 ns ms hi hj)
  ⟨ho,ho2,show Value.bool (lexLt ns ms) ≠ Value.notImplemented∧Q (.bool (lexLt ns ms)) s from ⟨(fun x=>by cases x),h⟩⟩ hu
theorem cat_tup {t b:Addr} {vs ws:List Value} {Q:Value->Shared->Prop} (ht:IsTup s.heap t vs.toArray) (hb:IsTup s.heap b ws.toArray) (hv:vs ≠ [])
  (h1:ws = []->Q (.ref t) s) (h2:ws ≠ []->Q (.ref s.heap.objs.size) { s with heap:=s.heap.push { cls:=.type "tuple",data:=.seq (vs ++ ws).toArray } })
  (hsz:vs.length + ws.length ≤ sizeLine):wpAny (model prog w) A (binaryOp .Add (.ref t) (.ref b)) Q E s:=by
 obtain ⟨⟨cls,dd,data,sl⟩,ho,hc,n,hd⟩:=id ht
 obtain ⟨⟨cls2,dd2,data2,sl2⟩,ho2,hc2,n2,hd2⟩:=id hb
 simp only at hc hd hc2 hd2
 subst hc hd hc2 hd2
 have e:vs.toArray ++ ws.toArray = (vs ++ ws).toArray:=by simp
 by_cases hw:ws = []
 ·exact concat_meets ⟨_,ho,rfl⟩ ⟨_,ho2,rfl⟩ noFill_tuple_add seq_tuple_add PySem.F.slot_tuple_add PySem.F.entry_tuple_add (PySem.F.args_tuple_add_2 _ _)
   (tuple_addW1 t b vs.toArray ws.toArray n n2 dd dd2 sl sl2 (by simpa using hv) (by simp [hw])) ⟨ho,ho2,h1 hw⟩
 ·refine concat_meets ⟨_,ho,rfl⟩ ⟨_,ho2,rfl⟩ noFill_tuple_add seq_tuple_add PySem.F.slot_tuple_add PySem.F.entry_tuple_add (PySem.F.args_tuple_add_2 _ _)
   (tuple_addW2 t b vs.toArray ws.toArray n n2 dd dd2 sl sl2 (by simpa using hv) (by simpa using hw) (by rw [List.size_toArray,List.size_toArray]; exact hsz)) ⟨ho,ho2,?_⟩
  rw [e]
  exact h2 hw
def sIx (n d:Nat):Option Int->Nat
 | none=>d
 | some v=>if v < 0 then (v + (n:Int)).toNat else min v.toNat n
end
end HT
namespace L2
open PySem PySem.Spec PyProof.Rows
abbrev TO:=St->Hp->(Option Int->Hp->Prop)->Prop
def PO (X:Cx) (e:Option Expr) (t:TO):Prop :=
 ∀ (pins:List (Addr × Obj)) (s:Shared) (σ:St) (H:Hp) (Q:Option Int->Hp->Prop),Inv X pins σ H s->t σ H Q ->
  wpAny (model X.prog X.w) X.A (evalPart e X.env) (fun u s'=>∃ o H',Inv X pins σ H' s'∧IsPart u o∧Q o H') X.xe s
def jwW:TO:=fun _ H Q=>Q none H
def jzX (t:TE):TO:=fun σ H Q=>t σ H fun x H1=>∃ i,x = .int i∧Q (some i) H1
theorem jhb {ns:List Int}:∀ {us:List Value},Vals (ns.map V.int) us->IntsAre us ns:=by
 induction ns with
 | nil=>intro us r; rw [List.map_nil] at r; cases r; exact .nil
 | cons n ns ih =>
  intro us r
  rw [List.map_cons] at r
  cases r with
  | cons r1 r2 =>
   obtain ⟨t,e⟩:=r1
   subst e
   exact .cons n t (ih r2)
section
variable {X:Cx} {e:Expr} {te:TE} {lo hi:Option Expr} {tl th:TO} {pos p2:Pos}
theorem jw8:PO X none jwW:=by
 intro pins s σ H Q I h
 rw [evalPart_none]
 exact wpAny_pure ⟨none,H,I,.none,h⟩
theorem jxM (h:PE X e te):PO X (some e) (jzX te):=by
 intro pins s σ H Q I hw
 rw [evalPart_some]
 refine jF (h pins s σ H _ I hw) fun u s1 qZ=>?_
 obtain ⟨x,H1,I1,r1,q1⟩:=qZ
 obtain ⟨i,rfl,q⟩:=q1
 obtain ⟨t,rfl⟩:=r1
 exact ⟨some i,H1,I1,.int i t,q⟩
def SlR (X:Cx) (r:V->Option Int->Option Int->Hp->VK->Prop):Prop :=
 ∀ (pins:List (Addr × Obj)) (s:Shared) (σ:St) (H:Hp) (x:V) (v vl vu:Value) (lo hi:Option Int) (sl:Addr) (Q:VK),Inv X pins σ H s->RelV x v->s.heap.IsSliceOf sl vl vu .none->IsPart vl lo->IsPart vu hi->r x lo hi H Q ->
  ∃ T id,typeLookup (.type T) "__getitem__" = pure (some (.builtin id))∧s.TypeIs v T∧wpAny (model X.prog X.w) X.A (getItem v (.ref sl)) (EP X pins σ Q) X.xe s
theorem SlR.or {r r':V->Option Int->Option Int->Hp->VK->Prop} (h:SlR X r) (h':SlR X r'):SlR X (fun x lo hi H Q=>r x lo hi H Q ∨ r' x lo hi H Q):=by
 intro pins s σ H x v vl vu lo hi sl Q I rx hs pl pu q
 rcases q with q | q
 ·exact h pins s σ H x v vl vu lo hi sl Q I rx hs pl pu q
 ·exact h' pins s σ H x v vl vu lo hi sl Q I rx hs pl pu q
def tSl (r:V->Option Int->Option Int->Hp->VK->Prop) (te:TE) (tl th:TO):TE:=fun σ H Q=>te σ H fun x H1=>tl σ H1 fun l H2=>th σ H2 fun u H3=>r x l u H3 Q
theorem jo8 {r:V->Option Int->Option Int->Hp->VK->Prop} (hr:SlR X r) (he:PE X e te) (hl:PO X lo tl) (hu:PO X hi th):PE X (.Subscript e (.Slice lo hi none p2) pos) (tSl r te tl th):=by
 intro pins s σ H Q I h
 refine Subscript_ (jF (he pins s σ H _ I h) fun v s1 qZ=>?_)
 obtain ⟨x,H1,I1,r1,q1⟩:=qZ
 refine wpAny_Slice (jF (hl pins s1 σ H1 _ I1 q1) fun vl s2 ⟨l,H2,I2,pl,q2⟩=>jF (hu pins s2 σ H2 _ I2 q2) fun vu s3 qZ=>?_)
 obtain ⟨u,H3,I3,pu,q3⟩:=qZ
 rw [evalPart_none]
 refine wpAny_pure ?_
 have I4:Inv X pins σ H3 { s3 with heap:=s3.heap.push { cls:=.type "slice",data:=.fields #[vl,vu,.none] } }:=I3.kept (t':=s3.toks) fun b ob q=>Heap.get?_push_of_some _ q
 obtain ⟨T,id,hT,ht,hg⟩:=hr pins { s3 with heap:=s3.heap.push { cls:=.type "slice",data:=.fields #[vl,vu,.none] } } σ H3 x v vl vu l u s3.heap.objs.size Q I4 r1 (Heap.IsSliceOf.new ..) pl pu q3
 show wpAny (model X.prog X.w) X.A (subscriptTail e (.Slice lo hi none p2) v (.ref s3.heap.objs.size)) (EP X pins σ Q) X.xe { s3 with heap:=s3.heap.push { cls:=.type "slice",data:=.fields #[vl,vu,.none] } }
 exact tail_any (ops:=[.ref s3.heap.objs.size,v]) ht hT hg (by with_unfolding_all rfl)
def jpS (xs:List V) (lo hi:Option Int):List V:=(xs.drop (HT.sIx xs.length 0 lo)).take (HT.sIx xs.length xs.length hi - HT.sIx xs.length 0 lo)
theorem jqY (xs:List V) (lo hi:Option Int):(jpS xs lo hi).length ≤ xs.length:=by
 unfold jpS
 rw [List.length_take,List.length_drop]
 omega
def jAD (K:PySem.W.Frag):R2:=fun x y H Q=>∃ a b ns ms,x = .ref a∧y = .ref b∧SqT K H a (ns.map V.int)∧SqT K H b (ms.map V.int)∧Q (.bl (HT.lexLt ns ms)) H
theorem jzG (hu:X.A.units < cLine):OpR X (compareOp .Lt) (jAD X.K):=by
 intro pins s σ H x y v u Q I rx ry h
 obtain ⟨a,b,ns,ms,rfl,rfl,ha,hb,q⟩:=h
 cases rx
 cases ry
 obtain ⟨its,r1,p1,_⟩:=I.tuple ha
 obtain ⟨its2,r2,p2,_⟩:=I.tuple hb
 have i1:IntsAre its.toArray.toList ns:=jhb r1
 have i2:IntsAre its2.toArray.toList ms:=jhb r2
 exact HT.lt_tupInts p1 p2 i1 i2 hu ⟨.bl (HT.lexLt ns ms),H,I,rfl,q⟩
def jzP (K:PySem.W.Frag):R2:=fun x y H Q=>∃ a b xs ys,x = .ref a∧y = .ref b∧SqT K H a xs∧SqT K H b ys∧xs ≠ []∧xs.length + ys.length ≤ sizeLine ∧
 (ys = []->Q (.ref a) H)∧(ys ≠ []->∀ p,H p = none->Q (.ref p) (jG H p (.tup (xs ++ ys))))
theorem Vals.nil_iff {xs:List V} {us:List Value} (r:Vals xs us):us = [] ↔ xs = []:=by
 cases r with
 | nil=>simp
 | cons _ _=>simp
theorem jxP:OpR X (binaryOp .Add) (jzP X.K):=by
 intro pins s σ H x y v u Q I rx ry h
 obtain ⟨a,b,xs,ys,rfl,rfl,ha,hb,hx,hz,q1,q2⟩:=h
 cases rx
 cases ry
 obtain ⟨its,r1,p1,_⟩:=I.tuple ha
 obtain ⟨its2,r2,p2,_⟩:=I.tuple hb
 refine HT.cat_tup p1 p2 (fun z=>hx (r1.nil_iff.mp z)) (fun z=>⟨.ref a,H,I,rfl,q1 (r2.nil_iff.mp z)⟩) (fun z=>?_) (by rw [← r1.length,← r2.length]; exact hz)
 refine ⟨.ref s.heap.objs.size,_,I.laid (t':=s.toks) (o:=.tup (xs ++ ys)) (fun b ob q=>Heap.get?_push_of_some _ q) (Nat.le_refl _) ?_,rfl,q2 (fun w=>z (r2.nil_iff.mpr w)) _ (I.hok.fresh (Nat.le_refl _))⟩
 exact ⟨by rw [List.length_append]; exact hz,_,r1.append r2,IsTup.new _ _⟩
end
end L2
namespace L2
open PySem PySem.Spec PyProof.Rows
def ixN (n:Nat) (i:Int):Option Nat:=if 0 ≤ i then (if i < n then some i.toNat else none) else if -(n:Int) ≤ i then some (i + n).toNat else none
def atI {α:Type} (xs:List α) (i:Int):Option α:=(ixN xs.length i).bind fun j=>xs[j]?
theorem jxy {n:Nat} {i:Int} {j:Nat} (h:ixN n i = some j):seqIndex? i n = some j∧j < n∧-(n:Int) ≤ i∧i < n:=by
 unfold ixN at h
 by_cases h0:0 ≤ i
 ·rw [if_pos h0] at h
  by_cases h1:i < n
  ·rw [if_pos h1] at h
   have e:i.toNat = j:=Option.some.inj h
   exact ⟨by rw [seqIndex_of h0 h1,e],by omega,by omega,h1⟩
  ·rw [if_neg h1] at h; cases h
 ·rw [if_neg h0] at h
  by_cases h1:-(n:Int) ≤ i
  ·rw [if_pos h1] at h
   have e:(i + n).toNat = j:=Option.some.inj h
   exact ⟨by rw [seqIndex_neg (by omega) h1,e],by omega,h1,by omega⟩
  ·rw [if_neg h1] at h; cases h
theorem jrd {α:Type} {xs:List α} {i:Int} {v:α} (h:atI xs i = some v):∃ j,seqIndex? i xs.length = some j∧xs[j]? = some v∧j < xs.length∧-(xs.length:Int) ≤ i∧i < xs.length:=by
 unfold atI at h
 cases e:ixN xs.length i with
 | none=>rw [e] at h; cases h
 | some j =>
  rw [e] at h
  obtain ⟨h1,h2,h3,h4⟩:=jxy e
  exact ⟨j,h1,h,h2,h3,h4⟩
theorem jxB {α:Type} {xs:List α} {j:Nat} {v:α} (h:xs[j]? = some v):atI xs (j:Int) = some v:=by
 have hj:j < xs.length:=(List.getElem?_eq_some_iff.mp h).1
 have e:ixN xs.length (j:Int) = some j:=by
  unfold ixN
  rw [if_pos (by omega),if_pos (by omega)]; simp
 unfold atI; rw [e]; exact h
def jne (b:Expr):Prop:=∀ o i,subscripted b false o i = operate [o,i] (getItem o i)
def IxR (X:Cx) (r:R2):Prop :=
 ∀ (value slice:Expr) (pins:List (Addr × Obj)) (s:Shared) (σ:St) (H:Hp) (x y:V) (v u:Value) (Q:VK),Inv X pins σ H s->RelV x v->RelV y u->r x y H Q ->
  subscripted slice false v u = operate [v,u] (getItem v u)->wpAny (model X.prog X.w) X.A (subscriptTail value slice v u) (EP X pins σ Q) X.xe s
def MtR (X:Cx) (id:String) (r:V->List V->Hp->VK->Prop):Prop :=
 ∀ (pins:List (Addr × Obj)) (s:Shared) (σ:St) (H:Hp) (x:V) (xs:List V) (v:Value) (us:List Value) (Q:VK),Inv X pins σ H s->RelV x v->Vals xs us->r x xs H Q ->
  wpAny (model X.prog X.w) X.A (call (.builtin id) (v :: us)) (EP X pins σ Q) X.xe s
section
variable {X:Cx} {a b:Expr} {ta tb:TE} {pos:Pos}
theorem IxR.or {r r':R2} (h:IxR X r) (h':IxR X r'):IxR X (fun x y H Q=>r x y H Q ∨ r' x y H Q):=by
 intro value slice pins s σ H x y v u Q I rx ry q hs
 rcases q with q | q
 ·exact h value slice pins s σ H x y v u Q I rx ry q hs
 ·exact h' value slice pins s σ H x y v u Q I rx ry q hs
theorem MtR.or {id:String} {r r':V->List V->Hp->VK->Prop} (h:MtR X id r) (h':MtR X id r'):MtR X id (fun x xs H Q=>r x xs H Q ∨ r' x xs H Q):=by
 intro pins s σ H x xs v us Q I rx rs q
 rcases q with q | q
 ·exact h pins s σ H x xs v us Q I rx rs q
 ·exact h' pins s σ H x xs v us Q I rx rs q
theorem jwB {r:R2} (hr:IxR X r) (ha:PE X a ta) (hb:PE X b tb) (hs:jne b):PE X (.Subscript a b pos) (tOp r ta tb):=by
 intro pins s σ H Q I h
 exact Subscript_ (jvr ha hb I h fun v u s2 x y H2 I2 rx ry q=>hr a b pins s2 σ H2 x y v u Q I2 rx ry q (hs _ _))
def jAY (K:PySem.W.Frag):R2:=fun x y H Q=>∃ p xs i v,x = .ref p∧y = .int i∧SqL K H p xs∧atI xs i = some v∧Q v H
def jA1 (K:PySem.W.Frag):R2:=fun x y H Q=>∃ p xs i v,x = .ref p∧y = .int i∧SqT K H p xs∧atI xs i = some v∧Q v H
theorem ix_list:IxR X (jAY X.K):=by
 intro value slice pins s σ H x y v u Q I rx ry h hs
 obtain ⟨p,xs,i,z,rfl,rfl,hq,he,q⟩:=h
 cases rx
 obtain ⟨t,rfl⟩:=ry
 obtain ⟨its,r,pl,hz⟩:=I.list hq
 obtain ⟨j,h1,h2,h3,h4,h5⟩:=jrd he
 obtain ⟨w,ew,rw'⟩:=r.get h2
 have hl:=r.length
 have hn:=jlT
 have fin:EP X pins σ Q w s:=⟨z,H,I,rw',q⟩
 by_cases h0:0 ≤ i
 ·have hj:i.toNat = j:=by
   rw [seqIndex_of h0 h5] at h1
   exact Option.some.inj h1
  exact item_listR pl.isList h0 (by omega) (by rw [hj]; simpa using ew) fin hs
 ·have hj:(i + (its.toArray.size:Int)).toNat = j:=by
   rw [seqIndex_neg (by omega) h4] at h1
   rw [List.size_toArray,← hl]
   exact Option.some.inj h1
  exact subscriptTail_builtinR (x:=w) pl.isList.typeIs slot_list_getitem.lookup
   (wpAny_getItem_list_neg (Q:=fun r s'=>r = w∧EP X pins σ Q r s') pl.isList (by omega) (by rw [List.size_toArray] <;> omega) (by omega) (by rw [hj]; simpa using ew) ⟨rfl,fin⟩) hs
theorem jzd:IxR X (jA1 X.K):=by
 intro value slice pins s σ H x y v u Q I rx ry h hs
 obtain ⟨p,xs,i,z,rfl,rfl,hq,he,q⟩:=h
 cases rx
 obtain ⟨t,rfl⟩:=ry
 obtain ⟨its,r,pl,hz⟩:=I.tuple hq
 obtain ⟨j,h1,h2,h3,h4,h5⟩:=jrd he
 obtain ⟨w,ew,rw'⟩:=r.get h2
 have hl:=r.length
 have hn:=jlT
 have fin:EP X pins σ Q w s:=⟨z,H,I,rw',q⟩
 exact subscriptTail_builtinR (x:=w) pl.typeIs slot_tuple_getitem.lookup
  (getItem_tuple (j:=j) (Q:=fun r s'=>r = w∧EP X pins σ Q r s') pl (by omega) (by omega) (by rw [List.size_toArray,← hl]; exact h1) (by simpa using ew) ⟨rfl,fin⟩) hs
theorem Inv.lst {pins:List (Addr × Obj)} {σ:St} {H:Hp} {s:Shared} {p:Addr} {xs:List V} (I:Inv X pins σ H s) (h:H p = some (.lst xs)) :
  ∃ (its:List Value) (n:Nat),Vals xs its∧s.heap.get? p = some { cls:=.type "list",data:=.seq its.toArray n }∧xs.length ≤ sizeLine:=by
 obtain ⟨z,its,n,r,e⟩:=I.hok p _ h
 exact ⟨its,n,r,e,z⟩
theorem jpp (lo hi:Option Int) (n:Nat):(sliceBounds lo hi none n).1 = ((HT.sIx n 0 lo:Nat):Int)∧(sliceBounds lo hi none n).2.1 = ((HT.sIx n n hi:Nat):Int)∧(sliceBounds lo hi none n).2.2 = 1:=by
 refine ⟨?_,?_,rfl⟩
 ·cases lo with
  | none=>simp [sliceBounds,HT.sIx]
  | some i =>
   simp only [sliceBounds,HT.sIx,Option.getD_none,show (1:Int) > 0 by decide,if_true]
   by_cases h:i < 0
   ·simp only [h,if_true] <;> omega
   ·simp only [h,if_false] <;> omega
 ·cases hi with
  | none=>simp [sliceBounds,HT.sIx]
  | some i =>
   simp only [sliceBounds,HT.sIx,Option.getD_none,show (1:Int) > 0 by decide,if_true]
   by_cases h:i < 0
   ·simp only [h,if_true] <;> omega
   ·simp only [h,if_false] <;> omega
theorem joh (its:List Value) (lo hi:Option Int):slicePick its.toArray lo hi none = ((its.drop (HT.sIx its.length 0 lo)).take (HT.sIx its.length its.length hi - HT.sIx its.length 0 lo)).toArray:=by
 obtain ⟨h1,h2,h3⟩:=jpp lo hi its.toArray.size
 unfold slicePick
 rw [h1,h2,h3]
 simp only [sliceRange_one,pick_run,List.size_toArray] <;> rfl
def jA0 (K:PySem.W.Frag):V->Option Int->Option Int->Hp->VK->Prop:=fun x lo hi H Q=>∃ a xs,x = .ref a∧SqL K H a xs∧∀ p,H p = none->Q (.ref p) (jG H p (.lst (jpS xs lo hi)))
theorem jxe:SlR X (jA0 X.K):=by
 intro pins s σ H x v vl vu lo hi sl Q I rx hs pl pu h
 obtain ⟨a,xs,rfl,hx,q⟩:=h
 cases rx
 obtain ⟨its,r,ht,hz⟩:=I.list hx
 have hlen:=r.length
 refine ⟨"list",_,slot_list_getitem.lookup,ht.isList.typeIs,?_⟩
 refine wpAny_getItem_list_slice ht.isList hs pl pu .none (by simp) ?_ (by rw [List.size_toArray] <;> omega)
 rw [joh,← hlen]
 refine ⟨.ref s.heap.objs.size,_,I.laid (t':=s.toks) (o:=.lst (jpS xs lo hi)) (fun b ob q=>Heap.get?_push_of_some _ q) (Nat.le_refl _) ?_,rfl,q _ (I.hok.fresh (Nat.le_refl _))⟩
 exact ⟨Nat.le_trans (jqY xs lo hi) hz,_,0,(r.drop (HT.sIx xs.length 0 lo)).take (HT.sIx xs.length xs.length hi - HT.sIx xs.length 0 lo),Heap.get?_push_size _ rfl⟩
theorem jpv:CallR X (.builtin "len") (fun xs H Q=>∃ p ys,xs = [.ref p]∧(SqL X.K H p ys ∨ SqT X.K H p ys)∧Q (.int ys.length) H):=by
 intro pins s σ H xs us Q I r h
 obtain ⟨p,ys,rfl,hq,q⟩:=h
 obtain ⟨u,rfl,rx⟩:=jdG r
 cases rx
 have hn:=jlT
 rcases hq with hq | hq
 ·obtain ⟨its,r',pl,hz⟩:=I.list hq
  have hlen:=r'.length
  exact Calls.call_len_list pl.isList (by simp only [List.size_toArray] <;> omega) ⟨.int ys.length,H,I.tok _,⟨s.toks + 1,by rw [List.size_toArray,hlen]⟩,q⟩
 ·obtain ⟨its,r',pl,hz⟩:=I.tuple hq
  have hlen:=r'.length
  exact len_tuple pl (by simp only [List.size_toArray] <;> omega) ⟨.int ys.length,H,I.tok _,⟨s.toks + 1,by rw [List.size_toArray,hlen]⟩,q⟩
theorem jql:CallR X (.builtin "len") (fun xs H Q=>∃ z,xs = [.str z]∧z.length ≤ sizeLine∧Q (.int z.length) H):=by
 intro pins s σ H xs us Q I r h
 obtain ⟨z,rfl,hz,q⟩:=h
 obtain ⟨u,rfl,t,rfl⟩:=jdG r
 have hn:=jlT
 exact len_str (by omega) ⟨.int z.length,H,I.tok _,⟨_,rfl⟩,q⟩
theorem CallR.or {f:Value} {r r':List V->Hp->VK->Prop} (h:CallR X f r) (h':CallR X f r'):CallR X f (fun xs H Q=>r xs H Q ∨ r' xs H Q):=by
 intro pins s σ H xs us Q I rs q
 rcases q with q | q
 ·exact h pins s σ H xs us Q I rs q
 ·exact h' pins s σ H xs us Q I rs q
theorem joi:CallR X (.type "tuple") (fun xs H Q=>∃ p ys,xs = [.ref p]∧((SqL X.K H p ys∧∀ l,H l = none->Q (.ref l) (jG H l (.tup ys))) ∨ (SqT X.K H p ys∧Q (.ref p) H))):=by
 intro pins s σ H xs us Q I r h
 obtain ⟨p,ys,rfl,h⟩:=h
 obtain ⟨u,rfl,rx⟩:=jdG r
 cases rx
 rcases h with ⟨hq,q⟩ | ⟨hq,q⟩
 ·obtain ⟨its,r',pl,hz⟩:=I.list hq
  have hlen:=r'.length
  refine call_tuple_list pl.isList (fun h' kp=>?_) (by simp only [List.size_toArray] <;> omega)
  have I1:Inv X pins σ H { s with heap:=h' }:=I.kept (t':=s.toks) kp
  have I2:Inv X pins σ (jG H h'.objs.size (.tup ys)) { s with heap:=h'.push { cls:=.type "tuple",data:=.seq its.toArray } } :=
   I1.laid (t':=s.toks) (fun b o e=>Heap.get?_push_of_some _ e) (Nat.le_refl _) (show ObjOk X.prog X.w _ _ _ (.tup ys) from ⟨hz,its,r',IsTup.new _ _⟩)
  exact ⟨.ref h'.objs.size,_,I2,rfl,q _ (I1.hok.fresh (Nat.le_refl _))⟩
 ·obtain ⟨its,r',pl,hz⟩:=I.tuple hq
  exact call_tuple_same pl ⟨.ref p,H,I,rfl,q⟩
def tyV (K:PySem.W.Frag) (T:String) (x:V) (H:Hp):Prop:=match x with
 | .str _=>T = "str"
 | .int _=>T = "int"
 | .ref p=>(T = "list"∧∃ xs,SqL K H p xs) ∨ (T = "tuple"∧∃ o,K.lookup p = some o∧o.cls = .type "tuple"∧o.dict = none) ∨
   (T = "dict"∧((∃ kvs,H p = some (.dK kvs)) ∨ ∃ kvs,H p = some (.dT kvs))) ∨ (T = "set"∧∃ S n,H p = some (.set S n))
 | _=>False
theorem jxZ {pins:List (Addr × Obj)} {σ:St} {H:Hp} {s:Shared} {T:String} {x:V} {v:Value} (I:Inv X pins σ H s) (r:RelV x v) (ty:tyV X.K T x H) :
  s.TypeIs v T∧∀ a,v = .ref a->∃ ob,s.heap.get? a = some ob∧ob.dict = none:=by
 cases x with
 | str z =>
  obtain ⟨t,rfl⟩:=r
  cases (show T = "str" from ty)
  exact ⟨typeIs_str s z t,fun _ e=>by cases e⟩
 | int i =>
  obtain ⟨t,rfl⟩:=r
  cases (show T = "int" from ty)
  exact ⟨typeIs_int s i t,fun _ e=>by cases e⟩
 | ref p =>
  cases r
  rcases ty with ⟨rfl,xs,hq⟩ | ⟨rfl,o,hk,hc,hd⟩ | ⟨rfl,hk⟩ | ⟨rfl,S,n,hk⟩
  ·obtain ⟨its,_,pl,_⟩:=I.list hq
   refine ⟨pl.isList.typeIs,fun a e=>?_⟩
   cases e
   obtain ⟨o,n,e,c,hd,_⟩:=pl
   exact ⟨o,e,hd⟩
  ·refine ⟨⟨o,I.kIn p o hk,hc⟩,fun a e=>?_⟩
   cases e
   exact ⟨o,I.kIn _ o hk,hd⟩
  ·have z:∃ o,s.heap.get? p = some o∧o.ExactDict:=by
    rcases hk with ⟨kvs,hk⟩ | ⟨kvs,hk⟩
    ·obtain ⟨_,_,_,_,o,_,_,e,ex,_⟩:=I.hok p _ hk
     exact ⟨o,e,ex⟩
    ·obtain ⟨_,_,_,_,o,_,_,e,ex,_⟩:=I.hok p _ hk
     exact ⟨o,e,ex⟩
   obtain ⟨o,e,ex⟩:=z
   refine ⟨⟨o,e,ex.1⟩,fun a e2=>?_⟩
   cases e2
   exact ⟨o,e,ex.2.1⟩
  ·obtain ⟨o,_,_,_,e,ex,_⟩:=I.hok p _ hk
   refine ⟨⟨o,e,ex.1⟩,fun a e2=>?_⟩
   cases e2
   exact ⟨o,e,ex.2.1⟩
 | _=>exact False.elim ty
def tBM (K:PySem.W.Frag) (T:String) (r:V->List V->Hp->VK->Prop) (to:TE) (t:TA):TE:=fun σ H Q=>to σ H fun x H1=>tyV K T x H1∧t σ H1 fun xs H2=>r x xs H2 Q
variable {o e:Expr} {es:List Expr} {to:TE} {t:TA} {name:Str} {apos cpos:Pos} {T id:String} {r:V->List V->Hp->VK->Prop}
theorem jv6 (pa:PlainAttrs T) (slot:Slot T name id) (hty:typeOf (.builtin id) = pure (.type "method_descriptor")) (hm:MtR X id r) (ho:PE X o to) (ha:PA X (e :: es) t)
  (hbase:attributeBase o name X.env (eval o X.env) = eval o X.env:=by rfl)
  (hfew:((backTo cpos (starEach (e :: es) X.env)).all (fun x=>!x.1) && (backToKw cpos (keywordEach [] X.env)).all (fun x=>x.1.isSome)
   && decide ((e :: es).length + ([]:List Keyword).length + (if ([]:List Keyword).isEmpty then 0 else 1) < 30)) = true:=by rfl)
  (hline:(apos.endLine == cpos.line) = true:=by rfl) (hs:starEach (e :: es) X.env = (false,eval e X.env) :: starEach es X.env:=by rfl) (hplain:(backTo cpos (starEach es X.env)).any (·.1) = false:=by rfl) :
  PE X (.Call (.Attribute o name apos) (e :: es) [] cpos) (tBM X.K T r to t):=by
 intro pins s σ H Q I h
 refine wpAny_Call_method_late hbase hfew hline rfl (jF (ho pins s σ H _ I h) fun v s1 qZ=>?_)
 obtain ⟨x,H1,I1,r1,ty,q1⟩:=qZ
 obtain ⟨h1,h2⟩:=jxZ I1 r1 ty
 refine ⟨T,id,pa,slot,hty,h1,h2,?_⟩
 have hA:=ha cpos pins s1 σ H1 _ I1 q1
 rw [hs] at hA ⊢
 refine Calls.callWith_builtin (by show (false || (backTo cpos (starEach es X.env)).any (·.1)) = false; rw [hplain] <;> rfl) (Calls.evalArgs_plain ?_)
 exact jF hA fun us s2 ⟨vs,H2,I2,r2,q2⟩=>hm pins s2 σ H2 x vs v us Q I2 r1 r2 q2
/- xs.append(e), list.index on a module's tuple .. are MtR facts of 06m -/
end
end L2
namespace L2
open PySem PySem.Spec PyProof.Rows
def MtM (X:Cx) (id:String) (r:V->List V->Hp->VK->Prop):Prop :=
 ∀ (pins:List (Addr × Obj)) (s:Shared) (σ:St) (H:Hp) (x:V) (xs:List V) (v:Value) (us:List Value) (Q:VK),Inv X pins σ H s->RelV x v->Vals xs us->r x xs H Q ->
  wpAny (model X.prog X.w) X.A (call (.builtin id) (v :: us)) (EP X pins σ Q) X.xe s
theorem Vals.one:∀ {x:V} {us:List Value},Vals [x] us->∃ u,us = [u]∧RelV x u
 | _,_,.cons r .nil=>⟨_,rfl,r⟩
theorem Vals.zero:∀ {us:List Value},Vals [] us->us = []
 | _,.nil=>rfl
theorem Vals.reverse {xs:List V} {us:List Value} (h:Vals xs us):Vals xs.reverse us.reverse:=by
 induction h with
 | nil=>exact .nil
 | cons r t ih=>rw [List.reverse_cons,List.reverse_cons]; exact Vals.append ih (.cons r .nil)
section
variable {X:Cx} {pins:List (Addr × Obj)} {σ:St} {H:Hp} {s:Shared} {l b:Addr} {xs ys zs:List V}
theorem Inv.lset {its its':List Value} {n:Nat} {f:Array Value->Array Value} {t':Nat} (I:Inv X pins σ H s) (hH:H l = some (.lst xs))
  (e:s.heap.get? l = some { cls:=.type "list",data:=.seq its.toArray n }) (hf:f its.toArray = its'.toArray) (hv:Vals ys its') (hz:ys.length ≤ sizeLine) :
  Inv X pins σ (jG H l (.lst ys)) { s with heap:=s.heap.update l (Obj.mapSeq f),toks:=t' }:=by
 have q:=PySem.IsL.update e f
 rw [hf] at q
 refine I.write (x:=l) (e:=l) (by rw [hH]; exact trivial) (.inl rfl) (fun b' u hb hu=>(Heap.get?_update_other s.heap (Obj.mapSeq f) (Ne.symm hb)).trans hu) ⟨_,q⟩ ?_
 exact ⟨hz,its',_,hv,q⟩
theorem Inv.fresh (I:Inv X pins σ H s):H s.heap.objs.size = none:=I.hok.fresh (Nat.le_refl _)
theorem Inv.lstM (I:Inv X pins σ H s) (hH:H l = some (.lst xs)):xs.length ≤ sizeLine∧∃ (its:List Value) (n:Nat),Vals xs its∧xs.length = its.length∧s.heap.get? l = some { cls:=.type "list",data:=.seq its.toArray n }:=by
 obtain ⟨z,its,n,r,e⟩:=I.hok l _ hH
 exact ⟨z,its,n,r,r.length,e⟩
end
section
variable {X:Cx}
def jwP:V->List V->Hp->VK->Prop:=fun x vs H Q=>∃ l xs y,x = .ref l∧vs = [y]∧H l = some (.lst xs)∧xs.length < sizeLine∧Q .non (jG H l (.lst (xs ++ [y])))
theorem jt4:MtM X "list.append" jwP:=by
 intro pins s σ H x vs v us Q I rx rv h
 obtain ⟨l,xs,y,rfl,rfl,hH,hz,q⟩:=h
 cases rx
 obtain ⟨u,rfl,ru⟩:=rv.one
 obtain ⟨z,its,n,r,hl,e⟩:=I.lstM hH
 refine call_meets F.slot_list_append ⟨_,e,rfl⟩ F.entry_list_append (F.args_list_append_2 _ _) (PySem.list_append l its.toArray n u (by rw [List.size_toArray]; omega)) ⟨e,?_⟩
 refine ⟨.non,_,I.lset (its':=its ++ [u]) hH e (by simp) (r.append (.cons ru .nil)) ?_,rfl,q⟩
 rw [List.length_append,List.length_singleton]
 omega
end
section
variable {prog:Program} {w:World} {A:Around} {E:Value->Shared->Prop} {s:Shared}
set_option maxRecDepth 100000 in
end
end L2
namespace Att
open PySem PySem.W PySem.Calls PyProof.Rows
theorem jlJ {P:Params} {h:Heap}:∀ (ns:List Int) (vs:List Value),WellAll P h vs (ns.map WData.int)->IntsAre vs ns:=by
 intro ns
 induction ns with
 | nil =>
  intro vs w
  rw [List.map_nil] at w
  cases w
  exact .nil
 | cons n ns ih =>
  intro vs w
  rw [List.map_cons] at w
  cases w with
  | cons a b =>
   cases a
   exact .cons _ _ (ih _ b)
theorem jte {l:OpenLaw} {n:Nat} (hn:l.most = some n) {P:Params} {h:Heap} {args:List WData} {vals:List Value}
  (hpre:l.row.toRowW.claim.pre args = true) (hwl:WellAll P h vals args) :
  ∃ a vs ns,vals = [Value.ref a]∧args = [WData.list (ns.map WData.int)]∧h.get? a = some { cls:=.type "list",data:=.seq vs.toArray }∧IntsAre vs ns∧ns.length ≤ n:=by
 have hsh:WShape.hasAll [] args [.list .int] = true:=(pre_splitW hpre).1
 have hc:l.pre.holds [] { args:=args } = true:=(pre_splitW hpre).2
 obtain ⟨d,r,rfl,h1,h2⟩:=hasAllW_cons hsh
 obtain rfl:=hasAllW_nil h2
 obtain ⟨xs,rfl,h3⟩:=hasW_list h1
 obtain ⟨ns,rfl⟩:=items_int h3
 have hlen:ns.length ≤ n:=by
  unfold OpenLaw.pre at hc
  have h4:(WTm.not (.lt (.lit (.int (n:Int))) (.len (.arg 0)))).holds [] { args:=[.list (ns.map .int)] } = true:=by
   have h4:=(holds_andW hc).1
   rw [hn] at h4
   exact h4
  have h5:=condW_of h4 (w_not (w_lt w_lit (w_len_list (w_arg rfl))))
  rw [List.length_map] at h5
  refine Nat.le_of_not_lt fun q=>?_
  have q':(n:Int) < ((ns.length:Nat):Int):=by omega
  first
   | (rw [decide_eq_true q'] at h5; exact absurd h5 (by decide))
   | (simp at h5; omega)
 cases hwl with
 | cons w1 w2 =>
  cases w2
  cases w1 with
  | list ho hall=>exact ⟨_,_,ns,rfl,rfl,ho,jlJ ns _ hall,hlen⟩
theorem jtA (l:OpenLaw) (args:List WData):l.row.toRowW.claim.post args (.bool true) args = true :=
 postW_of (r:=l.row.toRowW) (X:=(true == true))
  (show WShape.has [] (.bool true) .bool = true by first | rfl | decide | simp [WShape.has,WShape.arms,WShape.armsAll])
  (show (WTm.eq .res (.lit (.bool true))).value [] { args:=args,res:=some (.bool true),after:=args } = some (.bool (true == true)) from w_eq_bool (w_res rfl) w_lit) rfl
theorem attach_call {l:OpenLaw} {n:Nat} {q:Program} {loose:List Str} {XP:(Str->Option Value)->Heap->Prop} {YP:World->Heap->Prop} {d:DefRec}
  (hn:l.most = some n) (hdf:d.params.defaults = [])
  (call:∀ (w:World) (s₀ s₁:Shared) (mg mb:Str->Option Value) (fa:Addr) (o:Obj) (pm cd doc:Value) (a:Addr) (vs:List Value) (ns:List Int),
   Ground q loose [] XP w s₀ mg mb s₁.heap->YP w s₁.heap ->
   s₁.heap.get? fa = some o->o.data = .func (docDef d.name d.params d.body d.scope pm cd doc)->s₁.heap.CodeRec cd d.name->mg d.name = some (.ref fa) ->
   s₁.heap.get? a = some { cls:=.type "list",data:=.seq vs.toArray }->IntsAre vs ns->ns.length ≤ n->s₁.gens = #[] ->
   codeAny (model l.prog w) callerA (.call (.ref fa) ⟨[.ref a],[]⟩) (fun r s'=>r = .ok (.ret (.bool true))∧OldK s₁.heap s'.heap∧s'.os = s₁.os∧AllBare s'.gens) s₁) :
  WalkO q loose XP YP l.row.toRowW d [] (fun f vs=>PySem.call f vs):=by
 intro w s₀ s₁ mg mb G Y fa o pm cd doc dV kV ho hd hcd hD hmg hg args vals as hpre hlay hrd hwl hlo
 obtain rfl:dV = .none:=Dflts.none hD hdf
 obtain rfl:kV = .none:=Dflts.noKw hD
 obtain ⟨a,vs,ns,rfl,rfl,hobj,hints,hlen⟩:=jte hn hpre hwl
 refine enter_call (codeAny_mono (call w s₀ s₁ mg mb fa o pm cd doc a vs ns G Y ho (fd_plain hd) hcd hmg hobj hints hlen hg) fun r s' hq=>?_)
 obtain ⟨rfl,h2,h3,h4⟩:=hq
 exact ⟨.inl ⟨.bool true,.bool true,[],rfl,fun _=>rfl,.bool true,jtA l _,fun _=>⟨List.Pairwise.nil,fun _ hm=>(by cases hm)⟩⟩,h2,h3,h4⟩
end Att
namespace L2
open PySem PySem.Spec PyProof.Rows
theorem jnY:∀ {vs:List Value} {ns:List Int},IntsAre vs ns->Vals (ns.map V.int) vs
 | _,_,.nil=>.nil
 | _,_,.cons n t h=>.cons ⟨t,rfl⟩ (jnY h)
def ju5 (H:Hp):Prop:=∀ b,H b = none ∨ ∃ o xs,H b = some (.frz o (.lst xs))
theorem jvs {P:Program} {w:World} {K:PySem.W.Frag} {mg mb:Str->Option Value} {CX:CXT} {k:Nat} {fa a:Addr} {fd:FuncData} {x:Str} {sp:Sp} {s₁:Shared} {vs:List Value} {ns:List Int}
  (KX:K.In s₁.heap) (hns:s₁.heap.Ns mainGlobals mg) (hb:s₁.heap.Ns builtinsNs mb) (hbb:∀ x:Str,x ≠ "__name__"->mb x = bootBuiltins x) (hlim:s₁.heap.NoLimit) (hg:s₁.gens = #[])
  (ha:s₁.heap.get? a = some { cls:=.type "list",data:=.seq vs.toArray }) (hi:IntsAre vs ns) (hl:ns.length ≤ sizeLine) (hr:Room k callerA)
  (F:∀ base:Heap,K.In base->base.Ns mainGlobals mg->FnOk P w K mg base CX k fa fd [x] sp) (hbind:∀ (s:Shared) (u:Value),BindsTo s fd ⟨[u],[]⟩ [(x,u)])
  (hsp:∀ H:Hp,ju5 H->SqL K H a (ns.map V.int)->sp [.ref a] H (fun v _=>v = .bl true) fun _ _ _=>False)
  (hCX:∀ H e s',CX [] H s₁ (fun _ _ _=>False) e s'->False) :
  codeAny (model P w) callerA (.call (.ref fa) ⟨[.ref a],[]⟩) (fun r s'=>r = .ok (.ret (.bool true))∧OldK s₁.heap s'.heap∧s'.os = s₁.os∧AllBare s'.gens) s₁:=by
 have rv:=jnY hi
 have lenV:=hi.length
 -- from an abstract heap in which nothing but the script may be tracked
 have core:∀ H:Hp,ju5 H->SqL K H a (ns.map V.int)->HOk P w H s₁.heap->(∀ b,H b ≠ none->b = a)->(H a ≠ none->K.lookup a = none) ->
   codeAny (model P w) callerA (.call (.ref fa) ⟨[.ref a],[]⟩) (fun r s'=>r = .ok (.ret (.bool true))∧OldK s₁.heap s'.heap∧s'.os = s₁.os∧AllBare s'.gens) s₁:=by
  intro H hO hS hok hA hK
  have base_of:∀ {b:Addr} {o:Obj},s₁.heap.get? b = some o->H b = none->(jhs s₁.heap H).get? b = some o:=fun e n=>jvW e n
  have noA:∀ {b:Addr} {o:Obj} {es:Array DictEntry} {ep:Nat},s₁.heap.get? b = some o->o.data = .dict es ep->H b = none:=fun {b o es ep} e d=>by
   cases q:H b with
   | none=>rfl
   | some u =>
    have e':b = a:=hA b (by rw [q]; simp)
    subst e'
    rw [ha] at e; cases e
    have d':Data.seq vs.toArray _ = Data.dict es ep:=d
    cases d'
  have nsK:∀ {b:Addr} {m:Str->Option Value},s₁.heap.Ns b m->(jhs s₁.heap H).Ns b m:=fun {b m} ⟨o,es,ep,e,d,r⟩=>⟨o,es,ep,base_of e (noA e d),d,r⟩
  have hKb:K.In (jhs s₁.heap H):=fun b o e=>base_of (KX b o e) (by
   cases q:H b with
   | none=>rfl
   | some u =>
    have e':b = a:=hA b (by rw [q]; simp)
    subst e'
    rw [hK (by rw [q]; simp)] at e; cases e)
  have hM:Mod K mg (jhs s₁.heap H):=⟨hKb,nsK hns,⟨mb,nsK hb,hbb⟩,let ⟨mc,h1,h2⟩:=hlim; ⟨mc,nsK h1,h2⟩⟩
  have e0:Env0 P w K mg (jhs s₁.heap H) callerA [] s₁ H:=⟨rfl,hM,fun b o e=>jwV e,Nat.le_of_eq (jum _ _),trivial,fun b hb=>absurd (show b ∈ ([]:List Addr) from hb) (by simp),hok,.of_eq hg⟩
  refine codeAny_mono ((F _ hKb (nsK hns)).run callerA [] s₁ H ⟨[.ref a],[]⟩ [.ref a] [.ref a] _ _ hr e0 (hbind s₁ (.ref a)) (.cons rfl .nil) (hsp H hO hS)) fun r s' h=>?_
  cases r with
  | error e=>exact (hCX H e s' h).elim
  | ok fl =>
   cases fl with
   | next=>exact False.elim h
   | brk=>exact False.elim h
   | cont=>exact False.elim h
   | ret u =>
    obtain ⟨v,H',os,bare,un,hok',r',q⟩:=h
    have q':v = .bl true:=q
    subst q'
    obtain rfl:u = Value.bool true:=r'
    refine ⟨rfl,OldK.of_keep fun b o e=>?_,os,bare⟩
    cases q:H b with
    | none=>exact un.keep b o e q (by intro z; exact absurd (show b ∈ ([]:List Addr) from z) (by simp)) (by simp)
    | some u =>
     rcases hO b with z | ⟨ob,xs,z⟩
     ·rw [q] at z; cases z
     ·have z2:=un.frzs b ob _ z
      obtain ⟨e1,_⟩:=hok b _ z
      obtain ⟨e2,_⟩:=hok' b _ z2
      rw [e] at e1; cases e1
      exact e2
 cases hk:K.lookup a with
 | some o =>
  -- the script is one of the module's own objects
  have e:=KX a o hk
  rw [ha] at e
  cases e
  refine core (fun _=>none) (fun _=>.inl rfl) (.inr ⟨_,vs.toArray,_,hk,rfl,rfl,rfl,by rw [List.size_toArray,lenV]; exact hl,by simpa using rv⟩) (fun b u z=>by have z':(none:Option HO) = some u:=z; cases z') (fun b z=>absurd rfl z) fun z=>absurd rfl z
 | none =>
  refine core (fun b=>if b = a then some (.frz { cls:=.type "list",data:=.seq vs.toArray } (.lst (ns.map V.int))) else none) (fun b=>?_) (.inl (.inr ⟨{ cls:=.type "list",data:=.seq vs.toArray },if_pos rfl⟩)) (fun b u z=>?_) (fun b z=>?_) fun _=>hk
  ·by_cases hb:b = a
   ·exact .inr ⟨_,_,if_pos hb⟩
   ·exact .inl (if_neg hb)
  ·by_cases hb:b = a
   ·have z':=(if_pos hb).symm.trans z
    cases z'
    subst hb
    exact ⟨ha,by rw [List.length_map]; exact hl,vs,_,rv,ha⟩
   ·have z':=(if_neg hb).symm.trans z
    cases z'
  ·by_cases hb:b = a
   ·exact hb
   ·exact absurd (if_neg hb) z
end L2
namespace L2
open PySem PySem.Spec PyProof.Rows
theorem jwY {l:PySem.W.OpenLaw} {n k:Nat} {q:Program} {loose:List Str} {XP:(Str->Option Value)->Heap->Prop} {YP:World->Heap->Prop} {d:DefRec} {K:Params->PySem.W.Frag} {CX:World->CXT} {sp:World->Sp} {x:Str}
  (hn:l.most = some n) (hn2:n ≤ sizeLine) (hdf:d.params.defaults = []) (hr:Room k callerA)
  (hY:∀ (w:World) (h:Heap),YP w h->(K w.params).In h)
  (F:∀ (w:World) (mg:Str->Option Value) (fa:Addr) (h:Heap),(K w.params).In h->h.Ns mainGlobals mg->mg d.name = some (.ref fa) ->
   ∃ fd:FuncData,(∀ (s:Shared) (u:Value),BindsTo s fd ⟨[u],[]⟩ [(x,u)]) ∧
    ∀ base:Heap,(K w.params).In base->base.Ns mainGlobals mg->FnOk l.prog w (K w.params) mg base (CX w) k fa fd [x] (sp w))
  (hsp:∀ (w:World) (H:Hp) (a:Addr) (ns:List Int),ns.length ≤ n->ju5 H->SqL (K w.params) H a (ns.map V.int)->sp w [.ref a] H (fun v _=>v = .bl true) fun _ _ _=>False)
  (hCX:∀ (w:World) (H:Hp) (s:Shared) (e:Value) (s':Shared),CX w [] H s (fun _ _ _=>False) e s'->False) :
  PySem.W.WalkO q loose XP YP l.row.toRowW d [] (fun f vs=>PySem.call f vs):=by
 refine Att.attach_call hn hdf fun w s₀ s₁ mg mb fa o pm cd doc a vs ns G Y ho hd hcd hmg hobj hints hlen hg=>?_
 have KX:=hY w _ Y
 obtain ⟨fd,hb,hF⟩:=F w mg fa _ KX G.T.g hmg
 exact jvs KX G.T.g G.T.b G.T.builtins G.T.nolimit hg hobj hints (Nat.le_trans hlen hn2) hr hF hb (fun H hO hS=>hsp w H a ns hlen hO hS) fun H e s'=>hCX w H s₁ e s'
end L2
namespace L2
open PySem PySem.Spec PyProof.Rows
def jjs (s:Stmt) (j:Nat):Stmt:=match s with
 | .ClassDef _ _ _ body _ _ _ _ _ _ _=>body.getD j (.Pass ⟨0,0,0,0⟩)
 | _=>.Pass ⟨0,0,0,0⟩
def jaB (s:Stmt):Arguments:=match s with
 | .FunctionDef _ a _ _ _ _ _ _ _ _=>a
 | _=>{ posonlyargs:=[],args:=[],vararg:=none,kwonlyargs:=[],kw_defaults:=[],kwarg:=none,defaults:=[] }
def jag (s:Stmt):List Stmt:=match s with
 | .FunctionDef _ _ b _ _ _ _ _ _ _=>b
 | _=>[]
def jj (s:Stmt):Scope:=match s with
 | .FunctionDef _ _ _ _ _ _ sc _ _ _=>sc
 | _=>{ kind:=.function,names:=[],isGenerator:=false,isCoroutine:=false }
abbrev jS:CXT:=fun _ _ _ _ _ _=>False
abbrev E0:XK:=fun _ _ _=>False
theorem jc5 {X:Cx}:jgd jS X E0:=fun _ _ _ _ _ _ _ h=>h.elim
structure Fun (K:PySem.W.Frag) (x qual:Str) (st:Stmt) (f:Addr) (fd:FuncData):Prop where
 ex:∃ (oc:Value) (od:Option Addr) (kV doc pm:Value) (an:Option Addr) (cdv ct:Value) (osl:Array (Option Value)),
  fd = PySem.W.fnOf x qual (jaB st) (jag st) (jj st) .none kV doc pm an cdv ct∧K.lookup f = some ⟨oc,od,.func fd,osl⟩∧PySem.W.codeIn K cdv qual = true
 kp:PySem.W.keepIn K (.ref f) = true
section
variable {P:Program} {w:World} {K:PySem.W.Frag} {mg:Str->Option Value} {base:Heap}
theorem Fun.ok {x qual:Str} {st:Stmt} {f:Addr} {fd:FuncData} {N ps:List Str} {k:Nat} {sp:Sp} (F:Fun K x qual st f fd) (S:ju N ps (jj st)) (len:∀ vs H Q E,sp vs H Q E->vs.length = ps.length)
  (hbody:∀ (cdv:Value) (A:Around) (outer:List Env) (s:Shared) (H:Hp) (vs:List V) (Q:VK) (E:XK),Room k (A.deeper (envOfC qual (jj st) s.heap.objs.size f cdv))->sp vs H Q E ->
   ∃ t,PSs (jcW jS P w K mg base N qual (jj st) f cdv A outer s H E).nox (jag st) t∧t { nx:=fun _ H'=>Q .non H',rt:=Q } (jbc N vs) H):FnOk P w K mg base jS (k + 1) f fd ps sp:=by
 obtain ⟨oc,od,kV,doc,pm,an,cdv,ct,osl,rfl,lk,hcd⟩:=F.ex
 refine jwb lk hcd S len fun A outer s H vs Q E hr hsp=>?_
 obtain ⟨t,h,q⟩:=hbody cdv A outer s H vs Q E hr hsp
 exact ⟨t,h.nox,q⟩
theorem Fun.binds {x qual:Str} {st:Stmt} {f:Addr} {fd:FuncData} {ps:List Str} (F:Fun K x qual st f fd)
  (h:∀ (kV doc pm:Value) (an:Option Addr) (cdv ct:Value) (us:List Value),us.length = ps.length->bindArgs (PySem.W.fnOf x qual (jaB st) (jag st) (jj st) .none kV doc pm an cdv ct) ⟨us,[]⟩ = pure (ps.zip us)):Binds K fd ps []:=by
 obtain ⟨oc,od,kV,doc,pm,an,cdv,ct,osl,rfl,lk,hcd⟩:=F.ex
 exact .all (h kV doc pm an cdv ct)
theorem jiX {x qual:Str} {st:Stmt} {f:Addr} {oc:Value} {od an:Option Addr} {osl:Array (Option Value)} {kV doc pm cdv ct:Value} (l:K.lookup f = some ⟨oc,od,.func (PySem.W.fnOf x qual (jaB st) (jag st) (jj st) .none kV doc pm an cdv ct),osl⟩)
  (c:PySem.W.codeIn K cdv qual = true) (k:PySem.W.keepIn K (.ref f) = true):Fun K x qual st f (PySem.W.fnOf x qual (jaB st) (jag st) (jj st) .none kV doc pm an cdv ct):=⟨⟨oc,od,kV,doc,pm,an,cdv,ct,osl,rfl,l,c⟩,k⟩
end
theorem jbi {A:Around} {k:Nat} (hr:Room k A):A.units + 1 < cLine:=Nat.lt_of_le_of_lt (Nat.add_le_add_left (by decide:1 ≤ 64) _) hr.units
theorem jdX {n:Nat} (h:n ≤ 1000):n < sizeLine:=Nat.lt_of_le_of_lt h (by decide)
section
variable {X:Cx}
theorem pv (i:Nat) {x:Str} {pos:Pos} (hN:X.N[i]? = some x:=by rfl) (hv:Vis X.env.scope x:=by first | exact Or.inl rfl | exact Or.inr (Or.inl rfl) | exact Or.inr (Or.inr rfl)) (hd:(x == ("__debug__":Str)) = false:=by decide)
  (hcd:(x == ("__classdict__":Str)) = false:=by decide):PE X (.Name x pos) (jd7 i):=jyl hN hv hd hcd
end
def Same (H H':Hp):Prop:=∀ b o,H b = some o->H' b = some o
theorem Same.refl (H:Hp):Same H H:=fun _ _ h=>h
theorem Same.trans {H H1 H2:Hp} (a:Same H H1) (b:Same H1 H2):Same H H2:=fun c o h=>b c o (a c o h)
theorem Same.free {H H':Hp} (e:Same H H') {l:Addr} (h:H' l = Option.none):H l = Option.none:=by
 cases q:H l with
 | none=>rfl
 | some o =>
  rw [e l o q] at h
  cases h
theorem Same.seq {K:PySem.W.Frag} {H H':Hp} {a:Addr} {xs:List V} (e:Same H H') (h:SqL K H a xs):SqL K H' a xs:=by
 rcases h with (h | ⟨o,h⟩) | h
 ·exact .inl (.inl (e _ _ h))
 ·exact .inl (.inr ⟨o,e _ _ h⟩)
 ·exact .inr h
end L2
namespace L2
open PySem PySem.Spec PyProof.Rows
section
variable {κ:Type} [DecidableEq κ]
def jcl (kvs:List (κ × V)) (k:κ):Option V:=(kvs.find? fun kv=>decide (kv.1 = k)).map (·.2)
def jc3 (kvs:List (κ × V)) (k:κ) (v:V):List (κ × V) :=
 if (kvs.any fun kv=>decide (kv.1 = k)) = true then kvs.map (fun kv=>if kv.1 = k then (kv.1,v) else kv) else kvs ++ [(k,v)]
def jhd (kvs:List (κ × V)) (k:κ):List (κ × V):=kvs.filter fun kv=>decide (kv.1 ≠ k)
theorem jkD {p:κ × V} {r:List (κ × V)} {k:κ} (e:p.1 = k):jcl (p :: r) k = some p.2:=by simp [jcl,List.find?_cons,e]
theorem jkM {p:κ × V} {r:List (κ × V)} {k:κ} (e:¬ p.1 = k):jcl (p :: r) k = jcl r k:=by simp [jcl,List.find?_cons,e]
theorem jo5 (k:κ):∀ kvs:List (κ × V),(kvs.any fun kv=>decide (kv.1 = k)) = (jcl kvs k).isSome
 | []=>rfl
 | p :: r=>by
  rw [List.any_cons]
  by_cases e:p.1 = k
  ·simp only [jkD e,decide_eq_true e,Bool.true_or,Option.isSome_some]
  ·rw [jkM e,decide_eq_false e,Bool.false_or]; exact jo5 k r
theorem jjU (kvs:List (κ × V)) (k:κ) (v:V):(jc3 kvs k v).length ≤ kvs.length + 1:=by
 unfold jc3
 split
 ·rw [List.length_map]; omega
 ·rw [List.length_append,List.length_cons,List.length_nil]; omega
theorem RelO.isSome_eq {o:Option V} {u:Option Value} (r:RelO o u):o.isSome = u.isSome:=by
 cases o with
 | none=>cases u with
  | none=>rfl
  | some _=>exact (show False from r).elim
 | some _=>cases u with
  | none=>exact (show False from r).elim
  | some _=>rfl
theorem RelO.getD {o:Option V} {u:Option Value} {d:V} {d':Value} (r:RelO o u) (rd:RelV d d'):RelV (o.getD d) (u.getD d'):=by
 cases o with
 | none=>cases u with
  | none=>exact rd
  | some _=>exact (show False from r).elim
 | some _=>cases u with
  | none=>exact (show False from r).elim
  | some _=>exact r
theorem KV.val {kvs:List (κ × V)} {vs:List (κ × Value)} (r:KV kvs vs) (k:κ):RelO (jcl kvs k) (valueAt vs k):=by
 unfold KV at r
 induction r with
 | nil=>exact True.intro
 | @cons p q ps qs h t ih =>
  obtain ⟨h1,h2⟩:=h
  by_cases e:p.1 = k
  ·have e':q.1 = k:=h1.symm.trans e
   have b:valueAt (q :: qs) k = some q.2:=by simp [valueAt,List.find?_cons,e']
   rw [jkD e,b]; exact h2
  ·have e':¬ q.1 = k:=fun z=>e (h1.trans z)
   have b:valueAt (q :: qs) k = valueAt qs k:=by simp [valueAt,List.find?_cons,e']
   rw [jkM e,b]; exact ih
theorem KV.any {kvs:List (κ × V)} {vs:List (κ × Value)} (r:KV kvs vs) (k:κ):(kvs.any fun kv=>decide (kv.1 = k)) = vs.any fun kv=>decide (kv.1 = k):=by
 unfold KV at r
 induction r with
 | nil=>rfl
 | cons h t ih=>rw [List.any_cons,List.any_cons,ih,h.1]
theorem KV.repl {kvs:List (κ × V)} {vs:List (κ × Value)} (r:KV kvs vs) (k:κ) {y:V} {u:Value} (ry:RelV y u) :
  KV (kvs.map fun kv=>if kv.1 = k then (kv.1,y) else kv) (vs.map fun kv=>if kv.1 = k then (kv.1,u) else kv):=by
 unfold KV at r ⊢
 induction r with
 | nil=>exact .nil
 | @cons p q ps qs h t ih =>
  rw [List.map_cons,List.map_cons]
  refine .cons ?_ ih
  obtain ⟨h1,h2⟩:=h
  by_cases e:p.1 = k
  ·rw [if_pos e,if_pos (h1.symm.trans e)]; exact ⟨h1,ry⟩
  ·rw [if_neg e,if_neg (fun z=>e (h1.trans z))]; exact ⟨h1,h2⟩
theorem KV.put {kvs:List (κ × V)} {vs:List (κ × Value)} (r:KV kvs vs) (k:κ) {y:V} {u:Value} (ry:RelV y u):KV (jc3 kvs k y) (stored vs k u):=by
 unfold jc3 stored
 rw [r.any k]
 by_cases e:(vs.any fun kv=>decide (kv.1 = k)) = true
 ·rw [if_pos e,if_pos e]; exact r.repl k ry
 ·rw [if_neg e,if_neg e]; exact Paired.snoc r ⟨rfl,ry⟩
theorem KV.drop {kvs:List (κ × V)} {vs:List (κ × Value)} (r:KV kvs vs) (k:κ):KV (jhd kvs k) (without vs k):=by
 unfold KV at r ⊢
 unfold jhd without
 induction r with
 | nil=>exact .nil
 | @cons p q ps qs h t ih =>
  obtain ⟨h1,h2⟩:=h
  rw [List.filter_cons,List.filter_cons]
  by_cases e:p.1 = k
  ·have a:¬ decide (p.1 ≠ k) = true:=by simp [e]
   have b:¬ decide (q.1 ≠ k) = true:=by simp [h1.symm.trans e]
   rw [if_neg a,if_neg b]; exact ih
  ·have e':¬ q.1 = k:=fun z=>e (h1.trans z)
   have a:decide (p.1 ≠ k) = true:=by simp [e]
   have b:decide (q.1 ≠ k) = true:=by simp [e']
   rw [if_pos a,if_pos b]; exact .cons ⟨h1,h2⟩ ih
theorem KV.keys {kvs:List (κ × V)} {vs:List (κ × Value)} (r:KV kvs vs):kvs.map (·.1) = vs.map (·.1):=by
 unfold KV at r
 induction r with
 | nil=>rfl
 | cons h t ih=>rw [List.map_cons,List.map_cons,ih,h.1]
theorem KV.length {kvs:List (κ × V)} {vs:List (κ × Value)} (r:KV kvs vs):kvs.length = vs.length:=Paired.length r
theorem jvG (kvs:List (κ × V)) (k:κ):(jhd kvs k).length ≤ kvs.length:=List.length_filter_le _ _
end
theorem jel {P:Program} {w:World} {k:j7} {u:Value} (r:RelV (kV k) u):(jat P w).is k u = true:=by
 cases k with
 | inl i=>obtain ⟨t,e⟩:=(show ∃ t,u = Value.int i t from r); subst e; exact jqU P w i t
 | inr x=>obtain ⟨t,e⟩:=(show ∃ t,u = Value.str x t from r); subst e; exact jqS P w x t
theorem jnK {P:Program} {w:World}:∀ {ks:List j7} {us:List Value},Vals (ks.map kV) us->ItemsAre (jat P w) ks us
 | [],_,r=>by rw [List.map_nil] at r; cases r; exact .nil
 | k :: ks,_,r=>by
  rw [List.map_cons] at r
  cases r with
  | cons h t=>exact .cons (jel h) (jnK t)
abbrev KT (H:Hp):List (List j7 × V)->List (List j7 × Addr × Value)->Prop:=Paired fun p q=>p.1 = q.1∧H q.2.1 = some (.tup (p.1.map kV))∧RelV p.2 q.2.2
theorem KT.val {H:Hp} {kvs:List (List j7 × V)} {xs:List (List j7 × Addr × Value)} (r:KT H kvs xs) (k:List j7):RelO (jcl kvs k) ((atKey xs k).map (·.2)):=by
 induction r with
 | nil=>exact True.intro
 | @cons p q ps qs h t ih =>
  obtain ⟨h1,_,h2⟩:=h
  by_cases e:p.1 = k
  ·have e':q.1 = k:=h1.symm.trans e
   have b:atKey (q :: qs) k = some q.2:=by simp [atKey,List.find?_cons,e']
   rw [jkD e,b]; exact h2
  ·have e':¬ q.1 = k:=fun z=>e (h1.trans z)
   have b:atKey (q :: qs) k = atKey qs k:=by simp [atKey,List.find?_cons,e']
   rw [jkM e,b]; exact ih
theorem KT.repl {H:Hp} {kvs:List (List j7 × V)} {xs:List (List j7 × Addr × Value)} (r:KT H kvs xs) (k:List j7) {y:V} {u:Value} (ry:RelV y u) :
  KT H (kvs.map fun kv=>if kv.1 = k then (kv.1,y) else kv) (xs.map (putAt k u)):=by
 induction r with
 | nil=>exact .nil
 | @cons p q ps qs h t ih =>
  rw [List.map_cons,List.map_cons]
  refine .cons ?_ ih
  obtain ⟨h1,h2,h3⟩:=h
  unfold putAt
  by_cases e:p.1 = k
  ·rw [if_pos e,if_pos (h1.symm.trans e)]; exact ⟨h1,h2,ry⟩
  ·rw [if_neg e,if_neg (fun z=>e (h1.trans z))]; exact ⟨h1,h2,h3⟩
theorem KT.put {H:Hp} {kvs:List (List j7 × V)} {xs:List (List j7 × Addr × Value)} (r:KT H kvs xs) (k:List j7) {b:Addr} {y:V} {u:Value} (hb:H b = some (.tup (k.map kV))) (ry:RelV y u) :
  KT H (jc3 kvs k y) (storedH xs k b u):=by
 have e:(kvs.any fun kv=>decide (kv.1 = k)) = (atKey xs k).isSome:=by
  rw [jo5,(r.val k).isSome_eq,Option.isSome_map]
 unfold jc3 storedH
 rw [e]
 by_cases q:(atKey xs k).isSome = true
 ·rw [if_pos q,if_pos q]; exact r.repl k ry
 ·rw [if_neg q,if_neg q]; exact Paired.snoc r ⟨rfl,hb,ry⟩
theorem KT.keeps {H H':Hp} {kvs:List (List j7 × V)} {xs:List (List j7 × Addr × Value)} (r:KT H kvs xs) (ht:∀ b ys,H b = some (.tup ys)->H' b = some (.tup ys)):KT H' kvs xs :=
 Paired.mapP r fun _ _ z=>⟨z.1,ht _ _ z.2.1,z.2.2⟩
section
variable {P:Program} {w:World} {H:Hp} {h:Heap} {a:Addr}
theorem jww {u:HO} (ok:HOk P w H h) (e:Rd H a u):ObjOk P w H h a u:=e.ok ok
theorem jjn {kvs:List (j7 × V)} (ok:HOk P w H h) (e:Rd H a (.dK kvs)):kvs.length ≤ sizeLine∧(a == sysModules) = false∧∃ vs,KV kvs vs∧h.DictOf (jat P w) a vs :=
 show ObjOk P w H h a (.dK kvs) from jww ok e
theorem jwJ {kvs:List (j7 × V)} (ok:HOk P w H h) (e:H a = some (.dK kvs)):kvs.length ≤ sizeLine∧(a == sysModules) = false∧∃ vs,KV kvs vs∧h.DictOf (jat P w) a vs:=jjn ok (.inl e)
theorem jiu {ks:List j7} (ok:HOk P w H h) (e:H a = some (.tup (ks.map kV))):(tupleKind (jat P w)).is h ks a:=by
 obtain ⟨_,its,r,o,h1,h2,n,h3⟩:=(show ObjOk P w H h a (.tup (ks.map kV)) from ok a _ e)
 exact ⟨o,its.toArray,n,h1,h2,h3,by simpa using jnK r⟩
theorem jjC {kvs:List (List j7 × V)} (ok:HOk P w H h) (e:Rd H a (.dT kvs)):kvs.length ≤ sizeLine∧(a == sysModules) = false ∧
  ∃ xs,KT H kvs xs∧h.DictOfH (tupleKind (jat P w)) a xs:=by
 obtain ⟨z,y,xs,r,o,es,ep,h1,h2,h3,h4,h5⟩:=(show ObjOk P w H h a (.dT kvs) from jww ok e)
 refine ⟨z,y,xs,r,o,es,ep,h1,h2,h3,h4,fun x hx=>?_,h5⟩
 have all:∀ {l:List (List j7 × V)} {m:List (List j7 × Addr × Value)},KT H l m->∀ x ∈ m,(tupleKind (jat P w)).is h x.1 x.2.1:=by
  intro l m q
  induction q with
  | nil=>intro x hx; exact by cases hx
  | @cons p q ps qs hq t ih =>
   intro x hx
   rcases List.mem_cons.mp hx with e | hx
   ·subst e
    exact jiu ok (by rw [← hq.1]; exact hq.2.1)
   ·exact ih x hx
 exact all r x hx
theorem jAe {kvs:List (List j7 × V)} (ok:HOk P w H h) (e:H a = some (.dT kvs)):kvs.length ≤ sizeLine∧(a == sysModules) = false ∧
  ∃ xs,KT H kvs xs∧h.DictOfH (tupleKind (jat P w)) a xs:=jjC ok (.inl e)
end
def DGet (H:Hp) (a:Addr) (y:V) (r:Option V):Prop :=
 (∃ kvs k,Rd H a (.dK kvs)∧y = kV k∧r = jcl kvs k) ∨ ∃ kvs k b,Rd H a (.dT kvs)∧y = .ref b∧H b = some (.tup (k.map kV))∧r = jcl kvs k
def DPut (H:Hp) (a:Addr) (y v:V) (H':Hp):Prop :=
 (∃ kvs k,H a = some (.dK kvs)∧y = kV k∧kvs.length < sizeLine∧H' = jG H a (.dK (jc3 kvs k v))) ∨
 ∃ kvs k b,H a = some (.dT kvs)∧y = .ref b∧H b = some (.tup (k.map kV))∧kvs.length < sizeLine∧H' = jG H a (.dT (jc3 kvs k v))
theorem DGet.k {H:Hp} {a:Addr} {kvs:List (j7 × V)} {k:j7} (e:H a = some (.dK kvs)):DGet H a (kV k) (jcl kvs k):=.inl ⟨kvs,k,.inl e,rfl,rfl⟩
theorem DGet.t {H:Hp} {a b:Addr} {kvs:List (List j7 × V)} {k:List j7} (e:H a = some (.dT kvs)) (eb:H b = some (.tup (k.map kV))):DGet H a (.ref b) (jcl kvs k):=.inr ⟨kvs,k,b,.inl e,rfl,eb,rfl⟩
theorem DPut.k {H:Hp} {a:Addr} {kvs:List (j7 × V)} {k:j7} {v:V} (e:H a = some (.dK kvs)) (hl:kvs.length < sizeLine):DPut H a (kV k) v (jG H a (.dK (jc3 kvs k v))):=.inl ⟨kvs,k,e,rfl,hl,rfl⟩
theorem DPut.t {H:Hp} {a b:Addr} {kvs:List (List j7 × V)} {k:List j7} {v:V} (e:H a = some (.dT kvs)) (eb:H b = some (.tup (k.map kV))) (hl:kvs.length < sizeLine) :
  DPut H a (.ref b) v (jG H a (.dT (jc3 kvs k v))):=.inr ⟨kvs,k,b,e,rfl,eb,hl,rfl⟩
section
variable {X:Cx} {pins:List (Addr × Obj)} {σ:St} {H:Hp} {s:Shared} {a:Addr} {y v:V} {u r:Value} {o:Option V} {A:Around} {E:Value->Shared->Prop}
theorem Inv.big (I:Inv X pins σ H s):sysModules < s.heap.objs.size:=by
 have h:mainGlobals < s.heap.objs.size:=(I.mod.glob.keeps I.bk).lt
 exact Nat.lt_trans (by decide) h
theorem jtP {Q:Value->Shared->Prop} (hu:A.units + 1 < cLine) (I:Inv X pins σ H s) (g:DGet H a y (some v)) (ry:RelV y u) (h:∀ w' s',Inv X pins σ H s'->RelV v w'->Q w' s') :
  wpAny (model X.prog X.w) A (getItem (.ref a) u) Q E s:=by
 rcases g with ⟨kvs,k,e,ey,l⟩ | ⟨kvs,k,b,e,ey,eb,l⟩
 ·subst ey
  obtain ⟨z,hd,vs,rel,dd⟩:=jjn I.hok e
  obtain ⟨w',hw,rw'⟩:=RelO.some_of (v:=v) (o:=valueAt vs k) (by rw [l]; exact rel.val k)
  exact wpAny_getItem_of (jel ry) dd.mapOf hw (h w' _ (I.tok _) rw')
 ·subst ey
  cases (show u = Value.ref b from ry)
  obtain ⟨z,hd,xs,rel,dd⟩:=jjC I.hok e
  obtain ⟨w',hw,rw'⟩:=RelO.some_of (v:=v) (o:=(atKey xs k).map (·.2)) (by rw [l]; exact rel.val k)
  obtain ⟨p,hp,hp2⟩:=Option.map_eq_some_iff.mp hw
  refine wpAny_getItem_heap (tupleKind_room_in1 hu) (jiu I.hok eb) dd hp ?_
  rw [hp2]
  exact h w' _ (I.tok _) rw'
theorem jAT {Q:Value->Shared->Prop} (hu:A.units + 1 < cLine) (I:Inv X pins σ H s) (g:DGet H a y o) (ry:RelV y u) (h:∀ s',Inv X pins σ H s'->Q (.bool o.isSome) s') :
  wpAny (model X.prog X.w) A (compareOp .In u (.ref a)) Q E s:=by
 rcases g with ⟨kvs,k,e,ey,l⟩ | ⟨kvs,k,b,e,ey,eb,l⟩
 ·subst ey
  obtain ⟨z,hd,vs,rel,dd⟩:=jjn I.hok e
  refine wpAny_in_of (jel ry) hd dd.mapOf ?_
  rw [← (rel.val k).isSome_eq,← l]
  exact h _ (I.tok _)
 ·subst ey
  cases (show u = Value.ref b from ry)
  obtain ⟨z,hd,xs,rel,dd⟩:=jjC I.hok e
  refine wpAny_in_heap (tupleKind_room_in1 hu) (jiu I.hok eb) hd dd ?_
  have q:=(rel.val k).isSome_eq
  rw [Option.isSome_map] at q
  rw [← q,← l]
  exact h _ (I.tok _)
theorem jwX {Q:Value->Shared->Prop} (hu:A.units + 1 < cLine) (I:Inv X pins σ H s) (g:DGet H a y o) (ry:RelV y u) (h:∀ s',Inv X pins σ H s'->Q (.bool (!o.isSome)) s') :
  wpAny (model X.prog X.w) A (compareOp .NotIn u (.ref a)) Q E s:=by
 rcases g with ⟨kvs,k,e,ey,l⟩ | ⟨kvs,k,b,e,ey,eb,l⟩
 ·subst ey
  obtain ⟨z,hd,vs,rel,dd⟩:=jjn I.hok e
  refine wpAny_notIn_of (jel ry) hd dd.mapOf ?_
  rw [← (rel.val k).isSome_eq,← l]
  exact h _ (I.tok _)
 ·subst ey
  cases (show u = Value.ref b from ry)
  obtain ⟨z,hd,xs,rel,dd⟩:=jjC I.hok e
  refine wpAny_notIn_heap (tupleKind_room_in1 hu) (jiu I.hok eb) hd dd ?_
  have q:=(rel.val k).isSome_eq
  rw [Option.isSome_map] at q
  rw [← q,← l]
  exact h _ (I.tok _)
theorem jmw {h':Heap} {t':Nat} {ob:HO} (I:Inv X pins σ H s) (mu:Mut (H a)) (hs:Heap.SameBut a s.heap h') (he:∃ q,h'.get? a = some q) (new:ObjOk X.prog X.w (jG H a ob) h' a ob) :
  Inv X pins σ (jG H a ob) { s with heap:=h',toks:=t' } :=
 I.write (x:=a) (e:=a) mu (.inl rfl) (fun b q hb z=>(hs.2 b hb).trans z) he new
theorem jt9 {P:Program} {w:World} {H':Hp} {h':Heap} {kvs:List (j7 × V)} {vs:List (j7 × Value)} (z:kvs.length ≤ sizeLine) (hd:(a == sysModules) = false) (rel:KV kvs vs) (dd:h'.DictOf (jat P w) a vs) :
  ObjOk P w H' h' a (.dK kvs):=⟨z,hd,vs,rel,dd⟩
theorem jur {H':Hp} {Q:Unit->Shared->Prop} (hu:A.units + 1 < cLine) (I:Inv X pins σ H s) (g:DPut H a y v H') (ry:RelV y u) (rv:RelV v r) (h:∀ s',Inv X pins σ H' s'->Q () s') :
  wpAny (model X.prog X.w) A (setItem (.ref a) u r) Q E s:=by
 rcases g with ⟨kvs,k,e,ey,l,eH⟩ | ⟨kvs,k,b,e,ey,eb,l,eH⟩
 ·subst ey eH
  obtain ⟨z,hd,vs,rel,dd⟩:=jwJ I.hok e
  have hz:vs.length ≤ sizeLine:=by rw [← rel.length]; exact z
  have hl:(jc3 kvs k v).length ≤ sizeLine:=by have:=jjU kvs k v; omega
  refine wpAny_setItem_pairs (hsz:=hz) (jel ry) dd fun h' dd' hs=>h _ ?_
  have he:∃ q,h'.get? a = some q:=let ⟨q,_,_,hq,_⟩:=dd'; ⟨q,hq⟩
  exact jmw I (by rw [e]; exact True.intro) hs he (jt9 hl hd (rel.put k rv) dd')
 ·subst ey eH
  cases (show u = Value.ref b from ry)
  obtain ⟨z,hd,xs,rel,dd⟩:=jAe I.hok e
  have hz:xs.length ≤ sizeLine:=by rw [← Paired.length rel]; exact z
  have hl:(jc3 kvs k v).length ≤ sizeLine:=by have:=jjU kvs k v; omega
  refine wpAny_setItem_heap (hsz:=hz) (tupleKind_room_in1 hu) (jiu I.hok eb) dd fun h' dd' hs=>h _ ?_
  obtain ⟨q,es,ep,hq,h2,h3,h4,_,h5⟩:=dd'
  refine jmw I (by rw [e]; exact True.intro) hs ⟨q,hq⟩ ⟨hl,hd,_,(rel.put k eb rv).keeps fun c ys ec=>?_,q,es,ep,hq,h2,h3,h4,h5⟩
  rw [jy (jdf ec e (fun z=>by cases z))]
  exact ec
end
section
variable {X:Cx} {pins:List (Addr × Obj)} {σ:St} {H:Hp} {s:Shared} {a:Addr} {kvs:List (j7 × V)} {k:j7} {u:Value} {A:Around} {E:Value->Shared->Prop}
theorem jAf {v:V} {more:List Value} {Q:Value->Shared->Prop} (I:Inv X pins σ H s) (e:H a = some (.dK kvs)) (ry:RelV (kV k) u) (l:jcl kvs k = some v) (hm:more = [] ∨ ∃ x,more = [x])
  (h:∀ w' s',Inv X pins σ (jG H a (.dK (jhd kvs k))) s'->RelV v w'->Q w' s'):wpAny (model X.prog X.w) A (call (.builtin "dict.pop") (.ref a :: u :: more)) Q E s:=by
 obtain ⟨z,hd,vs,rel,dd⟩:=jwJ I.hok e
 obtain ⟨w',hw,rw'⟩:=RelO.some_of (v:=v) (o:=valueAt vs k) (by rw [← l]; exact rel.val k)
 have hp:(keyPart u).isSome = true:=by
  cases k with
  | inl i=>obtain ⟨t,q⟩:=(show ∃ t,u = Value.int i t from ry); subst q; rfl
  | inr x=>obtain ⟨t,q⟩:=(show ∃ t,u = Value.str x t from ry); subst q; rfl
 have ha:argsOk "dict.pop" ⟨.ref a :: u :: more,[]⟩:=by
  rcases hm with q | ⟨x,q⟩
  ·subst q; exact PySem.F.args_dict_pop_2 _ _
  ·subst q; exact PySem.F.args_dict_pop_3 _ _ _
 refine call_meetsIn PySem.F.slot_dict_pop dd.typeIs PySem.F.entry_dict_pop ha (meets_dict_pop_there (jat X.prog X.w) a (jel ry) more hm hp)
  ⟨vs,w',dd,by rw [← rel.length]; exact z,hw,fun h' dd' hs=>h w' _ ?_ rw'⟩
 have he:∃ q,h'.get? a = some q:=let ⟨q,_,_,hq,_⟩:=dd'; ⟨q,hq⟩
 exact jmw I (by rw [e]; exact True.intro) hs he (jt9 (Nat.le_trans (jvG kvs k) z) hd (rel.drop k) dd')
end
def jmr (i:Expr):Prop:=∀ ov iv,subscripted i false ov iv = operate [ov,iv] (getItem ov iv)
theorem jrn {prog:Program} {w:World} {A:Around} {E:Value->Shared->Prop} {s:Shared} {env:Env} {value slice:Expr} {pos:Pos} {T id:String} {Q:Value->Shared->Prop}
  (hl:typeLookup (.type T) "__getitem__" = pure (some (.builtin id))) (hs:jmr slice)
  (h:wpAny (model prog w) A (eval value env) (fun o s₁=>wpAny (model prog w) A (eval slice env) (fun i s₂=>s₂.TypeIs o T∧wpAny (model prog w) A (getItem o i) Q E s₂) E s₁) E s) :
  wpAny (model prog w) A (eval (.Subscript value slice pos) env) Q E s:=by
 refine Subscript_ (wpAny_mono h (fun o s₁ h₁=>wpAny_mono h₁ (fun i s₂ h₂=>?_) fun _ _ x=>x) fun _ _ x=>x)
 obtain ⟨hT,h₂⟩:=h₂
 unfold subscriptTail
 refine wpAny_bind ?_
 rw [getitemInPython_of_ne hT.not_modules]
 refine wpAny_bind (wpAny_specialOf hT hl ?_)
 have fin:wpAny (model prog w) A (subscripted slice false o i) (fun r s₃=>wpAny (model prog w) A (letTemporaryGo value o r >>= fun _=>pure r) Q E s₃) E s₂:=by
  rw [hs o i]
  exact wpAny_operating (wpAny_mono h₂ (fun r s₃ h₃=>wpAny_bind (wpAny_letTemporaryGo (wpAny_pure h₃))) fun _ _ x=>x)
 first
  | exact wpAny_pure (wpAny_bind fin)
  | exact wpAny_bind (wpAny_pure (wpAny_bind fin))
  | exact wpAny_bind fin
theorem jqM {X:Cx} {pins:List (Addr × Obj)} {σ:St} {H:Hp} {s:Shared} {a:Addr} {y:V} {o:Option V} (I:Inv X pins σ H s) (g:DGet H a y o):s.TypeIs (.ref a) "dict":=by
 rcases g with ⟨kvs,k,e,_,_⟩ | ⟨kvs,k,b,e,_,_,_⟩
 ·obtain ⟨_,_,vs,_,dd⟩:=jjn I.hok e
  exact dd.typeIs
 ·obtain ⟨_,_,xs,_,dd⟩:=jjC I.hok e
  exact dd.typeIs
def jz8 (td ty:TE):TE:=fun σ H Q=>td σ H fun x H1=>ty σ H1 fun y H2=>∃ a v,x = .ref a∧DGet H2 a y (some v)∧Q v H2
def jAF (ty td:TE):TE:=fun σ H Q=>ty σ H fun y H1=>td σ H1 fun x H2=>∃ a o,x = .ref a∧DGet H2 a y o∧Q (.bl o.isSome) H2
def jxQ (ty td:TE):TE:=fun σ H Q=>ty σ H fun y H1=>td σ H1 fun x H2=>∃ a o,x = .ref a∧DGet H2 a y o∧Q (.bl (!o.isSome)) H2
def jzU (td ty tv:TE):TS:=fun D σ H=>tv σ H fun v H1=>td σ H1 fun x H2=>ty σ H2 fun y H3=>∃ a H4,x = .ref a∧DPut H3 a y v H4∧D.nx σ H4
section
variable {X:Cx} {o i e value:Expr} {pos pos' tpos:Pos} {td ty tv:TE}
theorem jw1 (hu:X.A.units + 1 < cLine) (ho:PE X o td) (hi:PE X i ty) (hs:jmr i):PE X (.Subscript o i pos) (jz8 td ty):=by
 intro pins s σ H Q I h
 refine jrn PySem.F.slot_dict_getitem.lookup hs (jF (ho pins s σ H _ I h) fun u s1 ⟨x,H1,I1,rx,q1⟩=>jF (hi pins s1 σ H1 _ I1 q1) fun iv s2 qZ=>?_)
 obtain ⟨y,H2,I2,ry,a,v,ex,g,q2⟩:=qZ
 subst ex
 obtain rfl:u = Value.ref a:=rx
 exact ⟨jqM I2 g,jtP hu I2 g ry fun w' s3 I3 rw'=>⟨v,H2,I3,rw',q2⟩⟩
theorem jzE (hu:X.A.units + 1 < cLine) (hi:PE X i ty) (ho:PE X o td):PC X .In i o (jAF ty td):=by
 intro pins s σ H Q I h
 refine jF (hi pins s σ H _ I h) fun iv s1 ⟨y,H1,I1,ry,q1⟩=>jF (ho pins s1 σ H1 _ I1 q1) fun u s2 qZ=>?_
 obtain ⟨x,H2,I2,rx,a,ov,ex,g,q2⟩:=qZ
 subst ex
 obtain rfl:u = Value.ref a:=rx
 exact jAT hu I2 g ry fun s3 I3=>⟨.bl ov.isSome,H2,I3,rfl,q2⟩
theorem juB (hu:X.A.units + 1 < cLine) (hi:PE X i ty) (ho:PE X o td):PC X .NotIn i o (jxQ ty td):=by
 intro pins s σ H Q I h
 refine jF (hi pins s σ H _ I h) fun iv s1 ⟨y,H1,I1,ry,q1⟩=>jF (ho pins s1 σ H1 _ I1 q1) fun u s2 qZ=>?_
 obtain ⟨x,H2,I2,rx,a,ov,ex,g,q2⟩:=qZ
 subst ex
 obtain rfl:u = Value.ref a:=rx
 exact jwX hu I2 g ry fun s3 I3=>⟨.bl (!ov.isSome),H2,I3,rfl,q2⟩
theorem jxx (hu:X.A.units + 1 < cLine) (ho:PE X o td) (hi:PE X i ty) (hv:PE X value tv) (hs:swapsWith value (some (.Subscript o i pos')) pos.line X.env = pure false) :
  PS X (.Assign [.Subscript o i pos'] value pos) (jzU td ty tv):=by
 intro pins s σ H D I h
 refine wpAny_Assign_Subscript (jF (hv pins s σ H _ I h) fun r s1 ⟨v,H1,I1,rv,q1⟩=>jF (ho pins s1 σ H1 _ I1 q1) fun u s2 ⟨x,H2,I2,rx,q2⟩=>jF (hi pins s2 σ H2 _ I2 q2) fun iv s3 qZ=>?_) hs
 obtain ⟨y,H3,I3,ry,a,H4,ex,g,q3⟩:=qZ
 subst ex
 obtain rfl:u = Value.ref a:=rx
 exact jur hu I3 g ry rv fun s4 I4=>⟨σ,H4,I4,q3⟩
end
theorem juD {P:Program} {w:World} {H:Hp} (h:Heap) (hb:sysModules < h.objs.size):ObjOk P w H (h.push { cls:=.type "dict",data:=.dict #[] }) h.objs.size (.dK []) :=
 ⟨Nat.zero_le _,beq_eq_false_iff_ne.mpr (Ne.symm (Nat.ne_of_lt hb)),[],.nil,Heap.DictOf.new h⟩
def jy9:TE:=fun _ H Q=>∀ p,H p = none->Q (.ref p) (jG H p (.dK []))
section
variable {X:Cx} {pos:Pos}
theorem jpe:PE X (.Dict [] [] pos) jy9:=fun pins s σ H Q I h =>
 wpAny_Dict_empty ⟨.ref s.heap.objs.size,_,I.laid (a:=s.heap.objs.size) (o:=.dK []) (t':=s.toks) (fun _ _ q=>Heap.get?_push_of_some _ q) (Nat.le_refl _) (juD s.heap I.big),rfl,h _ (I.hok.fresh (Nat.le_refl _))⟩
end
structure M1 (X:Cx) (o:Expr) (m:Str) (apos:Pos) (e:Expr) (cpos:Pos):Prop where
 base:attributeBase o m X.env (eval o X.env) = eval o X.env
 few:((backTo cpos (starEach [e] X.env)).all (fun x=>!x.1) && (backToKw cpos (keywordEach [] X.env)).all (fun x=>x.1.isSome)
  && decide (([e]:List Expr).length + ([]:List Keyword).length + (if ([]:List Keyword).isEmpty then 0 else 1) < 30)) = true
 line:(apos.endLine == cpos.line) = true
 trees:backTo cpos (starEach [e] X.env) = [(false,eval e X.env)]
def IsD (H:Hp) (a:Addr):Prop:=(∃ kvs,Rd H a (.dK kvs)) ∨ ∃ kvs,Rd H a (.dT kvs)
theorem jyy {X:Cx} {pins:List (Addr × Obj)} {σ:St} {H:Hp} {s:Shared} {a:Addr} (I:Inv X pins σ H s) (d:IsD H a) :
  s.TypeIs (.ref a) "dict"∧(∀ b,Value.ref a = .ref b->∃ ob,s.heap.get? b = some ob∧ob.dict = none)∧(a == sysModules) = false:=by
 rcases d with ⟨kvs,e⟩ | ⟨kvs,e⟩
 ·obtain ⟨_,hd,vs,_,dd⟩:=jjn I.hok e
  refine ⟨dd.typeIs,fun b q=>?_,hd⟩
  cases q
  obtain ⟨ob,_,_,h1,h2,_⟩:=dd
  exact ⟨ob,h1,h2.2.1⟩
 ·obtain ⟨_,hd,xs,_,dd⟩:=jjC I.hok e
  refine ⟨dd.typeIs,fun b q=>?_,hd⟩
  cases q
  obtain ⟨ob,_,_,h1,h2,_⟩:=dd
  exact ⟨ob,h1,h2.2.1⟩
def jzF (td ty:TE):TE:=fun σ H Q=>td σ H fun x H1=>∃ a,x = .ref a∧IsD H1 a∧ty σ H1 fun y H2=>∃ kvs k v,H2 a = some (.dK kvs)∧y = kV k∧jcl kvs k = some v∧Q v (jG H2 a (.dK (jhd kvs k)))
section
variable {X:Cx} {o e f:Expr} {apos cpos:Pos} {td ty tx:TE}
theorem jvK (ho:PE X o td) (he:PE X e ty) (m:M1 X o "pop" apos e cpos):PE X (.Call (.Attribute o "pop" apos) [e] [] cpos) (jzF td ty):=by
 intro pins s σ H Q I h
 refine wpAny_Call_method m.base m.few m.line PySem.F.plainAttrs_dict PySem.F.slot_dict_pop PySem.F.type_dict_pop (jF (ho pins s σ H _ I h) fun u s1 qZ=>?_)
 obtain ⟨x,H1,I1,rx,a,ex,d,q1⟩:=qZ
 subst ex
 obtain rfl:u = Value.ref a:=rx
 obtain ⟨t1,t2,_⟩:=jyy I1 d
 refine ⟨t1,t2,?_⟩
 rw [m.trees]
 refine Calls.callWith_builtin rfl (Calls.evalArgs_plain (Calls.spliced_cons (jF (he pins s1 σ H1 _ I1 q1) fun iv s2 ⟨y,H2,I2,ry,kvs,k,v,ea,ey,l,q2⟩=>Calls.spliced_nil ?_)))
 subst ey
 exact jAf I2 ea ry l (.inl rfl) fun w' s3 I3 rw'=>⟨v,_,I3,rw',q2⟩
end
end L2
set_option Elab.async false
set_option linter.all false
set_option maxRecDepth 100000
set_option maxHeartbeats 4000000
namespace D3
open PySem PySem.Spec PyProof.Rows L2
inductive D where
 | non | bl (b:Bool) | int (i:Int) | str (x:Str) | tup (ds:List D) | lst (ds:List D)
def KL (K:PySem.W.Frag) (a:Addr) (xs:List V):Prop :=
 ∃ (o:Obj) (its:Array Value) (n:Nat),K.lookup a = some o∧o.cls = .type "list"∧o.dict = none∧o.data = .seq its n∧its.size ≤ sizeLine∧Vals xs its.toList
def LR (K:PySem.W.Frag) (S:Addr->Prop) (H:Hp) (a:Addr) (xs:List V):Prop:=(¬ S a∧Rd H a (.lst xs)) ∨ KL K a xs
theorem LR.sq {K:PySem.W.Frag} {S:Addr->Prop} {H:Hp} {a:Addr} {xs:List V} (h:LR K S H a xs):SqL K H a xs:=h.elim (fun x=>.inl x.2) .inr
mutual
def Rep (K:PySem.W.Frag) (S:Addr->Prop) (H:Hp):D->V->Prop
 | .non,v=>v = .non
 | .bl b,v=>v = .bl b
 | .int i,v=>v = .int i
 | .str x,v=>v = .str x
 | .tup ds,v=>∃ a xs,v = .ref a∧SqT K H a xs∧Reps K S H ds xs
 | .lst ds,v=>∃ a xs,v = .ref a∧LR K S H a xs∧Reps K S H ds xs
def Reps (K:PySem.W.Frag) (S:Addr->Prop) (H:Hp):List D->List V->Prop
 | [],xs=>xs = []
 | d :: ds,xs=>∃ x r,xs = x :: r∧Rep K S H d x∧Reps K S H ds r
end
section
variable {K:PySem.W.Frag} {S S':Addr->Prop} {H H':Hp}
mutual
theorem Rep.map (hT:∀ b xs,SqT K H b xs->SqT K H' b xs) (hL:∀ b xs,LR K S H b xs->LR K S' H' b xs):∀ (d:D) (v:V),Rep K S H d v->Rep K S' H' d v
 | .non,v,h=>by simpa only [Rep] using h
 | .bl b,v,h=>by simpa only [Rep] using h
 | .int i,v,h=>by simpa only [Rep] using h
 | .str x,v,h=>by simpa only [Rep] using h
 | .tup ds,v,h=>by
  simp only [Rep] at h ⊢
  obtain ⟨a,xs,e,q,r⟩:=h
  exact ⟨a,xs,e,hT a xs q,Reps.map hT hL ds xs r⟩
 | .lst ds,v,h=>by
  simp only [Rep] at h ⊢
  obtain ⟨a,xs,e,q,r⟩:=h
  exact ⟨a,xs,e,hL a xs q,Reps.map hT hL ds xs r⟩
theorem Reps.map (hT:∀ b xs,SqT K H b xs->SqT K H' b xs) (hL:∀ b xs,LR K S H b xs->LR K S' H' b xs):∀ (ds:List D) (vs:List V),Reps K S H ds vs->Reps K S' H' ds vs
 | [],vs,h=>by simpa only [Reps] using h
 | d :: ds,vs,h=>by
  simp only [Reps] at h ⊢
  obtain ⟨x,r,e,q,t⟩:=h
  exact ⟨x,r,e,Rep.map hT hL d x q,Reps.map hT hL ds r t⟩
end
theorem jb0 (h:Same H H'):∀ b xs,SqT K H b xs->SqT K H' b xs:=fun b xs q=>by
 rcases q with (q | ⟨o,q⟩) | q
 ·exact .inl (.inl (h _ _ q))
 ·exact .inl (.inr ⟨o,h _ _ q⟩)
 ·exact .inr q
theorem jrf (h:Same H H'):∀ b xs,LR K S H b xs->LR K S H' b xs:=fun b xs q=>by
 rcases q with ⟨n,q | ⟨o,q⟩⟩ | q
 ·exact .inl ⟨n,.inl (h _ _ q)⟩
 ·exact .inl ⟨n,.inr ⟨o,h _ _ q⟩⟩
 ·exact .inr q
theorem Rep.same {d:D} {v:V} (h:Same H H') (r:Rep K S H d v):Rep K S H' d v:=Rep.map (jb0 h) (jrf h) d v r
theorem Reps.same {d:List D} {v:List V} (h:Same H H') (r:Reps K S H d v):Reps K S H' d v:=Reps.map (jb0 h) (jrf h) d v r
theorem juA (hs:∀ a,S' a->S a):∀ b xs,LR K S H b xs->LR K S' H b xs:=fun b xs q=>q.elim (fun x=>.inl ⟨fun z=>x.1 (hs _ z),x.2⟩) .inr
theorem Rep.sub {d:D} {v:V} (hs:∀ a,S' a->S a) (r:Rep K S H d v):Rep K S' H d v:=Rep.map (fun _ _ x=>x) (juA hs) d v r
theorem Reps.sub {d:List D} {v:List V} (hs:∀ a,S' a->S a) (r:Reps K S H d v):Reps K S' H d v:=Reps.map (fun _ _ x=>x) (juA hs) d v r
theorem Reps.nil:Reps K S H [] []:=by simp only [Reps]
theorem Reps.cons {d:D} {ds:List D} {v:V} {vs:List V} (h:Rep K S H d v) (t:Reps K S H ds vs):Reps K S H (d :: ds) (v :: vs):=by
 simp only [Reps]; exact ⟨v,vs,rfl,h,t⟩
theorem Reps.len:∀ {ds:List D} {vs:List V},Reps K S H ds vs->ds.length = vs.length
 | [],vs,h=>by simp only [Reps] at h; subst h; rfl
 | d :: ds,vs,h=>by
  simp only [Reps] at h
  obtain ⟨x,r,e,_,t⟩:=h
  subst e
  simp only [List.length_cons,Reps.len t]
theorem Reps.get:∀ {ds:List D} {vs:List V} {i:Nat} {d:D},Reps K S H ds vs->ds[i]? = some d->∃ v,vs[i]? = some v∧Rep K S H d v
 | [],vs,i,d,h,e=>by simp at e
 | c :: ds,vs,0,d,h,e=>by
  simp only [Reps] at h
  obtain ⟨x,r,rfl,q,t⟩:=h
  simp at e; subst e
  exact ⟨x,rfl,q⟩
 | c :: ds,vs,i + 1,d,h,e=>by
  simp only [Reps] at h
  obtain ⟨x,r,rfl,q,t⟩:=h
  exact Reps.get t (i:=i) (by simpa using e)
theorem Reps.getV:∀ {ds:List D} {vs:List V} {i:Nat} {v:V},Reps K S H ds vs->vs[i]? = some v->∃ d,ds[i]? = some d∧Rep K S H d v:=fun {ds vs i v} h e=>by
 have hl:=h.len
 have hi:i < ds.length:=by rw [hl]; exact (List.getElem?_eq_some_iff.mp e).1
 obtain ⟨v',e',r⟩:=h.get (i:=i) (d:=ds[i]) (by simp [hi])
 rw [e] at e'; cases e'
 exact ⟨ds[i],by simp [hi],r⟩
theorem Reps.app:∀ {ds es:List D} {vs us:List V},Reps K S H ds vs->Reps K S H es us->Reps K S H (ds ++ es) (vs ++ us)
 | [],es,vs,us,h,h2=>by simp only [Reps] at h; subst h; exact h2
 | d :: ds,es,vs,us,h,h2=>by
  simp only [Reps] at h
  obtain ⟨x,r,rfl,q,t⟩:=h
  exact Reps.cons q (Reps.app t h2)
theorem Reps.drop:∀ {ds:List D} {vs:List V} (n:Nat),Reps K S H ds vs->Reps K S H (ds.drop n) (vs.drop n)
 | ds,vs,0,h=>h
 | [],vs,n + 1,h=>by simp only [Reps] at h; subst h; exact Reps.nil
 | d :: ds,vs,n + 1,h=>by
  simp only [Reps] at h
  obtain ⟨x,r,rfl,q,t⟩:=h
  exact Reps.drop n t
theorem Reps.take:∀ {ds:List D} {vs:List V} (n:Nat),Reps K S H ds vs->Reps K S H (ds.take n) (vs.take n)
 | ds,vs,0,h=>Reps.nil
 | [],vs,n + 1,h=>by simp only [Reps] at h; subst h; exact Reps.nil
 | d :: ds,vs,n + 1,h=>by
  simp only [Reps] at h
  obtain ⟨x,r,rfl,q,t⟩:=h
  exact Reps.cons q (Reps.take n t)
theorem Reps.set:∀ {ds:List D} {vs:List V} {d:D} {v:V} (n:Nat),Reps K S H ds vs->Rep K S H d v->Reps K S H (ds.set n d) (vs.set n v)
 | [],vs,d,v,n,h,q=>by simp only [Reps] at h; subst h; exact Reps.nil
 | c :: ds,vs,d,v,0,h,q=>by
  simp only [Reps] at h
  obtain ⟨x,r,rfl,_,t⟩:=h
  exact Reps.cons q t
 | c :: ds,vs,d,v,n + 1,h,q=>by
  simp only [Reps] at h
  obtain ⟨x,r,rfl,p,t⟩:=h
  exact Reps.cons p (Reps.set n t q)
theorem Reps.ints (ns:List Int):Reps K S H (ns.map D.int) (ns.map V.int):=by
 induction ns with
 | nil=>exact Reps.nil
 | cons n ns ih=>exact Reps.cons (by simp only [Rep]) ih
theorem Reps.intsV:∀ {ns:List Int} {vs:List V},Reps K S H (ns.map D.int) vs->vs = ns.map V.int
 | [],vs,h=>by simpa only [List.map_nil,Reps] using h
 | n :: ns,vs,h=>by
  simp only [List.map_cons,Reps,Rep] at h
  obtain ⟨x,r,rfl,rfl,t⟩:=h
  rw [Reps.intsV t,List.map_cons]
theorem jT {i:Int} {v:V} (h:Rep K S H (.int i) v):v = .int i:=by simpa only [Rep] using h
theorem jak {i:Bool} {v:V} (h:Rep K S H (.bl i) v):v = .bl i:=by simpa only [Rep] using h
theorem jap {i:Str} {v:V} (h:Rep K S H (.str i) v):v = .str i:=by simpa only [Rep] using h
theorem jab {v:V} (h:Rep K S H .non v):v = .non:=by simpa only [Rep] using h
theorem Rep.int {i:Int}:Rep K S H (.int i) (.int i):=by simp only [Rep]
theorem Rep.bl {i:Bool}:Rep K S H (.bl i) (.bl i):=by simp only [Rep]
theorem Rep.str {i:Str}:Rep K S H (.str i) (.str i):=by simp only [Rep]
theorem Rep.non:Rep K S H .non .non:=by simp only [Rep]
theorem jU {ds:List D} {v:V} (h:Rep K S H (.tup ds) v):∃ a xs,v = .ref a∧SqT K H a xs∧Reps K S H ds xs:=by simpa only [Rep] using h
theorem j0 {ds:List D} {v:V} (h:Rep K S H (.lst ds) v):∃ a xs,v = .ref a∧LR K S H a xs∧Reps K S H ds xs:=by simpa only [Rep] using h
theorem Rep.tup {ds:List D} {a:Addr} {xs:List V} (h:SqT K H a xs) (r:Reps K S H ds xs):Rep K S H (.tup ds) (.ref a):=by simp only [Rep]; exact ⟨a,xs,rfl,h,r⟩
theorem Rep.lst {ds:List D} {a:Addr} {xs:List V} (h:LR K S H a xs) (r:Reps K S H ds xs):Rep K S H (.lst ds) (.ref a):=by simp only [Rep]; exact ⟨a,xs,rfl,h,r⟩
theorem jaP {p:Addr} {o:HO} (h:H p = none):Same H (jG H p o):=fun b u e=>by rw [jy (j9 e h)]; exact e
def SOk (S:Addr->Prop) (H:Hp):Prop:=∀ a,S a->∃ o,H a = some o
theorem SOk.same (h:SOk S H) (e:Same H H'):SOk S H':=fun a q=>let ⟨o,x⟩:=h a q; ⟨o,e _ _ x⟩
theorem SOk.free {p:Addr} (h:SOk S H) (e:H p = none):¬ S p:=fun q=>by obtain ⟨o,x⟩:=h p q; rw [e] at x; cases x
theorem Rep.newTup {p:Addr} {ds:List D} {xs:List V} (h:H p = none) (r:Reps K S H ds xs):Rep K S (jG H p (.tup xs)) (.tup ds) (.ref p):=Rep.tup (SqT.of jW) (r.same (jaP h))
theorem Rep.newLst {p:Addr} {ds:List D} {xs:List V} (s:SOk S H) (h:H p = none) (r:Reps K S H ds xs):Rep K S (jG H p (.lst xs)) (.lst ds) (.ref p):=Rep.lst (.inl ⟨s.free h,.of jW⟩) (r.same (jaP h))
end
def jzS (ks:List (List Int)):Int:=reduceHash (Builtin.Tuple.tupleHashOf (ks.map fun k=>reduceHash (Builtin.Tuple.tupleHashOf (k.map hashInt))))
def jyj:List (List (List Int))->List Addr->List Value->List DictEntry
 | k :: ks,b :: bs,u :: us=>⟨jzS k,.ref b,u⟩ :: jyj ks bs us
 | _,_,_=>[]
def DX (a:Addr) (kss:List (List (List Int))) (bs:List Addr) (xs:List V) (h:Heap):Prop:=∃ (us:List Value) (o:Obj) (es:Array DictEntry) (ep:Nat),Vals xs us∧h.get? a = some o∧o.ExactDict∧o.data = .dict es ep∧es.toList = jyj kss bs us
def kD (ks:List (List Int)):D:=.tup (ks.map fun ns=>.tup (ns.map .int))
def DctAt (K:PySem.W.Frag) (S:Addr->Prop) (H:Hp) (a:Addr) (ks ds:List D):Prop :=
 (∃ (ns:List Int) (xs:List V),ks = .bl false :: ns.map .int∧ns.Nodup∧ns.length = xs.length∧H a = some (.dK ((ns.map Sum.inl).zip xs))∧Reps K S H ds xs) ∨
 (∃ (kss:List (List (List Int))) (bs:List Addr) (xs:List V),ks = .bl true :: kss.map kD∧kss.Nodup∧(a == sysModules) = false∧kss.length ≤ sizeLine∧kss.length = bs.length∧kss.length = xs.length∧H a = some (.ext (DX a kss bs xs))∧Reps K S H (kss.map kD) (bs.map V.ref)∧Reps K S H ds xs)
theorem DctAt.map {K:PySem.W.Frag} {S S':Addr->Prop} {H H':Hp} {a:Addr} {ks ds:List D} (h:DctAt K S H a ks ds) (mvs:∀ {c:List D} {w:List V},Reps K S H c w->Reps K S' H' c w) (e:H' a = H a):DctAt K S' H' a ks ds:=by
 rcases h with ⟨ns,xs,h1,h2,h3,h4,h5⟩ | ⟨kss,bs,xs,h1,h2,h3,h4,h5,h6,h7,h8,h9⟩
 ·exact .inl ⟨ns,xs,h1,h2,h3,e.trans h4,mvs h5⟩
 ·exact .inr ⟨kss,bs,xs,h1,h2,h3,h4,h5,h6,e.trans h7,mvs h8,mvs h9⟩
theorem DctAt.isO {K:PySem.W.Frag} {S:Addr->Prop} {H:Hp} {a:Addr} {ks ds:List D} (h:DctAt K S H a ks ds):∃ o,H a = some o∧∀ xs,o ≠ .lst xs:=by
 rcases h with ⟨_,_,_,_,_,h,_⟩ | ⟨_,_,_,_,_,_,_,_,_,h,_⟩
 ·exact ⟨_,h,fun _ z=>by cases z⟩
 ·exact ⟨_,h,fun _ z=>by cases z⟩
theorem DctAt.ne {K:PySem.W.Frag} {S:Addr->Prop} {H:Hp} {a b:Addr} {ks ds:List D} {xs:List V} (h:DctAt K S H a ks ds) (hb:H b = some (.lst xs)):a ≠ b:=fun z=>by
 obtain ⟨o,e,n⟩:=h.isO
 rw [z,hb] at e
 cases e
 exact n _ rfl
theorem DctAt.ne' {K:PySem.W.Frag} {S:Addr->Prop} {H:Hp} {a b:Addr} {ks ds:List D} (h:DctAt K S H a ks ds) (hb:H b = none):a ≠ b:=fun z=>by
 obtain ⟨o,e,n⟩:=h.isO
 rw [z,hb] at e
 cases e
theorem DctAt.go {K:PySem.W.Frag} {S:Addr->Prop} {H H':Hp} {a:Addr} {ks ds:List D} (h:DctAt K S H a ks ds) (s:Same H H'):DctAt K S H' a ks ds:=by
 obtain ⟨o,e,_⟩:=h.isO
 exact h.map (fun r=>r.same s) ((s _ _ e).trans e.symm)
inductive Sl where
 | un | val (d:D) | own (ds:List D) | dct (ks ds:List D) | raw (v:V) | row (vs:List V)
abbrev jL:=List Sl
structure Bs where
 S0:Addr->Prop
 H0:Hp
 gh:List (D × V)
structure ER (K:PySem.W.Frag) (B:Bs) (S:Addr->Prop) (H:Hp) (σ:L2.St) (ρ:jL):Prop where
 len:σ.length = ρ.length
 same:Same B.H0 H
 sub:∀ a,B.S0 a->S a
 ok0:SOk B.S0 B.H0
 ok:SOk S H
 val:∀ (i:Nat) d,ρ[i]? = some (.val d)->∃ v,σ[i]? = some (some v)∧Rep K S H d v
 own:∀ (i:Nat) ds,ρ[i]? = some (.own ds)->∃ a xs,σ[i]? = some (some (.ref a))∧S a∧B.H0 a = none∧H a = some (.lst xs)∧Reps K S H ds xs
 uq:∀ (i j:Nat) a ds es,ρ[i]? = some (.own ds)->ρ[j]? = some (.own es)->σ[i]? = some (some (.ref a))->σ[j]? = some (some (.ref a))->i = j
 dct:∀ (i:Nat) ks ds,ρ[i]? = some (.dct ks ds)->∃ a,σ[i]? = some (some (.ref a))∧S a∧B.H0 a = none∧DctAt K S H a ks ds
 dq:∀ (i j:Nat) a ks ds ks' ds',ρ[i]? = some (.dct ks ds)->ρ[j]? = some (.dct ks' ds')->σ[i]? = some (some (.ref a))->σ[j]? = some (some (.ref a))->i = j
 rf:∀ (i:Nat) v,ρ[i]? = some (.raw v)->σ[i]? = some (some v)
 rwx:∀ (i:Nat) vs,ρ[i]? = some (.row vs)->∃ a,σ[i]? = some (some (.ref a))∧B.H0 a = some (.lst vs)
 gh:∀ p ∈ B.gh,Rep K S H p.1 p.2
theorem ER.go {K:PySem.W.Frag} {B:Bs} {S:Addr->Prop} {H H':Hp} {σ:L2.St} {ρ:jL} (e:ER K B S H σ ρ) (h:Same H H'):ER K B S H' σ ρ where
 len:=e.len
 same:=e.same.trans h
 sub:=e.sub
 ok0:=e.ok0
 ok:=e.ok.same h
 val:=fun i d q=>let ⟨v,a,r⟩:=e.val i d q; ⟨v,a,r.same h⟩
 own:=fun i ds q=>let ⟨a,xs,x,y,z,u,r⟩:=e.own i ds q; ⟨a,xs,x,y,z,h _ _ u,r.same h⟩
 uq:=e.uq
 dct:=fun i ks ds q=>let ⟨a,x,y,z,u⟩:=e.dct i ks ds q; ⟨a,x,y,z,u.go h⟩
 dq:=e.dq
 rf:=e.rf
 rwx:=e.rwx
 gh:=fun p hp=>(e.gh p hp).same h
abbrev E3:=jL->(D->Prop)->Prop
abbrev B3:=jL->(Bool->Prop)->Prop
abbrev A3:=jL->(List D->Prop)->Prop
inductive F3 where
 | nx (ρ:jL) | rt (d:D) | bk (ρ:jL) | ct (ρ:jL)
abbrev S3:=(F3->Prop)->jL->Prop
def Hand (K:PySem.W.Frag) (S:Addr->Prop) (H:Hp) (Φ:D->Prop) (Q:VK):Prop:=∀ d v H',Φ d->Same H H'->Rep K S H' d v->Q v H'
def PD (X:Cx) (e:Expr) (t:E3):Prop:=∃ t2,PE X e t2∧∀ B S H σ ρ Φ Q,ER X.K B S H σ ρ->t ρ Φ->Hand X.K S H Φ Q->t2 σ H Q
def PB (X:Cx) (e:Expr) (t:B3):Prop:=∃ t2,PT X e t2∧∀ B S H σ ρ Φ (Q:Bool->Hp->Prop),ER X.K B S H σ ρ->t ρ Φ->(∀ b H',Φ b->Same H H'->Q b H')->t2 σ H Q
def PWB (X:Cx) (e:Expr) (t:B3):Prop:=∃ t2,PW X e t2∧∀ B S H σ ρ Φ (Q:Bool->Hp->Prop),ER X.K B S H σ ρ->t ρ Φ->(∀ b H',Φ b->Same H H'->Q b H')->t2 σ H Q
def PAD (X:Cx) (es:List Expr) (t:A3):Prop:=∃ t2,PA X es t2∧∀ B S H σ ρ Φ (Q:List V->Hp->Prop),ER X.K B S H σ ρ->t ρ Φ->(∀ ds vs H',Φ ds->Same H H'->Reps X.K S H' ds vs->Q vs H')->t2 σ H Q
structure jsy (K:PySem.W.Frag) (B:Bs) (Φ:F3->Prop) (D':jed):Prop where
 nx:∀ ρ S H σ,Φ (.nx ρ)->ER K B S H σ ρ->D'.nx σ H
 bk:∀ ρ S H σ,Φ (.bk ρ)->ER K B S H σ ρ->D'.bk σ H
 ct:∀ ρ S H σ,Φ (.ct ρ)->ER K B S H σ ρ->D'.ct σ H
 rt:∀ d v H,Φ (.rt d)->Same B.H0 H->Rep K B.S0 H d v->D'.rt v H
def PSD (X:Cx) (st:Stmt) (t:S3):Prop:=∃ t2,PS X st t2∧∀ B S H σ ρ Φ D',ER X.K B S H σ ρ->t Φ ρ->jsy X.K B Φ D'->t2 D' σ H
def jg5 (X:Cx) (st:List Stmt) (t:S3):Prop:=∃ t2,PSs X st t2∧∀ B S H σ ρ Φ D',ER X.K B S H σ ρ->t Φ ρ->jsy X.K B Φ D'->t2 D' σ H
section
variable {X:Cx} {a b c e:Expr} {ta tb tc te:E3} {pos:Pos}
theorem Hand.go {K:PySem.W.Frag} {S:Addr->Prop} {H H1:Hp} {Φ:D->Prop} {Q:VK} (h:Hand K S H Φ Q) (s:Same H H1):Hand K S H1 Φ Q:=fun d v H' p q r=>h d v H' p (s.trans q) r
abbrev jb (i:Nat):E3:=fun ρ Φ=>match ρ[i]? with | some (.val d)=>Φ d | _=>False
theorem ja {i:Nat} (h:PE X e (jd7 i)):PD X e (jb i):=⟨_,h,fun B S H σ ρ Φ Q er h hd=>by
 unfold jb at h
 split at h
 ·rename_i d q
  obtain ⟨v,a,r⟩:=er.val i d q
  exact ⟨v,a,hd d v H h (Same.refl _) r⟩
 ·exact h.elim⟩
abbrev dC (d:D):E3:=fun _ Φ=>Φ d
theorem jd {i j pos}:PD X (.Constant (.int i) j pos) (dC (.int i)):=⟨_,jyr,fun _ _ H _ _ _ _ _ h hd=>hd _ _ H h (Same.refl _) Rep.int⟩
theorem jhj {i j pos}:PD X (.Constant (.bool i) j pos) (dC (.bl i)):=⟨_,jzN,fun _ _ H _ _ _ _ _ h hd=>hd _ _ H h (Same.refl _) Rep.bl⟩
theorem jtI {j pos}:PD X (.Constant .none j pos) (dC .non):=⟨_,jzA,fun _ _ H _ _ _ _ _ h hd=>hd _ _ H h (Same.refl _) Rep.non⟩
theorem jV {x j pos}:PD X (.Constant (.str x) j pos) (dC (.str x)):=⟨_,jyq,fun _ _ H _ _ _ _ _ h hd=>hd _ _ H h (Same.refl _) Rep.str⟩
abbrev R3:=D->D->(D->Prop)->Prop
def OpD (X:Cx) (f:Value->Value->Sem Value) (r3:R3):Prop :=
 ∃ r,OpR X f r∧∀ S H x y u v Φ Q,SOk S H->Rep X.K S H x u->Rep X.K S H y v->r3 x y Φ->Hand X.K S H Φ Q->r u v H Q
abbrev jf (r:R3) (ta tb:E3):E3:=fun ρ Φ=>ta ρ fun x=>tb ρ fun y=>r x y Φ
theorem two {r:R3} {r2:R2} {ta2 tb2:TE} (wa:∀ B S H σ ρ Φ Q,ER X.K B S H σ ρ->ta ρ Φ->Hand X.K S H Φ Q->ta2 σ H Q) (wb:∀ B S H σ ρ Φ Q,ER X.K B S H σ ρ->tb ρ Φ->Hand X.K S H Φ Q->tb2 σ H Q)
  (wr:∀ S H x y u v Φ Q,SOk S H->Rep X.K S H x u->Rep X.K S H y v->r x y Φ->Hand X.K S H Φ Q->r2 u v H Q) :
  ∀ B S H σ ρ Φ Q,ER X.K B S H σ ρ->jf r ta tb ρ Φ->Hand X.K S H Φ Q->tOp r2 ta2 tb2 σ H Q:=fun B S H σ ρ Φ Q er h hd =>
 wa B S H σ ρ _ _ er h fun x u H1 hx s1 rx=>wb B S H1 σ ρ _ _ (er.go s1) hx fun y v H2 hy s2 ry =>
  wr S H2 x y u v Φ Q ((er.ok.same s1).same s2) (rx.same s2) ry hy (hd.go (s1.trans s2))
theorem jh {op:Operator} {r:R3} (ho:OpD X (binaryOp op) r) (ha:PD X a ta) (hb:PD X b tb):PD X (.BinOp a op b pos) (jf r ta tb):=by
 obtain ⟨r2,ho,wr⟩:=ho; obtain ⟨ta2,ha,wa⟩:=ha; obtain ⟨tb2,hb,wb⟩:=hb
 exact ⟨_,jwt ho ha hb,two wa wb wr⟩
theorem jlf {op:CmpOp} {r:R3} (ho:OpD X (compareOp op) r) (ha:PD X a ta) (hb:PD X b tb) (hm:behindInMarks op b = false):PD X (.Compare a [op] [b] pos) (jf r ta tb):=by
 obtain ⟨r2,ho,wr⟩:=ho; obtain ⟨ta2,ha,wa⟩:=ha; obtain ⟨tb2,hb,wb⟩:=hb
 exact ⟨_,jwQ ho ha hb hm,two wa wb wr⟩
abbrev dT (t:E3):B3:=fun ρ Φ=>t ρ fun d=>match d with | .bl k=>Φ k | _=>False
theorem jlc {t2:TE} {t:E3} (w:∀ B S H σ ρ Φ Q,ER X.K B S H σ ρ->t ρ Φ->Hand X.K S H Φ Q->t2 σ H Q) :
  ∀ B S H σ ρ Φ (Q:Bool->Hp->Prop),ER X.K B S H σ ρ->dT t ρ Φ->(∀ b H',Φ b->Same H H'->Q b H')->jsI t2 σ H Q:=fun B S H σ ρ Φ Q er h hd =>
 w B S H σ ρ _ _ er h fun d v H' p s r=>by
  cases d with
  | bl k=>exact ⟨k,jak r,hd k H' p s⟩
  | non=>exact p.elim
  | int _=>exact p.elim
  | str _=>exact p.elim
  | tup _=>exact p.elim
  | lst _=>exact p.elim
theorem jal {op:CmpOp} {r:R3} (ho:OpD X (compareOp op) r) (ha:PD X a ta) (hb:PD X b tb) (hm:behindInMarks op b = false):PB X (.Compare a [op] [b] pos) (dT (jf r ta tb)):=by
 obtain ⟨r2,ho,wr⟩:=ho; obtain ⟨ta2,ha,wa⟩:=ha; obtain ⟨tb2,hb,wb⟩:=hb
 exact ⟨_,jf9 ho ha hb hm,jlc (two wa wb wr)⟩
theorem jeY (h:PD X e te) (he:∀ whole,isTrue e X.env whole = (do let v ← whole; standAt e.pos; holding [v] (truthy v)):=by intro _; rfl):PB X e (dT te):=by
 obtain ⟨t2,h,w⟩:=h
 exact ⟨_,jut h he,jlc w⟩
abbrev dI (C:Int->Int->Prop) (g:Int->Int->D):R3
 | .int i,.int j,Φ=>C i j∧Φ (g i j)
 | _,_,_=>False
abbrev dI0 (g:Int->Int->D):R3
 | .int i,.int j,Φ=>Φ (g i j)
 | _,_,_=>False
theorem opd {f:Value->Value->Sem Value} {C:Int->Int->Prop} {g:Int->Int->V} {g3:Int->Int->D} (h:OpR X f (rI C g)) (hg:∀ K S H i j,Rep K S H (g3 i j) (g i j)):OpD X f (dI C g3) :=
 ⟨_,h,fun S H x y u v Φ Q so rx ry hr hd=>by
  cases x <;> cases y <;> first | exact hr.elim | skip
  rename_i i j
  exact ⟨i,j,jT rx,jT ry,hr.1,hd _ _ H hr.2 (Same.refl _) (hg ..)⟩⟩
theorem jpQ {f:Value->Value->Sem Value} {g:Int->Int->V} {g3:Int->Int->D} (h:OpR X f (rI0 g)) (hg:∀ K S H i j,Rep K S H (g3 i j) (g i j)):OpD X f (dI0 g3) :=
 ⟨_,h,fun S H x y u v Φ Q so rx ry hr hd=>by
  cases x <;> cases y <;> first | exact hr.elim | skip
  rename_i i j
  exact ⟨i,j,jT rx,jT ry,hd _ _ H hr (Same.refl _) (hg ..)⟩⟩
def CD (_ j:Int):Prop:=j ≠ 0∧j.natAbs.log2 < 9000
theorem jwO:OpR X (binaryOp .Mult) (rI IntMulOk fun i j=>.int (i * j)):=opI fun _ _ _ _ _ _ _ hc q=>mul_int q hc
theorem juW:OpR X (binaryOp .FloorDiv) (rI CD fun i j=>.int (i.fdiv j)):=opI fun _ _ _ _ _ _ _ hc q=>floordiv_int hc.1 q (.inl (PyProof.noPylong_of_log2 hc.2))
theorem jaa:OpD X (binaryOp .Add) (dI0 fun i j=>.int (i + j)):=jpQ jza fun _ _ _ _ _=>Rep.int
theorem jai:OpD X (binaryOp .Sub) (dI0 fun i j=>.int (i - j)):=jpQ jya fun _ _ _ _ _=>Rep.int
theorem jw:OpD X (binaryOp .Mult) (dI IntMulOk fun i j=>.int (i * j)):=opd jwO fun _ _ _ _ _=>Rep.int
theorem jbA:OpD X (binaryOp .FloorDiv) (dI CD fun i j=>.int (i.fdiv j)):=opd juW fun _ _ _ _ _=>Rep.int
theorem jb7:OpD X (binaryOp .Mod) (dI (fun _ j=>j ≠ 0) fun i j=>.int (i.fmod j)):=opd jw2 fun _ _ _ _ _=>Rep.int
theorem jwi:OpD X (binaryOp .Pow) (dI jpn fun i j=>.int (i ^ j.toNat)):=opd jx9 fun _ _ _ _ _=>Rep.int
theorem jvE:OpD X (compareOp .Lt) (dI0 fun i j=>.bl (decide (i < j))):=jpQ jzK fun _ _ _ _ _=>Rep.bl
theorem jsi:OpD X (compareOp .LtE) (dI0 fun i j=>.bl (decide (i ≤ j))):=jpQ jzY fun _ _ _ _ _=>Rep.bl
theorem jzl:OpD X (compareOp .Gt) (dI0 fun i j=>.bl (decide (j < i))):=jpQ jAh fun _ _ _ _ _=>Rep.bl
abbrev dEq:R3
 | .int i,.int j,Φ=>Φ (.bl (decide (i = j)))
 | .bl i,.bl j,Φ=>Φ (.bl (decide (i = j)))
 | .str i,.str j,Φ=>Φ (.bl (decide (i = j)))
 | .non,.non,Φ=>Φ (.bl true)
 | .non,.int _,Φ=>Φ (.bl false)
 | .int _,.non,Φ=>Φ (.bl false)
 | _,_,_=>False
abbrev dNe:R3
 | .int i,.int j,Φ=>Φ (.bl (!decide (i = j)))
 | .bl i,.bl j,Φ=>Φ (.bl (!decide (i = j)))
 | .str i,.str j,Φ=>Φ (.bl (!decide (i = j)))
 | .non,.non,Φ=>Φ (.bl false)
 | .non,.int _,Φ=>Φ (.bl true)
 | .int _,.non,Φ=>Φ (.bl true)
 | _,_,_=>False
theorem jeC {α:Type} [DecidableEq α] {f:α->V} (hf:∀ a b,f a = f b->a = b) (i j:α):decide (f i = f j) = decide (i = j):=by
 by_cases h:i = j
 ·subst h; simp
 ·rw [decide_eq_false h,decide_eq_false fun q=>h (hf _ _ q)]
theorem jis:OpD X (compareOp .Eq) dEq:=⟨_,jzT,fun S H x y u v Φ Q so rx ry hr hd=>by
 cases x <;> cases y <;> first | exact hr.elim | skip
 ·cases jab rx; cases jab ry; exact ⟨rfl,hd _ _ H hr (Same.refl _) Rep.bl⟩
 ·cases jab rx; cases jT ry; exact ⟨rfl,hd _ _ H hr (Same.refl _) Rep.bl⟩
 ·rename_i i j
  cases jak rx; cases jak ry; refine ⟨rfl,hd _ _ H hr (Same.refl _) ?_⟩
  rw [jeC (fun a b q=>V.bl.inj q)]; exact Rep.bl
 ·cases jT rx; cases jab ry; exact ⟨rfl,hd _ _ H hr (Same.refl _) Rep.bl⟩
 ·rename_i i j
  cases jT rx; cases jT ry; refine ⟨rfl,hd _ _ H hr (Same.refl _) ?_⟩
  rw [jeC (fun a b q=>V.int.inj q)]; exact Rep.bl
 ·rename_i i j
  cases jap rx; cases jap ry; refine ⟨rfl,hd _ _ H hr (Same.refl _) ?_⟩
  rw [jeC (fun a b q=>V.str.inj q)]; exact Rep.bl⟩
theorem jh8:OpD X (compareOp .NotEq) dNe:=⟨_,jzR,fun S H x y u v Φ Q so rx ry hr hd=>by
 cases x <;> cases y <;> first | exact hr.elim | skip
 ·cases jab rx; cases jab ry; exact ⟨rfl,hd _ _ H hr (Same.refl _) Rep.bl⟩
 ·cases jab rx; cases jT ry; exact ⟨rfl,hd _ _ H hr (Same.refl _) Rep.bl⟩
 ·rename_i i j
  cases jak rx; cases jak ry; refine ⟨rfl,hd _ _ H hr (Same.refl _) ?_⟩
  rw [jeC (fun a b q=>V.bl.inj q)]; exact Rep.bl
 ·cases jT rx; cases jab ry; exact ⟨rfl,hd _ _ H hr (Same.refl _) Rep.bl⟩
 ·rename_i i j
  cases jT rx; cases jT ry; refine ⟨rfl,hd _ _ H hr (Same.refl _) ?_⟩
  rw [jeC (fun a b q=>V.int.inj q)]; exact Rep.bl
 ·rename_i i j
  cases jap rx; cases jap ry; refine ⟨rfl,hd _ _ H hr (Same.refl _) ?_⟩
  rw [jeC (fun a b q=>V.str.inj q)]; exact Rep.bl⟩
abbrev dU (r:D->(D->Prop)->Prop) (ta:E3):E3:=fun ρ Φ=>ta ρ fun x=>r x Φ
abbrev jck:D->(D->Prop)->Prop
 | .int i,Φ=>Φ (.int (-i))
 | _,_=>False
theorem jbM (ha:PD X a ta):PD X (.UnaryOp .USub a pos) (dU jck ta):=by
 obtain ⟨ta2,ha,wa⟩:=ha
 refine ⟨_,jz1 jzg ha,fun B S H σ ρ Φ Q er h hd=>wa B S H σ ρ _ _ er h fun x u H1 hx s1 rx=>?_⟩
 cases x <;> first | exact hx.elim | skip
 exact ⟨_,jT rx,hd _ _ H1 hx s1 Rep.int⟩
variable {tA tB':B3} {jR:List Expr}
abbrev bOr (t u:B3):B3:=fun ρ Φ=>t ρ fun k=>if k = true then Φ true else u ρ Φ
abbrev jqc (t:B3):B3:=fun ρ Φ=>t ρ fun k=>Φ (!k)
theorem PWB.pb {e:Expr} {t:B3} (h:PWB X e t):PB X e t:=let ⟨t2,h,w⟩:=h; ⟨t2,h.pt,w⟩
theorem jtl (ha:PB X a tA):PWB X (.BoolOp .Or [a] pos) tA:=let ⟨t2,h,w⟩:=ha; ⟨t2,jt2 h,w⟩
theorem jwe (ha:PB X a tA) (hb:PWB X (.BoolOp .Or (b :: jR) pos) tB'):PWB X (.BoolOp .Or (a :: b :: jR) pos) (bOr tA tB'):=by
 obtain ⟨t2,h,w⟩:=ha; obtain ⟨u2,g,z⟩:=hb
 refine ⟨_,jwh h g,fun B S H σ ρ Φ Q er q hd=>w B S H σ ρ _ _ er q fun k H1 hk s1=>?_⟩
 cases k with
 | true =>
  have hk:Φ true:=by simpa using hk
  simp only [if_true]
  exact hd true H1 hk s1
 | false =>
  have hk:tB' ρ Φ:=by simpa using hk
  simp only [Bool.false_eq_true,if_false]
  exact z B S H1 σ ρ _ _ (er.go s1) hk fun k2 H2 h2 s2=>hd k2 H2 h2 (s1.trans s2)
theorem jlB (ha:PB X a tA):PB X (.UnaryOp .Not a pos) (jqc tA):=by
 obtain ⟨t2,h,w⟩:=ha
 exact ⟨_,jtH h,fun B S H σ ρ Φ Q er q hd=>w B S H σ ρ _ _ er q fun k H1 hk s1=>hd _ H1 hk s1⟩
abbrev jsM (ta tb:E3):E3:=fun ρ Φ=>dT ta ρ fun k=>if k = true then tb ρ Φ else Φ (.bl false)
abbrev jzi (ta:E3):E3:=fun ρ Φ=>dT ta ρ fun k=>Φ (.bl (!k))
theorem jt5 {op} {t:E3} (h:PD X a t):PD X (.BoolOp op [a] pos) t:=let ⟨t2,h,w⟩:=h; ⟨t2,jtK h,w⟩
theorem jqp (ha:PD X a ta) (hb:PD X (.BoolOp .And (b :: jR) pos) tb):PD X (.BoolOp .And (a :: b :: jR) pos) (jsM ta tb):=by
 obtain ⟨t2,h,w⟩:=ha; obtain ⟨u2,g,z⟩:=hb
 refine ⟨_,jtF h g,fun B S H σ ρ Φ Q er q hd=>w B S H σ ρ _ _ er q fun d v H1 hk s1 r=>?_⟩
 cases d <;> first | exact hk.elim | skip
 rename_i k
 refine ⟨k,jak r,?_⟩
 cases k with
 | true =>
  have hk:tb ρ Φ:=by simpa using hk
  simp only [if_true]
  exact z B S H1 σ ρ _ _ (er.go s1) hk (hd.go s1)
 | false =>
  have hk:Φ (.bl false):=by simpa using hk
  simp only [Bool.false_eq_true,if_false]
  exact hd _ _ H1 hk s1 Rep.bl
theorem jyZ (ha:PD X a ta):PD X (.UnaryOp .Not a pos) (jzi ta):=by
 obtain ⟨t2,h,w⟩:=ha
 refine ⟨_,jyo h,fun B S H σ ρ Φ Q er q hd=>w B S H σ ρ _ _ er q fun d v H1 hk s1 r=>?_⟩
 cases d <;> first | exact hk.elim | skip
 exact ⟨_,jak r,hd _ _ H1 hk s1 Rep.bl⟩
abbrev dIf (t:B3) (ta tb:E3):E3:=fun ρ Φ=>t ρ fun k=>if k = true then ta ρ Φ else tb ρ Φ
theorem jpY (hc:PB X c tA) (ha:PD X a ta) (hb:PD X b tb):PD X (.IfExp c a b pos) (dIf tA ta tb):=by
 obtain ⟨c2,h,w⟩:=hc; obtain ⟨t2,ha,wa⟩:=ha; obtain ⟨u2,hb,wb⟩:=hb
 refine ⟨_,juR h ha hb,fun B S H σ ρ Φ Q er q hd=>w B S H σ ρ _ _ er q fun k H1 hk s1=>?_⟩
 cases k with
 | true =>
  have hk:ta ρ Φ:=by simpa using hk
  simp only [if_true]
  exact wa B S H1 σ ρ _ _ (er.go s1) hk (hd.go s1)
 | false =>
  have hk:tb ρ Φ:=by simpa using hk
  simp only [Bool.false_eq_true,if_false]
  exact wb B S H1 σ ρ _ _ (er.go s1) hk (hd.go s1)
variable {es:List Expr} {tr:A3}
abbrev jm:A3:=fun _ Φ=>Φ []
abbrev je (ta:E3) (tr:A3):A3:=fun ρ Φ=>ta ρ fun x=>tr ρ fun xs=>Φ (x :: xs)
theorem jg:PAD X [] jm:=⟨_,jcn,fun B S H σ ρ Φ Q er h hd=>hd [] [] H h (Same.refl _) Reps.nil⟩
theorem jc (ha:PD X e te) (hr:PAD X es tr) (hs:starEach (e :: es) X.env = (false,eval e X.env) :: starEach es X.env:=by rfl):PAD X (e :: es) (je te tr):=by
 obtain ⟨t2,h,w⟩:=ha; obtain ⟨u2,g,z⟩:=hr
 exact ⟨_,jbe h g hs,fun B S H σ ρ Φ Q er q hd=>w B S H σ ρ _ _ er q fun d v H1 hk s1 r=>z B S H1 σ ρ _ _ (er.go s1) hk fun ds vs H2 h2 s2 r2=>hd _ _ H2 h2 (s1.trans s2) (Reps.cons (r.same s2) r2)⟩
abbrev jaL (t:A3):E3:=fun ρ Φ=>t ρ fun ds=>ds.length ≤ sizeLine∧Φ (.tup ds)
theorem jaj {x1} (h:PAD X es tr):PD X (.Tuple es x1 pos) (jaL tr):=by
 obtain ⟨t2,h,w⟩:=h
 exact ⟨_,jyT h,fun B S H σ ρ Φ Q er q hd=>w B S H σ ρ _ _ er q fun ds vs H1 hk s1 r=>⟨by rw [← r.len]; exact hk.1,fun p hp=>hd _ _ _ hk.2 (s1.trans (jaP hp)) (Rep.newTup hp r)⟩⟩
abbrev onS {α:Type} (o:Option α) (Φ:α->Prop):Prop:=match o with | some d=>Φ d | none=>False
theorem jaC {α:Type} {o:Option α} {d:α} {Φ:α->Prop} (e:o = some d) (h:Φ d):onS o Φ:=by subst e; exact h
theorem jqf {α:Type} {o:Option α} {Φ:α->Prop} (h:onS o Φ):∃ d,o = some d∧Φ d:=by
 cases o with
 | none=>exact h.elim
 | some d=>exact ⟨d,rfl,h⟩
abbrev js:R3
 | .tup ds,.int i,Φ=>onS (atI ds i) Φ
 | .lst ds,.int i,Φ=>onS (atI ds i) Φ
 | _,_,_=>False
theorem jro {K:PySem.W.Frag} {S:Addr->Prop} {H:Hp} {ds:List D} {vs:List V} {i:Int} {d:D} (r:Reps K S H ds vs) (h:atI ds i = some d):∃ v,atI vs i = some v∧Rep K S H d v:=by
 unfold atI at h ⊢
 rw [r.len] at h
 cases q:ixN vs.length i with
 | none=>rw [q] at h; cases h
 | some j =>
  rw [q] at h
  exact r.get h
theorem ji (ha:PD X a ta) (hb:PD X b tb) (hs:jne b):PD X (.Subscript a b pos) (jf js ta tb):=by
 obtain ⟨t2,h,w⟩:=ha; obtain ⟨u2,g,z⟩:=hb
 refine ⟨_,jwB (ix_list.or jzd) h g hs,two w z fun S H x y u v Φ Q so rx ry hr hd=>?_⟩
 cases x <;> cases y <;> first | exact hr.elim | skip
 ·rename_i ds i
  obtain ⟨p,xs,rfl,q,rs⟩:=jU rx
  obtain ⟨d,e,hr⟩:=jqf (show onS (atI ds i) Φ from hr)
  obtain ⟨w,ew,rw'⟩:=jro rs e
  exact .inr ⟨p,xs,i,w,rfl,jT ry,q,ew,hd _ _ H hr (Same.refl _) rw'⟩
 ·rename_i ds i
  obtain ⟨p,xs,rfl,q,rs⟩:=j0 rx
  obtain ⟨d,e,hr⟩:=jqf (show onS (atI ds i) Φ from hr)
  obtain ⟨w,ew,rw'⟩:=jro rs e
  exact .inl ⟨p,xs,i,w,rfl,jT ry,q.sq,ew,hd _ _ H hr (Same.refl _) rw'⟩
end
section
variable {X:Cx} {st:Stmt} {jR:List Stmt} {t u:S3} {a b e:Expr} {te ta tb:E3} {pos:Pos}
abbrev ja2:S3:=fun Φ ρ=>Φ (.nx ρ)
abbrev joq (u:(F3->Prop)->jL->Prop) (Φ:F3->Prop):F3->Prop
 | .nx ρ=>u Φ ρ
 | .rt d=>Φ (.rt d)
 | .bk ρ=>Φ (.bk ρ)
 | .ct ρ=>Φ (.ct ρ)
abbrev jB (t u:S3):S3:=fun Φ ρ=>t (joq u Φ) ρ
theorem jau:jg5 X [] ja2:=⟨_,jm9,fun B S H σ ρ Φ D' er h ok=>ok.nx ρ S H σ h er⟩
theorem jk (h1:PSD X st t) (h2:jg5 X jR u):jg5 X (st :: jR) (jB t u):=by
 obtain ⟨t2,h,w⟩:=h1; obtain ⟨u2,g,z⟩:=h2
 refine ⟨_,jdu h g,fun B S H σ ρ Φ D' er q ok=>w B S H σ ρ _ _ er q ⟨fun ρ' S' H' σ' p er'=>z B S' H' σ' ρ' Φ D' er' p ok,ok.bk,ok.ct,ok.rt⟩⟩
theorem jq (h1:PSD X st t):jg5 X [st] t:=let ⟨t2,h,w⟩:=h1; ⟨_,jjk h,w⟩
abbrev jdV:S3:=fun _ _=>False
theorem jb2:PSD X st jdV:=⟨_,jvl,fun _ _ _ _ _ _ _ _ h _=>h⟩
abbrev jE (te:E3):S3:=fun Φ ρ=>te ρ fun d=>Φ (.rt d)
theorem jr (he:PD X e te):PSD X (.Return (some e) pos) (jE te):=by
 obtain ⟨t2,h,w⟩:=he
 exact ⟨_,joF h,fun B S H σ ρ Φ D' er q ok=>w B S H σ ρ _ _ er q fun d v H1 p s r=>ok.rt d v H1 p (er.same.trans s) (r.sub er.sub)⟩
abbrev sIf (c:B3) (t u:S3):S3:=fun Φ ρ=>c ρ fun k=>if k = true then t Φ ρ else u Φ ρ
theorem jaK {c:Expr} {as bs:List Stmt} {tc:B3} (hc:PB X c tc) (ha:jg5 X as t) (hb:jg5 X bs u):PSD X (.If c as bs pos) (sIf tc t u):=by
 obtain ⟨c2,h,w⟩:=hc; obtain ⟨t2,ha,wa⟩:=ha; obtain ⟨u2,hb,wb⟩:=hb
 refine ⟨_,jrZ h ha hb,fun B S H σ ρ Φ D' er q ok=>w B S H σ ρ _ _ er q fun k H1 hk s1=>?_⟩
 cases k with
 | true =>
  have hk:t Φ ρ:=by simpa using hk
  simp only [if_true]
  exact wa B S H1 σ ρ _ _ (er.go s1) hk ok
 | false =>
  have hk:u Φ ρ:=by simpa using hk
  simp only [Bool.false_eq_true,if_false]
  exact wb B S H1 σ ρ _ _ (er.go s1) hk ok
theorem ER.put {K:PySem.W.Frag} {B:Bs} {S:Addr->Prop} {H:Hp} {σ:L2.St} {ρ:jL} {i:Nat} {d:D} {v:V} (er:ER K B S H σ ρ) (r:Rep K S H d v):ER K B S H (σ.set i (some v)) (ρ.set i (.val d)) where
 len:=by rw [List.length_set,List.length_set]; exact er.len
 same:=er.same
 sub:=er.sub
 ok0:=er.ok0
 ok:=er.ok
 val:=fun j c q=>by
  rw [List.getElem?_set] at q
  split at q
  ·rename_i hij
   subst hij
   split at q
   ·rename_i hl
    cases q
    exact ⟨v,by rw [List.getElem?_set_self (by rw [er.len]; exact hl)],r⟩
   ·cases q
  ·rename_i hij
   obtain ⟨w,e,r'⟩:=er.val j c q
   exact ⟨w,by rw [List.getElem?_set_ne hij]; exact e,r'⟩
 own:=fun j c q=>by
  rw [List.getElem?_set] at q
  split at q
  ·split at q <;> cases q
  ·rename_i hij
   obtain ⟨a,xs,e,r'⟩:=er.own j c q
   exact ⟨a,xs,by rw [List.getElem?_set_ne hij]; exact e,r'⟩
 uq:=fun j k a ds es q1 q2 e1 e2=>by
  rw [List.getElem?_set] at q1 q2
  split at q1
  ·split at q1 <;> cases q1
  ·split at q2
   ·split at q2 <;> cases q2
   ·rename_i h1 h2
    rw [List.getElem?_set_ne h1] at e1
    rw [List.getElem?_set_ne h2] at e2
    exact er.uq j k a ds es q1 q2 e1 e2
 dct:=fun j ks ds q=>by
  rw [List.getElem?_set] at q
  split at q
  ·split at q <;> cases q
  ·rename_i hij
   obtain ⟨a,e,r'⟩:=er.dct j ks ds q
   exact ⟨a,by rw [List.getElem?_set_ne hij]; exact e,r'⟩
 dq:=fun j k a ks ds ks' ds' q1 q2 e1 e2=>by
  rw [List.getElem?_set] at q1 q2
  split at q1
  ·split at q1 <;> cases q1
  ·split at q2
   ·split at q2 <;> cases q2
   ·rename_i h1 h2
    rw [List.getElem?_set_ne h1] at e1
    rw [List.getElem?_set_ne h2] at e2
    exact er.dq j k a ks ds ks' ds' q1 q2 e1 e2
 rf:=fun j v q=>by
  rw [List.getElem?_set] at q
  split at q
  ·split at q <;> cases q
  ·rename_i hij
   rw [List.getElem?_set_ne hij]; exact er.rf j v q
 rwx:=fun j v q=>by
  rw [List.getElem?_set] at q
  split at q
  ·split at q <;> cases q
  ·rename_i hij
   rw [List.getElem?_set_ne hij]; exact er.rwx j v q
 gh:=er.gh
abbrev jz (i:Nat) (te:E3):S3:=fun Φ ρ=>te ρ fun d=>Φ (.nx (ρ.set i (.val d)))
theorem jo {i:Nat} {x:Str} {pos':Pos} (hN:X.N.Nodup) (hi:X.N[i]? = some x) (hx:Loc X.env.scope x) (he:PD X e te) (hs:swapsWith e (some (.Name x pos')) pos.line X.env = pure false:=by rfl)
  (hf:X.fn x = true ∨ X.env.scope.names.lookup x = some .local:=by first | exact .inl rfl | exact .inr rfl | assumption):PSD X (.Assign [.Name x pos'] e pos) (jz i te):=by
 obtain ⟨t2,h,w⟩:=he
 exact ⟨_,jk2 hN hi hx h hs hf,fun B S H σ ρ Φ D' er q ok=>w B S H σ ρ _ _ er q fun d v H1 p s r=>ok.nx _ S H1 _ p ((er.go s).put r)⟩
end
abbrev jK:=List D->(D->Prop)->Prop
def jO (C:jK):Prop:=∀ ds (Φ Ψ:D->Prop),(∀ d,Φ d->Ψ d)->C ds Φ->C ds Ψ
def j2 (K:PySem.W.Frag) (n:Nat) (C:jK):Sp:=fun vs H Q _=>∃ ds S,ds.length = n∧Reps K S H ds vs∧SOk S H∧C ds fun d=>∀ v H',Same H H'->Rep K S H' d v->Q v H'
abbrev jx (n:Nat) (C:jK) (ta:A3):E3:=fun ρ Φ=>ta ρ fun ds=>ds.length = n∧C ds Φ
section
variable {X:Cx} {k:Nat} {f:Addr} {fd:FuncData} {ps:List Str} {C:jK} {x:Str} {p pos:Pos} {e:Expr} {es:List Expr} {ta:A3}
theorem jxV (F:FnOk X.prog X.w X.K X.mg X.base jS k f fd ps (j2 X.K ps.length C)) (mo:jO C) (hr:Room k X.A) (hg:Gl X x) (hm:X.mg x = some (.ref f)) (hk:PySem.W.keepIn X.K (.ref f) = true) (hb:Binds X.K fd ps [])
  (ha:PAD X (e :: es) ta) (hdb:(x == ("__debug__":Str)) = false:=by decide) (he:starEach (e :: es) X.env = (false,eval e X.env) :: starEach es X.env:=by rfl) (hpl:(backTo pos (starEach es X.env)).any (·.1) = false:=by rfl) :
  PD X (.Call (.Name x p) (e :: es) [] pos) (jx ps.length C ta):=by
 obtain ⟨t2,h,w⟩:=ha
 refine ⟨_,jms F hr hg hm hk hb .nil jc5 h hdb he hpl,fun B S H σ ρ Φ Q er q hd=>w B S H σ ρ _ _ er q fun ds vs H1 hc s1 r=>?_⟩
 rw [List.append_nil]
 exact ⟨ds,S,hc.1,r,er.ok.same s1,mo ds Φ _ (fun d hΦ v H' s r'=>hd d v H' hΦ (s1.trans s) r') hc.2⟩
end
abbrev jA (Φ:D->Prop):F3->Prop
 | .nx _=>Φ .non
 | .rt d=>Φ d
 | _=>False
def jv (n:Nat) (ds:List D):jL:=ds.map .val ++ List.replicate (n - ds.length) .un
theorem jqv {K:PySem.W.Frag} {S:Addr->Prop} {H:Hp} {ds:List D} {vs:List V} {N:List Str} (r:Reps K S H ds vs) (so:SOk S H):ER K ⟨S,H,[]⟩ S H (L2.jbc N vs) (jv N.length ds) where
 len:=by
  unfold L2.jbc jv
  rw [List.length_append,List.length_append,List.length_map,List.length_map,List.length_replicate,List.length_replicate,r.len]
 same:=Same.refl _
 sub:=fun _ h=>h
 ok0:=so
 ok:=so
 val:=fun i d q=>by
  unfold jv at q
  rw [List.getElem?_append] at q
  split at q
  ·rename_i hl
   rw [List.length_map] at hl
   rw [List.getElem?_map] at q
   cases e:ds[i]? with
   | none=>rw [e] at q; cases q
   | some c =>
    rw [e] at q
    cases q
    obtain ⟨v,ev,rv⟩:=r.get e
    refine ⟨v,?_,rv⟩
    unfold L2.jbc
    rw [List.getElem?_append_left (by rw [List.length_map,← r.len]; exact hl),List.getElem?_map,ev]
    rfl
  ·rw [List.getElem?_replicate] at q
   split at q <;> cases q
 own:=fun i d q=>by
  unfold jv at q
  rw [List.getElem?_append] at q
  split at q
  ·rw [List.getElem?_map] at q
   cases e:ds[i]? with
   | none=>rw [e] at q; cases q
   | some c=>rw [e] at q; cases q
  ·rw [List.getElem?_replicate] at q
   split at q <;> cases q
 uq:=fun i j a d es q _ _ _=>by
  unfold jv at q
  rw [List.getElem?_append] at q
  split at q
  ·rw [List.getElem?_map] at q
   cases e:ds[i]? with
   | none=>rw [e] at q; cases q
   | some c=>rw [e] at q; cases q
  ·rw [List.getElem?_replicate] at q
   split at q <;> cases q
 dct:=fun i ks d q=>by
  unfold jv at q
  rw [List.getElem?_append] at q
  split at q
  ·rw [List.getElem?_map] at q
   cases e:ds[i]? with
   | none=>rw [e] at q; cases q
   | some c=>rw [e] at q; cases q
  ·rw [List.getElem?_replicate] at q
   split at q <;> cases q
 dq:=fun i j a ks d ks' ds' q _ _ _=>by
  unfold jv at q
  rw [List.getElem?_append] at q
  split at q
  ·rw [List.getElem?_map] at q
   cases e:ds[i]? with
   | none=>rw [e] at q; cases q
   | some c=>rw [e] at q; cases q
  ·rw [List.getElem?_replicate] at q
   split at q <;> cases q
 rf:=fun i v q=>by
  unfold jv at q
  rw [List.getElem?_append] at q
  split at q
  ·rw [List.getElem?_map] at q
   cases e:ds[i]? with
   | none=>rw [e] at q; cases q
   | some c=>rw [e] at q; cases q
  ·rw [List.getElem?_replicate] at q
   split at q <;> cases q
 rwx:=fun i v q=>by
  unfold jv at q
  rw [List.getElem?_append] at q
  split at q
  ·rw [List.getElem?_map] at q
   cases e:ds[i]? with
   | none=>rw [e] at q; cases q
   | some c=>rw [e] at q; cases q
  ·rw [List.getElem?_replicate] at q
   split at q <;> cases q
 gh:=fun p hp=>by cases hp
section
variable {P:Program} {w:World} {K:PySem.W.Frag} {mg:Str->Option Value} {base:Heap}
theorem jM {x qual:Str} {st:Stmt} {f:Addr} {fd:FuncData} {N ps:List Str} {k:Nat} {C:jK} (F:Fun K x qual st f fd) (S:ju N ps (jj st))
  (body:∀ (cdv:Value) (A:Around) (outer:List Env) (s:Shared) (H:Hp) (E:XK),Room k (A.deeper (envOfC qual (jj st) s.heap.objs.size f cdv)) ->
   ∃ t,jg5 (jcW jS P w K mg base N qual (jj st) f cdv A outer s H E).nox (jag st) t∧∀ ds Φ,ds.length = ps.length->C ds Φ->t (jA Φ) (jv N.length ds)) :
  FnOk P w K mg base jS (k + 1) f fd ps (j2 K ps.length C):=by
 refine F.ok S (fun vs H Q E h=>?_) (fun cdv A outer s H vs Q E hr h=>?_)
 ·obtain ⟨ds,S,hl,r,_⟩:=h
  rw [← r.len]; exact hl
 ·obtain ⟨t,⟨t2,ht,wt⟩,rd⟩:=body cdv A outer s H E hr
  obtain ⟨ds,S,hl,r,so,hc⟩:=h
  refine ⟨t2,ht,wt ⟨S,H,[]⟩ S H (L2.jbc N vs) (jv N.length ds) (jA fun d=>∀ v H',Same H H'->Rep K S H' d v->Q v H') _ (jqv r so) (rd ds _ hl hc) ⟨?_,?_,?_,?_⟩⟩
  ·intro ρ S' H' σ' h er
   exact h .non H' er.same Rep.non
  ·intro ρ S' H' σ' h er
   exact h.elim
  ·intro ρ S' H' σ' h er
   exact h.elim
  ·intro d v H' h s r'
   exact h v H' s r'
end
def joK:jK:=fun ds Φ=>∃ ns:List Int,ds = [.lst (ns.map .int)]∧ns.length ≤ 63∧Φ (.bl true)
theorem jye {K:PySem.W.Frag} {H:Hp} {a:Addr} {ns:List Int} (hl:ns.length ≤ 63) (h:SqL K H a (ns.map V.int)):j2 K 1 joK [.ref a] H (fun v _=>v = .bl true) fun _ _ _=>False:=by
 refine ⟨[.lst (ns.map .int)],fun _=>False,rfl,Reps.cons (Rep.lst ?_ (Reps.ints ns)) Reps.nil,fun a h=>h.elim,ns,rfl,hl,fun v H' s r=>jak r⟩
 exact h.elim (fun x=>.inl ⟨id,x⟩) .inr
theorem jAJ {l:PySem.W.OpenLaw} {q:Program} {k:Nat} {loose:List Str} {XP:(Str->Option Value)->Heap->Prop} {YP:World->Heap->Prop} {d:DefRec} {K:Params->PySem.W.Frag} (hn:l.most = some 63) (hdf:d.params.defaults = []) (hr:Room k callerA)
  (hY:∀ (w:World) (h:Heap),YP w h->(K w.params).In h)
  (F:∀ (w:World) (mg:Str->Option Value) (fa:Addr) (h:Heap),(K w.params).In h->h.Ns mainGlobals mg->mg d.name = some (.ref fa) ->
   ∃ fd:FuncData,(∀ (s:Shared) (u:Value),BindsTo s fd ⟨[u],[]⟩ [("script",u)])∧∀ base:Heap,(K w.params).In base->base.Ns mainGlobals mg->FnOk l.prog w (K w.params) mg base jS k fa fd ["script"] (j2 (K w.params) 1 joK)) :
  PySem.W.WalkO q loose XP YP l.row.toRowW d [] (fun f vs=>PySem.call f vs) :=
 L2.jwY (n:=63) (k:=k) (x:="script") (CX:=fun _=>jS) (sp:=fun w=>j2 (K w.params) 1 joK) hn (by decide) hdf hr hY F (fun _ _ a ns hl _ hS=>jye hl hS) fun _ _ _ _ _ z=>z
abbrev G3:=D->jL->(jL->Prop)->Prop
abbrev Gs3:=List D->jL->(jL->Prop)->Prop
def PGD (X:Cx) (tg:Expr) (g:G3):Prop:=∃ g2,PG X tg g2∧∀ B S H σ ρ d v Ψ (Q:L2.St->Hp->Prop),ER X.K B S H σ ρ->Rep X.K S H d v->g d ρ Ψ->(∀ ρ' σ',Ψ ρ'->ER X.K B S H σ' ρ'->Q σ' H)->g2 v σ H Q
def jsp (X:Cx) (tg:List Expr) (g:Gs3):Prop:=∃ g2,PGs X tg g2∧∀ B S H σ ρ d v Ψ (Q:L2.St->Hp->Prop),ER X.K B S H σ ρ->Reps X.K S H d v->g d ρ Ψ->(∀ ρ' σ',Ψ ρ'->ER X.K B S H σ' ρ'->Q σ' H)->g2 v σ H Q
section
variable {X:Cx} {e:Expr} {es:List Expr} {pos:Pos} {te:E3}
abbrev gN (i:Nat):G3:=fun d ρ Ψ=>Ψ (ρ.set i (.val d))
theorem jaW {i:Nat} {x:Str} (hN:X.N.Nodup) (hi:X.N[i]? = some x) (hx:Loc X.env.scope x) (hf:X.fn x = true ∨ X.env.scope.names.lookup x = some .local:=by first | exact .inl rfl | exact .inr rfl | assumption):PGD X (.Name x pos) (gN i) :=
 ⟨_,jrB hN hi hx hf,fun B S H σ ρ d v Ψ Q er r h k=>k _ _ h (er.put r)⟩
abbrev jsr:Gs3
 | [],ρ,Ψ=>Ψ ρ
 | _ :: _,_,_=>False
abbrev jc9 (g:G3) (gs:Gs3):Gs3
 | d :: ds,ρ,Ψ=>g d ρ fun ρ'=>gs ds ρ' Ψ
 | [],_,_=>False
theorem jp9:jsp X [] jsr:=⟨_,jxs,fun B S H σ ρ d v Ψ Q er r h k=>by
 cases d with
 | nil=>simp only [Reps] at r; subst r; exact ⟨rfl,k ρ σ h er⟩
 | cons _ _=>exact h.elim⟩
theorem jbD {g:G3} {gs:Gs3} (h1:PGD X e g) (h2:jsp X es gs) (hs:(assignEach (e :: es) X.env).map (·.2) = assign e X.env :: (assignEach es X.env).map (·.2):=by rfl):jsp X (e :: es) (jc9 g gs):=by
 obtain ⟨g2,h1,w1⟩:=h1; obtain ⟨u2,h2,w2⟩:=h2
 refine ⟨_,jvp h1 h2 hs,fun B S H σ ρ d v Ψ Q er r h k=>?_⟩
 cases d with
 | nil=>exact h.elim
 | cons c cs =>
  simp only [Reps] at r
  obtain ⟨x,y,rfl,rx,ry⟩:=r
  exact ⟨x,y,rfl,w1 B S H σ ρ c x _ _ er rx h fun ρ' σ' p er'=>w2 B S H σ' ρ' cs y Ψ Q er' ry p k⟩
abbrev js2 (n:Nat) (gs:Gs3):G3
 | .tup ds,ρ,Ψ=>ds.length = n∧gs ds ρ Ψ
 | _,_,_=>False
theorem jrK {k:Nat} {gs:Gs3} {n:Nat} (hc:X.calm = true) (h:jsp X es gs) (hn:(assignEach es X.env).length = n:=by rfl) (hst:(assignEach es X.env).findIdx? (·.1) = none:=by rfl):PGD X (.Tuple es k pos) (js2 n gs):=by
 obtain ⟨g2,h,w⟩:=h
 refine ⟨_,jx7 hc h hn hst,fun B S H σ ρ d v Ψ Q er r h k=>?_⟩
 cases d <;> first | exact h.elim | skip
 obtain ⟨a,xs,rfl,q,rs⟩:=jU r
 exact ⟨a,xs,rfl,q,by rw [← rs.len]; exact h.1,w B S H σ ρ _ _ Ψ Q er rs h.2 k⟩
abbrev jvH (te:E3) (g:G3):S3:=fun Φ ρ=>te ρ fun d=>g d ρ fun ρ'=>Φ (.nx ρ')
theorem jrL {tg:Expr} {g:G3} (he:PD X e te) (hg:PGD X tg g) (hs:swapsWithSole [tg] e pos.line X.env = pure false:=by rfl) (hw:swappedStores [tg] e X.env = pure none:=by rfl)
  (h1:(assignEach [tg] X.env).map (·.2) = [assign tg X.env]:=by rfl):PSD X (.Assign [tg] e pos) (jvH te g):=by
 obtain ⟨t2,h,w⟩:=he; obtain ⟨g2,hg,wg⟩:=hg
 exact ⟨_,jyi h hg hs hw h1,fun B S H σ ρ Φ D' er q ok=>w B S H σ ρ _ _ er q fun d v H1 p s r=>wg B S H1 σ ρ d v _ _ (er.go s) r p fun ρ' σ' p' er'=>ok.nx ρ' S H1 σ' p' er'⟩
end
abbrev jop (k:(F3->Prop)->jL->Prop) (Φ:F3->Prop):F3->Prop
 | .nx ρ=>k Φ ρ
 | .ct ρ=>k Φ ρ
 | .bk ρ=>Φ (.nx ρ)
 | .rt d=>Φ (.rt d)
def FOR (g:G3) (tb:S3):List D->(F3->Prop)->jL->Prop
 | [],Φ,ρ=>Φ (.nx ρ)
 | d :: ds,Φ,ρ=>g d ρ fun ρ1=>tb (jop (FOR g tb ds) Φ) ρ1
def Wlk (K:PySem.W.Frag) (J:It) (d:D) (v:V) (ds:List D):Prop:=∀ S H,Rep K S H d v->J.stop ds.length H∧∀ (i:Nat),i < ds.length->J.go i H∧∀ x H',J.yld i H x H'->H' = H∧∃ e,ds[i]? = some e∧Rep K S H e x
def jm2 (K:PySem.W.Frag) (J:It) (hs:List (D × V)) (ds:List D):Prop:=∀ S H,(∀ p ∈ hs,Rep K S H p.1 p.2)->J.stop ds.length H∧∀ (i:Nat),i < ds.length->J.go i H∧∀ x H',J.yld i H x H'->Same H H'∧∃ e,ds[i]? = some e∧Rep K S H' e x
theorem Wlk.l {K:PySem.W.Frag} {J:It} {d:D} {v:V} {ds:List D} (h:Wlk K J d v ds):jm2 K J [(d,v)] ds:=fun S H r=>by
 obtain ⟨a,b⟩:=h S H (r (d,v) (by simp))
 refine ⟨a,fun i hi=>⟨(b i hi).1,fun x H' y=>?_⟩⟩
 obtain ⟨rfl,e,ee,re⟩:=(b i hi).2 x H' y
 exact ⟨Same.refl _,e,ee,re⟩
def PID (X:Cx) (tg iter:Expr) (t:A3):Prop:=∃ wi,PI X tg iter wi∧∀ B S H σ ρ Φ (R:It->Hp->Prop),ER X.K B S H σ ρ->t ρ Φ->(∀ ds J hs H1,Φ ds->Same H H1->(∀ p ∈ hs,Rep X.K S H1 p.1 p.2)->jm2 X.K J hs ds->R J H1)->wi σ H R
theorem PID.one {X:Cx} {tg iter:Expr} {t:A3} (h:∃ wi,PI X tg iter wi∧∀ B S H σ ρ Φ (R:It->Hp->Prop),ER X.K B S H σ ρ->t ρ Φ->(∀ ds J d v H1,Φ ds->Same H H1->Rep X.K S H1 d v->Wlk X.K J d v ds->R J H1)->wi σ H R):PID X tg iter t:=by
 obtain ⟨wi,hi,ww⟩:=h
 refine ⟨wi,hi,fun B S H σ ρ Φ R er q k=>ww B S H σ ρ Φ R er q fun ds J d v H1 hΦ s r w=>k ds J [(d,v)] H1 hΦ s (fun p hp=>?_) w.l⟩
 have e:p = (d,v):=by simpa using hp
 subst e
 exact r
theorem ER.holds {K:PySem.W.Frag} {B:Bs} {S:Addr->Prop} {H:Hp} {σ:L2.St} {ρ:jL} {hs:List (D × V)} (er:ER K B S H σ ρ) (r:∀ p ∈ hs,Rep K S H p.1 p.2):ER K { B with gh:=hs ++ B.gh } S H σ ρ :=
 ⟨er.len,er.same,er.sub,er.ok0,er.ok,er.val,er.own,er.uq,er.dct,er.dq,er.rf,er.rwx,fun p hp=>by
  rcases List.mem_append.mp hp with hp | hp
  ·exact r p hp
  ·exact er.gh p hp⟩
theorem ER.unholds {K:PySem.W.Frag} {B:Bs} {S:Addr->Prop} {H:Hp} {σ:L2.St} {ρ:jL} {hs:List (D × V)} (er:ER K { B with gh:=hs ++ B.gh } S H σ ρ):ER K B S H σ ρ :=
 ⟨er.len,er.same,er.sub,er.ok0,er.ok,er.val,er.own,er.uq,er.dct,er.dq,er.rf,er.rwx,fun q hq=>er.gh q (List.mem_append_right _ hq)⟩
section
variable {X:Cx} {tg iter e:Expr} {body:List Stmt} {ti:A3} {g:G3} {tb:S3} {te:E3} {pos:Pos}
abbrev jsu (ti:A3) (g:G3) (tb:S3):S3:=fun Φ ρ=>ti ρ fun ds=>FOR g tb ds Φ ρ
theorem jmy (hp:PassesOwn (model X.prog X.w) X.A X.env X.xe) (hc:X.calm = true) (hi:PID X tg iter ti) (hg:PGD X tg g) (hb:jg5 X body tb)
  (hfs:∀ x,foldedSetIterable iter X.env x = pure x:=by intro _; rfl):PSD X (.For tg iter body [] pos) (jsu ti g tb):=by
 obtain ⟨wi,hi,ww⟩:=hi; obtain ⟨g2,hg,wg⟩:=hg; obtain ⟨b2,hb,wb⟩:=hb
 refine ⟨_,jtU hp hc hi hg hb hfs,fun B S H σ ρ Φ D' er q ok=>ww B S H σ ρ _ _ er q fun ds J hs H1 hΦ s1 rv wk=>?_⟩
 refine ⟨fun i m σ' H'=>m = ds.length - i∧i ≤ ds.length∧∃ S' ρ',ER X.K { B with gh:=hs ++ B.gh } S' H' σ' ρ'∧FOR g tb (ds.drop i) Φ ρ',⟨_,rfl,Nat.zero_le _,S,ρ,(er.go s1).holds rv,hΦ⟩,?_⟩
 rintro i m σ' H' ⟨rfl,hi,S',ρ',er',hf⟩
 have rg:=fun p (hp:p ∈ hs)=>er'.gh p (List.mem_append_left _ hp)
 obtain ⟨wstop,wgo⟩:=wk S' H' rg
 by_cases hlt:i < ds.length
 ·obtain ⟨go,yl⟩:=wgo i hlt
  rw [List.drop_eq_getElem_cons hlt] at hf
  refine .inr ⟨go,fun σ2 H2=>∃ S2 ρ2,ER X.K { B with gh:=hs ++ B.gh } S2 H2 σ2 ρ2∧FOR g tb (ds.drop (i + 1)) Φ ρ2,fun σ2 H2 h2=>⟨_,by omega,rfl,hlt,h2⟩,fun x H2 y=>?_⟩
  obtain ⟨sy,e',ee,re⟩:=yl x H2 y
  rw [List.getElem?_eq_getElem hlt] at ee
  cases ee
  refine wg _ S' _ σ' ρ' _ x _ _ (er'.go sy) re hf fun ρ1 σ1 h1 er1=>wb _ S' _ σ1 ρ1 _ _ er1 h1 ⟨fun ρ2 S2 H2 σ2 p er2=>⟨S2,ρ2,er2,p⟩,fun ρ2 S2 H2 σ2 p er2=>ok.nx ρ2 S2 H2 σ2 p er2.unholds,fun ρ2 S2 H2 σ2 p er2=>⟨S2,ρ2,er2,p⟩,fun c u H2 p s2 r2=>ok.rt c u H2 p s2 r2⟩
 ·have hi':i = ds.length:=by omega
  subst hi'
  rw [List.drop_length] at hf
  exact .inl ⟨wstop,ok.nx ρ' S' H' σ' hf er'.unholds⟩
def ups (lo:Int) (n:Nat):List D:=(List.range n).map fun (i:Nat)=>D.int (lo + (i:Int))
theorem jg6 (lo:Int) (n:Nat):(ups lo n).length = n:=by simp [ups]
theorem jtZ (K:PySem.W.Frag) (lo:Int) (n:Nat):Wlk K (Itr lo n) .non .non (ups lo n):=fun S H _=>by
 refine ⟨by show n ≤ _; rw [jg6]; exact Nat.le_refl _,fun i hi=>⟨by rw [jg6] at hi; exact hi,fun x H' y=>?_⟩⟩
 obtain ⟨rfl,rfl⟩:=y
 refine ⟨rfl,.int (lo + i),?_,Rep.int⟩
 rw [jg6] at hi
 simp [ups,hi]
abbrev iR1 (ta:A3):A3:=fun ρ Φ=>ta ρ fun ds=>match ds with | [.int j]=>-(2 ^ 62) ≤ j∧j < 2 ^ 62∧Φ (ups 0 j.toNat) | _=>False
theorem jcY {a:Expr} {ta:A3} {p pos:Pos} (hg:Gl X "range") (hm:X.mg "range" = none) (ha:PAD X [a] ta) (hs:starEach [a] X.env = [(false,eval a X.env)]:=by rfl):PID X tg (.Call (.Name "range" p) [a] [] pos) (iR1 ta):=by
 obtain ⟨t2,h,w⟩:=ha
 refine PID.one ⟨_,jtV hg hm h hs,fun B S H σ ρ Φ R er q k=>w B S H σ ρ _ _ er q fun ds vs H1 p s r=>?_⟩
 match ds,p with
 | [.int j],p =>
  simp only [Reps,Rep] at r
  obtain ⟨u,_,rfl,rfl,rfl⟩:=r
  exact ⟨j,rfl,p.1,p.2.1,k _ _ .non .non H1 p.2.2 s Rep.non (jtZ _ _ _)⟩
abbrev jsO (N:jL->Prop) (Φ:F3->Prop):F3->Prop
 | .nx ρ=>N ρ
 | .ct ρ=>N ρ
 | .bk ρ=>Φ (.nx ρ)
 | .rt d=>Φ (.rt d)
def jgc (tc:B3) (tb:S3):S3:=fun Φ ρ=>∃ W:Nat->jL->Prop,(∃ m,W m ρ)∧∀ m ρ,W m ρ->tc ρ fun k=>if k = true then tb (jsO (fun ρ'=>∃ m',m' < m∧W m' ρ') Φ) ρ else Φ (.nx ρ)
theorem jfj {c:Expr} {tc:B3} (hp:PassesOwn (model X.prog X.w) X.A X.env X.xe) (hc:PB X c tc) (hb:jg5 X body tb):PSD X (.While c body [] pos) (jgc tc tb):=by
 obtain ⟨c2,hc,wc⟩:=hc; obtain ⟨b2,hb,wb⟩:=hb
 refine ⟨_,jvR hp hc hb,fun B S H σ ρ Φ D' er ⟨W,⟨m0,w0⟩,turn⟩ ok=>?_⟩
 refine ⟨fun m σ' H'=>∃ S' ρ',ER X.K B S' H' σ' ρ'∧W m ρ',⟨m0,S,ρ,er,w0⟩,?_⟩
 rintro m σ' H' ⟨S',ρ',er',w'⟩
 refine wc B S' H' σ' ρ' _ _ er' (turn m ρ' w') fun k H1 hk s1=>?_
 cases k with
 | true =>
  have hk:tb (jsO (fun ρ'=>∃ m',m' < m∧W m' ρ') Φ) ρ':=by simpa using hk
  simp only [if_true]
  refine ⟨fun σ2 H2=>∃ S2 ρ2 m',m' < m∧ER X.K B S2 H2 σ2 ρ2∧W m' ρ2,fun σ2 H2 ⟨S2,ρ2,m',lt,er2,w2⟩=>⟨m',lt,S2,ρ2,er2,w2⟩,?_⟩
  exact wb B S' H1 σ' ρ' _ _ (er'.go s1) hk ⟨fun ρ2 S2 H2 σ2 ⟨m',lt,w2⟩ er2=>⟨S2,ρ2,m',lt,er2,w2⟩,fun ρ2 S2 H2 σ2 p er2=>ok.nx ρ2 S2 H2 σ2 p er2,fun ρ2 S2 H2 σ2 ⟨m',lt,w2⟩ er2=>⟨S2,ρ2,m',lt,er2,w2⟩,ok.rt⟩
 | false =>
  have hk:Φ (.nx ρ'):=by simpa using hk
  simp only [Bool.false_eq_true,if_false]
  exact ok.nx ρ' S' H1 σ' hk (er'.go s1)
theorem jfe {tc:B3} {tb:S3} {Φ:F3->Prop} {ρ:jL} (I:jL->Prop) (μ:jL->Nat) (h0:I ρ)
  (hs:∀ ρ,I ρ->tc ρ fun k=>if k = true then tb (jsO (fun ρ'=>∃ m',m' < μ ρ∧m' = μ ρ'∧I ρ') Φ) ρ else Φ (.nx ρ)):jgc tc tb Φ ρ :=
 ⟨fun m ρ=>m = μ ρ∧I ρ,⟨_,rfl,h0⟩,fun m ρ ⟨e,p⟩=>by subst e; exact hs ρ p⟩
end
section
open PySem.MeetsSeq PySem.AutoSeq1
end
def jsB (K:PySem.W.Frag) (S:Addr->Prop) (H:Hp) (Φ:List D->Prop) (Q:VK):Prop:=∀ ds xs p H1,Φ ds->Same H H1->H1 p = none->Reps K S H1 ds xs->Q (.ref p) (jG H1 p (.lst xs))
def PF (X:Cx) (e:Expr) (t:A3):Prop:=∃ t2,PE X e t2∧∀ B S H σ ρ Φ Q,ER X.K B S H σ ρ->t ρ Φ->jsB X.K S H Φ Q->t2 σ H Q
abbrev dF (t:A3):E3:=fun ρ Φ=>t ρ fun ds=>Φ (.lst ds)
section
variable {X:Cx} {a b c e:Expr} {ta tb tc te:E3} {tr tf:A3} {es:List Expr} {pos:Pos}
theorem jaw (h:PF X e tf):PD X e (dF tf):=by
 obtain ⟨t2,h,w⟩:=h
 exact ⟨_,h,fun B S H σ ρ Φ Q er q hd=>w B S H σ ρ _ _ er q fun ds xs p H1 hΦ s1 hp r=>hd _ _ _ hΦ (s1.trans (jaP hp)) (Rep.newLst (er.ok.same s1) hp r)⟩
abbrev jpR (t:A3):A3:=fun ρ Φ=>t ρ fun ds=>ds.length ≤ sizeLine∧Φ ds
theorem jlL (h:PAD X es tr):PF X (.List es pos) (jpR tr):=by
 obtain ⟨t2,h,w⟩:=h
 exact ⟨_,jts h,fun B S H σ ρ Φ Q er q hd=>w B S H σ ρ _ _ er q fun ds vs H1 hk s1 r=>⟨by rw [← r.len]; exact hk.1,fun p hp=>hd _ _ p H1 hk.2 s1 hp r⟩⟩
abbrev O3:=jL->(Option Int->Prop)->Prop
def POD (X:Cx) (e:Option Expr) (t:O3):Prop:=∃ t2,PO X e t2∧∀ B S H σ ρ Φ (Q:Option Int->Hp->Prop),ER X.K B S H σ ρ->t ρ Φ->(∀ o H',Φ o->Same H H'->Q o H')->t2 σ H Q
abbrev jwz:O3:=fun _ Φ=>Φ none
abbrev jou (te:E3):O3:=fun ρ Φ=>te ρ fun d=>match d with | .int i=>Φ (some i) | _=>False
theorem jvN:POD X none jwz:=⟨_,jw8,fun B S H σ ρ Φ Q er q hd=>hd none H q (Same.refl _)⟩
theorem jkN (h:PD X e te):POD X (some e) (jou te):=by
 obtain ⟨t2,h,w⟩:=h
 refine ⟨_,jxM h,fun B S H σ ρ Φ Q er q hd=>w B S H σ ρ _ _ er q fun d v H1 hk s1 r=>?_⟩
 cases d <;> first | exact hk.elim | skip
 exact ⟨_,jT r,hd _ H1 hk s1⟩
def jhA {α:Type} (xs:List α) (lo hi:Option Int):List α:=(xs.drop (HT.sIx xs.length 0 lo)).take (HT.sIx xs.length xs.length hi - HT.sIx xs.length 0 lo)
abbrev fSl (te:E3) (tl th:O3):A3:=fun ρ Φ=>te ρ fun d=>tl ρ fun lo=>th ρ fun hi=>match d with | .lst ds=>Φ (jhA ds lo hi) | _=>False
theorem jvd {lo hi:Option Expr} {tl th:O3} {p2:Pos} (he:PD X e te) (hl:POD X lo tl) (hu:POD X hi th):PF X (.Subscript e (.Slice lo hi none p2) pos) (fSl te tl th):=by
 obtain ⟨t2,h,w⟩:=he; obtain ⟨l2,hl,wl⟩:=hl; obtain ⟨u2,hu,wu⟩:=hu
 refine ⟨_,jo8 jxe h hl hu,fun B S H σ ρ Φ Q er q hd=>w B S H σ ρ _ _ er q fun d v H1 p1 s1 r1=>wl B S H1 σ ρ _ _ (er.go s1) p1 fun l H2 p2 s2=>wu B S H2 σ ρ _ _ ((er.go s1).go s2) p2 fun u H3 p3 s3=>?_⟩
 cases d <;> first | exact p3.elim | skip
 obtain ⟨a,xs,rfl,lr,rs⟩:=j0 ((r1.same s2).same s3)
 refine ⟨a,xs,rfl,lr.sq,fun p hp=>hd _ _ p H3 p3 ((s1.trans s2).trans s3) hp ?_⟩
 unfold jhA jpS
 rw [← rs.len]
 exact (rs.drop _).take _
end
def jb8 (X:Cx) (f:Value) (r3:jK):Prop:=∃ r,CallR X f r∧∀ S H ds vs Φ Q,SOk S H->Reps X.K S H ds vs->r3 ds Φ->Hand X.K S H Φ Q->r vs H Q
abbrev dB (r:jK) (t:A3):E3:=fun ρ Φ=>t ρ fun ds=>r ds Φ
section
variable {X:Cx} {x:Str} {p pos:Pos} {e:Expr} {es:List Expr} {t tr:A3} {te tb:E3} {id T:String} {r:jK}
theorem jan (hc:jb8 X (.builtin id) r) (hg:Gl X x) (hm:X.mg x = none) (hv:bootBuiltins x = some (.builtin id)) (ha:PAD X (e :: es) t) (hn:x ≠ "__name__":=by decide) (hdb:(x == ("__debug__":Str)) = false:=by decide)
  (he:starEach (e :: es) X.env = (false,eval e X.env) :: starEach es X.env:=by rfl) (hpl:(backTo pos (starEach es X.env)).any (·.1) = false:=by rfl):PD X (.Call (.Name x p) (e :: es) [] pos) (dB r t):=by
 obtain ⟨r2,hc,wc⟩:=hc; obtain ⟨t2,h,w⟩:=ha
 exact ⟨_,jkl hc hg hm hv h hn hdb he hpl,fun B S H σ ρ Φ Q er q hd=>w B S H σ ρ _ _ er q fun ds vs H1 p1 s1 r1=>wc S H1 ds vs Φ Q (er.ok.same s1) r1 p1 (hd.go s1)⟩
theorem jaJ (hc:jb8 X (.type T) r) (hg:Gl X x) (hm:X.mg x = none) (hv:bootBuiltins x = some (.type T)) (ha:PAD X (e :: es) t) (hn:x ≠ "__name__":=by decide) (hdb:(x == ("__debug__":Str)) = false:=by decide)
  (he:starEach (e :: es) X.env = (false,eval e X.env) :: starEach es X.env:=by rfl) (hpl:(backTo pos (starEach es X.env)).any (·.1) = false:=by rfl):PD X (.Call (.Name x p) (e :: es) [] pos) (dB r t):=by
 obtain ⟨r2,hc,wc⟩:=hc; obtain ⟨t2,h,w⟩:=ha
 exact ⟨_,jti hc hg hm hv h hn hdb he hpl,fun B S H σ ρ Φ Q er q hd=>w B S H σ ρ _ _ er q fun ds vs H1 p1 s1 r1=>wc S H1 ds vs Φ Q (er.ok.same s1) r1 p1 (hd.go s1)⟩
abbrev jf3:jK
 | [.lst ds],Φ=>Φ (.int ds.length)
 | [.tup ds],Φ=>Φ (.int ds.length)
 | _,_=>False
theorem jes:jb8 X (.builtin "len") jf3:=⟨_,jpv,fun S H ds vs Φ Q so r h hd=>by
 match ds,h with
 | [.lst ds],h =>
  simp only [Reps] at r
  obtain ⟨v,_,rfl,rv,rfl⟩:=r
  obtain ⟨a,xs,rfl,lr,rs⟩:=j0 rv
  exact ⟨a,xs,rfl,.inl lr.sq,hd _ _ H h (Same.refl _) (by rw [rs.len]; exact Rep.int)⟩
 | [.tup ds],h =>
  simp only [Reps] at r
  obtain ⟨v,_,rfl,rv,rfl⟩:=r
  obtain ⟨a,xs,rfl,lr,rs⟩:=jU rv
  exact ⟨a,xs,rfl,.inr lr,hd _ _ H h (Same.refl _) (by rw [rs.len]; exact Rep.int)⟩⟩
abbrev jqa:jK
 | [.int i],Φ=>Φ (.int (i.natAbs:Int))
 | _,_=>False
theorem js1:jb8 X (.builtin "abs") jqa:=⟨_,jvZ,fun S H ds vs Φ Q so r h hd=>by
 match ds,h with
 | [.int i],h =>
  simp only [Reps,Rep] at r
  obtain ⟨v,_,rfl,rfl,rfl⟩:=r
  have e:(if i < 0 then -i else i) = (i.natAbs:Int):=by split <;> omega
  exact ⟨i,rfl,hd _ _ H h (Same.refl _) (by rw [e]; exact Rep.int)⟩⟩
abbrev jx4:jK
 | [.int i,.int j],Φ=>Φ (.int (if j < i then j else i))
 | _,_=>False
theorem jzW (hc:X.calm = true):jb8 X (.builtin "min") jx4:=⟨_,jtd hc,fun S H ds vs Φ Q so r h hd=>by
 match ds,h with
 | [.int i,.int j],h =>
  simp only [Reps,Rep] at r
  obtain ⟨v,_,rfl,rfl,_,_,rfl,rfl,rfl⟩:=r
  exact ⟨i,j,rfl,hd _ _ H h (Same.refl _) Rep.int⟩⟩
abbrev jcT:jK
 | [.lst ds],Φ=>Φ (.tup ds)
 | [.tup ds],Φ=>Φ (.tup ds)
 | _,_=>False
theorem jcO:jb8 X (.type "tuple") jcT:=⟨_,joi,fun S H ds vs Φ Q so r h hd=>by
 match ds,h with
 | [.lst ds],h =>
  simp only [Reps] at r
  obtain ⟨v,_,rfl,rv,rfl⟩:=r
  obtain ⟨a,xs,rfl,lr,rs⟩:=j0 rv
  exact ⟨a,xs,rfl,.inl ⟨lr.sq,fun l hl=>hd _ _ _ h (jaP hl) (Rep.newTup hl rs)⟩⟩
 | [.tup ds],h =>
  simp only [Reps] at r
  obtain ⟨v,_,rfl,rv,rfl⟩:=r
  obtain ⟨a,xs,rfl,lr,rs⟩:=jU rv
  exact ⟨a,xs,rfl,.inr ⟨lr,hd _ _ _ h (Same.refl _) (Rep.tup lr rs)⟩⟩⟩
def isInt:D->Bool
 | .int _=>true
 | .bl _=>true
 | _=>false
def jv7:D->Bool
 | .str _=>true
 | _=>false
def tyD:D->String
 | .non=>"NoneType"
 | .bl _=>"bool"
 | .int _=>"int"
 | .str _=>"str"
 | .tup _=>"tuple"
 | .lst _=>"list"
theorem juS {pins:List (Addr × Obj)} {σ:L2.St} {H:Hp} {s:Shared} {A:Around} {E:Value->Shared->Prop} {Q:Value->Shared->Prop} {c:Value} {b:Bool} {S:Addr->Prop} {d:D} {x:V} {u:Value} (I:Inv X pins σ H s) (rx:RelV x u) (rd:Rep X.K S H d x)
  (e:PySem.W.kitOne X.K (.type (tyD d)) c = some b) (h:∀ tk,Q (.bool b) { s with toks:=tk }):wpAny (model X.prog X.w) A (call (.builtin "isinstance") [u,c]) Q E s:=by
 cases d with
 | non=>cases jab rd; exact jfn I rx .non e h
 | bl k=>cases jak rd; exact jfn I rx (.bl k) e h
 | int k=>cases jT rd; exact jfn I rx (.int k) e h
 | str k=>cases jap rd; exact jfn I rx (.str k) e h
 | tup ds =>
  obtain ⟨a,xs,rfl,lr,rs⟩:=jU rd
  cases (show u = Value.ref a from rx)
  obtain ⟨its,r',pl,hz⟩:=I.tuple lr
  obtain ⟨o,h1,h2,_⟩:=pl
  exact PySem.W.kia_one PySem.W.kitx_tuple I.kIn ⟨o,h1,h2⟩ e (fun z=>by cases z) h
 | lst ds =>
  obtain ⟨a,xs,rfl,lr,rs⟩:=j0 rd
  cases (show u = Value.ref a from rx)
  obtain ⟨its,r',pl,hz⟩:=I.list lr.sq
  obtain ⟨o,n,h1,h2,_⟩:=pl
  exact PySem.W.kia_one PySem.W.kitx_list I.kIn ⟨o,h1,h2⟩ e (fun z=>by cases z) h
def jyV (T:String) (f:D->Bool):Prop:=∀ (K:PySem.W.Frag) (d:D),PySem.W.kitOne K (.type (tyD d)) (.type T) = some (f d)
theorem jyd:jyV "str" jv7:=fun K d=>by cases d <;> rfl
abbrev jyO (f:D->Bool) (te:E3):E3:=fun ρ Φ=>te ρ fun d=>Φ (.bl (f d))
theorem jtS {f:D->Bool} {y:Str} {py:Pos} (hT:jyV T f) (hg:Gl X x) (hm:X.mg x = none) (hv:bootBuiltins x = some (.builtin "isinstance")) (hgy:Gl X y) (hmy:X.mg y = none) (hvy:bootBuiltins y = some (.type T)) (ha:PD X e te)
  (hn:x ≠ "__name__":=by decide) (hdb:(x == ("__debug__":Str)) = false:=by decide) (hny:y ≠ "__name__":=by decide) (hdy:(y == ("__debug__":Str)) = false:=by decide)
  (he:starEach [e,.Name y py] X.env = [(false,eval e X.env),(false,eval (.Name y py) X.env)]:=by rfl) (he2:starEach [.Name y py] X.env = [(false,eval (.Name y py) X.env)]:=by rfl) :
  PD X (.Call (.Name x p) [e,.Name y py] [] pos) (jyO f te):=by
 obtain ⟨t2,h,w⟩:=ha
 have cr:CallR X (.builtin "isinstance") (fun xs H Q=>∃ S d v,xs = [v,.ty T]∧Rep X.K S H d v∧Q (.bl (f d)) H):=fun pins s σ H xs us Q I rs ⟨S,d,v,e1,rd,q⟩=>by
  subst e1
  obtain ⟨u,u2,rfl,r1,r2⟩:=jwv rs
  cases (show u2 = Value.type T from r2)
  exact juS I r1 rd (hT X.K d) fun tk=>⟨.bl _,H,I.tok tk,rfl,q⟩
 refine ⟨_,jkl cr hg hm hv (jbe h (jbe (jxF hgy hmy hvy (show RelV (.ty T) (.type T) from rfl) hny hdy) jcn he2) (by rw [he,he2])) hn hdb (by rw [he,he2]) (by rw [he2]; rfl),fun B S H σ ρ Φ Q er q hd=>w B S H σ ρ _ _ er q fun d v H1 p1 s1 r1=>?_⟩
 exact ⟨S,d,v,rfl,r1,hd _ _ H1 p1 s1 Rep.bl⟩
end
section
variable {K:PySem.W.Frag} {B:Bs} {S:Addr->Prop} {H:Hp} {σ:L2.St} {ρ:jL} {i:Nat} {d:D} {ds es:List D} {v:V} {a p:Addr} {xs ys:List V}
theorem ER.take (er:ER K B S H σ ρ) (hp:H p = none) (r:Reps K S H ds xs):ER K B (fun b=>S b ∨ b = p) (jG H p (.lst xs)) (σ.set i (some (.ref p))) (ρ.set i (.own ds)):=by
 have sm:=jaP (o:=.lst xs) hp
 have hL:∀ b ys,LR K S H b ys->LR K (fun b=>S b ∨ b = p) (jG H p (.lst xs)) b ys:=fun b ys q=>by
  rcases q with ⟨n,q⟩ | q
  ·have hb:b ≠ p:=by
    rintro rfl
    rcases q with q | ⟨o,q⟩ <;> rw [hp] at q <;> cases q
   refine .inl ⟨fun z=>z.elim n hb,?_⟩
   rcases q with q | ⟨o,q⟩
   ·exact .inl (sm _ _ q)
   ·exact .inr ⟨o,sm _ _ q⟩
  ·exact .inr q
 have mv:∀ {c:D} {w:V},Rep K S H c w->Rep K (fun b=>S b ∨ b = p) (jG H p (.lst xs)) c w:=fun {c w} q=>Rep.map (jb0 sm) hL c w q
 have mvs:∀ {c:List D} {w:List V},Reps K S H c w->Reps K (fun b=>S b ∨ b = p) (jG H p (.lst xs)) c w:=fun {c w} q=>Reps.map (jb0 sm) hL c w q
 have h0:B.H0 p = none:=er.same.free hp
 exact {
  len:=by rw [List.length_set,List.length_set]; exact er.len
  same:=er.same.trans sm
  sub:=fun b h=>.inl (er.sub b h)
  ok0:=er.ok0
  ok:=fun b h=>by
   by_cases hb:b = p
   ·subst hb; exact ⟨_,jW⟩
   ·obtain ⟨o,e⟩:=er.ok b (h.resolve_right hb)
    exact ⟨o,sm _ _ e⟩
  val:=fun j c q=>by
   rw [List.getElem?_set] at q
   split at q
   ·first | cases q | (split at q <;> cases q)
   ·rename_i hij
    obtain ⟨w,e,r'⟩:=er.val j c q
    exact ⟨w,by rw [List.getElem?_set_ne hij]; exact e,mv r'⟩
  own:=fun j c q=>by
   rw [List.getElem?_set] at q
   split at q
   ·rename_i hij
    subst hij
    split at q
    ·rename_i hl
     cases q
     exact ⟨p,xs,by rw [List.getElem?_set_self (by rw [er.len]; exact hl)],.inr rfl,h0,jW,mvs r⟩
    ·cases q
   ·rename_i hij
    obtain ⟨b,zs,e,hs,hz,hl,r'⟩:=er.own j c q
    exact ⟨b,zs,by rw [List.getElem?_set_ne hij]; exact e,.inl hs,hz,sm _ _ hl,mvs r'⟩
  uq:=fun j k b c c' q1 q2 e1 e2=>by
   rw [List.getElem?_set] at q1 q2
   split at q1
   ·rename_i h1
    subst h1
    split at q1
    ·rename_i hl
     rw [List.getElem?_set_self (by rw [er.len]; exact hl)] at e1
     cases e1
     split at q2
     ·rename_i h2; exact h2
     ·rename_i h2
      obtain ⟨b,zs,e,hs,hz,hl',r'⟩:=er.own k c' q2
      rw [List.getElem?_set_ne h2,e] at e2
      cases e2
      rw [hp] at hl'; cases hl'
    ·cases q1
   ·rename_i h1
    split at q2
    ·rename_i h2
     subst h2
     split at q2
     ·rename_i hl
      rw [List.getElem?_set_self (by rw [er.len]; exact hl)] at e2
      cases e2
      obtain ⟨b,zs,e,hs,hz,hl',r'⟩:=er.own j c q1
      rw [List.getElem?_set_ne h1,e] at e1
      cases e1
      rw [hp] at hl'; cases hl'
     ·cases q2
    ·rename_i h2
     rw [List.getElem?_set_ne h1] at e1
     rw [List.getElem?_set_ne h2] at e2
     exact er.uq j k b c c' q1 q2 e1 e2
  dct:=fun j ks' ds' q=>by
   rw [List.getElem?_set] at q
   split at q
   ·first | cases q | (split at q <;> cases q)
   ·rename_i hij
    obtain ⟨b,e,hs,hz,r'⟩:=er.dct j ks' ds' q
    exact ⟨b,by rw [List.getElem?_set_ne hij]; exact e,.inl hs,hz,r'.map mvs (jy (r'.ne' hp))⟩
  dq:=fun j k a ks ds ks' ds' q1 q2 e1 e2=>by
   rw [List.getElem?_set] at q1 q2
   split at q1
   ·first | cases q1 | (split at q1 <;> cases q1)
   ·split at q2
    ·first | cases q2 | (split at q2 <;> cases q2)
    ·rename_i h1 h2
     rw [List.getElem?_set_ne h1] at e1
     rw [List.getElem?_set_ne h2] at e2
     exact er.dq j k a ks ds ks' ds' q1 q2 e1 e2
  rf:=fun j v q=>by
   rw [List.getElem?_set] at q
   split at q
   ·first | cases q | (split at q <;> cases q)
   ·rename_i hij
    rw [List.getElem?_set_ne hij]; exact er.rf j v q
  rwx:=fun j v q=>by
   rw [List.getElem?_set] at q
   split at q
   ·first | cases q | (split at q <;> cases q)
   ·rename_i hij
    rw [List.getElem?_set_ne hij]; exact er.rwx j v q
  gh:=fun q hq=>mv (er.gh q hq) }
theorem ER.change (er:ER K B S H σ ρ) (ho:ρ[i]? = some (.own ds)) (ha:σ[i]? = some (some (.ref a))) (hs:S a) (h0:B.H0 a = none) (hl:H a = some (.lst xs)) (r:Reps K S H es ys):ER K B S (jG H a (.lst ys)) σ (ρ.set i (.own es)):=by
 have hT:∀ b zs,SqT K H b zs->SqT K (jG H a (.lst ys)) b zs:=fun b zs q=>by
  rcases q with (q | ⟨o,q⟩) | q
  ·exact .inl (.inl (by rw [jy (jdf q hl (fun z=>by cases z))]; exact q))
  ·exact .inl (.inr ⟨o,by rw [jy (jdf q hl (fun z=>by cases z))]; exact q⟩)
  ·exact .inr q
 have hL:∀ b zs,LR K S H b zs->LR K S (jG H a (.lst ys)) b zs:=fun b zs q=>by
  rcases q with ⟨n,q⟩ | q
  ·have hb:b ≠ a:=fun z=>n (z ▸ hs)
   refine .inl ⟨n,?_⟩
   rcases q with q | ⟨o,q⟩
   ·exact .inl (by rw [jy hb]; exact q)
   ·exact .inr ⟨o,by rw [jy hb]; exact q⟩
  ·exact .inr q
 have mv:∀ {c:D} {w:V},Rep K S H c w->Rep K S (jG H a (.lst ys)) c w:=fun {c w} q=>Rep.map hT hL c w q
 have mvs:∀ {c:List D} {w:List V},Reps K S H c w->Reps K S (jG H a (.lst ys)) c w:=fun {c w} q=>Reps.map hT hL c w q
 have hi:i < ρ.length:=(List.getElem?_eq_some_iff.mp ho).1
 exact {
  len:=by rw [List.length_set]; exact er.len
  same:=fun b o e=>by
   have hb:b ≠ a:=j9 e h0
   rw [jy hb]; exact er.same b o e
  sub:=er.sub
  ok0:=er.ok0
  ok:=fun b h=>by
   by_cases hb:b = a
   ·subst hb; exact ⟨_,jW⟩
   ·obtain ⟨o,e⟩:=er.ok b h
    exact ⟨o,by rw [jy hb]; exact e⟩
  val:=fun j c q=>by
   rw [List.getElem?_set] at q
   split at q
   ·first | cases q | (split at q <;> cases q)
   ·obtain ⟨w,e,r'⟩:=er.val j c q
    exact ⟨w,e,mv r'⟩
  own:=fun j c q=>by
   rw [List.getElem?_set] at q
   split at q
   ·rename_i hij
    subst hij
    try rw [if_pos hi] at q
    cases q
    exact ⟨a,ys,ha,hs,h0,jW,mvs r⟩
   ·rename_i hij
    obtain ⟨b,zs,e,hsb,hz,hlb,r'⟩:=er.own j c q
    have hb:b ≠ a:=fun z=>hij (er.uq i j a ds c ho q ha (z ▸ e))
    exact ⟨b,zs,e,hsb,hz,by rw [jy hb]; exact hlb,mvs r'⟩
  uq:=fun j k b c c' q1 q2 e1 e2=>by
   have back:∀ {m:Nat} {c:List D},(ρ.set i (Sl.own es))[m]? = some (.own c)->∃ c',ρ[m]? = some (.own c'):=fun {m c} q=>by
    rw [List.getElem?_set] at q
    split at q
    ·rename_i h; subst h; exact ⟨_,ho⟩
    ·exact ⟨_,q⟩
   obtain ⟨c1,q1⟩:=back q1
   obtain ⟨c2,q2⟩:=back q2
   exact er.uq j k b c1 c2 q1 q2 e1 e2
  dct:=fun j ks' ds' q=>by
   rw [List.getElem?_set] at q
   split at q
   ·first | cases q | (split at q <;> cases q)
   ·obtain ⟨b,e,hsb,hz,r'⟩:=er.dct j ks' ds' q
    exact ⟨b,e,hsb,hz,r'.map mvs (jy (r'.ne hl))⟩
  dq:=fun j k a ks ds ks' ds' q1 q2 e1 e2=>by
   rw [List.getElem?_set] at q1 q2
   split at q1
   ·first | cases q1 | (split at q1 <;> cases q1)
   ·split at q2
    ·first | cases q2 | (split at q2 <;> cases q2)
    ·exact er.dq j k a ks ds ks' ds' q1 q2 e1 e2
  rf:=fun j v q=>by
   rw [List.getElem?_set] at q
   split at q
   ·first | cases q | (split at q <;> cases q)
   ·exact er.rf j v q
  rwx:=fun j v q=>by
   rw [List.getElem?_set] at q
   split at q
   ·first | cases q | (split at q <;> cases q)
   ·exact er.rwx j v q
  gh:=fun q hq=>mv (er.gh q hq) }
theorem ER.freeze (er:ER K B S H σ ρ) (ho:ρ[i]? = some (.own ds)):∃ S',ER K B S' H σ (ρ.set i (.val (.lst ds))):=by
 obtain ⟨a,xs,ea,hs,h0,hl,r⟩:=er.own i ds ho
 have hi:i < ρ.length:=(List.getElem?_eq_some_iff.mp ho).1
 have sb:∀ b,(S b∧b ≠ a)->S b:=fun b h=>h.1
 refine ⟨fun b=>S b∧b ≠ a,?_⟩
 exact {
  len:=by rw [List.length_set]; exact er.len
  same:=er.same
  sub:=fun b h=>⟨er.sub b h,fun z=>by subst z; obtain ⟨o,e⟩:=er.ok0 b h; rw [h0] at e; cases e⟩
  ok0:=er.ok0
  ok:=fun b h=>er.ok b h.1
  val:=fun j c q=>by
   rw [List.getElem?_set] at q
   split at q
   ·rename_i hij
    subst hij
    try rw [if_pos hi] at q
    cases q
    exact ⟨.ref a,ea,Rep.lst (.inl ⟨fun z=>z.2 rfl,.inl hl⟩) (r.sub sb)⟩
   ·obtain ⟨w,e,r'⟩:=er.val j c q
    exact ⟨w,e,r'.sub sb⟩
  own:=fun j c q=>by
   rw [List.getElem?_set] at q
   split at q
   ·first | cases q | (split at q <;> cases q)
   ·rename_i hij
    obtain ⟨b,zs,e,hsb,hz,hlb,r'⟩:=er.own j c q
    have hb:b ≠ a:=fun z=>hij (er.uq i j a ds c ho q ea (z ▸ e))
    exact ⟨b,zs,e,⟨hsb,hb⟩,hz,hlb,r'.sub sb⟩
  uq:=fun j k b c c' q1 q2 e1 e2=>by
   rw [List.getElem?_set] at q1 q2
   split at q1
   ·first | cases q1 | (split at q1 <;> cases q1)
   ·split at q2
    ·first | cases q2 | (split at q2 <;> cases q2)
    ·exact er.uq j k b c c' q1 q2 e1 e2
  dct:=fun j ks' ds' q=>by
   rw [List.getElem?_set] at q
   split at q
   ·first | cases q | (split at q <;> cases q)
   ·obtain ⟨b,e,hsb,hz,r'⟩:=er.dct j ks' ds' q
    exact ⟨b,e,⟨hsb,r'.ne hl⟩,hz,r'.map (fun r=>r.sub sb) rfl⟩
  dq:=fun j k a ks ds ks' ds' q1 q2 e1 e2=>by
   rw [List.getElem?_set] at q1 q2
   split at q1
   ·first | cases q1 | (split at q1 <;> cases q1)
   ·split at q2
    ·first | cases q2 | (split at q2 <;> cases q2)
    ·exact er.dq j k a ks ds ks' ds' q1 q2 e1 e2
  rf:=fun j v q=>by
   rw [List.getElem?_set] at q
   split at q
   ·first | cases q | (split at q <;> cases q)
   ·exact er.rf j v q
  rwx:=fun j v q=>by
   rw [List.getElem?_set] at q
   split at q
   ·first | cases q | (split at q <;> cases q)
   ·exact er.rwx j v q
  gh:=fun q hq=>(er.gh q hq).sub sb }
end
def jbk (env:Env):List (Str × NameKind)->List (Str × Addr)->List (Str × Addr)
 | [],cs=>cs
 | (n,k) :: r,cs=>if (k == .free) = true then (match env.cells.lookup n with | some c=>jbk env r ((n,c) :: cs) | none=>jbk env r cs) else jbk env r cs
theorem jlI {scope:Scope} {env:Env} (h:∀ p ∈ scope.names,p.2 = .free->∃ c,env.cells.lookup p.1 = some c):closureFor scope env = pure (jbk env scope.names []):=by
 unfold closureFor
 have key:∀ (l:List (Str × NameKind)) (cs:List (Str × Addr)),(∀ p ∈ l,p.2 = .free->∃ c,env.cells.lookup p.1 = some c) ->
   (forIn l cs fun x r=>match x with | (name,kind)=>if (kind == NameKind.free) = true then (do let a ← cellOf env name; pure (ForInStep.yield ((name,a) :: r))) else pure (ForInStep.yield r):Sem (List (Str × Addr))) = pure (jbk env l cs):=by
  intro l
  induction l with
  | nil=>intro cs _; rfl
  | cons p r ih =>
   intro cs hl
   obtain ⟨n,k⟩:=p
   rw [List.forIn_cons]
   have hr:=fun cs'=>ih cs' fun q hq=>hl q (List.mem_cons_of_mem _ hq)
   unfold jbk
   by_cases hk:(k == NameKind.free) = true
   ·obtain ⟨c,hc⟩:=hl (n,k) List.mem_cons_self (by simpa using hk)
    have hc':List.lookup n env.cells = some c:=hc
    simp only [hk,if_true,hc',cellOf,pure_bind]
    exact hr _
   ·simp only [hk,Bool.false_eq_true,if_false,pure_bind]
    exact hr _
 have:=key scope.names [] h
 exact (bind_pure _).trans this
theorem jhg {env:Env}:∀ {l:List (Str × NameKind)} {cs:List (Str × Addr)} {y:Str} {c:Addr},(∀ y c,cs.lookup y = some c->env.cells.lookup y = some c)->(jbk env l cs).lookup y = some c->env.cells.lookup y = some c
 | [],cs,y,c,h,e=>h y c e
 | (n,k) :: r,cs,y,c,h,e=>by
  unfold jbk at e
  split at e
  ·split at e
   ·rename_i c' hc
    refine jhg (l:=r) (fun z d q=>?_) e
    rw [List.lookup_cons] at q
    split at q
    ·rename_i hz
     cases q
     have:z = n:=by simpa using hz
     rw [this]; exact hc
    ·exact h z d q
   ·exact jhg h e
  ·exact jhg h e
theorem jfp {env:Env}:∀ {l:List (Str × NameKind)} {cs:List (Str × Addr)} {y:Str},(∃ c,cs.lookup y = some c)->∃ c,(jbk env l cs).lookup y = some c
 | [],cs,y,h=>h
 | (n,k) :: r,cs,y,h=>by
  unfold jbk
  split
  ·split
   ·rename_i c' hc
    refine jfp (l:=r) ?_
    rw [List.lookup_cons]
    split
    ·exact ⟨_,rfl⟩
    ·exact h
   ·exact jfp h
  ·exact jfp h
theorem jeX {env:Env}:∀ {l:List (Str × NameKind)} {cs:List (Str × Addr)} {y:Str},(y,NameKind.free) ∈ l->(∃ c,env.cells.lookup y = some c)->∃ c,(jbk env l cs).lookup y = some c
 | [],cs,y,h,_=>by cases h
 | (n,k) :: r,cs,y,h,he=>by
  rcases List.mem_cons.mp h with q | q
  ·cases q
   obtain ⟨c,hc⟩:=he
   unfold jbk
   rw [if_pos (by rfl),hc]
   refine jfp ⟨c,?_⟩
   rw [List.lookup_cons]
   simp
  ·unfold jbk
   split
   ·split
    ·exact jeX q he
    ·exact jeX q he
   ·exact jeX q he
def jfd (scope:Scope) (env:Env) (xs M N:List Str):Bool :=
 scope.kind == .function && scope.names.all (fun p=>p.2 != .cell || scope.names.lookup p.1 == some .cell) && scope.names.all (fun p=>p.2 != .free || env.kindOf p.1 == some .cell) &&
 scope.names.all (fun p=>p.2 != .local || scope.names.lookup p.1 == some .local) && scope.names.all (fun p=>p.2 == .local || p.2 == .free || p.2 == .globalImplicit || p.2 == .cell) &&
 xs.all (fun x=>scope.names.lookup x == some .local || scope.names.lookup x == some .cell) && M.all (fun y=>scope.names.lookup y == none || scope.names.lookup y == some .free || scope.names.lookup y == some .globalImplicit) && M.length == N.length && (M.zip N).all (fun p=>p.1 == p.2 || scope.names.lookup p.1 == none)
def j6 (X:Cx) (xs M:List Str) (scope:Scope) (C:Addr) (s:Shared) (H:Hp) (fp:List Addr):Cx :=
 { X with N:=xs ++ M,s₀:=s,H₀:=H,env:=compEnvC scope (cellsFrom (C + 1) scope.names (jbk X.env scope.names [])) C X.env,outer:=X.stack,ex:=fp,fn:=fun y=>scope.names.lookup y == some .cell,pn:=[],xe:=fun _ _=>False }
theorem mem_of_lookup {α:Type}:∀ {l:List (Str × α)} {y:Str} {k:α},l.lookup y = some k->(y,k) ∈ l
 | [],y,k,h=>by cases h
 | (n,j) :: r,y,k,h=>by
  rw [List.lookup_cons] at h
  split at h
  ·rename_i hz
   cases h
   have:y = n:=by simpa using hz
   rw [this]; exact List.mem_cons_self
  ·exact List.mem_cons_of_mem _ (mem_of_lookup h)
theorem jaV {env:Env}:∀ {names:List (Str × NameKind)} {x:Str} {k:NameKind},
  (names.map fun (n,k)=>if (k == NameKind.free && env.scope.kind == .function && env.kindOf n == some .cell) then (n,NameKind.cell) else (n,k)).lookup x = some k->∃ j,names.lookup x = some j∧(j = k ∨ (j = .free∧k = .cell))
 | [],_,_,h=>by simp at h
 | (n,j) :: r,x,k,h=>by
  have ih:=@jaV env r x k
  change List.lookup x ((if (j == NameKind.free && env.scope.kind == .function && env.kindOf n == some .cell) = true then (n,NameKind.cell) else (n,j)) :: _) = _ at h
  rw [List.lookup_cons]
  cases hx:x == n with
  | true =>
   by_cases hc:(j == NameKind.free && env.scope.kind == .function && env.kindOf n == some .cell) = true
   ·rw [if_pos hc,List.lookup_cons] at h
    simp only [hx] at h
    cases h
    refine ⟨j,rfl,.inr ⟨?_,rfl⟩⟩
    have:=(Bool.and_eq_true _ _ ▸ (Bool.and_eq_true _ _ ▸ hc).1).1
    simpa using this
   ·rw [if_neg hc,List.lookup_cons] at h
    simp only [hx] at h
    cases h
    exact ⟨j,rfl,.inl rfl⟩
  | false =>
   by_cases hc:(j == NameKind.free && env.scope.kind == .function && env.kindOf n == some .cell) = true
   ·rw [if_pos hc,List.lookup_cons] at h
    simp only [hx] at h
    exact ih h
   ·rw [if_neg hc,List.lookup_cons] at h
    simp only [hx] at h
    exact ih h
structure jlm (X:Cx) (xs M:List Str) (scope:Scope):Prop where
 kind:scope.kind = .function
 cells:∀ p ∈ scope.names,p.2 = .cell->scope.names.lookup p.1 = some .cell
 free:∀ p ∈ scope.names,p.2 = .free->X.env.kindOf p.1 = some .cell
 loc:∀ p ∈ scope.names,p.2 = .local->scope.names.lookup p.1 = some .local
 xs:∀ x ∈ xs,scope.names.lookup x = some .local ∨ scope.names.lookup x = some .cell
 around:∀ y ∈ M,scope.names.lookup y = none ∨ scope.names.lookup y = some .free ∨ scope.names.lookup y = some .globalImplicit
 len:M.length = X.N.length
 same:∀ (i:Nat) y,M[i]? = some y->X.N[i]? = some y ∨ scope.names.lookup y = none
theorem jtx {X:Cx} {xs M:List Str} {scope:Scope} (h:jfd scope X.env xs M X.N = true):jlm X xs M scope:=by
 unfold jfd at h
 simp only [Bool.and_eq_true,List.all_eq_true,Bool.or_eq_true,beq_iff_eq,bne_iff_ne,ne_eq] at h
 obtain ⟨⟨⟨⟨⟨⟨⟨⟨h1,h2⟩,h3⟩,h4⟩,h5⟩,h6⟩,h7⟩,h8⟩,h9⟩:=h
 exact ⟨h1,fun p hp e=>(h2 p hp).resolve_left fun z=>z e,fun p hp e=>(h3 p hp).resolve_left fun z=>z e,fun p hp e=>(h4 p hp).resolve_left fun z=>z e,h6,fun y hy=>by
  rcases h7 y hy with (a | a) | a
  ·exact .inl a
  ·exact .inr (.inl a)
  ·exact .inr (.inr a),h8,fun i y e=>by
   have hi:i < M.length:=(List.getElem?_eq_some_iff.mp e).1
   have hi2:i < X.N.length:=by rw [← h8]; exact hi
   have em:M[i] = y:=(List.getElem?_eq_some_iff.mp e).2
   have hz:(M[i],X.N[i]) ∈ M.zip X.N:=by
    have:(M.zip X.N)[i]? = some (M[i],X.N[i]):=by rw [List.getElem?_zip_eq_some]; exact ⟨by simp,by simp⟩
    exact List.mem_of_getElem? this
   rcases h9 _ hz with q | q
   ·left
    have q':M[i] = X.N[i]:=q
    rw [← em,q']; simp
   ·right; rw [← em]; exact q⟩
theorem ji5:∀ (names:List (Str × NameKind)) (n:Nat) (acc:List (Str × Addr)),cellsFrom n names acc = cellsFrom n names [] ++ acc
 | [],n,acc=>rfl
 | (x,k) :: r,n,acc=>by
  unfold cellsFrom
  split
  ·rw [ji5 r (n + 1) ((x,n) :: acc),ji5 r (n + 1) [(x,n)],List.append_assoc]; rfl
  ·exact ji5 r n acc
theorem jps:∀ {names:List (Str × NameKind)} {n:Nat} {acc:List (Str × Addr)} {y:Str} {c:Addr},(y,c) ∈ cellsFrom n names acc->(y,c) ∈ acc ∨ ((y,NameKind.cell) ∈ names∧n ≤ c)
 | [],n,acc,y,c,h=>.inl h
 | (x,k) :: r,n,acc,y,c,h=>by
  unfold cellsFrom at h
  split at h
  ·rename_i hk
   have hk:k = .cell:=by simpa using hk
   rcases jps h with z | z
   ·rcases List.mem_cons.mp z with z | z
    ·cases z; subst hk; exact .inr ⟨List.mem_cons_self,Nat.le_refl _⟩
    ·exact .inl z
   ·exact .inr ⟨List.mem_cons_of_mem _ z.1,Nat.le_of_succ_le z.2⟩
  ·rcases jps h with z | z
   ·exact .inl z
   ·exact .inr ⟨List.mem_cons_of_mem _ z.1,z.2⟩
theorem jjA:∀ {names:List (Str × NameKind)} {n:Nat} {acc:List (Str × Addr)} {y:Str},(∃ c,acc.lookup y = some c)->∃ c,(cellsFrom n names acc).lookup y = some c
 | [],n,acc,y,h=>h
 | (x,k) :: r,n,acc,y,h=>by
  unfold cellsFrom
  split
  ·refine jjA (names:=r) ?_
   rw [List.lookup_cons]
   split
   ·exact ⟨_,rfl⟩
   ·exact h
  ·exact jjA h
theorem jlg:∀ {names:List (Str × NameKind)} {n:Nat} {acc:List (Str × Addr)} {y:Str},(y,NameKind.cell) ∈ names->∃ c,(cellsFrom n names acc).lookup y = some c
 | [],n,acc,y,h=>by cases h
 | (x,k) :: r,n,acc,y,h=>by
  rcases List.mem_cons.mp h with q | q
  ·cases q
   unfold cellsFrom
   rw [if_pos (by rfl)]
   refine jjA ⟨n,?_⟩
   rw [List.lookup_cons]
   simp
  ·unfold cellsFrom
   split
   ·exact jlg q
   ·exact jlg q
theorem jkR:∀ {names:List (Str × NameKind)} {n:Nat} {acc:List (Str × Addr)},(∀ p ∈ acc,p.2 < n)->(acc.Pairwise fun x y=>x.2 ≠ y.2)->(cellsFrom n names acc).Pairwise fun x y=>x.2 ≠ y.2
 | [],n,acc,_,h=>h
 | (x,k) :: r,n,acc,hl,h=>by
  unfold cellsFrom
  split
  ·refine jkR (names:=r) (fun p hp=>?_) (List.pairwise_cons.mpr ⟨fun p hp e=>?_,h⟩)
   ·rcases List.mem_cons.mp hp with z | z
    ·rw [z]; exact Nat.lt_succ_self _
    ·exact Nat.lt_succ_of_lt (hl p z)
   ·have e:n = p.2:=e
    exact absurd (hl p hp) (by rw [← e]; exact Nat.lt_irrefl _)
  ·exact jkR hl h
theorem jdz {names:List (Str × NameKind)} {n:Nat} {cl:List (Str × Addr)} {y:Str} {c:Addr} (h:(cellsFrom n names cl).lookup y = some c):(cellsFrom n names []).lookup y = some c ∨ ((cellsFrom n names []).lookup y = none∧cl.lookup y = some c):=by
 rw [ji5,List.lookup_append] at h
 cases e:(cellsFrom n names []).lookup y with
 | some a=>rw [e] at h; left; simpa using h
 | none=>rw [e] at h; right; exact ⟨rfl,by simpa using h⟩
theorem jgJ {names:List (Str × NameKind)} {n:Nat} {y:Str} {c:Addr} (h:(cellsFrom n names []).lookup y = some c):(y,NameKind.cell) ∈ names∧n ≤ c:=by
 rcases jps (PySem.mem_of_lookup h) with z | z
 ·cases z
 ·exact z
theorem jxp {names:List (Str × NameKind)} {n:Nat} {cl:List (Str × Addr)} {y:Str} (h:∀ k,(y,k) ∈ names->k ≠ NameKind.cell):(cellsFrom n names cl).lookup y = cl.lookup y:=by
 rw [ji5,List.lookup_append]
 cases e:(cellsFrom n names []).lookup y with
 | some a=>exact absurd rfl (h _ (jgJ e).1)
 | none=>simp
section
variable {X:Cx} {pins:List (Addr × Obj)} {σ:L2.St} {H:Hp} {s:Shared} {xs M:List Str} {scope:Scope} {C:Addr} {fp:List Addr}
theorem jiW (I:Inv X pins σ H s) (c:jlm X xs M scope):∀ p ∈ scope.names,p.2 = .free->∃ a,X.env.cells.lookup p.1 = some a:=fun p hp e=>I.ok.has p.1 (.inl (c.free p hp e))
theorem jdt {y:Str} {a:Addr} (e:(jbk X.env scope.names []).lookup y = some a):X.env.cells.lookup y = some a:=jhg (fun _ _ q=>by simp at q) e
theorem jyu (I:Inv X pins σ H s) (c:jlm X xs M scope) (hC:s.heap.objs.size ≤ C) (hf:∀ b ∈ fp,je3 X pins H b) (hlt:∀ b ∈ fp,b < s.heap.objs.size):(j6 X xs M scope C s H fp).Ok where
 mod:=I.ok.mod
 kind:=c.kind
 glob:=I.ok.glob
 blt:=I.ok.blt
 above:=hC
 inj:=fun x y a e1 e2=>by
  have lt:∀ z,(jbk X.env scope.names []).lookup z = some a->a < s.heap.objs.size:=fun z e=>by
   obtain ⟨v,q⟩:=I.cell z a (jdt e); exact q.lt
  rcases jdz e1 with z1 | z1 <;> rcases jdz e2 with z2 | z2
  ·exact name_of_addr (jkR (acc:=[]) (fun p hp=>by cases hp) List.Pairwise.nil) (PySem.mem_of_lookup z1) (PySem.mem_of_lookup z2)
  ·exact absurd (lt y z2.2) (Nat.not_lt.mpr (Nat.le_trans hC (Nat.le_of_succ_le (jgJ z1).2)))
  ·exact absurd (lt x z1.2) (Nat.not_lt.mpr (Nat.le_trans hC (Nat.le_of_succ_le (jgJ z2).2)))
  ·exact I.ok.inj x y a (jdt z1.2) (jdt z2.2)
 has:=fun x h=>by
  have hx:∃ j,scope.names.lookup x = some j∧(j = .free ∨ j = .cell):=by
   rcases h with h | h
   ·obtain ⟨j,hj,e⟩:=jaV h
    rcases e with e | e
    ·exact ⟨j,hj,.inr e⟩
    ·exact ⟨j,hj,.inl e.1⟩
   ·obtain ⟨j,hj,e⟩:=jaV h
    rcases e with e | e
    ·exact ⟨j,hj,.inl e⟩
    ·exact ⟨j,hj,.inl e.1⟩
  obtain ⟨j,hj,rfl | rfl⟩:=hx
  ·exact jjA (jeX (mem_of_lookup hj) (jiW I c _ (mem_of_lookup hj) rfl))
  ·exact jlg (mem_of_lookup hj)
 cab:=fun x a h e=>by
  have hj:scope.names.lookup x = some .cell:=by simpa [j6] using h
  rcases jdz e with z | z
  ·exact Nat.le_trans hC (Nat.le_of_succ_le (jgJ z).2)
  ·obtain ⟨a',ha'⟩:=jlg (n:=C + 1) (acc:=[]) (mem_of_lookup hj)
   rw [z.1] at ha'; cases ha'
 hd:=I.ok.hd
 frames:=I.ok.frames
 stk:=.inl rfl
 exf:=fun b hb=>⟨Nat.ne_of_lt (Nat.lt_of_lt_of_le (hlt b hb) hC),fun x a e=>by
  rcases jdz e with z | z
  ·exact Nat.ne_of_gt (Nat.lt_of_lt_of_le (hlt b hb) (Nat.le_trans hC (Nat.le_of_succ_le (jgJ z).2)))
  ·exact (hf b hb).2.2.2.2.1 x a (jdt z.2)⟩
 bs:=I.bs
 bsz:=Nat.le_trans I.ok.bsz I.sz
 noex:=fun b o e hb=>by
  rcases (hf b hb).2.2.2.1 with z | z
  ·exact I.ok.noex b o e z
  ·exact absurd (Nat.lt_of_lt_of_le (Heap.lt_size e) (Nat.le_trans I.ok.bsz z)) (Nat.lt_irrefl _)
 exfs:=fun b hb z=>by
  rcases List.mem_cons.mp (I.stkSub b z) with q | q
  ·exact (hf b hb).2.1 q
  ·exact (hf b hb).2.2.1 q
 funs:=I.stack
 frf:=I.stkFree
end
section
variable {prog:Program} {w:World} {A:Around} {R:Result->Shared->Prop} {s:Shared}
theorem js5 {EE:Value->Shared->Prop} {elt target iter:Expr} {ifs:List Expr} {scope:Scope} {pos:Pos} {it acc:Value} {env:Env} (I:Nat->Shared->Prop)
  (turn:∀ n s,I n s->wpAny (model prog w) A (pyNext it) (fun r s₁=>match r with
   | none=>R (.ok .next) s₁
   | some v=>wpAny (model prog w) A (letOwnedTupleGo target it v) (fun _ s1'=>wpAny (model prog w) A (assign target env v) (fun _ s₂ =>
     wpAny (model prog w) A (forIn ifs true fun c r=>if r = true then do let ok ← isTrue c env (eval c env); pure (ForInStep.yield ok) else pure (ForInStep.yield r)) (fun ok s₃ =>
      if ok = true then wpAny (model prog w) A (eval elt env) (fun x s₄ =>
       wpAny (model prog w) A (call (.builtin "list.append") [acc,x]) (fun _ s₅=>∃ m,m < n∧I m s₅) (fun _ _=>False) s₄) EE s₃
      else ∃ m,m < n∧I m s₃) (fun _ _=>False) s₂) (fun _ _=>False) s1') (fun _ _=>False) s₁) (fun _ _=>False) s)
  (hEE:∀ e s',EE e s'->notedBy (model prog w) A env (fun e s'=>R (.error e) s') e s') (n:Nat) (h:I n s) :
  codeAny (model prog w) A (.compLoop (.ListComp elt [⟨target,iter,ifs,0⟩] scope pos) 0 it acc env) R s:=by
 refine codeAny_loop rfl I (fun n s hI=>?_) n h
 show wpAny _ A ((compTurn (.ListComp elt [⟨target,iter,ifs,0⟩] scope pos) 0 it acc env).onRaise (fun x=>do noteFrame x env; theTreesLotGoes x)) _ _ s
 refine wpAny_noted ?_
 rw [compTurn_list]
 refine wpAny_bind (wpAny_standAt (wpAny_bind (wpAny_mono (turn n s hI) (fun r s₁ h₁=>?_) fun _ _ h'=>h'.elim)))
 cases r with
 | none=>exact wpAny_pure h₁
 | some v =>
  refine wpAny_bind (wpAny_mono h₁ (fun _ s1' h1'=>?_) fun _ _ h'=>h'.elim)
  refine wpAny_bind (wpAny_mono h1' (fun _ s₂ h₂=>wpAny_bind (wpAny_mono h₂ (fun ok s₃ h₃=>?_) fun _ _ h'=>h'.elim)) fun _ _ h'=>h'.elim)
  cases ok with
  | false=>exact wpAny_pure ⟨rfl,h₃⟩
  | true =>
   exact wpAny_bind (wpAny_bind (wpAny_mono h₃ (fun x s₄ h₄=>wpAny_bind (wpAny_mono h₄ (fun _ s₅ h₅=>wpAny_pure (wpAny_pure ⟨rfl,h₅⟩)) fun _ _ h'=>h'.elim)) fun e s' h'=>hEE e s' h'))
end
def PTs (X:Cx) (ifs:List Expr) (t:TT):Prop:=(ifs = []∧t = fun _ H Q=>Q true H) ∨ ∃ c,ifs = [c]∧PT X c t
theorem PTs.run {X:Cx} {ifs:List Expr} {t:TT} (h:PTs X ifs t) {pins:List (Addr × Obj)} {s:Shared} {σ:L2.St} {H:Hp} {Q:Bool->Hp->Prop} (I:Inv X pins σ H s) (q:t σ H Q) :
  wpAny (model X.prog X.w) X.A (forIn ifs true fun c r=>if r = true then do let ok ← isTrue c X.env (eval c X.env); pure (ForInStep.yield ok) else pure (ForInStep.yield r)) (TP X pins σ Q) X.xe s:=by
 rcases h with ⟨rfl,rfl⟩ | ⟨c,rfl,h⟩
 ·exact wpAny_tests_nil ⟨H,I,q⟩
 ·exact wpAny_tests_one (h pins s σ H Q I q)
theorem joU {M:Model} {A:Around} {E:Value->Shared->Prop} {s:Shared} {scope:Scope} {globals:Addr} {closure:List (Str × Addr)} {qual:Str} {env:Env} {Q:Env->Shared->Prop}
  (h:Q (newEnv scope s.heap.objs.size globals (cellsFrom (s.heap.objs.size + 1) scope.names closure) qual none .none (some env) builtinsNs) { s with heap:=pushCells (s.heap.push { cls:=.type "dict",data:=.dict #[] }) scope.names }) :
  wpAny M A (newFunctionEnv scope globals closure [] qual none .none (some env)) Q E s:=by
 simp only [newFunctionEnv,Option.isSome_some,if_true]
 refine wpAny_bind (wpAny_alloc ?_)
 refine wpAny_bind (wpAny_layCells _ (fun name kind cells=>by cases hkc:kind == NameKind.cell <;> simp [hkc]) _ _ _ _ ?_)
 rw [show ({ s with heap:=s.heap.push { cls:=.type "dict",data:=.dict #[] } }:Shared).heap.objs.size = s.heap.objs.size + 1 from Heap.size_push ..]
 rw [List.forIn_nil]
 exact wpAny_bind (wpAny_pure (wpAny_pure h))
def lcW (n:Nat) (J:It) (g:TG) (tt:TT) (te:TE) (σ:L2.St) (D:Addr) (Fin:List V->Hp->Prop) (H:Hp):Prop :=
 ∃ W:Nat->Nat->List V->Hp->Prop,(∃ m,W 0 m [] H)∧∀ i m ys H,W i m ys H->H D = some (.lst ys) ∧
  ((J.stop i H∧Fin ys H) ∨ (J.go i H∧∀ x H',J.yld i H x H'->g x (List.replicate n none ++ σ) H' fun σ1 H1=>(σ1.length = n + σ.length∧∀ j,σ1[n + j]? = σ[j]?)∧tt σ1 H1 fun k H2 =>
   if k = true then te σ1 H2 fun y H3=>H3 D = some (.lst ys)∧ys.length < sizeLine∧∃ m',m' < m∧W (i + 1) m' (ys ++ [y]) (jG H3 D (.lst (ys ++ [y]))) else ∃ m',m' < m∧W (i + 1) m' ys H2))
section
variable {X:Cx} {pins:List (Addr × Obj)} {σ:L2.St} {H:Hp} {s:Shared} {xs M:List Str} {scope:Scope} {target elt iter:Expr} {ifs:List Expr} {pos:Pos} {g:Addr->TG} {tt:Addr->TT} {te:Addr->TE} {it:Addr} {fp:List Addr} {tn:Nat->Heap->Prop} {J:It} {n:Nat}
theorem jnx {EE:Addr->Value->Shared->Prop} {RR:Value->Addr->Result->Shared->Prop} {Fin:Addr->List V->Hp->Prop} (c:jlm X xs M scope) (hn:xs.length = n) (hc:X.calm = true) (I:Inv X pins σ H s) (T:jio X.prog X.w X.K target J fp it tn) (t0:tn 0 s.heap) (hf:∀ b ∈ fp,je3 X pins H b)
  (hg:∀ C,PG (j6 X xs M scope C s H fp) target (g C)) (ht:∀ C,PTs (j6 X xs M scope C s H fp) ifs (tt C)) (he:∀ C,PE ((j6 X xs M scope C s H fp).wish (EE C)) elt (te C))
  (hEE:∀ D C e s',s.heap.objs.size ≤ C->EE C e s'->notedBy (model X.prog X.w) X.A (compEnvC scope (cellsFrom (C + 1) scope.names (jbk X.env scope.names [])) C X.env) (fun e s'=>RR (.ref D) C (.error e) s') e s')
  (hw:∀ D C,H D = none->lcW n J (g C) (tt C) (te C) σ D (Fin D) (jG H D (.lst [])))
  (hR:∀ D C ys H' s',H D = none->s.heap.objs.size ≤ C->H' D = some (.lst ys)->Fin D ys H'->Inv (j6 X xs M scope C s H fp) [] (List.replicate n none ++ σ) H' s'->RR (.ref D) C (.ok .next) s') :
  wpAny (model X.prog X.w) X.A (newList []) (fun acc s₃=>wpAny (model X.prog X.w) X.A (newFunctionEnv scope X.env.globals (jbk X.env scope.names []) [] X.env.qual none .none (some X.env)) (fun cenv s₄=>cenv.frame = X.env.frame ∧
   codeAny (model X.prog X.w) X.A (.compStart (.ListComp elt [⟨target,iter,ifs,0⟩] scope pos) 0 (.ref it) acc { cenv with scope:=relabel scope X.env }) (RR acc cenv.locals) s₄) X.xe s₃) X.xe s:=by
 refine wpAny_newObj_type (joU ⟨rfl,?_⟩)
 dsimp only
 generalize hH2:s.heap.push { cls:=.type "list",dict:=none,data:=.seq ([]:List Value).toArray } = H2
 have hns₁:=(Heap.Ns.new H2 (.type "dict")).keeps (pushCells_keeps scope.names _)
 have cok:=cellsFrom_ok scope.names (H2.push { cls:=.type "dict",data:=.dict #[] }) (H2.objs.size + 1) [] ⟨fun _ _ hm=>(by cases hm),List.Pairwise.nil⟩ (by rw [Heap.size_push]; exact Nat.le_refl _)
 rw [Heap.size_push] at cok
 have keep₁:=pushCells_keeps scope.names (H2.push { cls:=.type "dict",data:=.dict #[] })
 generalize pushCells (H2.push { cls:=.type "dict",data:=.dict #[] }) scope.names = h₁ at hns₁ cok keep₁ ⊢
 have hC:H2.objs.size = s.heap.objs.size + 1:=by rw [← hH2,Heap.size_push]
 have hDC:s.heap.objs.size ≠ H2.objs.size:=by rw [hC]; exact Nat.ne_of_lt (Nat.lt_succ_self _)
 have hle:s.heap.objs.size ≤ H2.objs.size:=by rw [hC]; exact Nat.le_succ _
 have old:∀ b o,s.heap.get? b = some o->h₁.get? b = some o:=fun b o e=>keep₁ b o (Heap.get?_push_of_some _ (hH2 ▸ Heap.get?_push_of_some _ e))
 have hacc:h₁.get? s.heap.objs.size = some { cls:=.type "list",dict:=none,data:=.seq ([]:List Value).toArray }:=keep₁ _ _ (Heap.get?_push_of_some _ (hH2 ▸ Heap.get?_push_size _ rfl))
 have hD:H s.heap.objs.size = none:=I.hok.fresh (Nat.le_refl _)
 have hlt:∀ b ∈ fp,b < s.heap.objs.size:=fun b hb=>by obtain ⟨o,e,_⟩:=T.obj 0 _ t0 b hb; exact Heap.lt_size e
 have new:ObjOk X.prog X.w (jG H s.heap.objs.size (.lst [])) h₁ s.heap.objs.size (.lst []):=⟨Nat.zero_le _,[],0,.nil,hacc⟩
 have ok:(j6 X xs M scope H2.objs.size s H fp).Ok:=jyu I c hle hf hlt
 have I4:Inv (j6 X xs M scope H2.objs.size s H fp) [] (List.replicate n none ++ σ) (jG H s.heap.objs.size (.lst [])) { s with heap:=h₁ }:=by
  refine ⟨ok,rfl,I.bare,Un.laid old (Nat.le_refl _) hD,⟨_,hns₁,fun i y v e1 e2 e3=>?_⟩,fun y a e=>?_,?_,fun y a e=>?_,(fun p hp=>by cases hp),I.hok.laid old (Nat.le_refl _) new,?_⟩
  ·have hi:n ≤ i:=by
    apply Nat.le_of_not_lt
    intro hi
    rw [List.getElem?_append_left (by rw [List.length_replicate]; exact hi),List.getElem?_replicate,if_pos hi] at e2
    cases e2
   have e0':M[i - n]? = some y:=by
    have:(xs ++ M)[i]? = some y:=e1
    rw [List.getElem?_append_right (by rw [hn]; exact hi),hn] at this
    exact this
   have e2':σ[i - n]? = some (some v):=by
    rw [List.getElem?_append_right (by rw [List.length_replicate]; exact hi),List.length_replicate] at e2
    exact e2
   have hy:y ∈ M:=List.mem_of_getElem? e0'
   have hl:scope.names.lookup y = some .free:=by
    have hv:∃ j,scope.names.lookup y = some j∧(j = .local ∨ j = .cell ∨ j = .free):=by
     rcases e3 with e3 | e3 | e3
     ·obtain ⟨j,hj,e⟩:=jaV e3
      rcases e with e | e
      ·exact ⟨j,hj,.inl e⟩
      ·exact ⟨j,hj,.inr (.inr e.1)⟩
     ·obtain ⟨j,hj,e⟩:=jaV e3
      rcases e with e | e
      ·exact ⟨j,hj,.inr (.inl e)⟩
      ·exact ⟨j,hj,.inr (.inr e.1)⟩
     ·obtain ⟨j,hj,e⟩:=jaV e3
      rcases e with e | e
      ·exact ⟨j,hj,.inr (.inr e)⟩
      ·exact ⟨j,hj,.inr (.inr e.1)⟩
    obtain ⟨j,hj,hk⟩:=hv
    rcases c.around y hy with z | z | z
    ·rw [z] at hj; cases hj
    ·exact z
    ·rw [z] at hj; cases hj
     rcases hk with hk | hk | hk <;> cases hk
   have hcell:=c.free _ (mem_of_lookup hl) rfl
   have e1':X.N[i - n]? = some y:=(c.same _ _ e0').resolve_right fun z=>by rw [hl] at z; cases z
   obtain ⟨m,hm,hloc⟩:=I.loc
   obtain ⟨u,r,lk⟩:=hloc (i - n) y v e1' e2' (.inr (.inl hcell))
   refine ⟨u,r,.inr ⟨?_,?_⟩⟩
   ·rcases e3 with e3 | e3 | e3
    ·obtain ⟨j,hj,e⟩:=jaV e3
     rw [hl] at hj; cases hj
     rcases e with e | e
     ·cases e
     ·cases e.2
    ·exact .inl e3
    ·exact .inr e3
   ·rcases lk with ⟨hk,_⟩ | ⟨_,a,ha,z⟩
    ·have hk':X.env.kindOf y = some .local:=hk
     rw [hcell] at hk'; cases hk'
    ·obtain ⟨a',ha'⟩:=jeX (cs:=[]) (mem_of_lookup hl) ⟨a,ha⟩
     have:a' = a:=by have q:=jdt ha'; rw [ha] at q; exact (Option.some.inj q).symm
     subst this
     obtain ⟨o,ho,hd⟩:=z
     refine ⟨a',?_,o,old _ _ ho,hd⟩
     show (cellsFrom (H2.objs.size + 1) scope.names (jbk X.env scope.names [])).lookup y = some a'
     rw [jxp fun k hk e=>?_]
     ·exact ha'
     ·subst e
      have:=c.cells _ hk rfl
      rw [hl] at this; cases this
  ·rcases jdz e with z | z
   ·exact ⟨none,(cok.empty _ _ (PySem.mem_of_lookup z)).1⟩
   ·obtain ⟨v,o,ho,hd⟩:=I.cell y a (jdt z.2)
    exact ⟨v,o,old _ _ ho,hd⟩
  ·show jG H s.heap.objs.size (.lst []) H2.objs.size = none
   rw [jy (Ne.symm hDC)]
   exact I.hok.fresh hle
  ·rcases jdz e with z | z
   ·have hge:=(jgJ z).2
    have hne:a ≠ s.heap.objs.size:=Nat.ne_of_gt (Nat.lt_of_lt_of_le (Nat.lt_succ_of_le hle) hge)
    rw [jy hne]
    exact I.hok.fresh (Nat.le_trans hle (Nat.le_of_succ_le hge))
   ·have ha:=jdt z.2
    have hne:a ≠ s.heap.objs.size:=by obtain ⟨v,q⟩:=I.cell y a ha; exact Nat.ne_of_lt q.lt
    rw [jy hne]
    exact I.freeC y a ha
  ·show (List.replicate n none ++ σ).length = (xs ++ M).length
   rw [List.length_append,List.length_append,List.length_replicate,hn,I.len,c.len]
 have t1:tn 0 h₁:=T.keep 0 _ _ t0 fun b hb o e=>old b o e
 have fpn:∀ b ∈ fp,(jG H s.heap.objs.size (.lst [])) b = none:=fun b hb=>by rw [jy (Nat.ne_of_lt (hlt b hb))]; exact (hf b hb).1
 have stat:∀ {H':Hp},(∀ b ∈ fp,H' b = none)->∀ b ∈ fp,je3 (j6 X xs M scope H2.objs.size s H fp) [] H' b:=fun hn b hb =>
  ⟨hn b hb,(ok.exf b hb).1,ok.exfs b hb,.inl hb,(ok.exf b hb).2,(fun p hp=>by cases hp)⟩
 obtain ⟨W,⟨m0,w0⟩,turn⟩:=hw _ H2.objs.size hD
 have loop:codeAny (model X.prog X.w) X.A (.compLoop (.ListComp elt [⟨target,iter,ifs,0⟩] scope pos) 0 (.ref it) (.ref s.heap.objs.size) (compEnvC scope (cellsFrom (H2.objs.size + 1) scope.names (jbk X.env scope.names [])) H2.objs.size X.env)) (RR (.ref s.heap.objs.size) H2.objs.size) { s with heap:=h₁ }:=by
  refine js5 (EE:=EE H2.objs.size) (fun m s'=>∃ i ys H',Inv (j6 X xs M scope H2.objs.size s H fp) [] (List.replicate n none ++ σ) H' s'∧tn i s'.heap∧(∀ b ∈ fp,H' b = none)∧W i m ys H') ?_ (fun e s' z=>hEE _ _ e s' hle z) m0 ⟨0,[],_,I4,t1,fpn,w0⟩
  rintro m s3 ⟨i,ys,H3,I3,t3,f3,w3⟩
  obtain ⟨hD3,alt⟩:=turn i m ys H3 w3
  rcases alt with ⟨stop,fin⟩ | ⟨go,step⟩
  ·refine jF (T.done (j6 X xs M scope H2.objs.size s H fp) rfl rfl rfl hc i [] s3 _ H3 _ I3 (stat f3) t3 stop) fun r s4 qZ=>?_
   obtain ⟨hr,I5⟩:=qZ
   subst hr
   exact hR _ _ ys H3 s4 hD hle hD3 fin I5
  ·refine jF (T.item (j6 X xs M scope H2.objs.size s H fp) rfl rfl rfl hc i [] s3 _ H3 _ I3 (stat f3) t3 go) fun r s4 qZ=>?_
   obtain ⟨u,hr,h4⟩:=qZ
   subst hr
   refine jF h4 fun _ s5 qZ=>?_
   obtain ⟨x,H5,I5,r5,y5,t5,f5⟩:=qZ
   have I5':=I5.pinned (stat f5) (T.obj _ _ t5)
   refine jF (hg H2.objs.size _ s5 _ H5 x u _ I5' r5 (step x H5 y5)) fun _ s6 qZ=>?_
   obtain ⟨σ6,H6,I6,⟨la,lb⟩,q6⟩:=qZ
   refine jF (PTs.run (ht H2.objs.size) I6 q6) fun k s7 qZ=>?_
   obtain ⟨H7,I7,q7⟩:=qZ
   have again:∀ {H8:Hp} {s8:Shared} {ys':List V},Inv (j6 X xs M scope H2.objs.size s H fp) ([] ++ jia fp s5.heap) σ6 H8 s8->(∃ m',m' < m∧W (i + 1) m' ys' H8)->∃ m',m' < m∧∃ i ys H',Inv (j6 X xs M scope H2.objs.size s H fp) [] (List.replicate n none ++ σ) H' s8∧tn i s8.heap∧(∀ b ∈ fp,H' b = none)∧W i m' ys H':=by
    intro H8 s8 ys' I8 ⟨m',lt,w8⟩
    have pin8:∀ b ∈ fp,∀ o,s5.heap.get? b = some o->s8.heap.get? b = some o∧H8 b = none:=fun b hb o e =>
     have z:=I8.pin (b,o) (List.mem_append_right _ (List.mem_append_right _ (jhp hb e)))
     ⟨z.1,z.2.1⟩
    refine ⟨m',lt,i + 1,ys',H8,?_,T.keep _ _ _ t5 fun b hb o e=>(pin8 b hb o e).1,fun b hb=>?_,w8⟩
    ·refine I8.unpinned.weak (by rw [List.length_append,List.length_replicate,la]) fun j v e=>?_
     by_cases hj:j < n
     ·rw [List.getElem?_append_left (by rw [List.length_replicate]; exact hj),List.getElem?_replicate,if_pos hj] at e
      cases e
     ·rw [List.getElem?_append_right (by rw [List.length_replicate]; omega),List.length_replicate] at e
      have:=lb (j - n)
      rw [show n + (j - n) = j by omega] at this
      rw [this]; exact e
    ·obtain ⟨o,e,d⟩:=T.obj _ _ t5 b hb
     exact (pin8 b hb o e).2
   cases k with
   | false =>
    simp only [Bool.false_eq_true,if_false] at q7 ⊢
    exact again I7 q7
   | true =>
    simp only [if_true] at q7 ⊢
    refine jF (he H2.objs.size _ s7 _ H7 _ (I7.wish _) q7) fun y s8 qZ=>?_
    obtain ⟨v8,H8,I8,r8,e8,l8,w8⟩:=qZ
    have I8:=I8.unwish
    refine jF (jt4 (X:=j6 X xs M scope H2.objs.size s H fp) _ s8 _ H8 (.ref s.heap.objs.size) [v8] _ [y] (fun v H9=>∃ m',m' < m∧W (i + 1) m' (ys ++ [v8]) H9) I8 rfl (.cons r8 .nil) ⟨_,ys,v8,rfl,rfl,e8,l8,w8⟩) fun _ s9 ⟨v9,H9,I9,_,w9⟩=>again I9 w9
 exact codeAny_compStart_list loop (T.self _ 0 _ _ _ t1 loop)
theorem jvq {RR:Value->Addr->Result->Shared->Prop} {Fin:Addr->List V->Hp->Prop} (c:jlm X xs M scope) (hn:xs.length = n) (hc:X.calm = true) (I:Inv X pins σ H s) (T:jio X.prog X.w X.K target J fp it tn) (t0:tn 0 s.heap) (hf:∀ b ∈ fp,je3 X pins H b)
  (hg:∀ C,PG (j6 X xs M scope C s H fp) target (g C)) (ht:∀ C,PTs (j6 X xs M scope C s H fp) ifs (tt C)) (he:∀ C,PE (j6 X xs M scope C s H fp) elt (te C))
  (hw:∀ D C,H D = none->lcW n J (g C) (tt C) (te C) σ D (Fin D) (jG H D (.lst [])))
  (hR:∀ D C ys H' s',H D = none->s.heap.objs.size ≤ C->H' D = some (.lst ys)->Fin D ys H'->Inv (j6 X xs M scope C s H fp) [] (List.replicate n none ++ σ) H' s'->RR (.ref D) C (.ok .next) s') :
  wpAny (model X.prog X.w) X.A (newList []) (fun acc s₃=>wpAny (model X.prog X.w) X.A (newFunctionEnv scope X.env.globals (jbk X.env scope.names []) [] X.env.qual none .none (some X.env)) (fun cenv s₄ =>
   codeAny (model X.prog X.w) X.A (.compStart (.ListComp elt [⟨target,iter,ifs,0⟩] scope pos) 0 (.ref it) acc { cenv with scope:=relabel scope X.env }) (RR acc cenv.locals) s₄) X.xe s₃) X.xe s :=
 jF (jnx (EE:=fun _ _ _=>False) c hn hc I T t0 hf hg ht he (fun _ _ _ _ _ z=>z.elim) hw hR) fun _ _ h=>jF h fun _ _ q=>q.2
end
section
variable {X:Cx} {pins:List (Addr × Obj)} {σ σ':L2.St} {H H':Hp} {s s':Shared} {xs M:List Str} {scope:Scope} {target elt iter:Expr} {ifs:List Expr} {pos:Pos} {g:Addr->Shared->Hp->List Addr->TG} {tt:Addr->Shared->Hp->List Addr->TT} {te:Addr->Shared->Hp->List Addr->TE} {fp:List Addr} {n:Nat} {C:Addr} {wi:TI}
theorem jkx {h':Heap} (I:Inv X pins σ H s) (I':Inv (j6 X xs M scope C s H fp) [] σ' H' s') (hf:∀ b ∈ fp,je3 X pins H b) (hC:s.heap.objs.size ≤ C) (sb:Heap.SameBut C s'.heap h'):Inv X pins σ H' { s' with heap:=h' }:=by
 have hCn:H' C = none:=I'.free
 have u:=I'.base
 have ne:∀ b o,s.heap.get? b = some o->b ≠ C:=fun b o e=>Nat.ne_of_lt (Nat.lt_of_lt_of_le (Heap.lt_size e) hC)
 have u':Un (frs X.stack) fp H H' s.heap h' :=
  ⟨fun b o e n hb hx=>sb.extBut b o (ne b o e) (u.keep b o e n hb hx),fun b o e n hb hx=>let ⟨sl,q⟩:=u.slot b o e n hb hx; ⟨sl,sb.extBut b _ (ne b o e) q⟩,fun b o e n hx=>u.free b o e n hx,
   fun b o e hx=>let ⟨o',q⟩:=u.there b o e hx; ⟨o',sb.extBut b _ (ne b o e) q⟩,u.tups,u.frzs,u.tbls⟩
 have hok:HOk X.prog X.w H' h':=fun b o e=>(I'.hok b o e).stay (fun c v hc q=>sb.extBut c v (fun z=>by
  subst z
  rcases hc with z | z
  ·rw [← z,hCn] at e; cases e
  ·rw [hCn] at z; cases z) q) (fun _ q=>q) fun _ _ q=>q
 exact I.call' (ch:=fp) (s':={ s' with heap:=h' }) I'.os u' hok I'.bare fun b hb=>⟨(hf b hb).2.2.2.1,(hf b hb).2.1,(hf b hb).2.2.2.2.1,(hf b hb).2.2.2.2.2⟩
def tLc (n:Nat) (wi:TI) (g:Addr->Shared->Hp->List Addr->TG) (tt:Addr->Shared->Hp->List Addr->TT) (te:Addr->Shared->Hp->List Addr->TE):TE:=fun σ H Q=>wi σ H fun J H1=>∀ D C s fp,H1 D = none->lcW n J (g C s H1 fp) (tt C s H1 fp) (te C s H1 fp) σ D (fun _ H'=>Q (.ref D) H') (jG H1 D (.lst []))
theorem jml (hk:jfd scope X.env xs M X.N = true) (hn:xs.length = n) (hc:X.calm = true) (hi:PI X target iter wi)
  (hg:∀ C s H fp,PG (j6 X xs M scope C s H fp) target (g C s H fp)) (ht:∀ C s H fp,PTs (j6 X xs M scope C s H fp) ifs (tt C s H fp)) (he:∀ C s H fp,PE (j6 X xs M scope C s H fp) elt (te C s H fp))
  (hs:∀ x,foldedSetIterable iter X.env x = pure x:=by intro _; rfl):PE X (.ListComp elt [⟨target,iter,ifs,0⟩] scope pos) (tLc n wi g tt te):=by
 intro pins s σ H Q I h
 have c:=jtx hk
 rw [eval_ListComp]
 refine wpAny_comprehension_free (use:=none) rfl hs (jlI (jiW I c)) c.kind c.loc (jF (hi pins s σ H _ I h) fun v s1 h1=>jF h1 fun itv s2 h2=>?_)
 obtain ⟨it,fp,tn,J,H2,e,I2,T,st2,f2,rd⟩:=h2
 subst e
 refine jvq (RR:=compPost (model X.prog X.w) X.A X.xe none (EP X pins σ Q)) (Fin:=fun D _ H'=>Q (.ref D) H') c hn hc I2 T st2 f2 (fun C=>hg C _ _ _) (fun C=>ht C _ _ _) (fun C=>he C _ _ _) (fun D C hD=>rd D C s2 fp hD) ?_
 intro D C ys H' s' hD hC hys fin I'
 obtain ⟨m,hm,_⟩:=I'.loc
 exact ⟨m,hm,fun h' sb=>⟨.ref D,H',jkx I2 I' f2 hC sb,rfl,fin⟩⟩
end
def PGN (X:Cx) (n:Nat) (tg:Expr) (g:G3):Prop:=∃ g2,PG X tg g2∧∀ B S H σ ρ d v Ψ (Q:L2.St->Hp->Prop),ER X.K B S H σ ρ->Rep X.K S H d v->g d ρ Ψ ->
 (∀ ρ' σ',Ψ ρ'->ER X.K B S H σ' ρ'->σ'.length = σ.length->(∀ j,σ'[n + j]? = σ[n + j]?)->Q σ' H)->g2 v σ H Q
section
variable {X:Cx} {e:Expr} {es:List Expr} {pos:Pos} {n:Nat}
theorem jam {i:Nat} {x:Str} (hin:i < n) (hN:X.N.Nodup) (hi:X.N[i]? = some x) (hx:Loc X.env.scope x) (hf:X.fn x = true ∨ X.env.scope.names.lookup x = some .local:=by first | exact .inl rfl | exact .inr rfl | assumption):PGN X n (.Name x pos) (gN i) :=
 ⟨_,jrB hN hi hx hf,fun B S H σ ρ d v Ψ Q er r h k=>k _ _ h (er.put r) (by rw [List.length_set]) fun j=>by rw [List.getElem?_set_ne (by omega)]⟩
end
def PBs (X:Cx) (ifs:List Expr) (t:B3):Prop:=(ifs = []∧t = fun _ Φ=>Φ true) ∨ ∃ c,ifs = [c]∧PB X c t
theorem jaS {X:Cx}:PBs X [] (fun _ Φ=>Φ true):=.inl ⟨rfl,rfl⟩
theorem jxJ {X:Cx} {c:Expr} {t:B3} (h:PB X c t):PBs X [c] t:=.inr ⟨c,rfl,h⟩
theorem PBs.ex {X:Cx} {ifs:List Expr} {t:B3} (h:PBs X ifs t):∃ t2,PTs X ifs t2∧∀ B S H σ ρ Φ (Q:Bool->Hp->Prop),ER X.K B S H σ ρ->t ρ Φ->(∀ b H',Φ b->Same H H'->Q b H')->t2 σ H Q:=by
 rcases h with ⟨rfl,rfl⟩ | ⟨c,rfl,t2,h,w⟩
 ·exact ⟨_,.inl ⟨rfl,rfl⟩,fun B S H σ ρ Φ Q er q hd=>hd true H q (Same.refl _)⟩
 ·exact ⟨t2,.inr ⟨c,rfl,h⟩,w⟩
def je9 (g:G3) (tt:B3) (te:E3) (ρ:jL):List D->List D->(List D->Prop)->Prop
 | [],acc,Φ=>Φ acc
 | d :: ds,acc,Φ=>g d ρ fun ρ1=>tt ρ1 fun k=>if k = true then te ρ1 fun y=>acc.length < sizeLine∧je9 g tt te ρ ds (acc ++ [y]) Φ else je9 g tt te ρ ds acc Φ
abbrev jbq (n:Nat) (ti:A3) (g:G3) (tt:B3) (te:E3):A3:=fun ρ Φ=>ti ρ fun ds=>je9 g tt te (List.replicate n .un ++ ρ) ds [] Φ
section
variable {K:PySem.W.Frag} {B:Bs} {S:Addr->Prop} {H:Hp} {σ:L2.St} {ρ:jL}
theorem ER.shift (er:ER K B S H σ ρ) (n:Nat):ER K B S H (List.replicate n none ++ σ) (List.replicate n .un ++ ρ):=by
 have sh:∀ {i:Nat} {x:Sl},x ≠ .un->(List.replicate n Sl.un ++ ρ)[i]? = some x->n ≤ i∧ρ[i - n]? = some x:=fun {i x} hx e=>by
  by_cases hi:i < n
  ·rw [List.getElem?_append_left (by rw [List.length_replicate]; exact hi),List.getElem?_replicate,if_pos hi] at e
   exact absurd (Option.some.inj e).symm hx
  ·rw [List.getElem?_append_right (by rw [List.length_replicate]; omega),List.length_replicate] at e
   exact ⟨by omega,e⟩
 have bk:∀ {i:Nat},n ≤ i->(List.replicate n (none:Option V) ++ σ)[i]? = σ[i - n]?:=fun {i} hi=>by
  rw [List.getElem?_append_right (by rw [List.length_replicate]; omega),List.length_replicate]
 exact {
  len:=by rw [List.length_append,List.length_append,List.length_replicate,List.length_replicate,er.len]
  same:=er.same
  sub:=er.sub
  ok0:=er.ok0
  ok:=er.ok
  val:=fun i d q=>by
   obtain ⟨hi,q⟩:=sh (x:=.val d) (fun z=>by cases z) q
   obtain ⟨v,e,r⟩:=er.val _ d q
   exact ⟨v,(bk hi).trans e,r⟩
  own:=fun i d q=>by
   obtain ⟨hi,q⟩:=sh (x:=.own d) (fun z=>by cases z) q
   obtain ⟨a,xs,e,r⟩:=er.own _ d q
   exact ⟨a,xs,(bk hi).trans e,r⟩
  uq:=fun i j a ds es q1 q2 e1 e2=>by
   obtain ⟨h1,q1⟩:=sh (x:=.own ds) (fun z=>by cases z) q1
   obtain ⟨h2,q2⟩:=sh (x:=.own es) (fun z=>by cases z) q2
   rw [bk h1] at e1
   rw [bk h2] at e2
   have:=er.uq _ _ a ds es q1 q2 e1 e2
   omega
  dct:=fun i ks d q=>by
   obtain ⟨hi,q⟩:=sh (x:=.dct ks d) (fun z=>by cases z) q
   obtain ⟨a,e,r⟩:=er.dct _ ks d q
   exact ⟨a,(bk hi).trans e,r⟩
  dq:=fun i j a ks ds ks' ds' q1 q2 e1 e2=>by
   obtain ⟨h1,q1⟩:=sh (x:=.dct ks ds) (fun z=>by cases z) q1
   obtain ⟨h2,q2⟩:=sh (x:=.dct ks' ds') (fun z=>by cases z) q2
   rw [bk h1] at e1
   rw [bk h2] at e2
   have:=er.dq _ _ a ks ds ks' ds' q1 q2 e1 e2
   omega
  rf:=fun i v q=>by
   obtain ⟨hi,q⟩:=sh (x:=.raw v) (fun z=>by cases z) q
   exact (bk hi).trans (er.rf _ v q)
  rwx:=fun i v q=>by
   obtain ⟨hi,q⟩:=sh (x:=.row v) (fun z=>by cases z) q
   obtain ⟨a,e,h0⟩:=er.rwx _ v q
   exact ⟨a,(bk hi).trans e,h0⟩
  gh:=er.gh }
theorem ER.gather {p:Addr} {xs:List V} (er:ER K B S H σ ρ) (hp:H p = none):ER K B (fun b=>S b ∨ b = p) (jG H p (.lst xs)) σ ρ:=by
 have sm:=jaP (o:=.lst xs) hp
 have hL:∀ b ys,LR K S H b ys->LR K (fun b=>S b ∨ b = p) (jG H p (.lst xs)) b ys:=fun b ys q=>by
  rcases q with ⟨n,q⟩ | q
  ·have hb:b ≠ p:=by
    rintro rfl
    rcases q with q | ⟨o,q⟩ <;> rw [hp] at q <;> cases q
   refine .inl ⟨fun z=>z.elim n hb,?_⟩
   rcases q with q | ⟨o,q⟩
   ·exact .inl (sm _ _ q)
   ·exact .inr ⟨o,sm _ _ q⟩
  ·exact .inr q
 have mv:∀ {c:D} {w:V},Rep K S H c w->Rep K (fun b=>S b ∨ b = p) (jG H p (.lst xs)) c w:=fun {c w} q=>Rep.map (jb0 sm) hL c w q
 have mvs:∀ {c:List D} {w:List V},Reps K S H c w->Reps K (fun b=>S b ∨ b = p) (jG H p (.lst xs)) c w:=fun {c w} q=>Reps.map (jb0 sm) hL c w q
 exact {
  len:=er.len
  same:=er.same.trans sm
  sub:=fun b h=>.inl (er.sub b h)
  ok0:=er.ok0
  ok:=fun b h=>by
   by_cases hb:b = p
   ·subst hb; exact ⟨_,jW⟩
   ·obtain ⟨o,e⟩:=er.ok b (h.resolve_right hb)
    exact ⟨o,sm _ _ e⟩
  val:=fun j c q=>let ⟨w,e,r'⟩:=er.val j c q; ⟨w,e,mv r'⟩
  own:=fun j c q=>let ⟨b,zs,e,hs,hz,hl,r'⟩:=er.own j c q; ⟨b,zs,e,.inl hs,hz,sm _ _ hl,mvs r'⟩
  dct:=fun j ks ds q=>let ⟨b,e,hs,hz,r'⟩:=er.dct j ks ds q; ⟨b,e,.inl hs,hz,r'.map mvs (jy (r'.ne' hp))⟩
  dq:=er.dq
  rf:=er.rf
  rwx:=er.rwx
  uq:=er.uq
  gh:=fun q hq=>mv (er.gh q hq) }
theorem jgk {p:Addr} {xs ys:List V} (hs:S p) (hl:H p = some (.lst xs)):(∀ b zs,SqT K H b zs->SqT K (jG H p (.lst ys)) b zs)∧(∀ b zs,LR K S H b zs->LR K S (jG H p (.lst ys)) b zs):=by
 refine ⟨fun b zs q=>?_,fun b zs q=>?_⟩
 ·rcases q with (q | ⟨o,q⟩) | q
  ·exact .inl (.inl (by rw [jy (jdf q hl (fun z=>by cases z))]; exact q))
  ·exact .inl (.inr ⟨o,by rw [jy (jdf q hl (fun z=>by cases z))]; exact q⟩)
  ·exact .inr q
 ·rcases q with ⟨n,q⟩ | q
  ·have hb:b ≠ p:=fun z=>n (z ▸ hs)
   refine .inl ⟨n,?_⟩
   rcases q with q | ⟨o,q⟩
   ·exact .inl (by rw [jy hb]; exact q)
   ·exact .inr ⟨o,by rw [jy hb]; exact q⟩
  ·exact .inr q
theorem ER.grow {p:Addr} {xs ys:List V} (er:ER K B S H σ ρ) (hs:S p) (h0:B.H0 p = none) (hl:H p = some (.lst xs)) (hno:∀ (i:Nat) ds,ρ[i]? = some (.own ds)->σ[i]? ≠ some (some (.ref p))):ER K B S (jG H p (.lst ys)) σ ρ:=by
 obtain ⟨hT,hL⟩:=jgk (K:=K) (ys:=ys) hs hl
 have mv:∀ {c:D} {w:V},Rep K S H c w->Rep K S (jG H p (.lst ys)) c w:=fun {c w} q=>Rep.map hT hL c w q
 have mvs:∀ {c:List D} {w:List V},Reps K S H c w->Reps K S (jG H p (.lst ys)) c w:=fun {c w} q=>Reps.map hT hL c w q
 exact {
  len:=er.len
  same:=fun b o e=>by rw [jy (j9 e h0)]; exact er.same b o e
  sub:=er.sub
  ok0:=er.ok0
  ok:=fun b h=>by
   by_cases hb:b = p
   ·subst hb; exact ⟨_,jW⟩
   ·obtain ⟨o,e⟩:=er.ok b h
    exact ⟨o,by rw [jy hb]; exact e⟩
  val:=fun j c q=>let ⟨w,e,r'⟩:=er.val j c q; ⟨w,e,mv r'⟩
  own:=fun j c q=>by
   obtain ⟨b,zs,e,hsb,hz,hlb,r'⟩:=er.own j c q
   have hb:b ≠ p:=fun z=>hno j c q (z ▸ e)
   exact ⟨b,zs,e,hsb,hz,by rw [jy hb]; exact hlb,mvs r'⟩
  dct:=fun j ks ds q=>let ⟨b,e,hs,hz,r'⟩:=er.dct j ks ds q; ⟨b,e,hs,hz,r'.map mvs (jy (r'.ne hl))⟩
  dq:=er.dq
  rf:=er.rf
  rwx:=er.rwx
  uq:=er.uq
  gh:=fun q hq=>mv (er.gh q hq) }
end
section
variable {X:Cx} {xs M:List Str} {scope:Scope} {target elt iter:Expr} {ifs:List Expr} {pos:Pos} {ti:A3} {g:G3} {tt:B3} {te:E3} {n:Nat}
theorem jvh {g2:TG} {tt2:TT} {te2:TE} {K:PySem.W.Frag} (wg:∀ B S H σ ρ d v Ψ (Q:L2.St->Hp->Prop),ER K B S H σ ρ->Rep K S H d v->g d ρ Ψ->(∀ ρ' σ',Ψ ρ'->ER K B S H σ' ρ'->σ'.length = σ.length->(∀ j,σ'[n + j]? = σ[n + j]?)->Q σ' H)->g2 v σ H Q)
  (wt:∀ B S H σ ρ Φ (Q:Bool->Hp->Prop),ER K B S H σ ρ->tt ρ Φ->(∀ b H',Φ b->Same H H'->Q b H')->tt2 σ H Q) (we:∀ B S H σ ρ Φ Q,ER K B S H σ ρ->te ρ Φ->Hand K S H Φ Q->te2 σ H Q)
  {B:Bs} {S:Addr->Prop} {H:Hp} {σ:L2.St} {ρ:jL} {Φ:List D->Prop} {J:It} {hs:List (D × V)} {ds:List D} {p:Addr} {Q:VK} {Fin:List V->Hp->Prop} (er:ER K B S H σ ρ) (rv:∀ p ∈ hs,Rep K S H p.1 p.2) (wk:∀ S H,ER K { B with gh:=hs ++ B.gh } S H σ ρ->J.stop ds.length H∧∀ (i:Nat),i < ds.length->J.go i H∧∀ x H',J.yld i H x H'->Same H H'∧∃ e,ds[i]? = some e∧Rep K S H' e x) (hp:H p = none)
  (h:je9 g tt te (List.replicate n .un ++ ρ) ds [] Φ) (hd:jsB K S H Φ Q) (hF:∀ ys H',Q (.ref p) H'->Fin ys H'):lcW n J g2 tt2 te2 σ p Fin (jG H p (.lst [])):=by
 have hno:∀ (i:Nat) es,ρ[i]? = some (.own es)->σ[i]? ≠ some (some (.ref p)):=fun i es q z=>by
  obtain ⟨a,zs,e,_,_,hl,_⟩:=er.own i es q
  rw [e] at z; cases z
  rw [hp] at hl; cases hl
 have h0:B.H0 p = none:=er.same.free hp
 refine ⟨fun i m ys H1=>m = ds.length - i∧i ≤ ds.length∧H1 p = some (.lst ys)∧(∀ b o,H b = some o->H1 b = some o)∧∃ acc,ER K { B with gh:=hs ++ B.gh } (fun b=>S b ∨ b = p) H1 σ ρ∧Reps K (fun b=>S b ∨ b = p) H1 acc ys∧je9 g tt te (List.replicate n .un ++ ρ) (ds.drop i) acc Φ,
  ⟨_,rfl,Nat.zero_le _,jW,jaP hp,[],(er.holds rv).gather hp,Reps.nil,h⟩,?_⟩
 rintro i m ys H1 ⟨rfl,hi,hl,sm,acc,er1,ra,hc⟩
 refine ⟨hl,?_⟩
 obtain ⟨wstop,wgo⟩:=wk _ H1 er1
 by_cases hlt:i < ds.length
 ·obtain ⟨go,yl⟩:=wgo i hlt
  rw [List.drop_eq_getElem_cons hlt] at hc
  refine .inr ⟨go,fun x H2 y=>?_⟩
  obtain ⟨sy,e',ee,re⟩:=yl x H2 y
  rw [List.getElem?_eq_getElem hlt] at ee
  cases ee
  have er1:=er1.go sy
  have hl:=sy _ _ hl
  have sm:∀ b o,H b = some o->H2 b = some o:=fun b o e=>sy _ _ (sm b o e)
  have ra:=ra.same sy
  have er1':=er1.shift n
  refine wg _ _ _ _ _ _ x _ _ er1' re hc fun ρ1 σ1 h1 er2 l1 l2=>⟨⟨by rw [l1,List.length_append,List.length_replicate],fun j=>?_⟩,wt _ _ _ _ _ _ _ er2 h1 fun k H3 hk s3=>?_⟩
  ·rw [l2 j,List.getElem?_append_right (by rw [List.length_replicate]; omega),List.length_replicate,Nat.add_sub_cancel_left]
  ·cases k with
   | false =>
    simp only [Bool.false_eq_true,if_false] at hk ⊢
    exact ⟨_,by omega,rfl,hlt,s3 _ _ hl,fun b o e=>s3 _ _ (sm b o e),acc,er1.go s3,ra.same s3,hk⟩
   | true =>
    simp only [if_true] at hk ⊢
    refine we _ _ _ _ _ _ _ (er2.go s3) hk fun y u H4 hy s4 ry=>?_
    have s34:=s3.trans s4
    have hl4:=s34 _ _ hl
    have er4:=er1.go s34
    refine ⟨hl4,by rw [← ra.len]; exact hy.1,_,by omega,rfl,hlt,jW,fun b o e=>?_,acc ++ [y],er4.grow (.inr rfl) h0 hl4 hno,?_,hy.2⟩
    ·have hb:b ≠ p:=j9 e hp
     rw [jy hb]
     exact s34 _ _ (sm b o e)
    ·obtain ⟨hT,hL⟩:=jgk (K:=K) (S:=fun b=>S b ∨ b = p) (ys:=ys ++ [u]) (.inr rfl) hl4
     exact Reps.map hT hL _ _ ((ra.same s34).app (Reps.cons ry Reps.nil))
 ·have hi':i = ds.length:=by omega
  subst hi'
  rw [List.drop_length] at hc
  refine .inl ⟨wstop,hF ys H1 ?_⟩
  -- the heap without the gathered list
  have eH:jG (fun b=>if b = p then none else H1 b) p (.lst ys) = H1:=by
   funext b
   by_cases hb:b = p
   ·subst hb; rw [jW,hl]
   ·rw [jy hb]; simp only [hb,if_false]
  have hT:∀ b zs,SqT K H1 b zs->SqT K (fun b=>if b = p then none else H1 b) b zs:=fun b zs q=>by
   rcases q with (q | ⟨o,q⟩) | q
   ·exact .inl (.inl (by simp only [jdf q hl (fun z=>by cases z),if_false]; exact q))
   ·exact .inl (.inr ⟨o,by simp only [jdf q hl (fun z=>by cases z),if_false]; exact q⟩)
   ·exact .inr q
  have hL:∀ b zs,LR K (fun b=>S b ∨ b = p) H1 b zs->LR K S (fun b=>if b = p then none else H1 b) b zs:=fun b zs q=>by
   rcases q with ⟨n,q⟩ | q
   ·have hb:b ≠ p:=fun z=>n (.inr z)
    refine .inl ⟨fun z=>n (.inl z),?_⟩
    rcases q with q | ⟨o,q⟩
    ·exact .inl (by simp only [hb,if_false]; exact q)
    ·exact .inr ⟨o,by simp only [hb,if_false]; exact q⟩
   ·exact .inr q
  have:=hd acc ys p (fun b=>if b = p then none else H1 b) hc (fun b o e=>by simp only [j9 e hp,if_false]; exact sm b o e) (by simp) (Reps.map hT hL _ _ ra)
  rw [eH] at this
  exact this
theorem jvF {g2:TG} {tt2:TT} {te2:TE} {K:PySem.W.Frag} (wg:∀ B S H σ ρ d v Ψ (Q:L2.St->Hp->Prop),ER K B S H σ ρ->Rep K S H d v->g d ρ Ψ->(∀ ρ' σ',Ψ ρ'->ER K B S H σ' ρ'->σ'.length = σ.length->(∀ j,σ'[n + j]? = σ[n + j]?)->Q σ' H)->g2 v σ H Q)
  (wt:∀ B S H σ ρ Φ (Q:Bool->Hp->Prop),ER K B S H σ ρ->tt ρ Φ->(∀ b H',Φ b->Same H H'->Q b H')->tt2 σ H Q) (we:∀ B S H σ ρ Φ Q,ER K B S H σ ρ->te ρ Φ->Hand K S H Φ Q->te2 σ H Q)
  {B:Bs} {S:Addr->Prop} {H:Hp} {σ:L2.St} {ρ:jL} {Φ:List D->Prop} {J:It} {hs:List (D × V)} {ds:List D} {p:Addr} {Q:VK} {Fin:List V->Hp->Prop} (er:ER K B S H σ ρ) (rv:∀ p ∈ hs,Rep K S H p.1 p.2) (wk:jm2 K J hs ds) (hp:H p = none)
  (h:je9 g tt te (List.replicate n .un ++ ρ) ds [] Φ) (hd:jsB K S H Φ Q) (hF:∀ ys H',Q (.ref p) H'->Fin ys H'):lcW n J g2 tt2 te2 σ p Fin (jG H p (.lst [])) :=
 jvh wg wt we er rv (fun S H er=>wk S H fun p hp=>er.gh p (List.mem_append_left _ hp)) hp h hd hF
theorem jaQ (hk:jfd scope X.env xs M X.N = true) (hn:xs.length = n) (hc:X.calm = true) (hi:PID X target iter ti)
  (hg:∀ C s H fp,PGN (j6 X xs M scope C s H fp) n target g) (ht:∀ C s H fp,PBs (j6 X xs M scope C s H fp) ifs tt) (he:∀ C s H fp,PD (j6 X xs M scope C s H fp) elt te)
  (hs:∀ x,foldedSetIterable iter X.env x = pure x:=by intro _; rfl):PF X (.ListComp elt [⟨target,iter,ifs,0⟩] scope pos) (jbq n ti g tt te):=by
 obtain ⟨wi,hi,ww⟩:=hi
 have ht':=fun C s H fp=>(ht C s H fp).ex
 refine ⟨_,jml hk hn hc hi (fun C s H fp=>(hg C s H fp).choose_spec.1) (fun C s H fp=>(ht' C s H fp).choose_spec.1) (fun C s H fp=>(he C s H fp).choose_spec.1) hs,fun B S H σ ρ Φ Q er q hd=>?_⟩
 refine ww B S H σ ρ _ _ er q fun ds J hs H1 hΦ s1 rv wk D C s fp hD=>?_
 exact jvF (hg C s H1 fp).choose_spec.2 (ht' C s H1 fp).choose_spec.2 (he C s H1 fp).choose_spec.2 (er.go s1) rv wk hD hΦ (Q:=Q) (fun es zs p H2 p1 s2 hp r=>hd es zs p H2 p1 (s1.trans s2) hp r) fun _ _ z=>z
end
theorem jbZ:bootBuiltins "len" = some (.builtin "len"):=by decide +kernel
theorem joL:bootBuiltins "abs" = some (.builtin "abs"):=by decide +kernel
theorem jyJ:bootBuiltins "min" = some (.builtin "min"):=by decide +kernel
theorem juv:bootBuiltins "max" = some (.builtin "max"):=by decide +kernel
theorem jt8:bootBuiltins "sum" = some (.builtin "sum"):=by decide +kernel
theorem jtD:bootBuiltins "all" = some (.builtin "all"):=by decide +kernel
theorem joj:bootBuiltins "isinstance" = some (.builtin "isinstance"):=by decide +kernel
theorem jyY:bootBuiltins "int" = some (.type "int"):=by decide +kernel
theorem ji2:bootBuiltins "str" = some (.type "str"):=by decide +kernel
theorem jbY:bootBuiltins "tuple" = some (.type "tuple"):=by decide +kernel
theorem jg1 {α:Type} (xs:List α) (n:Nat):atI xs (n:Int) = xs[n]?:=by
 cases h:xs[n]? with
 | some v=>exact jxB h
 | none =>
  have h':=List.getElem?_eq_none_iff.mp h
  unfold atI ixN
  rw [if_pos (by omega),if_neg (by omega)]
  rfl
theorem jc0 {α:Type} (xs:List α):atI xs 0 = xs[0]?:=jg1 xs 0
theorem jsg {α:Type} (xs:List α):atI xs 1 = xs[1]?:=jg1 xs 1
theorem juG {i j:Int} (h:0 < j):i.fmod j = i % j:=Int.fmod_eq_emod_of_nonneg i (Int.le_of_lt h)
theorem jvo {n:Nat} (h:n ≤ 1000):n ≤ sizeLine:=Nat.le_of_lt (jdX h)
def Bd (k:Nat) (i:Int):Prop:=i.natAbs < 2 ^ k
theorem Bd.mono {k l:Nat} {i:Int} (h:Bd k i) (hl:k ≤ l):Bd l i:=Nat.lt_of_lt_of_le h (Nat.pow_le_pow_right (by decide) hl)
theorem Bd.neg {k:Nat} {i:Int} (h:Bd k i):Bd k (-i):=by unfold Bd; rw [Int.natAbs_neg]; exact h
theorem Bd.add {k l:Nat} {i j:Int} (h:Bd k i) (g:Bd l j):Bd (max k l + 1) (i + j):=by
 unfold Bd at *
 have h1:i.natAbs < 2 ^ max k l:=Nat.lt_of_lt_of_le h (Nat.pow_le_pow_right (by decide) (Nat.le_max_left ..))
 have h2:j.natAbs < 2 ^ max k l:=Nat.lt_of_lt_of_le g (Nat.pow_le_pow_right (by decide) (Nat.le_max_right ..))
 have h3:=Int.natAbs_add_le i j
 rw [Nat.pow_succ]
 omega
theorem Bd.sub {k l:Nat} {i j:Int} (h:Bd k i) (g:Bd l j):Bd (max k l + 1) (i - j):=by rw [Int.sub_eq_add_neg]; exact h.add g.neg
theorem Bd.mul {k l:Nat} {i j:Int} (h:Bd k i) (g:Bd l j):Bd (k + l) (i * j):=by
 unfold Bd at *
 rw [Int.natAbs_mul,Nat.pow_add]
 exact Nat.mul_lt_mul_of_lt_of_lt h g
theorem Bd.bits {k:Nat} {i:Int} (h:Bd k i):Builtin.Int.intBits i ≤ k:=by
 unfold Builtin.Int.intBits
 split
 ·exact Nat.zero_le _
 ·rename_i hz
  have h0:i.natAbs ≠ 0:=by
   intro z
   apply hz
   have:i = 0:=Int.natAbs_eq_zero.mp z
   simp [this]
  exact (Nat.log2_lt h0).mpr h
theorem jce {k l:Nat} {i j:Int} (h:Bd k i) (g:Bd l j) (hk:k + l ≤ 134217728):IntMulOk i j:=IntMulOk.of_le h.bits g.bits hk
theorem jeu {k:Nat} {i j:Int} (h0:j ≠ 0) (h:Bd k j) (hk:k ≤ 9000):CD i j:=by
 refine ⟨h0,?_⟩
 have hz:j.natAbs ≠ 0:=fun z=>h0 (Int.natAbs_eq_zero.mp z)
 exact Nat.lt_of_lt_of_le ((Nat.log2_lt hz).mpr h) hk
theorem jf6 {i j:Int} (h:decide (j ≠ 0∧j.natAbs < 1073741824) = true):CD i j:=by
 have h:=of_decide_eq_true h
 exact jeu (k:=30) h.1 h.2 (by decide)
section
variable {X:Cx} {tg:Expr}
theorem jtB (hc:X.calm = true):CallR X (.builtin "sum") (fun xs H Q=>∃ (p:Addr) (ns:List Int),xs = [.ref p]∧SqL X.K H p (ns.map V.int)∧Q (.int ns.sum) H):=by
 intro pins s σ H xs us Q I r h
 obtain ⟨p,ns,rfl,hq,q⟩:=h
 obtain ⟨u,rfl,rx⟩:=jdG r
 cases rx
 obtain ⟨its,r',pl,hz⟩:=I.list hq
 have hi:IntsAre its ns:=jhb r'
 obtain ⟨xs,hxs⟩:=hi.allInts.items
 have hl:=pl.isList
 have e1:(numsOf its).sum = ns.sum:=by rw [hi.numsOf]
 rw [hxs] at hl
 have e2:numsOf its = numsOf (intItems xs).toList:=by rw [← hxs]
 refine sum_intListG (I.ok.hd hc) hl fun h' tk t' kp=>⟨.int ns.sum,H,I.kept kp,⟨t',?_⟩,q⟩
 rw [preSum_eq,List.take_of_length_le (by simp),← e1,e2,nums_intItems]
abbrev juM:jK
 | [.lst ds],Φ=>∃ ns:List Int,ds = ns.map .int∧Φ (.int ns.sum)
 | _,_=>False
theorem jwF (hc:X.calm = true):jb8 X (.builtin "sum") juM:=⟨_,jtB hc,fun S H ds vs Φ Q so r h hd=>by
 match ds,h with
 | [.lst ds],⟨ns,e,h⟩ =>
  subst e
  simp only [Reps] at r
  obtain ⟨v,_,rfl,rv,rfl⟩:=r
  obtain ⟨a,xs,rfl,lr,rs⟩:=j0 rv
  have:=rs.intsV
  subst this
  exact ⟨a,ns,rfl,lr.sq,hd _ _ H h (Same.refl _) Rep.int⟩⟩
def jvS (lo c:Int) (n:Nat):It:=⟨fun i _=>i < n,fun i H x H'=>H' = H∧x = .int (lo + i * c),fun i _=>n ≤ i⟩
theorem jqO {P:Program} {w:World} {K:PySem.W.Frag} {tg:Expr} (it:Addr) (lo c:Int) (n:Nat):jio P w K tg (jvS lo c n) [it] it (fun i h=>IsRangeIter h it (lo + (i:Nat) * c) ((n:Int) - (i:Nat)) c) where
 mem:=by simp
 obj:=fun i h st b hb=>by
  have e:b = it:=by simpa using hb
  subst e
  exact ⟨_,st,fun v z=>by
   have z':Data.fields _ = Data.cell v:=z
   cases z'⟩
 keep:=fun i h h' st k=>k it (by simp) _ st
 item:=by
  intro X hP hw hK hc i pins s σ H E I hf st hg
  subst hP hw hK
  obtain ⟨f0,f1,f2,f3,f4,f5⟩:=hf it (by simp)
  have W:=Walks.range (prog:=X.prog) (w:=X.w) (I.ok.hd hc) it lo c n
  refine W.item i s _ _ hg st fun v h' tk hv st' kk=>?_
  obtain ⟨t,rfl⟩:=hv
  have I1:Inv X pins σ H { s with heap:=h',toks:=tk }:=I.turned (fun b o hb e=>kk b o (by simpa using hb) e) f0 f1 f3 f4 f5
  exact ⟨_,rfl,jla (s:={ s with heap:=h',toks:=tk }) (n:="range_iterator") st' rfl rfl (by decide) ⟨.int (lo + i * c),H,I1,⟨t,rfl⟩,⟨rfl,rfl⟩,st',fun b hb=>(hf b hb).1⟩⟩
 done:=by
  intro X hP hw hK hc i pins s σ H E I hf st hg
  subst hP hw hK
  obtain ⟨f0,f1,f2,f3,f4,f5⟩:=hf it (by simp)
  exact wpAny_pyNext_range_end (I.ok.hd hc) st (by have:n ≤ i:=hg; omega) fun h' eb=>⟨rfl,I.turned (t':=s.toks) (fun b o hb e=>eb b o hb e) f0 f1 f3 f4 f5⟩
 self:=fun _ _ _ _ _ st h=>wpAny_pyIter_rangeiter st h
def rsz (lo hi c:Int):Nat:=(Builtin.Range.rangeSize lo hi c).toNat
theorem jx3 (lo hi c:Int):Builtin.Range.rangeSize lo hi c = (rsz lo hi c:Int):=rangeSize_toNat lo hi c
def jz6 (ta:TA):TI:=fun σ H R=>ta σ H fun vs H1=>∃ i j c:Int,vs = [.int i,.int j,.int c]∧(0 < c∧c < 1073741824∧Builtin.Range.small i j c = true)∧R (jvS i c (rsz i j c)) H1
theorem jtg {a b d:Expr} {ta:TA} {p pos:Pos} (hg:Gl X "range") (hm:X.mg "range" = none) (ha:PA X [a,b,d] ta) (hs:starEach [a,b,d] X.env = [(false,eval a X.env),(false,eval b X.env),(false,eval d X.env)]:=by rfl)
  (hs2:starEach [b,d] X.env = [(false,eval b X.env),(false,eval d X.env)]:=by rfl):PI X tg (.Call (.Name "range" p) [a,b,d] [] pos) (jz6 ta):=by
 intro pins s σ H R I h
 refine Call_ (jgb I hg hm boot_range (PyProof.Rows.callWith_type1 (jF (ha pos pins s σ H _ I h) fun us s1 qZ=>?_) (by rw [hs,hs2]) (by rw [hs2]; rfl)))
 obtain ⟨vs,H1,I1,r1,q1⟩:=qZ
 obtain ⟨i,j,c,e,⟨q1,q2,q3⟩,q⟩:=q1
 subst e
 cases r1 with
 | cons r rr =>
  cases rr with
  | cons r' rr =>
   cases rr with
   | cons r'' rr =>
    cases rr
    obtain ⟨t,rfl⟩:=r
    obtain ⟨t',rfl⟩:=r'
    obtain ⟨t'',rfl⟩:=r''
    refine call_range_3 (by omega) ?_ (.inl (PyProof.noPylong_small (by omega)))
    refine wpAny_pyIter_range (IsRange.new ..) q3 ?_
    have I2:Inv X pins σ H1 { s1 with heap:=s1.heap.push { cls:=.type "range",data:=.fields #[.int i t,.int j t',.int c t''] },toks:=s1.toks }:=I1.kept fun b o e=>Heap.get?_push_of_some _ e
    refine ⟨(s1.heap.push { cls:=.type "range",data:=.fields #[.int i t,.int j t',.int c t''] }).objs.size,[(s1.heap.push { cls:=.type "range",data:=.fields #[.int i t,.int j t',.int c t''] }).objs.size],_,_,H1,rfl,
     I2.kept (t':=s1.toks) fun b o e=>Heap.get?_push_of_some _ e,jqO _ i c (rsz i j c),?_,fun b hb=>?_,q⟩
    ·have e1:i + ((0:Nat):Int) * c = i:=by simp
     have e2:((rsz i j c:Nat):Int) - ((0:Nat):Int) = Builtin.Range.rangeSize i j c:=by rw [jx3]; simp
     show IsRangeIter _ _ (i + ((0:Nat):Int) * c) (((rsz i j c:Nat):Int) - ((0:Nat):Int)) c
     rw [e1,e2]
     exact Heap.get?_push_size _ rfl
    ·have e:b = (s1.heap.push { cls:=.type "range",data:=.fields #[.int i t,.int j t',.int c t''] }).objs.size:=by simpa using hb
     subst e
     exact I2.fpOk (Nat.le_refl _) (I2.hok.fresh (Nat.le_refl _))
def jkG (lo c:Int) (n:Nat):List D:=(List.range n).map fun (i:Nat)=>D.int (lo + (i:Int) * c)
theorem jdF (lo c:Int) (n:Nat):(jkG lo c n).length = n:=by simp [jkG]
theorem jsh (K:PySem.W.Frag) (lo c:Int) (n:Nat):Wlk K (jvS lo c n) .non .non (jkG lo c n):=fun S H _=>by
 refine ⟨by show n ≤ _; rw [jdF]; exact Nat.le_refl _,fun i hi=>⟨by rw [jdF] at hi; exact hi,fun x H' y=>?_⟩⟩
 obtain ⟨rfl,rfl⟩:=y
 refine ⟨rfl,.int (lo + i * c),?_,Rep.int⟩
 rw [jdF] at hi
 simp [jkG,hi]
abbrev iR3 (ta:A3):A3:=fun ρ Φ=>ta ρ fun ds=>match ds with | [.int i,.int j,.int c]=>(0 < c∧c < 1073741824∧Builtin.Range.small i j c = true)∧Φ (jkG i c (rsz i j c)) | _=>False
theorem jsA {a b d:Expr} {ta:A3} {p pos:Pos} (hg:Gl X "range") (hm:X.mg "range" = none) (ha:PAD X [a,b,d] ta) (hs:starEach [a,b,d] X.env = [(false,eval a X.env),(false,eval b X.env),(false,eval d X.env)]:=by rfl)
  (hs2:starEach [b,d] X.env = [(false,eval b X.env),(false,eval d X.env)]:=by rfl):PID X tg (.Call (.Name "range" p) [a,b,d] [] pos) (iR3 ta):=by
 obtain ⟨t2,h,w⟩:=ha
 refine PID.one ⟨_,jtg hg hm h hs hs2,fun B S H σ ρ Φ R er q k=>w B S H σ ρ _ _ er q fun ds vs H1 p s r=>?_⟩
 match ds,p with
 | [.int i,.int j,.int c],p =>
  simp only [Reps,Rep] at r
  obtain ⟨u,_,rfl,rfl,v,_,rfl,rfl,z,_,rfl,rfl,rfl⟩:=r
  exact ⟨i,j,c,rfl,p.1,k _ _ .non .non H1 p.2 s Rep.non (jsh _ _ _ _)⟩
theorem jxt {a b c:Int} (hc:0 < c) (hc2:c < 1073741824) (ha:-(2 ^ 60) ≤ a) (ha':a < 2 ^ 60) (hb:-(2 ^ 60) ≤ b) (hb':b < 2 ^ 60):Builtin.Range.small a b c = true:=by
 unfold Builtin.Range.small Builtin.Range.rangeSize
 simp only [Builtin.Range.rangeFitsLong,Bool.and_eq_true,Bool.or_eq_true,decide_eq_true_eq,beq_iff_eq,gt_iff_lt,hc,if_true]
 by_cases h:a < b
 ·have h1:0 ≤ (b - a - 1) / c:=Int.ediv_nonneg (by omega) (by omega)
  have h2:(b - a - 1) / c ≤ b - a - 1:=Int.ediv_le_self c (by omega)
  simp only [h,if_true]
  generalize (b - a - 1) / c = q at *
  exact ⟨⟨⟨⟨⟨by omega,by omega⟩,by omega,by omega⟩,by omega,by omega⟩,by omega,by omega⟩,.inr ⟨by omega,by omega⟩⟩
 ·simp only [h,if_false]
  exact ⟨⟨⟨⟨⟨by omega,by omega⟩,by omega,by omega⟩,by omega,by omega⟩,by omega,by omega⟩,.inl trivial⟩
theorem jrC {a b c:Int} (hc:0 < c):rsz a b c = if a < b then ((b - a - 1) / c + 1).toNat else 0:=by
 unfold rsz Builtin.Range.rangeSize
 simp only [gt_iff_lt,hc,if_true]
 split <;> rfl
theorem juT {lo c:Int} {n:Nat} {d:D} (h:d ∈ jkG lo c n):∃ i:Nat,i < n∧d = .int (lo + i * c):=by
 obtain ⟨i,hi,rfl⟩:=List.mem_map.mp h
 exact ⟨i,List.mem_range.mp hi,rfl⟩
theorem jeW {k:Nat} {i:Int} (h:decide (i.natAbs < 2 ^ k) = true):Bd k i:=by unfold Bd; exact of_decide_eq_true h
theorem j8 {n:Nat} (k:Nat) (h:n = k) (hk:k ≤ 1000):n ≤ sizeLine:=by subst h; exact jvo hk
theorem jY {n:Nat} (k:Nat) (h:n = k) (hk:k ≤ 1000):n < sizeLine:=by subst h; exact jdX hk
theorem jiG {i j:Int} (h:decide (0 ≤ j∧j ≤ 1000000∧i.natAbs < 18446744073709551616) = true):jpn i j:=let h:=of_decide_eq_true h; ⟨h.1,h.2.1,h.2.2⟩
theorem tst {A B:Prop} {b:Bool} (h1:b = true->A) (h2:b = false->B):if b = true then A else B:=by
 cases b with
 | true=>rw [if_pos rfl]; exact h1 rfl
 | false=>rw [if_neg Bool.false_ne_true]; exact h2 rfl
theorem tT {A B:Prop} {b:Bool} (h:b = true) (a:A):if b = true then A else B:=by rw [if_pos h]; exact a
theorem tF {A B:Prop} {b:Bool} (h:b = false) (a:B):if b = true then A else B:=by subst h; rw [if_neg Bool.false_ne_true]; exact a
theorem jeP {te:E3} {ρ:jL} {Φ:List D->Prop} (f:D->D):∀ (ds acc:List D),acc.length + ds.length ≤ 1000->(∀ d ∈ ds,∀ Ψ:D->Prop,Ψ (f d)->te (ρ.set 0 (.val d)) Ψ)->Φ (acc ++ ds.map f)->je9 (gN 0) (fun _ Φ=>Φ true) te ρ ds acc Φ
 | [],acc,_,_,h=>by rw [List.map_nil,List.append_nil] at h; exact h
 | d :: ds,acc,hl,hs,h=>by
  refine hs d List.mem_cons_self _ ⟨jdX (by simp only [List.length_cons] at hl; omega),?_⟩
  refine jeP f ds (acc ++ [f d]) (by simp only [List.length_cons,List.length_append,List.length_nil] at hl ⊢; omega) (fun e he=>hs e (List.mem_cons_of_mem _ he)) ?_
  rw [List.append_assoc,List.singleton_append]
  exact h
end
mutual
def jC:D->D->Bool
 | .non,.non=>true
 | .bl a,.bl b=>a == b
 | .bl a,.int b=>(if a then 1 else 0) == b
 | .int a,.bl b=>a == (if b then 1 else 0)
 | .int a,.int b=>a == b
 | .str a,.str b=>a == b
 | .tup xs,.tup ys=>jb5 xs ys
 | .lst xs,.lst ys=>jb5 xs ys
 | _,_=>false
def jb5:List D->List D->Bool
 | [],[]=>true
 | x :: xs,y :: ys=>jC x y && jb5 xs ys
 | _,_=>false
end
mutual
def dep:D->Nat
 | .tup xs=>jdn xs + 1
 | .lst xs=>jdn xs + 1
 | _=>0
def jdn:List D->Nat
 | []=>0
 | x :: xs=>max (dep x) (jdn xs)
end
theorem jrE {n:Nat}:∀ {ds:List D},(∀ d ∈ ds,dep d ≤ n)->jdn ds ≤ n
 | [],_=>Nat.zero_le _
 | d :: ds,h=>by
  simp only [jdn]
  exact Nat.max_le.mpr ⟨h d List.mem_cons_self,jrE fun e he=>h e (List.mem_cons_of_mem _ he)⟩
theorem jgS:∀ {ds:List D} {i:Nat} {d:D},ds[i]? = some d->dep d ≤ jdn ds
 | [],i,d,h=>by simp at h
 | c :: ds,0,d,h=>by simp at h; subst h; simp only [jdn]; exact Nat.le_max_left _ _
 | c :: ds,i + 1,d,h=>by simp only [jdn]; exact Nat.le_trans (jgS (i:=i) (by simpa using h)) (Nat.le_max_right _ _)
mutual
theorem jha:∀ d:D,jC d d = true
 | .non=>by simp only [jC]
 | .bl b=>by simp [jC]
 | .int i=>by simp [jC]
 | .str x=>by simp [jC]
 | .tup ds=>by simp only [jC]; exact jik ds
 | .lst ds=>by simp only [jC]; exact jik ds
theorem jik:∀ ds:List D,jb5 ds ds = true
 | []=>by simp only [jb5]
 | d :: ds=>by simp only [jb5,jha d,jik ds,Bool.and_self]
end
theorem jkm:∀ {xs ys:List D},xs.length ≠ ys.length->jb5 xs ys = false
 | [],[],h=>absurd rfl h
 | [],_ :: _,_=>by simp only [jb5]
 | _ :: _,[],_=>by simp only [jb5]
 | x :: xs,y :: ys,h=>by
  simp only [jb5]
  rw [jkm (xs:=xs) (ys:=ys) (by simpa using h),Bool.and_false]
theorem jg8:∀ {xs ys:List D},xs.length = ys.length->(List.range xs.length).all (fun j=>jC (xs.getD j .non) (ys.getD j .non)) = jb5 xs ys
 | [],[],_=>by simp [jb5]
 | x :: xs,y :: ys,h=>by
  rw [List.length_cons,List.range_succ_eq_map,List.all_cons,List.all_map]
  simp only [jb5]
  rw [← jg8 (xs:=xs) (ys:=ys) (by simpa using h)]
  rfl
section
variable {X:Cx} {pins:List (Addr × Obj)} {σ:L2.St} {H:Hp} {s:Shared} {S:Addr->Prop}
theorem jpL {a:Addr} {xs ys:List V} (I:Inv X pins σ H s) (h:SqT X.K H a xs) (h':SqL X.K H a ys):False:=by
 obtain ⟨its,_,p,_⟩:=I.tuple h
 obtain ⟨its2,_,p2,_⟩:=I.list h'
 obtain ⟨o,e,c,_⟩:=p
 obtain ⟨o2,n2,e2,c2,_⟩:=p2
 rw [e] at e2; cases e2
 rw [c] at c2
 exact absurd c2 (by decide)
mutual
theorem jnd (I:Inv X pins σ H s):∀ (d d':D) (v:V),Rep X.K S H d v->Rep X.K S H d' v->d = d'
 | .non,d',v,h,h'=>by cases jab h; cases d' <;> simp [Rep] at h' ⊢
 | .bl b,d',v,h,h'=>by cases jak h; cases d' <;> simp [Rep] at h' ⊢; exact h'
 | .int b,d',v,h,h'=>by cases jT h; cases d' <;> simp [Rep] at h' ⊢; exact h'
 | .str b,d',v,h,h'=>by cases jap h; cases d' <;> simp [Rep] at h' ⊢; exact h'
 | .tup ds,d',v,h,h'=>by
  obtain ⟨a,xs,rfl,q,rs⟩:=jU h
  cases d' with
  | tup es =>
   obtain ⟨a',xs',e,q',rs'⟩:=jU h'
   cases e
   have:=I.tuple_inj q q'
   subst this
   rw [jkP I ds es xs rs rs']
  | lst es =>
   obtain ⟨a',xs',e,q',rs'⟩:=j0 h'
   cases e
   exact (jpL I q q'.sq).elim
  | _=>simp [Rep] at h'
 | .lst ds,d',v,h,h'=>by
  obtain ⟨a,xs,rfl,q,rs⟩:=j0 h
  cases d' with
  | lst es =>
   obtain ⟨a',xs',e,q',rs'⟩:=j0 h'
   cases e
   have:=I.list_inj q.sq q'.sq
   subst this
   rw [jkP I ds es xs rs rs']
  | tup es =>
   obtain ⟨a',xs',e,q',rs'⟩:=jU h'
   cases e
   exact (jpL I q' q.sq).elim
  | _=>simp [Rep] at h'
theorem jkP (I:Inv X pins σ H s):∀ (d d':List D) (v:List V),Reps X.K S H d v->Reps X.K S H d' v->d = d'
 | [],d',v,h,h'=>by
  simp only [Reps] at h; subst h
  cases d' with
  | nil=>rfl
  | cons c cs=>simp [Reps] at h'
 | c :: cs,d',v,h,h'=>by
  simp only [Reps] at h
  obtain ⟨x,r,rfl,q,t⟩:=h
  cases d' with
  | nil=>simp [Reps] at h'
  | cons e es =>
   simp only [Reps] at h'
   obtain ⟨x',r',e',q',t'⟩:=h'
   cases e'
   rw [jnd I c e x q q',jkP I cs es r t t']
end
def RcQ (ne:Bool) (A:Around) (s:Shared) (u v:Value) (b:Bool):Prop:=if ne then SeqAt.RcNeAt A s u v (!b) else SeqAt.RcAt A s u v b
theorem joV {A:Around} (its its2:List Value) (xs ys:List V) (ds es:List D) (r1:Vals xs its) (r2:Vals ys its2) (rs:Reps X.K S H ds xs) (rs':Reps X.K S H es ys)
  (ih:∀ (j:Nat) (x y:D) (v v':V) (u u':Value),ds[j]? = some x->Rep X.K S H x v->Rep X.K S H y v'->RelV v u->RelV v' u'->SeqAt.EqAt A s u u' (jC x y)) :
  ∀ j (h1:j < its.toArray.size) (h2:j < its2.toArray.size),SeqAt.EqAt A s its.toArray[j] its2.toArray[j] (jC (ds.getD j .non) (es.getD j .non)):=by
 intro j h1 h2
 have k1:j < ds.length:=by rw [rs.len,r1.length]; simpa using h1
 have k2:j < es.length:=by rw [rs'.len,r2.length]; simpa using h2
 obtain ⟨v,ev,rv⟩:=rs.get (i:=j) (d:=ds[j]) (by simp [k1])
 obtain ⟨v',ev',rv'⟩:=rs'.get (i:=j) (d:=es[j]) (by simp [k2])
 obtain ⟨u,eu,ru⟩:=r1.get ev
 obtain ⟨u',eu',ru'⟩:=r2.get ev'
 have w1:its.toArray[j] = u:=by
  have:its[j]? = some its.toArray[j]:=by simp at h1 ⊢
  rw [eu] at this; exact (Option.some.inj this).symm
 have w2:its2.toArray[j] = u':=by
  have:its2[j]? = some its2.toArray[j]:=by simp at h2 ⊢
  rw [eu'] at this; exact (Option.some.inj this).symm
 have w3:ds.getD j .non = ds[j]:=by rw [List.getD_eq_getElem?_getD]; simp [k1]
 have w4:es.getD j .non = es[j]:=by rw [List.getD_eq_getElem?_getD]; simp [k2]
 rw [w1,w2,w3,w4]
 exact ih j ds[j] es[j] v v' u u' (by simp [k1]) rv rv' ru ru'
theorem jqk {ne:Bool} {A:Around} {ds es:List D} {a b:Addr} {xs ys:List V} (I:Inv X pins σ H s) (hu:A.units < cLine) (q:SqL X.K H a xs) (q':SqL X.K H b ys) (rs:Reps X.K S H ds xs) (rs':Reps X.K S H es ys)
  (ih:∀ (j:Nat) (x y:D) (v v':V) (u u':Value),ds[j]? = some x->Rep X.K S H x v->Rep X.K S H y v'->RelV v u->RelV v' u'->SeqAt.EqAt A.in1 s u u' (jC x y)):RcQ ne A s (.ref a) (.ref b) (jb5 ds es):=by
 obtain ⟨its,r1,p1,_⟩:=I.list q
 obtain ⟨its2,r2,p2,_⟩:=I.list q'
 have hl1:its.toArray.size = ds.length:=by rw [rs.len,r1.length]; simp
 have hl2:its2.toArray.size = es.length:=by rw [rs'.len,r2.length]; simp
 unfold RcQ
 by_cases hlen:ds.length = es.length
 ·have it:=joV its its2 xs ys ds es r1 r2 rs rs' ih
  have e1:(List.range its.toArray.size).all (fun j=>jC (ds.getD j .non) (es.getD j .non)) = jb5 ds es:=by rw [hl1]; exact jg8 hlen
  cases ne with
  | false =>
   have:=SeqAt.RcAt.lists p1.isList p2.isList (by rw [hl1,hl2,hlen]) hu it
   rw [e1] at this
   exact this
  | true =>
   have:=SeqAt.RcNeAt.lists p1.isList p2.isList (by rw [hl1,hl2,hlen]) hu it
   rw [e1] at this
   exact this
 ·rw [jkm hlen]
  have hz:(its.toArray.size != its2.toArray.size) = true:=by rw [hl1,hl2]; simpa using hlen
  cases ne with
  | false=>exact SeqAt.RcAt.lists_lengths p1.isList p2.isList hz hu
  | true=>exact SeqAt.RcNeAt.lists_lengths p1.isList p2.isList hz hu
theorem jnH {ne:Bool} {A:Around} {ds es:List D} {a b:Addr} {xs ys:List V} (I:Inv X pins σ H s) (hu:A.units < cLine) (q:SqT X.K H a xs) (q':SqT X.K H b ys) (rs:Reps X.K S H ds xs) (rs':Reps X.K S H es ys)
  (ih:∀ (j:Nat) (x y:D) (v v':V) (u u':Value),ds[j]? = some x->Rep X.K S H x v->Rep X.K S H y v'->RelV v u->RelV v' u'->SeqAt.EqAt A.in1 s u u' (jC x y)):RcQ ne A s (.ref a) (.ref b) (jb5 ds es):=by
 obtain ⟨its,r1,p1,_⟩:=I.tuple q
 obtain ⟨its2,r2,p2,_⟩:=I.tuple q'
 have hl1:its.toArray.size = ds.length:=by rw [rs.len,r1.length]; simp
 have hl2:its2.toArray.size = es.length:=by rw [rs'.len,r2.length]; simp
 have it:=joV its its2 xs ys ds es r1 r2 rs rs' ih
 have e1:((List.range (min its.toArray.size its2.toArray.size)).all (fun j=>jC (ds.getD j .non) (es.getD j .non)) && its.toArray.size == its2.toArray.size) = jb5 ds es:=by
  rw [hl1,hl2]
  by_cases hlen:ds.length = es.length
  ·rw [← hlen,Nat.min_self,jg8 hlen]; simp
  ·rw [jkm hlen]
   have:(ds.length == es.length) = false:=by simpa using hlen
   rw [this,Bool.and_false]
 unfold RcQ
 cases ne with
 | false =>
  have:=SeqAt.RcAt.tuples p1 p2 hu it
  rw [e1] at this
  exact this
 | true =>
  have:=SeqAt.RcNeAt.tuples p1 p2 hu it
  rw [e1] at this
  exact this
theorem jtz (I:Inv X pins σ H s):∀ (n:Nat) (x y:D) (v v':V) (u u':Value) (A:Around),dep x ≤ n->A.units + n < cLine->Rep X.K S H x v->Rep X.K S H y v'->RelV v u->RelV v' u'->SeqAt.EqAt A s u u' (jC x y):=by
 intro n
 induction n with
 | zero =>
  intro x y v v' u u' A hd hu rx ry ru ru'
  cases x with
  | tup ds=>simp only [dep] at hd; omega
  | lst ds=>simp only [dep] at hd; omega
  | non =>
   cases jab rx
   cases (show u = Value.none from ru)
   cases y with
   | non=>cases jab ry; cases (show u' = Value.none from ru'); simp only [jC]; exact SeqAt.EqAt.same _
   | bl b=>cases jak ry; cases (show u' = Value.bool b from ru'); simp only [jC]; exact SeqAt.EqAt.none_bool b
   | int b=>cases jT ry; obtain ⟨t,rfl⟩:=ru'; simp only [jC]; exact SeqAt.EqAt.none_int b t
   | str b=>cases jap ry; obtain ⟨t,rfl⟩:=ru'; simp only [jC]; exact SeqAt.EqAt.none_str b t
   | tup es =>
    obtain ⟨a,xs,rfl,q,rs⟩:=jU ry
    cases (show u' = Value.ref a from ru')
    obtain ⟨its,r1,p1,_⟩:=I.tuple q
    simp only [jC]; exact SeqAt.EqAt.none_tuple p1 (by omega)
   | lst es =>
    obtain ⟨a,xs,rfl,q,rs⟩:=j0 ry
    cases (show u' = Value.ref a from ru')
    obtain ⟨its,r1,p1,_⟩:=I.list q.sq
    simp only [jC]; exact SeqAt.EqAt.none_list p1.isList (by omega)
  | bl a0 =>
   cases jak rx
   cases (show u = Value.bool a0 from ru)
   cases y with
   | non=>cases jab ry; cases (show u' = Value.none from ru'); simp only [jC]; exact SeqAt.EqAt.bool_none a0
   | bl b=>cases jak ry; cases (show u' = Value.bool b from ru'); simp only [jC]; exact SeqAt.EqAt.bool_bool a0 b
   | int b=>cases jT ry; obtain ⟨t,rfl⟩:=ru'; simp only [jC]; exact SeqAt.EqAt.bool_int a0 b t
   | str b=>cases jap ry; obtain ⟨t,rfl⟩:=ru'; simp only [jC]; exact SeqAt.EqAt.bool_str a0 b t
   | tup es =>
    obtain ⟨a,xs,rfl,q,rs⟩:=jU ry
    cases (show u' = Value.ref a from ru')
    obtain ⟨its,r1,p1,_⟩:=I.tuple q
    simp only [jC]; exact SeqAt.EqAt.bool_tuple a0 p1 (by omega)
   | lst es =>
    obtain ⟨a,xs,rfl,q,rs⟩:=j0 ry
    cases (show u' = Value.ref a from ru')
    obtain ⟨its,r1,p1,_⟩:=I.list q.sq
    simp only [jC]; exact SeqAt.EqAt.bool_list a0 p1.isList (by omega)
  | int a0 =>
   cases jT rx
   obtain ⟨t0,rfl⟩:=ru
   cases y with
   | non=>cases jab ry; cases (show u' = Value.none from ru'); simp only [jC]; exact SeqAt.EqAt.int_none a0 t0
   | bl b=>cases jak ry; cases (show u' = Value.bool b from ru'); simp only [jC]; exact SeqAt.EqAt.int_bool a0 t0 b
   | int b=>cases jT ry; obtain ⟨t,rfl⟩:=ru'; simp only [jC]; exact SeqAt.EqAt.int_int a0 t0 b t
   | str b=>cases jap ry; obtain ⟨t,rfl⟩:=ru'; simp only [jC]; exact SeqAt.EqAt.int_str a0 t0 b t
   | tup es =>
    obtain ⟨a,xs,rfl,q,rs⟩:=jU ry
    cases (show u' = Value.ref a from ru')
    obtain ⟨its,r1,p1,_⟩:=I.tuple q
    simp only [jC]; exact SeqAt.EqAt.int_tuple a0 t0 p1 (by omega)
   | lst es =>
    obtain ⟨a,xs,rfl,q,rs⟩:=j0 ry
    cases (show u' = Value.ref a from ru')
    obtain ⟨its,r1,p1,_⟩:=I.list q.sq
    simp only [jC]; exact SeqAt.EqAt.int_list a0 t0 p1.isList (by omega)
  | str a0 =>
   cases jap rx
   obtain ⟨t0,rfl⟩:=ru
   cases y with
   | non=>cases jab ry; cases (show u' = Value.none from ru'); simp only [jC]; exact SeqAt.EqAt.str_none a0 t0
   | bl b=>cases jak ry; cases (show u' = Value.bool b from ru'); simp only [jC]; exact SeqAt.EqAt.str_bool a0 t0 b
   | int b=>cases jT ry; obtain ⟨t,rfl⟩:=ru'; simp only [jC]; exact SeqAt.EqAt.str_int a0 t0 b t
   | str b=>cases jap ry; obtain ⟨t,rfl⟩:=ru'; simp only [jC]; exact SeqAt.EqAt.str_str a0 t0 b t
   | tup es =>
    obtain ⟨a,xs,rfl,q,rs⟩:=jU ry
    cases (show u' = Value.ref a from ru')
    obtain ⟨its,r1,p1,_⟩:=I.tuple q
    simp only [jC]; exact SeqAt.EqAt.str_tuple a0 t0 p1 (by omega)
   | lst es =>
    obtain ⟨a,xs,rfl,q,rs⟩:=j0 ry
    cases (show u' = Value.ref a from ru')
    obtain ⟨its,r1,p1,_⟩:=I.list q.sq
    simp only [jC]; exact SeqAt.EqAt.str_list a0 t0 p1.isList (by omega)
 | succ n ih =>
  intro x y v v' u u' A hd hu rx ry ru ru'
  by_cases hx:dep x = 0
  ·exact (show ∀ m,dep x ≤ m->A.units + m < cLine->(∀ (x y:D) (v v':V) (u u':Value) (A:Around),dep x ≤ m->A.units + m < cLine->Rep X.K S H x v->Rep X.K S H y v'->RelV v u->RelV v' u'->SeqAt.EqAt A s u u' (jC x y))->SeqAt.EqAt A s u u' (jC x y) from fun m h1 h2 ih=>ih x y v v' u u' A h1 h2 rx ry ru ru') n (by omega) (by omega) ih
  ·cases x with
   | non=>exact absurd (by simp only [dep]) hx
   | bl b=>exact absurd (by simp only [dep]) hx
   | int b=>exact absurd (by simp only [dep]) hx
   | str b=>exact absurd (by simp only [dep]) hx
   | tup ds =>
    have hds:jdn ds ≤ n:=by simp only [dep] at hd; omega
    have ih':∀ (j:Nat) (x y:D) (v v':V) (u u':Value),ds[j]? = some x->Rep X.K S H x v->Rep X.K S H y v'->RelV v u->RelV v' u'->SeqAt.EqAt A.in1 s u u' (jC x y) :=
     fun j x y v v' u u' e r1 r2 q1 q2=>ih x y v v' u u' A.in1 (Nat.le_trans (jgS e) hds) (by show A.units + 1 + n < cLine; omega) r1 r2 q1 q2
    have rx0:=rx
    obtain ⟨a,xs,rfl,q,rs⟩:=jU rx
    cases (show u = Value.ref a from ru)
    cases y with
    | non=>cases jab ry; cases (show u' = Value.none from ru'); obtain ⟨its,r1,p1,_⟩:=I.tuple q; simp only [jC]; exact SeqAt.EqAt.tuple_none p1 (by omega)
    | bl b=>cases jak ry; cases (show u' = Value.bool b from ru'); obtain ⟨its,r1,p1,_⟩:=I.tuple q; simp only [jC]; exact SeqAt.EqAt.tuple_bool b p1 (by omega)
    | int b=>cases jT ry; obtain ⟨t,rfl⟩:=ru'; obtain ⟨its,r1,p1,_⟩:=I.tuple q; simp only [jC]; exact SeqAt.EqAt.tuple_int b t p1 (by omega)
    | str b=>cases jap ry; obtain ⟨t,rfl⟩:=ru'; obtain ⟨its,r1,p1,_⟩:=I.tuple q; simp only [jC]; exact SeqAt.EqAt.tuple_str b t p1 (by omega)
    | tup es =>
     have ry0:=ry
     obtain ⟨a',xs',rfl,q',rs'⟩:=jU ry
     cases (show u' = Value.ref a' from ru')
     by_cases haa:a = a'
     ·subst haa
      rw [jnd I _ _ _ ry0 rx0,jha]
      exact SeqAt.EqAt.same _
     ·simp only [jC]
      exact SeqAt.EqAt.of_refs haa (jnH (ne:=false) I (by omega) q q' rs rs' ih')
    | lst es =>
     obtain ⟨a',xs',rfl,q',rs'⟩:=j0 ry
     cases (show u' = Value.ref a' from ru')
     obtain ⟨its,r1,p1,_⟩:=I.tuple q
     obtain ⟨its2,r2,p2,_⟩:=I.list q'.sq
     simp only [jC]; exact SeqAt.EqAt.tuple_list p1 p2.isList (by omega)
   | lst ds =>
    have hds:jdn ds ≤ n:=by simp only [dep] at hd; omega
    have ih':∀ (j:Nat) (x y:D) (v v':V) (u u':Value),ds[j]? = some x->Rep X.K S H x v->Rep X.K S H y v'->RelV v u->RelV v' u'->SeqAt.EqAt A.in1 s u u' (jC x y) :=
     fun j x y v v' u u' e r1 r2 q1 q2=>ih x y v v' u u' A.in1 (Nat.le_trans (jgS e) hds) (by show A.units + 1 + n < cLine; omega) r1 r2 q1 q2
    have rx0:=rx
    obtain ⟨a,xs,rfl,q,rs⟩:=j0 rx
    cases (show u = Value.ref a from ru)
    cases y with
    | non=>cases jab ry; cases (show u' = Value.none from ru'); obtain ⟨its,r1,p1,_⟩:=I.list q.sq; simp only [jC]; exact SeqAt.EqAt.list_none p1.isList (by omega)
    | bl b=>cases jak ry; cases (show u' = Value.bool b from ru'); obtain ⟨its,r1,p1,_⟩:=I.list q.sq; simp only [jC]; exact SeqAt.EqAt.list_bool b p1.isList (by omega)
    | int b=>cases jT ry; obtain ⟨t,rfl⟩:=ru'; obtain ⟨its,r1,p1,_⟩:=I.list q.sq; simp only [jC]; exact SeqAt.EqAt.list_int b t p1.isList (by omega)
    | str b=>cases jap ry; obtain ⟨t,rfl⟩:=ru'; obtain ⟨its,r1,p1,_⟩:=I.list q.sq; simp only [jC]; exact SeqAt.EqAt.list_str b t p1.isList (by omega)
    | lst es =>
     have ry0:=ry
     obtain ⟨a',xs',rfl,q',rs'⟩:=j0 ry
     cases (show u' = Value.ref a' from ru')
     by_cases haa:a = a'
     ·subst haa
      rw [jnd I _ _ _ ry0 rx0,jha]
      exact SeqAt.EqAt.same _
     ·simp only [jC]
      exact SeqAt.EqAt.of_refs haa (jqk (ne:=false) I (by omega) q.sq q'.sq rs rs' ih')
    | tup es =>
     obtain ⟨a',xs',rfl,q',rs'⟩:=jU ry
     cases (show u' = Value.ref a' from ru')
     obtain ⟨its,r1,p1,_⟩:=I.list q.sq
     obtain ⟨its2,r2,p2,_⟩:=I.tuple q'
     simp only [jC]; exact SeqAt.EqAt.list_tuple p1.isList p2 (by omega)
theorem jwC {ne:Bool} (I:Inv X pins σ H s) (n:Nat) (x y:D) (v v':V) (u u':Value) (A:Around) (hd:dep x ≤ n) (hu:A.units + n < cLine) (rx:Rep X.K S H x v) (ry:Rep X.K S H y v') (ru:RelV v u) (ru':RelV v' u'):RcQ ne A s u u' (jC x y):=by
 cases x with
 | non =>
  cases jab rx
  cases (show u = Value.none from ru)
  cases y with
  | non=>cases jab ry; cases (show u' = Value.none from ru'); simp only [jC]; cases ne; exact SeqAt.RcAt.none_none; exact SeqAt.RcNeAt.none_none
  | bl b=>cases jak ry; cases (show u' = Value.bool b from ru'); simp only [jC]; cases ne; exact SeqAt.RcAt.none_bool b; exact SeqAt.RcNeAt.none_bool b
  | int b=>cases jT ry; obtain ⟨t,rfl⟩:=ru'; simp only [jC]; cases ne; exact SeqAt.RcAt.none_int b t; exact SeqAt.RcNeAt.none_int b t
  | str b=>cases jap ry; obtain ⟨t,rfl⟩:=ru'; simp only [jC]; cases ne; exact SeqAt.RcAt.none_str b t; exact SeqAt.RcNeAt.none_str b t
  | tup es =>
   obtain ⟨a,xs,rfl,q,rs⟩:=jU ry
   cases (show u' = Value.ref a from ru')
   obtain ⟨its,r1,p1,_⟩:=I.tuple q
   simp only [jC]; cases ne; exact SeqAt.RcAt.none_tuple p1 (by omega); exact SeqAt.RcNeAt.none_tuple p1 (by omega)
  | lst es =>
   obtain ⟨a,xs,rfl,q,rs⟩:=j0 ry
   cases (show u' = Value.ref a from ru')
   obtain ⟨its,r1,p1,_⟩:=I.list q.sq
   simp only [jC]; cases ne; exact SeqAt.RcAt.none_list p1.isList (by omega); exact SeqAt.RcNeAt.none_list p1.isList (by omega)
 | bl a0 =>
  cases jak rx
  cases (show u = Value.bool a0 from ru)
  cases y with
  | non=>cases jab ry; cases (show u' = Value.none from ru'); simp only [jC]; cases ne; exact SeqAt.RcAt.bool_none a0; exact SeqAt.RcNeAt.bool_none a0
  | bl b=>cases jak ry; cases (show u' = Value.bool b from ru'); simp only [jC]; cases ne; exact SeqAt.RcAt.bool_bool a0 b; exact SeqAt.RcNeAt.bool_bool a0 b
  | int b=>cases jT ry; obtain ⟨t,rfl⟩:=ru'; simp only [jC]; cases ne; exact SeqAt.RcAt.bool_int a0 b t; exact SeqAt.RcNeAt.bool_int a0 b t
  | str b=>cases jap ry; obtain ⟨t,rfl⟩:=ru'; simp only [jC]; cases ne; exact SeqAt.RcAt.bool_str a0 b t; exact SeqAt.RcNeAt.bool_str a0 b t
  | tup es =>
   obtain ⟨a,xs,rfl,q,rs⟩:=jU ry
   cases (show u' = Value.ref a from ru')
   obtain ⟨its,r1,p1,_⟩:=I.tuple q
   simp only [jC]; cases ne; exact SeqAt.RcAt.bool_tuple a0 p1 (by omega); exact SeqAt.RcNeAt.bool_tuple a0 p1 (by omega)
  | lst es =>
   obtain ⟨a,xs,rfl,q,rs⟩:=j0 ry
   cases (show u' = Value.ref a from ru')
   obtain ⟨its,r1,p1,_⟩:=I.list q.sq
   simp only [jC]; cases ne; exact SeqAt.RcAt.bool_list a0 p1.isList (by omega); exact SeqAt.RcNeAt.bool_list a0 p1.isList (by omega)
 | int a0 =>
  cases jT rx
  obtain ⟨t0,rfl⟩:=ru
  cases y with
  | non=>cases jab ry; cases (show u' = Value.none from ru'); simp only [jC]; cases ne; exact SeqAt.RcAt.int_none a0 t0; exact SeqAt.RcNeAt.int_none a0 t0
  | bl b=>cases jak ry; cases (show u' = Value.bool b from ru'); simp only [jC]; cases ne; exact SeqAt.RcAt.int_bool a0 t0 b; exact SeqAt.RcNeAt.int_bool a0 t0 b
  | int b=>cases jT ry; obtain ⟨t,rfl⟩:=ru'; simp only [jC]; cases ne; exact SeqAt.RcAt.int_int a0 t0 b t; exact SeqAt.RcNeAt.int_int a0 t0 b t
  | str b=>cases jap ry; obtain ⟨t,rfl⟩:=ru'; simp only [jC]; cases ne; exact SeqAt.RcAt.int_str a0 t0 b t; exact SeqAt.RcNeAt.int_str a0 t0 b t
  | tup es =>
   obtain ⟨a,xs,rfl,q,rs⟩:=jU ry
   cases (show u' = Value.ref a from ru')
   obtain ⟨its,r1,p1,_⟩:=I.tuple q
   simp only [jC]; cases ne; exact SeqAt.RcAt.int_tuple a0 t0 p1 (by omega); exact SeqAt.RcNeAt.int_tuple a0 t0 p1 (by omega)
  | lst es =>
   obtain ⟨a,xs,rfl,q,rs⟩:=j0 ry
   cases (show u' = Value.ref a from ru')
   obtain ⟨its,r1,p1,_⟩:=I.list q.sq
   simp only [jC]; cases ne; exact SeqAt.RcAt.int_list a0 t0 p1.isList (by omega); exact SeqAt.RcNeAt.int_list a0 t0 p1.isList (by omega)
 | str a0 =>
  cases jap rx
  obtain ⟨t0,rfl⟩:=ru
  cases y with
  | non=>cases jab ry; cases (show u' = Value.none from ru'); simp only [jC]; cases ne; exact SeqAt.RcAt.str_none a0 t0; exact SeqAt.RcNeAt.str_none a0 t0
  | bl b=>cases jak ry; cases (show u' = Value.bool b from ru'); simp only [jC]; cases ne; exact SeqAt.RcAt.str_bool a0 t0 b; exact SeqAt.RcNeAt.str_bool a0 t0 b
  | int b=>cases jT ry; obtain ⟨t,rfl⟩:=ru'; simp only [jC]; cases ne; exact SeqAt.RcAt.str_int a0 t0 b t; exact SeqAt.RcNeAt.str_int a0 t0 b t
  | str b=>cases jap ry; obtain ⟨t,rfl⟩:=ru'; simp only [jC]; cases ne; exact SeqAt.RcAt.str_str a0 t0 b t; exact SeqAt.RcNeAt.str_str a0 t0 b t
  | tup es =>
   obtain ⟨a,xs,rfl,q,rs⟩:=jU ry
   cases (show u' = Value.ref a from ru')
   obtain ⟨its,r1,p1,_⟩:=I.tuple q
   simp only [jC]; cases ne; exact SeqAt.RcAt.str_tuple a0 t0 p1 (by omega); exact SeqAt.RcNeAt.str_tuple a0 t0 p1 (by omega)
  | lst es =>
   obtain ⟨a,xs,rfl,q,rs⟩:=j0 ry
   cases (show u' = Value.ref a from ru')
   obtain ⟨its,r1,p1,_⟩:=I.list q.sq
   simp only [jC]; cases ne; exact SeqAt.RcAt.str_list a0 t0 p1.isList (by omega); exact SeqAt.RcNeAt.str_list a0 t0 p1.isList (by omega)
 | tup ds =>
  obtain ⟨m,rfl⟩:∃ m,n = m + 1:=⟨n - 1,by simp only [dep] at hd; omega⟩
  have hds:jdn ds ≤ m:=by simp only [dep] at hd; omega
  have ih':∀ (j:Nat) (x y:D) (v v':V) (u u':Value),ds[j]? = some x->Rep X.K S H x v->Rep X.K S H y v'->RelV v u->RelV v' u'->SeqAt.EqAt A.in1 s u u' (jC x y) :=
   fun j x y v v' u u' e r1 r2 q1 q2=>jtz I m x y v v' u u' A.in1 (Nat.le_trans (jgS e) hds) (by show A.units + 1 + m < cLine; omega) r1 r2 q1 q2
  obtain ⟨a,xs,rfl,q,rs⟩:=jU rx
  cases (show u = Value.ref a from ru)
  cases y with
  | non=>cases jab ry; cases (show u' = Value.none from ru'); obtain ⟨its,r1,p1,_⟩:=I.tuple q; simp only [jC]; cases ne; exact SeqAt.RcAt.tuple_none p1 (by omega); exact SeqAt.RcNeAt.tuple_none p1 (by omega)
  | bl b=>cases jak ry; cases (show u' = Value.bool b from ru'); obtain ⟨its,r1,p1,_⟩:=I.tuple q; simp only [jC]; cases ne; exact SeqAt.RcAt.tuple_bool b p1 (by omega); exact SeqAt.RcNeAt.tuple_bool b p1 (by omega)
  | int b=>cases jT ry; obtain ⟨t,rfl⟩:=ru'; obtain ⟨its,r1,p1,_⟩:=I.tuple q; simp only [jC]; cases ne; exact SeqAt.RcAt.tuple_int b t p1 (by omega); exact SeqAt.RcNeAt.tuple_int b t p1 (by omega)
  | str b=>cases jap ry; obtain ⟨t,rfl⟩:=ru'; obtain ⟨its,r1,p1,_⟩:=I.tuple q; simp only [jC]; cases ne; exact SeqAt.RcAt.tuple_str b t p1 (by omega); exact SeqAt.RcNeAt.tuple_str b t p1 (by omega)
  | tup es =>
   obtain ⟨a',xs',rfl,q',rs'⟩:=jU ry
   cases (show u' = Value.ref a' from ru')
   simp only [jC]
   exact jnH I (by omega) q q' rs rs' ih'
  | lst es =>
   obtain ⟨a',xs',rfl,q',rs'⟩:=j0 ry
   cases (show u' = Value.ref a' from ru')
   obtain ⟨its,r1,p1,_⟩:=I.tuple q
   obtain ⟨its2,r2,p2,_⟩:=I.list q'.sq
   simp only [jC]; cases ne; exact SeqAt.RcAt.tuple_list p1 p2.isList (by omega); exact SeqAt.RcNeAt.tuple_list p1 p2.isList (by omega)
 | lst ds =>
  obtain ⟨m,rfl⟩:∃ m,n = m + 1:=⟨n - 1,by simp only [dep] at hd; omega⟩
  have hds:jdn ds ≤ m:=by simp only [dep] at hd; omega
  have ih':∀ (j:Nat) (x y:D) (v v':V) (u u':Value),ds[j]? = some x->Rep X.K S H x v->Rep X.K S H y v'->RelV v u->RelV v' u'->SeqAt.EqAt A.in1 s u u' (jC x y) :=
   fun j x y v v' u u' e r1 r2 q1 q2=>jtz I m x y v v' u u' A.in1 (Nat.le_trans (jgS e) hds) (by show A.units + 1 + m < cLine; omega) r1 r2 q1 q2
  obtain ⟨a,xs,rfl,q,rs⟩:=j0 rx
  cases (show u = Value.ref a from ru)
  cases y with
  | non=>cases jab ry; cases (show u' = Value.none from ru'); obtain ⟨its,r1,p1,_⟩:=I.list q.sq; simp only [jC]; cases ne; exact SeqAt.RcAt.list_none p1.isList (by omega); exact SeqAt.RcNeAt.list_none p1.isList (by omega)
  | bl b=>cases jak ry; cases (show u' = Value.bool b from ru'); obtain ⟨its,r1,p1,_⟩:=I.list q.sq; simp only [jC]; cases ne; exact SeqAt.RcAt.list_bool b p1.isList (by omega); exact SeqAt.RcNeAt.list_bool b p1.isList (by omega)
  | int b=>cases jT ry; obtain ⟨t,rfl⟩:=ru'; obtain ⟨its,r1,p1,_⟩:=I.list q.sq; simp only [jC]; cases ne; exact SeqAt.RcAt.list_int b t p1.isList (by omega); exact SeqAt.RcNeAt.list_int b t p1.isList (by omega)
  | str b=>cases jap ry; obtain ⟨t,rfl⟩:=ru'; obtain ⟨its,r1,p1,_⟩:=I.list q.sq; simp only [jC]; cases ne; exact SeqAt.RcAt.list_str b t p1.isList (by omega); exact SeqAt.RcNeAt.list_str b t p1.isList (by omega)
  | lst es =>
   obtain ⟨a',xs',rfl,q',rs'⟩:=j0 ry
   cases (show u' = Value.ref a' from ru')
   simp only [jC]
   exact jqk I (by omega) q.sq q'.sq rs rs' ih'
  | tup es =>
   obtain ⟨a',xs',rfl,q',rs'⟩:=jU ry
   cases (show u' = Value.ref a' from ru')
   obtain ⟨its,r1,p1,_⟩:=I.list q.sq
   obtain ⟨its2,r2,p2,_⟩:=I.tuple q'
   simp only [jC]; cases ne; exact SeqAt.RcAt.list_tuple p1.isList p2 (by omega); exact SeqAt.RcNeAt.list_tuple p1.isList p2 (by omega)
end
section
variable {X:Cx}
abbrev jfA:R3:=fun x y Φ=>dep x ≤ 100∧Φ (.bl (jC x y))
abbrev jvB:R3:=fun x y Φ=>dep x ≤ 100∧Φ (.bl (!jC x y))
def rRc (X:Cx) (ne:Bool):R2:=fun u v H Q=>∃ S x y,dep x ≤ 100∧Rep X.K S H x u∧Rep X.K S H y v∧Q (.bl (if ne then !jC x y else jC x y)) H
theorem jyX (hu:X.A.units + 100 < cLine):OpR X (compareOp .Eq) (rRc X false):=by
 intro pins s σ H x y v u Q I rx ry h
 obtain ⟨S,d,e,hd,r1,r2,q⟩:=h
 exact jwC (ne:=false) I 100 d e x y v u X.A hd hu r1 r2 rx ry X.prog X.w _ _ ⟨.bl _,H,I,rfl,q⟩
theorem jy0 (hu:X.A.units + 100 < cLine):OpR X (compareOp .NotEq) (rRc X true):=by
 intro pins s σ H x y v u Q I rx ry h
 obtain ⟨S,d,e,hd,r1,r2,q⟩:=h
 exact jwC (ne:=true) I 100 d e x y v u X.A hd hu r1 r2 rx ry X.prog X.w _ _ ⟨.bl _,H,I,rfl,q⟩
theorem jey (hu:X.A.units + 100 < cLine):OpD X (compareOp .Eq) jfA:=⟨_,jyX hu,fun S H x y u v Φ Q so rx ry hr hd=>⟨S,x,y,hr.1,rx,ry,hd _ _ H hr.2 (Same.refl _) Rep.bl⟩⟩
theorem jv8 (hu:X.A.units + 100 < cLine):OpD X (compareOp .NotEq) jvB:=⟨_,jy0 hu,fun S H x y u v Φ Q so rx ry hr hd=>⟨S,x,y,hr.1,rx,ry,hd _ _ H hr.2 (Same.refl _) Rep.bl⟩⟩
theorem hu3 {A:Around} {k:Nat} (hr:Room k A):A.units + 100 < cLine:=by have:=hr.un; omega
end
section
variable {X:Cx}
def jwA:D->Bool
 | .non=>true
 | _=>false
abbrev jyz:R3
 | x,.non,Φ=>Φ (.bl (jwA x))
 | _,_,_=>False
theorem jxz {K:PySem.W.Frag} {S:Addr->Prop} {H:Hp} {x:D} {v:V} (r:Rep K S H x v):decide (v = .non) = jwA x:=by
 cases x with
 | non=>cases jab r; rfl
 | bl b=>cases jak r; rfl
 | int b=>cases jT r; rfl
 | str b=>cases jap r; rfl
 | tup b=>obtain ⟨a,xs,rfl,_⟩:=jU r; rfl
 | lst b=>obtain ⟨a,xs,rfl,_⟩:=j0 r; rfl
theorem jzI:OpD X (compareOp .Is) jyz:=⟨_,jyH,fun S H x y u v Φ Q so rx ry hr hd=>by
 cases y <;> first | exact hr.elim | skip
 refine ⟨jab ry,?_⟩
 rw [jxz rx]
 exact hd _ _ H hr (Same.refl _) Rep.bl⟩
abbrev jyU:R3
 | .tup ds,.tup es,Φ=>∃ ns ms:List Int,ds = ns.map .int∧es = ms.map .int∧Φ (.bl (HT.lexLt ns ms))
 | _,_,_=>False
theorem jAg (hu:X.A.units + 100 < cLine):OpD X (compareOp .Lt) jyU:=⟨_,jzG (Nat.lt_of_le_of_lt (Nat.le_add_right _ _) hu),fun S H x y u v Φ Q so rx ry hr hd=>by
 match x,y,hr with
 | .tup ds,.tup es,⟨ns,ms,e1,e2,h⟩ =>
  subst e1 e2
  obtain ⟨a,xs,rfl,q,rs⟩:=jU rx
  obtain ⟨a',xs',rfl,q',rs'⟩:=jU ry
  cases rs.intsV
  cases rs'.intsV
  exact ⟨a,a',ns,ms,rfl,rfl,q,q',hd _ _ H h (Same.refl _) Rep.bl⟩⟩
section
open PySem.MeetsSeq PySem.AutoSeq1
theorem jqL (l b:Addr) (items2:Array Value) (n n2:Nat) (dd dd2:Option Addr) (sl sl2:Array (Option Value)) :
  Meets (Builtin.«tuple.__add__» ⟨[.ref l,.ref b],[]⟩) (fun _ R s=>s.heap.get? l = some { cls:=.type "tuple",dict:=dd,data:=.seq #[] n,slots:=sl }∧s.heap.get? b = some { cls:=.type "tuple",dict:=dd2,data:=.seq items2 n2,slots:=sl2 }∧R (.ok (.ret (Value.ref b))) s) :=
 .of_wp fun prog w A R s h=>by obtain ⟨hp,g,d,tk,os⟩:=s; obtain ⟨hl,hb,h⟩:=h; have f1:=AutoSeq1.idx_int; have f2:=AutoSeq1.sub_tuple_tuple; wp_walk using wpAny_loadPart' hl,wpAny_loadPart' hb; exact ⟨_,rfl,h⟩
theorem jvx {prog:Program} {w:World} {A:Around} {E:Value->Shared->Prop} {s:Shared} {t b:Addr} {ws:List Value} {Q:Value->Shared->Prop} (ht:IsTup s.heap t (#[]:Array Value)) (hb:IsTup s.heap b ws.toArray)
  (h:Q (.ref b) s):wpAny (model prog w) A (binaryOp .Add (.ref t) (.ref b)) Q E s:=by
 obtain ⟨⟨cls,dd,data,sl⟩,ho,hc,n,hd⟩:=id ht
 obtain ⟨⟨cls2,dd2,data2,sl2⟩,ho2,hc2,n2,hd2⟩:=id hb
 simp only at hc hd hc2 hd2
 subst hc hd hc2 hd2
 exact concat_meets ⟨_,ho,rfl⟩ ⟨_,ho2,rfl⟩ noFill_tuple_add seq_tuple_add PySem.F.slot_tuple_add PySem.F.entry_tuple_add (PySem.F.args_tuple_add_2 _ _) (jqL t b ws.toArray n n2 dd dd2 sl sl2) ⟨ho,ho2,h⟩
end
abbrev jjj:R3
 | .tup ds,.tup es,Φ=>ds.length + es.length ≤ sizeLine∧Φ (.tup (ds ++ es))
 | _,_,_=>False
def jzZ (K:PySem.W.Frag):R2:=fun x y H Q=>∃ a b ys,x = .ref a∧y = .ref b∧SqT K H a []∧SqT K H b ys∧Q (.ref b) H
theorem op_cat0:OpR X (binaryOp .Add) (jzZ X.K):=by
 intro pins s σ H x y v u Q I rx ry h
 obtain ⟨a,b,ys,rfl,rfl,ha,hb,q⟩:=h
 cases rx
 cases ry
 obtain ⟨its,r1,p1,_⟩:=I.tuple ha
 obtain ⟨its2,r2,p2,_⟩:=I.tuple hb
 cases r1
 exact jvx p1 p2 ⟨.ref b,H,I,rfl,q⟩
theorem OpR.or {f:Value->Value->Sem Value} {r r':R2} (h:OpR X f r) (h':OpR X f r'):OpR X f (fun x y H Q=>r x y H Q ∨ r' x y H Q):=fun pins s σ H x y v u Q I rx ry q=>q.elim (h pins s σ H x y v u Q I rx ry) (h' pins s σ H x y v u Q I rx ry)
theorem jil:OpD X (binaryOp .Add) jjj:=⟨_,op_cat0.or jxP,fun S H x y u v Φ Q so rx ry hr hd=>by
 match x,y,hr with
 | .tup ds,.tup es,⟨hz,h⟩ =>
  obtain ⟨a,xs,rfl,q,rs⟩:=jU rx
  obtain ⟨a',xs',rfl,q',rs'⟩:=jU ry
  cases ds with
  | nil =>
   simp only [Reps] at rs
   subst rs
   exact .inl ⟨a,a',xs',rfl,rfl,q,q',hd _ _ H h (Same.refl _) (Rep.tup q' rs')⟩
  | cons d ds =>
   refine .inr ⟨a,a',xs,xs',rfl,rfl,q,q',?_,by rw [← rs.len,← rs'.len]; exact hz,fun z=>?_,fun z p hp=>hd _ _ _ h (jaP hp) (Rep.newTup hp (rs.app rs'))⟩
   ·rintro rfl
    simp [Reps] at rs
   ·subst z
    have:es = []:=by
     cases es with
     | nil=>rfl
     | cons _ _=>simp [Reps] at rs'
    subst this
    rw [List.append_nil] at h
    exact hd _ _ H h (Same.refl _) (Rep.tup q rs)⟩
theorem jpl:∀ bs:List Bool,(List.range bs.length).all (fun i=>bs.getD i true) = bs.all id
 | []=>rfl
 | b :: bs=>by
  rw [List.length_cons,List.range_succ_eq_map,List.all_cons,List.all_map,List.all_cons,← jpl bs]
  rfl
theorem juq (hc:X.calm = true):CallR X (.builtin "all") (fun xs H Q=>∃ (p:Addr) (bs:List Bool),xs = [.ref p]∧SqL X.K H p (bs.map V.bl)∧Q (.bl (bs.all id)) H):=by
 intro pins s σ H xs us Q I r h
 obtain ⟨p,bs,rfl,hq,q⟩:=h
 obtain ⟨u,rfl,rx⟩:=jdG r
 cases rx
 obtain ⟨its,r',pl,hz⟩:=I.list hq
 have hl:=pl.isList
 refine call_all_walk (wpAny_pyIter_list hl ?_)
 have hne:p ≠ s.heap.objs.size:=by
  rintro rfl
  obtain ⟨o,e,_⟩:=hl
  rw [Heap.get?_none_of_le (Nat.le_refl _)] at e
  cases e
 have hlen:its.length = bs.length:=by rw [← r'.length]; simp
 refine ⟨_,_,_,_,_,_,fun i=>bs.getD i true,rfl,Walks.list (A:=X.A.in1) (I.ok.hd hc) _ p hne its.toArray,⟨⟨_,Heap.get?_push_size _ rfl,rfl,rfl⟩,hl.at fun o e=>Heap.get?_push_of_some _ e⟩,?_,fun h' tk hk=>?_⟩
 ·intro i v s' Q' E' hv hQ'
  have hv:its[i]? = some v:=by simpa using hv
  have hi:i < bs.length:=by rw [← hlen]; exact (List.getElem?_eq_some_iff.mp hv).1
  obtain ⟨u,eu,ru⟩:=r'.get (i:=i) (x:=V.bl bs[i]) (by simp [hi])
  rw [hv] at eu
  cases eu
  cases (show v = Value.bool bs[i] from ru)
  have e:bs.getD i true = bs[i]:=by rw [List.getD_eq_getElem?_getD]; simp [hi]
  have hQ'':Q' (bs.getD i true) s':=hQ'
  rw [e] at hQ''
  exact wpAny_truthy_bool hQ''
 ·refine ⟨.bl _,H,I.kept (h':=h') (t':=tk) fun b o e=>?_,rfl,?_⟩
  ·refine hk b o ?_ (Heap.get?_push_of_some _ e)
   intro hb
   have:b = s.heap.objs.size:=by simpa using hb
   subst this
   rw [Heap.get?_none_of_le (Nat.le_refl _)] at e
   cases e
  ·have e:(List.range its.toArray.size).all (fun i=>bs.getD i true) = bs.all id:=by
    rw [List.size_toArray,hlen]
    exact jpl bs
   rw [e]
   exact q
abbrev jsS:jK
 | [.lst ds],Φ=>∃ bs:List Bool,ds = bs.map .bl∧Φ (.bl (bs.all id))
 | _,_=>False
theorem Reps.blsV {K:PySem.W.Frag} {S:Addr->Prop} {H:Hp}:∀ {ns:List Bool} {vs:List V},Reps K S H (ns.map D.bl) vs->vs = ns.map V.bl
 | [],vs,h=>by simpa only [List.map_nil,Reps] using h
 | n :: ns,vs,h=>by
  simp only [List.map_cons,Reps,Rep] at h
  obtain ⟨x,r,rfl,rfl,t⟩:=h
  rw [Reps.blsV t,List.map_cons]
theorem jwL (hc:X.calm = true):jb8 X (.builtin "all") jsS:=⟨_,juq hc,fun S H ds vs Φ Q so r h hd=>by
 match ds,h with
 | [.lst ds],⟨bs,e,h⟩ =>
  subst e
  simp only [Reps] at r
  obtain ⟨v,_,rfl,rv,rfl⟩:=r
  obtain ⟨a,xs,rfl,lr,rs⟩:=j0 rv
  have:=rs.blsV
  subst this
  exact ⟨a,bs,rfl,lr.sq,hd _ _ H h (Same.refl _) Rep.bl⟩⟩
def jzJ (K:PySem.W.Frag) (tl:TE):TI:=fun σ H R=>tl σ H fun x H1=>∃ a,x = .ref a∧(((∃ xs,SqL K H1 a xs)∧R (Itl K a) H1) ∨ ((∃ xs,SqT K H1 a xs)∧R (Itt K a) H1))
theorem jy8 {tg l:Expr} {tl:TE} (hl:PE X l tl):PI X tg l (jzJ X.K tl):=by
 intro pins s σ H R I h
 refine jF (hl pins s σ H _ I h) fun v s1 qZ=>?_
 obtain ⟨x,H1,I1,r1,q1⟩:=qZ
 obtain ⟨a,e,q1⟩:=q1
 subst e
 cases r1
 rcases q1 with ⟨⟨xs,hq⟩,q⟩ | ⟨⟨xs,hq⟩,q⟩
 ·obtain ⟨its,rv,p,hz⟩:=I1.list hq
  refine wpAny_pyIter_list p.isList ?_
  refine ⟨s1.heap.objs.size,[s1.heap.objs.size],_,_,H1,rfl,I1.kept (t':=s1.toks) fun b o e=>Heap.get?_push_of_some _ e,jtN a _,⟨_,Heap.get?_push_size _ rfl,rfl,rfl⟩,fun b hb=>?_,q⟩
  have e:b = s1.heap.objs.size:=by simpa using hb
  subst e
  exact I1.fpOk (Nat.le_refl _) (I1.hok.fresh (Nat.le_refl _))
 ·obtain ⟨its,rv,p,hz⟩:=I1.tuple hq
  refine wpAny_pyIter_tuple (show s1.heap.IsTuple a its.toArray from p) ?_
  refine ⟨s1.heap.objs.size,[s1.heap.objs.size],_,_,H1,rfl,I1.kept (t':=s1.toks) fun b o e=>Heap.get?_push_of_some _ e,jlv a _,⟨_,Heap.get?_push_size _ rfl,rfl,rfl⟩,fun b hb=>?_,q⟩
  have e:b = s1.heap.objs.size:=by simpa using hb
  subst e
  exact I1.fpOk (Nat.le_refl _) (I1.hok.fresh (Nat.le_refl _))
abbrev iLT (te:E3):A3:=fun ρ Φ=>te ρ fun d=>match d with | .lst ds=>Φ ds | .tup ds=>Φ ds | _=>False
theorem jaR {tg e:Expr} {te:E3} (he:PD X e te):PID X tg e (iLT te):=by
 obtain ⟨t2,h,w⟩:=he
 refine PID.one ⟨_,jy8 h,fun B S H σ ρ Φ R er q k=>w B S H σ ρ _ _ er q fun d v H1 p s r=>?_⟩
 cases d <;> first | exact p.elim | skip
 ·rename_i ds
  obtain ⟨a,xs,rfl,lr,rs⟩:=jU r
  refine ⟨a,rfl,.inr ⟨⟨xs,lr⟩,k ds _ _ _ H1 p s r fun S2 H2 r2=>?_⟩⟩
  obtain ⟨a2,xs2,e2,lr2,rs2⟩:=jU r2
  cases e2
  refine ⟨⟨xs2,lr2,by rw [rs2.len]; exact Nat.le_refl _⟩,fun i hi=>?_⟩
  have hi2:i < xs2.length:=by rw [← rs2.len]; exact hi
  refine ⟨⟨xs2,xs2[i],lr2,by simp [hi2]⟩,fun x H' y=>?_⟩
  obtain ⟨rfl,y⟩:=y
  obtain ⟨c,ec,rc⟩:=rs2.getV (y xs2 lr2)
  exact ⟨rfl,c,ec,rc⟩
 ·rename_i ds
  obtain ⟨a,xs,rfl,lr,rs⟩:=j0 r
  refine ⟨a,rfl,.inl ⟨⟨xs,lr.sq⟩,k ds _ _ _ H1 p s r fun S2 H2 r2=>?_⟩⟩
  obtain ⟨a2,xs2,e2,lr2,rs2⟩:=j0 r2
  cases e2
  refine ⟨⟨xs2,lr2.sq,by rw [rs2.len]; exact Nat.le_refl _⟩,fun i hi=>?_⟩
  have hi2:i < xs2.length:=by rw [← rs2.len]; exact hi
  refine ⟨⟨xs2,xs2[i],lr2.sq,by simp [hi2]⟩,fun x H' y=>?_⟩
  obtain ⟨rfl,y⟩:=y
  obtain ⟨c,ec,rc⟩:=rs2.getV (y xs2 lr2.sq)
  exact ⟨rfl,c,ec,rc⟩
end
section
variable {X:Cx} {pos:Pos}
structure jea (K:PySem.W.Frag) (d:D) (v:V) (u:Value):Prop where
 r:RelV v u
 d:∀ S H,Rep K S H d v
theorem jkK {x:Str} {v:V} {u:Value} {d:D} (hg:Gl X x) (hm:X.mg x = some u) (c:jea X.K d v u) (hdb:(x == ("__debug__":Str)) = false:=by decide):PD X (.Name x pos) (dC d) :=
 ⟨_,jgN hg hm c.r hdb,fun B S H σ ρ Φ Q er q hd=>hd d v H q (Same.refl _) (c.d S H)⟩
theorem jxr {K:PySem.W.Frag} {f:Addr} {od:Option Addr} {its:Array Value} {n:Nat} {sl:Array (Option Value)} {ns:List Int} (l:K.lookup f = some ⟨.type "tuple",od,.seq its n,sl⟩) (hz:its.size ≤ sizeLine) (hv:Vals (ns.map V.int) its.toList):jea K (.tup (ns.map D.int)) (.ref f) (.ref f) :=
 ⟨rfl,fun S H=>Rep.tup (.inr ⟨_,its,n,l,rfl,rfl,hz,hv⟩) (Reps.ints ns)⟩
theorem ja5:Vals [] []:=.nil
theorem jeR {i:Int} {t:Tok} {ns:List Int} {us:List Value} (h:Vals (ns.map V.int) us):Vals ((i :: ns).map V.int) (.int i t :: us):=.cons ⟨t,rfl⟩ h
theorem jvz {prog:Program} {w:World} {A:Around} {E:Value->Shared->Prop} {s:Shared} {l:Addr} {its:List Value} {Q:Value->Shared->Prop} (hh:A.handled = none) (hl:PlainL s.heap l its.toArray ∨ IsTup s.heap l its.toArray)
  (h:∀ s₂:Shared,(∀ b o,s.heap.get? b = some o->s₂.heap.get? b = some o)->s₂ = { s with heap:=s₂.heap }->∀ St,Walks prog w A s.heap.objs.size [s.heap.objs.size,l] [s.heap.objs.size] its.length (fun i v=>its[i]? = some v) St->St 0 s₂.heap->(∀ b ∈ [s.heap.objs.size,l],b < s₂.heap.objs.size)->Q (.ref s.heap.objs.size) s₂) :
  wpAny (model prog w) A (pyIter (.ref l)) Q E s:=by
 have hlt:l < s.heap.objs.size:=by
  rcases hl with hl | hl
  ·obtain ⟨_,_,e,_⟩:=hl; exact Heap.lt_size e
  ·obtain ⟨_,e,_⟩:=hl; exact Heap.lt_size e
 have hsz:∀ o:Obj,∀ b ∈ [s.heap.objs.size,l],b < (s.heap.push o).objs.size:=fun o b hb=>by
  rw [Heap.size_push]
  simp only [List.mem_cons,List.not_mem_nil,or_false] at hb
  rcases hb with rfl | rfl
  ·exact Nat.lt_succ_self _
  ·exact Nat.lt_succ_of_lt hlt
 rcases hl with hl | hl
 ·refine wpAny_pyIter_list hl.isList (h _ (fun b o e=>Heap.get?_push_of_some _ e) rfl (fun i h=>h.IsListIter s.heap.objs.size l i∧h.IsList l its.toArray) ?_ ⟨⟨_,Heap.get?_push_size _ rfl,rfl,rfl⟩,hl.isList.at fun o e=>Heap.get?_push_of_some _ e⟩ (hsz _))
  have:=Walks.list (prog:=prog) (w:=w) (A:=A) hh s.heap.objs.size l (Nat.ne_of_lt hlt) its.toArray
  simpa using this
 ·refine wpAny_pyIter_tuple (show s.heap.IsTuple l its.toArray from hl) (h _ (fun b o e=>Heap.get?_push_of_some _ e) rfl (fun i h=>h.IsTupleIter s.heap.objs.size l i∧h.IsTuple l its.toArray) ?_ ⟨⟨_,Heap.get?_push_size _ rfl,rfl,rfl⟩,(show s.heap.IsTuple l its.toArray from hl).at fun o e=>Heap.get?_push_of_some _ e⟩ (hsz _))
  have:=Walks.tuple (prog:=prog) (w:=w) (A:=A) hh s.heap.objs.size l (Nat.ne_of_lt hlt) its.toArray
  simpa using this
theorem jlq (bt:Nat->Nat->Bool):∀ k,argBest bt k ≤ k
 | 0=>Nat.le_refl 0
 | k + 1=>by
  unfold argBest
  split
  ·exact Nat.le_refl _
  ·exact Nat.le_succ_of_le (jlq bt k)
theorem jfF (val:Nat->Int):∀ k i,i ≤ k->val i ≤ val (argBest (fun i j=>decide (val i > val j)) k)
 | 0,i,h=>by
  have:i = 0:=Nat.le_zero.mp h
  subst this; exact Int.le_refl _
 | k + 1,i,h=>by
  unfold argBest
  by_cases hb:val (k + 1) > val (argBest (fun i j=>decide (val i > val j)) k)
  ·rw [if_pos (decide_eq_true hb)]
   rcases Nat.lt_or_eq_of_le h with q | q
   ·have:=jfF val k i (by omega); omega
   ·subst q; exact Int.le_refl _
  ·rw [if_neg (by rw [decide_eq_true_eq]; exact hb)]
   rcases Nat.lt_or_eq_of_le h with q | q
   ·exact jfF val k i (by omega)
   ·subst q; omega
theorem jq9 {ns:List Int} {its:List Value} (r:Vals (ns.map V.int) its):∀ (i:Nat) (v:Value),its[i]? = some v->∃ t,v = Value.int (ns.getD i 0) t:=fun i v e=>by
 have hi:i < ns.length:=by
  have:=(List.getElem?_eq_some_iff.mp e).1
  have l:=Vals.length r
  rw [List.length_map] at l
  omega
 obtain ⟨u,eu,ru⟩:=Vals.get (i:=i) (x:=V.int ns[i]) r (by simp [hi])
 rw [e] at eu
 cases eu
 obtain ⟨t,rfl⟩:=ru
 exact ⟨t,by rw [List.getD_eq_getElem?_getD]; simp [hi]⟩
theorem js3 (hc:X.calm = true):CallR X (.builtin "max") (fun xs H Q=>∃ (p:Addr) (ns:List Int),xs = [.ref p]∧(SqL X.K H p (ns.map V.int) ∨ SqT X.K H p (ns.map V.int))∧ns ≠ []∧∀ m ∈ ns,(∀ x ∈ ns,x ≤ m)->Q (.int m) H):=by
 intro pins s σ H xs us Q I r h
 obtain ⟨p,ns,rfl,hq,hne,q⟩:=h
 obtain ⟨u,rfl,rx⟩:=jdG r
 cases rx
 have hI:∃ its:List Value,Vals (ns.map V.int) its∧(PlainL s.heap p its.toArray ∨ IsTup s.heap p its.toArray):=by
  rcases hq with hq | hq
  ·obtain ⟨its,r',pl,_⟩:=I.list hq; exact ⟨its,r',.inl pl⟩
  ·obtain ⟨its,r',pl,_⟩:=I.tuple hq; exact ⟨its,r',.inr pl⟩
 obtain ⟨its,r',pl⟩:=hI
 have hlen:its.length = ns.length:=by rw [← r'.length,List.length_map]
 have hpos:0 < ns.length:=by cases ns with | nil=>exact absurd rfl hne | cons _ _=>simp
 refine call_max_walk (jvz (I.ok.hd hc) pl fun s₂ hk e St W st hfp=>?_)
 refine ⟨_,_,_,_,_,St,_,rfl,W,st,hfp,by rw [hlen]; exact hpos,CmpOf.ints_gt (fun i=>ns.getD i 0) (jq9 r'),fun v h' tk hP hk'=>?_⟩
 obtain ⟨t,rfl⟩:=jq9 r' _ _ hP
 have hb:=jlq (fun i j=>decide (ns.getD i 0 > ns.getD j 0)) (its.length - 1)
 have hi:argBest (fun i j=>decide (ns.getD i 0 > ns.getD j 0)) (its.length - 1) < ns.length:=by omega
 rw [e]
 refine ⟨.int _,H,I.kept (h':=h') (t':=tk) fun b o eb=>hk' b o ?_ (hk b o eb),⟨t,rfl⟩,q _ ?_ ?_⟩
 ·intro hm
  have:b = s.heap.objs.size:=by simpa using hm
  subst this
  rw [Heap.get?_none_of_le (Nat.le_refl _)] at eb
  cases eb
 ·rw [List.getD_eq_getElem?_getD,List.getElem?_eq_getElem hi]
  exact List.getElem_mem _
 ·intro x hx
  obtain ⟨j,hj,rfl⟩:=List.getElem_of_mem hx
  have:=jfF (fun i=>ns.getD i 0) (its.length - 1) j (by omega)
  have e2:ns.getD j 0 = ns[j]:=by rw [List.getD_eq_getElem?_getD]; simp [hj]
  rw [e2] at this
  exact this
abbrev jwx:jK
 | [.lst ds],Φ=>∃ ns:List Int,ds = ns.map .int∧ns ≠ []∧∀ m ∈ ns,(∀ x ∈ ns,x ≤ m)->Φ (.int m)
 | [.tup ds],Φ=>∃ ns:List Int,ds = ns.map .int∧ns ≠ []∧∀ m ∈ ns,(∀ x ∈ ns,x ≤ m)->Φ (.int m)
 | _,_=>False
theorem jyp (hc:X.calm = true):jb8 X (.builtin "max") jwx:=⟨_,js3 hc,fun S H ds vs Φ Q so r h hd=>by
 match ds,h with
 | [.lst ds],⟨ns,e,hne,h⟩ =>
  subst e
  simp only [Reps] at r
  obtain ⟨v,_,rfl,rv,rfl⟩:=r
  obtain ⟨a,xs,rfl,lr,rs⟩:=j0 rv
  have:=rs.intsV
  subst this
  exact ⟨a,ns,rfl,.inl lr.sq,hne,fun m hm hx=>hd _ _ H (h m hm hx) (Same.refl _) Rep.int⟩
 | [.tup ds],⟨ns,e,hne,h⟩ =>
  subst e
  simp only [Reps] at r
  obtain ⟨v,_,rfl,rv,rfl⟩:=r
  obtain ⟨a,xs,rfl,lr,rs⟩:=jU rv
  have:=rs.intsV
  subst this
  exact ⟨a,ns,rfl,.inr lr,hne,fun m hm hx=>hd _ _ H (h m hm hx) (Same.refl _) Rep.int⟩⟩
end
section
variable {X:Cx} {pins:List (Addr × Obj)} {σ:L2.St} {k:Nat} {f:Addr} {fd:FuncData} {ps:List Str} {C:jK}
theorem Inv.moved {a:Addr} {o:Obj} {H:Hp} {s:Shared} {h':Heap} {jR:List (Addr × Obj)} (I:Inv X (pins ++ jR) σ H s) (hp:(a,o) ∈ jR) (ha:X.s₀.heap.objs.size ≤ a) {keep:List (Addr × Obj)} (hk:∀ p ∈ keep,p ∈ pins ++ jR) (hne:∀ p ∈ X.pn ++ keep,p.1 ≠ a)
  (hs:∀ b u,b ≠ a->s.heap.get? b = some u->h'.get? b = some u):Inv X keep σ H { s with heap:=h' }:=by
 have q:=I.pin (a,o) (List.mem_append_right _ (List.mem_append_right _ hp))
 have I1:Inv X keep σ H s:=I.pins_of fun p z=>I.pin p (List.mem_append_right _ (hk p z))
 refine I1.turned (t':=s.toks) hs q.2.1 q.2.2.1 (.inr ha) (fun x c e z=>?_) hne
 obtain ⟨v,u,hu,hd⟩:=I.cell x c e
 rw [z,q.1] at hu
 cases hu
 exact q.2.2.2.2 v hd
theorem jqd {H:Hp} {s:Shared} {u:Value} {x:V} {d:D} {n:Int} {S:Addr->Prop} (F:FnOk X.prog X.w X.K X.mg X.base jS k f fd ps (j2 X.K 1 C)) (mo:jO C) (hr:Room (k + 1) X.A) (hb:Binds X.K fd ps [])
  (I:Inv X pins σ H s) (r:RelV x u) (rd:Rep X.K S H d x) (so:SOk S H) (hc:C [d] fun e=>e = .int n) :
  wpAny (model X.prog X.w) X.A.in1 (call (.ref f) [u]) (fun v s'=>∃ t H',v = .int n t∧Inv X pins σ H' s'∧Same H H') (fun _ _=>False) s:=by
 have h:j2 X.K 1 C [x] H (fun v H'=>v = .int n∧Same H H') E0:=⟨[d],S,rfl,Reps.cons rd Reps.nil,so,mo _ _ _ (fun e he v H' s r'=>by
  subst he
  simp only [Rep] at r'
  exact ⟨r',s⟩) hc⟩
 have hl:[u].length = ps.length:=F.len _ _ _ _ h
 refine wpAny_call (codeAny_mono (F.run X.A.in1 X.stack s H ⟨[u],[]⟩ [u] [x] _ E0 hr.in1 I.env0.in1 (hb s [u] I.kIn hl) (.cons r .nil) h) fun r s' hq=>?_)
 cases r with
 | error e=>exact False.elim hq
 | ok fl =>
  cases fl with
  | ret u=>
   obtain ⟨v,H',I',rv,e,sm⟩:=I.after hq
   subst e
   obtain ⟨t,rfl⟩:=rv
   exact ⟨t,H',rfl,I',sm⟩
  | next=>exact False.elim hq
  | brk=>exact False.elim hq
  | cont=>exact False.elim hq
variable {l Ia Sa:Addr} {H0:Hp} {xs:List V} {ds:List D} {ks:List Int} {S:Addr->Prop} {R:Result->Shared->Prop}
theorem jt3 (F:FnOk X.prog X.w X.K X.mg X.base jS k f fd ps (j2 X.K 1 C)) (mo:jO C) (hr:Room (k + 1) X.A) (hb:Binds X.K fd ps []) (hcalm:X.calm = true)
  (hq:SqL X.K H0 l xs) (rd:Reps X.K S H0 ds xs) (so:SOk S H0) (hlen:ks.length = xs.length) (hC:∀ (i:Nat) d n,ds[i]? = some d->ks[i]? = some n->C [d] fun e=>e = .int n)
  (hSI:Sa ≠ Ia) (haS:X.s₀.heap.objs.size ≤ Sa) (haI:X.s₀.heap.objs.size ≤ Ia) (hnS:∀ p ∈ X.pn ++ pins,p.1 ≠ Sa) (hnI:∀ p ∈ X.pn ++ pins,p.1 ≠ Ia)
  (hR:∀ (i:Nat) x v n H s,xs[i]? = some x->RelV x v->ks[i]? = some n->(∀ m ∈ ks,m ≤ n)->Inv X pins σ H s->Same H0 H->R (.ok (.ret v)) s) :
  ∀ (r j i:Nat) (H:Hp) (s:Shared) (xb:V) (vb:Value) (nb:Int) (tb:Tok) (c:Nat) (oI:Obj),xs.length - (j + 1) = r->j + 1 ≤ xs.length ->
   Inv X (pins ++ [(Sa,seqObj "list" #[vb,.int nb tb] c),(Ia,oI)]) σ H s->Same H0 H->s.heap.IsListIter Ia l (j + 1)->xs[i]? = some xb->RelV xb vb->ks[i]? = some nb->(∀ (j':Nat) m,j' ≤ j->ks[j']? = some m->m ≤ nb) ->
   codeAny (model X.prog X.w) X.A (.builtin "max.loop" ⟨[.ref Ia,.ref f,.ref Sa],[]⟩) R s:=by
 have hname:(toString "max" ++ toString ".loop":String) = "max.loop":=by decide
 intro r
 induction r with
 | zero =>
  intro j i H s xb vb nb tb c oI hrr hj I sm hit hxb rvb hnb hbest
  have hin:j + 1 = xs.length:=by omega
  have nS:=I.pin (Sa,seqObj "list" #[vb,.int nb tb] c) (by simp)
  obtain ⟨its,rv,p,hz⟩:=I.list (sm.seq hq)
  have hl:=rv.length
  refine codeAny_builtin PySem.F.entry_max_loop ?_
  rw [Around.under_plainId PySem.F.plain_max_loop _]
  show wpAny _ X.A.in1 (seqItems? (.ref Sa) >>= _) _ _ _
  refine wpAny_bind (wpAny_seqItems nS.1 rfl ?_)
  show wpAny _ X.A.in1 (tryCatch (pyNext (.ref Ia)) _ >>= _) _ _ _
  refine wpAny_bind (wpAny_tryCatch (wpAny_pyNext_list_end (I.ok.hd hcalm) hit p.isList (by simp; omega) fun h' eb=>?_))
  have I1:Inv X (pins ++ [(Sa,seqObj "list" #[vb,.int nb tb] c)]) σ H { s with heap:=h' }:=Inv.moved (a:=Ia) (o:=oI) I (by simp) haI (fun p hp=>by
   rcases List.mem_append.mp hp with z | z
   ·exact List.mem_append_left _ z
   ·exact List.mem_append_right _ (by simp at z; simp [z])) (fun p hp=>by
   rcases List.mem_append.mp hp with z | z
   ·exact hnI p (List.mem_append_left _ z)
   ·rcases List.mem_append.mp z with z | z
    ·exact hnI p (List.mem_append_right _ z)
    ·have:p.1 = Sa:=by simp at z; rw [z]
     rw [this]; exact hSI) eb
  have nS1:=I1.pin (Sa,seqObj "list" #[vb,.int nb tb] c) (by simp)
  have s1:=Heap.SameBut.update h' Sa (Obj.mapSeq fun _=>(#[]:Array Value))
  show wpAny _ X.A.in1 (updateSeq Sa (fun _=>#[]) >>= _) _ _ _
  refine wpAny_bind ?_
  refine wpAny_updateSeq nS1.1 rfl (wpAny_bind (wpAny_letGo (wpAny_pure ?_)))
  have I2:Inv X pins σ H { s with heap:=h'.update Sa (Obj.mapSeq fun _=>(#[]:Array Value)) }:=Inv.moved (a:=Sa) (o:=seqObj "list" #[vb,.int nb tb] c) I1 (by simp) haS (fun p hp=>List.mem_append_left _ hp) hnS fun b u hbs e=>(s1.2 b hbs).trans e
  refine hR i xb vb nb H _ hxb rvb hnb (fun m hm=>?_) I2 sm
  obtain ⟨j',hj',rfl⟩:=List.getElem_of_mem hm
  exact hbest j' _ (by omega) (by simp [hj'])
 | succ r ih =>
  intro j i H s xb vb nb tb c oI hrr hj I sm hit hxb rvb hnb hbest
  have hlt:j + 1 < xs.length:=by omega
  have nS:=I.pin (Sa,seqObj "list" #[vb,.int nb tb] c) (by simp)
  obtain ⟨its,rv,p,hz⟩:=I.list (sm.seq hq)
  have hl:=rv.length
  obtain ⟨x,hx⟩:∃ x,xs[j + 1]? = some x:=⟨xs[j + 1],by simp [hlt]⟩
  obtain ⟨u,hu,ru⟩:=rv.get hx
  obtain ⟨n,hn⟩:∃ n,ks[j + 1]? = some n:=⟨ks[j + 1]'(by omega),by simp⟩
  refine codeAny_builtin PySem.F.entry_max_loop ?_
  rw [Around.under_plainId PySem.F.plain_max_loop _]
  show wpAny _ X.A.in1 (seqItems? (.ref Sa) >>= _) _ _ _
  refine wpAny_bind (wpAny_seqItems nS.1 rfl ?_)
  show wpAny _ X.A.in1 (tryCatch (pyNext (.ref Ia)) _ >>= _) _ _ _
  refine wpAny_bind (wpAny_tryCatch (wpAny_pyNext_list_item hit p.isList (x:=u) (by simpa using hu) fun h' hit' sb=>?_))
  obtain ⟨oI',hoI',hoc,hod⟩:=id hit'
  have I0:Inv X (pins ++ [(Sa,seqObj "list" #[vb,.int nb tb] c)]) σ H { s with heap:=h' }:=Inv.moved (a:=Ia) (o:=oI) I (by simp) haI (fun p hp=>by
   rcases List.mem_append.mp hp with z | z
   ·exact List.mem_append_left _ z
   ·exact List.mem_append_right _ (by simp at z; simp [z])) (fun p hp=>by
   rcases List.mem_append.mp hp with z | z
   ·exact hnI p (List.mem_append_left _ z)
   ·rcases List.mem_append.mp z with z | z
    ·exact hnI p (List.mem_append_right _ z)
    ·have:p.1 = Sa:=by simp at z; rw [z]
     rw [this]; exact hSI) fun b u hbs e=>(sb.2 b hbs).trans e
  have nI:=I.pin (Ia,oI) (by simp)
  have I1:Inv X (pins ++ [(Sa,seqObj "list" #[vb,.int nb tb] c),(Ia,oI')]) σ H { s with heap:=h' }:=I0.pins_of fun p hp=>by
   rcases List.mem_append.mp hp with z | z
   ·exact I0.pin p (List.mem_append_right _ (List.mem_append_left _ z))
   ·rcases List.mem_cons.mp z with rfl | z
    ·exact I0.pin _ (by simp)
    ·rw [List.mem_singleton.mp z]
     exact ⟨hoI',nI.2.1,nI.2.2.1,nI.2.2.2.1,fun v z=>by rw [hod] at z; cases z⟩
  obtain ⟨d,hd,rdx⟩:=rd.getV hx
  show wpAny _ X.A.in1 (tryCatch (holding [u] (call (.ref f) [u])) _ >>= _) _ _ _
  refine wpAny_bind (wpAny_tryCatch (wpAny_holding (wpAny_mono (jqd F mo hr hb I1 ru (rdx.same sm) (so.same sm) (hC _ _ _ hd hn)) (fun w s2 he=>?_) fun _ _ hF=>hF.elim)))
  obtain ⟨t2,H2,rfl,I2,sm2⟩:=he
  have sm':=sm.trans sm2
  have nS2:=I2.pin (Sa,seqObj "list" #[vb,.int nb tb] c) (by simp)
  have nI2:=I2.pin (Ia,oI') (by simp)
  have hit2:s2.heap.IsListIter Ia l (j + 1 + 1):=⟨oI',nI2.1,hoc,hod⟩
  show wpAny _ X.A.in1 (tryCatch (holding [u,.int n t2] (richCompare .Gt (.int n t2) (.int nb tb) >>= _)) _ >>= _) _ _ _
  refine wpAny_bind (wpAny_tryCatch (wpAny_holding (wpAny_bind (CmpOf.ints_gt (prog:=X.prog) (w:=X.w) (A:=X.A.in1) (P:=fun i v=>∃ t,v = .int (if i = 0 then n else nb) t) (fun i=>if i = 0 then n else nb) (fun i v h=>h) 0 1 _ _ _ _ _ ⟨t2,rfl⟩ ⟨tb,rfl⟩ ?_))))
  refine wpAny_bind (wpAny_holding (wpAny_truthy_bool ?_))
  refine wpAny_bind (wpAny_letGo (wpAny_pure ?_))
  have e01:(if (0:Nat) = 0 then n else nb) = n:=rfl
  have e11:(if (1:Nat) = 0 then n else nb) = nb:=rfl
  simp only [e01,e11,if_true]
  by_cases hb':n > nb
  ·have s1:=Heap.SameBut.update s2.heap Sa (Obj.mapSeq fun _=>#[u,.int n t2])
   obtain ⟨c2,hc2⟩:∃ c2,(s2.heap.update Sa (Obj.mapSeq fun _=>#[u,.int n t2])).get? Sa = some (seqObj "list" #[u,.int n t2] c2):=⟨_,get?_update_seq nS2.1 fun _=>#[u,.int n t2]⟩
   simp only [hb',decide_true,if_true]
   refine wpAny_bind ?_
   refine wpAny_updateSeq nS2.1 rfl (wpAny_bind (wpAny_letGo ?_))
   rw [hname]
   have I3:Inv X (pins ++ [(Ia,oI')]) σ H2 { s2 with heap:=s2.heap.update Sa (Obj.mapSeq fun _=>#[u,.int n t2]) }:=Inv.moved (a:=Sa) (o:=seqObj "list" #[vb,.int nb tb] c) I2 (by simp) haS (fun p hp=>by
    rcases List.mem_append.mp hp with z | z
    ·exact List.mem_append_left _ z
    ·exact List.mem_append_right _ (by simp at z; simp [z])) (fun p hp=>by
    rcases List.mem_append.mp hp with z | z
    ·exact hnS p (List.mem_append_left _ z)
    ·rcases List.mem_append.mp z with z | z
     ·exact hnS p (List.mem_append_right _ z)
     ·have:p.1 = Ia:=by simp at z; rw [z]
      rw [this]; exact hSI.symm) fun b u hbs e=>(s1.2 b hbs).trans e
   have I4:Inv X (pins ++ [(Sa,seqObj "list" #[u,.int n t2] c2),(Ia,oI')]) σ H2 { s2 with heap:=s2.heap.update Sa (Obj.mapSeq fun _=>#[u,.int n t2]) }:=I3.pins_of fun p hp=>by
    rcases List.mem_append.mp hp with z | z
    ·exact I3.pin p (List.mem_append_right _ (List.mem_append_left _ z))
    ·rcases List.mem_cons.mp z with rfl | z
     ·exact ⟨hc2,nS2.2.1,nS2.2.2.1,nS2.2.2.2.1,fun v z=>by cases z⟩
     ·rw [List.mem_singleton.mp z]
      exact I3.pin _ (by simp)
   refine wpAny_pure ⟨plainId_quiet PySem.F.plain_max_loop _,ih (j + 1) (j + 1) H2 _ x u n t2 c2 oI' (by omega) hlt I4 sm' ⟨oI',(s1.2 Ia hSI.symm).trans nI2.1,hoc,hod⟩ hx ru hn fun j' m hj' hm=>?_⟩
   by_cases e:j' = j + 1
   ·subst e
    rw [hn] at hm; cases hm; omega
   ·have:=hbest j' m (by omega) hm
    omega
  ·have hb'':decide (n > nb) = false:=decide_eq_false hb'
   simp only [hb'',Bool.false_eq_true,if_false]
   refine wpAny_bind (wpAny_letGo ?_)
   rw [hname]
   refine wpAny_pure ⟨plainId_quiet PySem.F.plain_max_loop _,ih (j + 1) i H2 _ xb vb nb tb c oI' (by omega) hlt I2 sm' hit2 hxb rvb hnb fun j' m hj' hm=>?_⟩
   by_cases e:j' = j + 1
   ·subst e
    rw [hn] at hm; cases hm; omega
   ·exact hbest j' m (by omega) hm
theorem jvV {H:Hp} {s:Shared} {Q:VK} {E:Value->Shared->Prop} (F:FnOk X.prog X.w X.K X.mg X.base jS k f fd ps (j2 X.K 1 C)) (mo:jO C) (hr:Room (k + 1) X.A) (hb:Binds X.K fd ps []) (hcalm:X.calm = true)
  (I:Inv X pins σ H s) (hq:SqL X.K H l xs) (rd:Reps X.K S H ds xs) (so:SOk S H) (hlen:ks.length = xs.length) (hne:0 < xs.length) (hC:∀ (i:Nat) d n,ds[i]? = some d->ks[i]? = some n->C [d] fun e=>e = .int n)
  (hQ:∀ (i:Nat) x n H',xs[i]? = some x->ks[i]? = some n->(∀ m ∈ ks,m ≤ n)->Same H H'->Q x H') :
  wpAny (model X.prog X.w) X.A (call (.builtin "max") [.ref l] [(Str.ofString "key",.ref f)]) (EP X pins σ Q) E s:=by
 have hname:(toString "max" ++ toString ".loop":String) = "max.loop":=by decide
 obtain ⟨its,rv,p,hz⟩:=I.list hq
 refine kmk_tree PySem.F.kind_max PySem.F.plain_max PySem.F.entry_max (kmk_max_key _ _) ?_
 show wpAny _ X.A.in1 (Builtin.Builtins.bindParams "max" ["key","default"] 0 ⟨[],[(Str.ofString "key",.ref f)]⟩ >>= _) _ _ s
 refine wpAny_bind (wpAny_of_eq (show Builtin.Builtins.bindParams "max" ["key","default"] 0 ⟨[],[(Str.ofString "key",.ref f)]⟩ = pure [some (.ref f),none] from rfl) ?_)
 refine wpAny_bind (wpAny_pure ?_)
 refine wpAny_bind (wpAny_pyIter_list p.isList ?_)
 refine wpAny_bind (wpAny_newList ?_ (Nat.zero_le _))
 rw [hname]
 refine wpAny_pure ⟨plainId_quiet PySem.F.plain_max_loop _,?_⟩
 have hS:(s.heap.push { cls:=.type "list_iterator",data:=.fields #[.ref l,.int 0 0] }).objs.size = s.heap.objs.size + 1:=size_push' ..
 generalize hSa:(s.heap.push { cls:=.type "list_iterator",data:=.fields #[.ref l,.int 0 0] }).objs.size = Sa at hS ⊢
 generalize hIa:s.heap.objs.size = Ia at hS
 have gI:((s.heap.push { cls:=.type "list_iterator",data:=.fields #[.ref l,.int 0 0] }).push (seqObj "list" #[] 0)).get? Ia = some { cls:=.type "list_iterator",data:=.fields #[.ref l,.int 0 0] }:=by
  rw [← hIa]; exact Heap.get?_push_of_some _ (Heap.get?_push_size _ rfl)
 have gS:((s.heap.push { cls:=.type "list_iterator",data:=.fields #[.ref l,.int 0 0] }).push (seqObj "list" #[] 0)).get? Sa = some (seqObj "list" #[] 0):=by
  rw [← hSa]; exact Heap.get?_push_size _ rfl
 have old:∀ b o,s.heap.get? b = some o->((s.heap.push { cls:=.type "list_iterator",data:=.fields #[.ref l,.int 0 0] }).push (seqObj "list" #[] 0)).get? b = some o:=fun b o e=>Heap.get?_push_of_some _ (Heap.get?_push_of_some _ e)
 change codeAny _ _ _ _ { s with heap:=(s.heap.push { cls:=.type "list_iterator",data:=.fields #[.ref l,.int 0 0] }).push (seqObj "list" #[] 0) }
 generalize (s.heap.push { cls:=.type "list_iterator",data:=.fields #[.ref l,.int 0 0] }).push (seqObj "list" #[] 0) = h1 at gI gS old ⊢
 have hSI:Sa ≠ Ia:=by omega
 have szI:s.heap.objs.size ≤ Ia:=by omega
 have szS:s.heap.objs.size ≤ Sa:=by omega
 have haI:=Nat.le_trans I.sz szI
 have haS:=Nat.le_trans I.sz szS
 have hn:∀ a,s.heap.objs.size ≤ a->∀ q ∈ X.pn ++ pins,q.1 ≠ a:=fun a ha q hq z=>by
  have:=Heap.lt_size (I.pin q hq).1
  rw [z] at this
  exact absurd (Nat.lt_of_lt_of_le this (hIa ▸ ha)) (Nat.lt_irrefl _)
 have Ih:Inv X pins σ H { s with heap:=h1 }:=I.kept (t':=s.toks) old
 have I0:Inv X (pins ++ [(Sa,seqObj "list" #[] 0),(Ia,{ cls:=.type "list_iterator",data:=.fields #[.ref l,.int 0 0] })]) σ H { s with heap:=h1 }:=Ih.pins_of fun q hq=>by
  rcases List.mem_append.mp hq with z | z
  ·exact Ih.pin q (List.mem_append_right _ z)
  ·rcases List.mem_cons.mp z with rfl | z
   ·exact ⟨gS,I.hok.fresh szS,Nat.ne_of_gt (Nat.lt_of_lt_of_le I.lt szS),I.nofs szS,fun v z=>by cases z⟩
   ·rw [List.mem_singleton.mp z]
    exact ⟨gI,I.hok.fresh szI,Nat.ne_of_gt (Nat.lt_of_lt_of_le I.lt szI),I.nofs szI,fun v z=>by cases z⟩
 have hit:({ s with heap:=h1 }:Shared).heap.IsListIter Ia l 0:=⟨_,gI,rfl,rfl⟩
 generalize ({ s with heap:=h1 }:Shared) = s1 at I0 hit ⊢
 clear Ih gI gS old
 obtain ⟨its,rv,p,hz⟩:=I0.list hq
 obtain ⟨x,hx⟩:∃ x,xs[0]? = some x:=⟨xs[0],by simp [hne]⟩
 obtain ⟨u,hu,ru⟩:=rv.get hx
 obtain ⟨n,hnn⟩:∃ n,ks[0]? = some n:=⟨ks[0]'(by omega),by simp⟩
 have nS:=I0.pin (Sa,seqObj "list" #[] 0) (by simp)
 have nI:=I0.pin (Ia,{ cls:=.type "list_iterator",data:=.fields #[.ref l,.int 0 0] }) (by simp)
 refine codeAny_builtin PySem.F.entry_max_loop ?_
 rw [Around.under_plainId PySem.F.plain_max_loop _]
 show wpAny _ X.A.in1 (seqItems? (.ref _) >>= _) _ _ _
 refine wpAny_bind (wpAny_seqItems nS.1 rfl ?_)
 show wpAny _ X.A.in1 (tryCatch (pyNext (.ref Ia)) _ >>= _) _ _ _
 refine wpAny_bind (wpAny_tryCatch (wpAny_pyNext_list_item hit p.isList (x:=u) (by simpa using hu) fun h' hit' sb=>?_))
 obtain ⟨oI',hoI',hoc,hod⟩:=id hit'
 have I1:Inv X (pins ++ [(Sa,seqObj "list" #[] 0)]) σ H { s1 with heap:=h' }:=Inv.moved (a:=Ia) (o:={ cls:=.type "list_iterator",data:=.fields #[.ref l,.int 0 0] }) I0 (by simp) haI (fun p hp=>by
  rcases List.mem_append.mp hp with z | z
  ·exact List.mem_append_left _ z
  ·exact List.mem_append_right _ (by simp at z; simp [z])) (fun p hp=>by
  rcases List.mem_append.mp hp with z | z
  ·exact hn Ia szI p (List.mem_append_left _ z)
  ·rcases List.mem_append.mp z with z | z
   ·exact hn Ia szI p (List.mem_append_right _ z)
   ·have:p.1 = Sa:=by simp at z; rw [z]
    rw [this]; exact hSI) fun b u hbs e=>(sb.2 b hbs).trans e
 have I2:Inv X (pins ++ [(Sa,seqObj "list" #[] 0),(Ia,oI')]) σ H { s1 with heap:=h' }:=I1.pins_of fun p hp=>by
  rcases List.mem_append.mp hp with z | z
  ·exact I1.pin p (List.mem_append_right _ (List.mem_append_left _ z))
  ·rcases List.mem_cons.mp z with rfl | z
   ·exact I1.pin _ (by simp)
   ·rw [List.mem_singleton.mp z]
    exact ⟨hoI',nI.2.1,nI.2.2.1,nI.2.2.2.1,fun v z=>by rw [hod] at z; cases z⟩
 obtain ⟨d,hd,rdx⟩:=rd.getV hx
 show wpAny _ X.A.in1 (tryCatch (holding [u] (call (.ref f) [u])) _ >>= _) _ _ _
 refine wpAny_bind (wpAny_tryCatch (wpAny_holding (wpAny_mono (jqd F mo hr hb I2 ru rdx so (hC _ _ _ hd hnn)) (fun w s2 he=>?_) fun _ _ hF=>hF.elim)))
 obtain ⟨t2,H2,rfl,I3,sm2⟩:=he
 have nS2:=I3.pin (Sa,seqObj "list" #[] 0) (by simp)
 have nI2:=I3.pin (Ia,oI') (by simp)
 have sb1:=Heap.SameBut.update s2.heap Sa (Obj.mapSeq fun _=>#[u,.int n t2])
 obtain ⟨c2,hc2⟩:∃ c2,(s2.heap.update Sa (Obj.mapSeq fun _=>#[u,.int n t2])).get? Sa = some (seqObj "list" #[u,.int n t2] c2):=⟨_,get?_update_seq nS2.1 fun _=>#[u,.int n t2]⟩
 show wpAny _ X.A.in1 (updateSeq Sa (fun _=>#[u,.int n t2]) >>= _) _ _ _
 refine wpAny_bind ?_
 refine wpAny_updateSeq nS2.1 rfl ?_
 rw [hname]
 have I4:Inv X (pins ++ [(Ia,oI')]) σ H2 { s2 with heap:=s2.heap.update Sa (Obj.mapSeq fun _=>#[u,.int n t2]) }:=Inv.moved (a:=Sa) (o:=seqObj "list" #[] 0) I3 (by simp) haS (fun p hp=>by
  rcases List.mem_append.mp hp with z | z
  ·exact List.mem_append_left _ z
  ·exact List.mem_append_right _ (by simp at z; simp [z])) (fun p hp=>by
  rcases List.mem_append.mp hp with z | z
  ·exact hn Sa szS p (List.mem_append_left _ z)
  ·rcases List.mem_append.mp z with z | z
   ·exact hn Sa szS p (List.mem_append_right _ z)
   ·have:p.1 = Ia:=by simp at z; rw [z]
    rw [this]; exact hSI.symm) fun b u hbs e=>(sb1.2 b hbs).trans e
 have I5:Inv X (pins ++ [(Sa,seqObj "list" #[u,.int n t2] c2),(Ia,oI')]) σ H2 { s2 with heap:=s2.heap.update Sa (Obj.mapSeq fun _=>#[u,.int n t2]) }:=I4.pins_of fun p hp=>by
  rcases List.mem_append.mp hp with z | z
  ·exact I4.pin p (List.mem_append_right _ (List.mem_append_left _ z))
  ·rcases List.mem_cons.mp z with rfl | z
   ·exact ⟨hc2,nS2.2.1,nS2.2.2.1,nS2.2.2.2.1,fun v z=>by cases z⟩
   ·rw [List.mem_singleton.mp z]
    exact I4.pin _ (by simp)
 refine wpAny_pure ⟨plainId_quiet PySem.F.plain_max_loop _,jt3 F mo hr hb hcalm hq rd so hlen hC hSI haS haI (hn Sa szS) (hn Ia szI) (fun i x v n H' s' hx rx hk hm I' sm=>?_) _ 0 0 H2 _ x u n t2 c2 oI' rfl (by omega) I5 sm2 ⟨oI',(sb1.2 Ia hSI.symm).trans nI2.1,hoc,hod⟩ hx ru hnn fun j' m hj' hm=>?_⟩
 ·exact ⟨x,H',I',rx,hQ i x n H' hx hk hm sm⟩
 ·obtain rfl:j' = 0:=by omega
  rw [hnn] at hm; cases hm; exact Int.le_refl _
end
section
variable {X:Cx} {k:Nat} {f:Addr} {fd:FuncData} {ps:List Str} {C:jK} {x y:Str} {p py kpos pos:Pos} {e:Expr} {te:E3}
abbrev jwg (C:jK) (te:E3):E3:=fun ρ Φ=>te ρ fun d=>match d with
 | .lst ds=>∃ ks:List Int,ds ≠ []∧ks.length = ds.length∧(∀ (i:Nat) d n,ds[i]? = some d->ks[i]? = some n->C [d] fun r=>r = .int n)∧∀ (i:Nat) d n,ds[i]? = some d->ks[i]? = some n->(∀ m ∈ ks,m ≤ n)->Φ d
 | _=>False
theorem jw7 (F:FnOk X.prog X.w X.K X.mg X.base jS k f fd ps (j2 X.K 1 C)) (mo:jO C) (hr:Room (k + 1) X.A) (hb:Binds X.K fd ps []) (hcalm:X.calm = true)
  (hg:Gl X x) (hm:X.mg x = none) (hv:bootBuiltins x = some (.builtin "max")) (hgy:Gl X y) (hmy:X.mg y = some (.ref f)) (ha:PD X e te)
  (hn:x ≠ "__name__":=by decide) (hdb:(x == ("__debug__":Str)) = false:=by decide) (hdy:(y == ("__debug__":Str)) = false:=by decide)
  (he:backTo pos (starEach [e] X.env) = (false,eval e X.env) :: backTo pos (starEach [] X.env):=by rfl)
  (hplain:(backTo pos (starEach [e] X.env)).any (·.1) = false:=by rfl) (hs:starEach [e] X.env = (false,eval e X.env) :: starEach [] X.env:=by rfl):PD X (.Call (.Name x p) [e] [⟨some (Str.ofString "key"),.Name y py,kpos⟩] pos) (jwg C te):=by
 obtain ⟨t2,h,w⟩:=ha
 refine ⟨fun σ H Q=>jor t2 jmz σ H fun vs H1=>∃ (l:Addr) (xs:List V) (ds:List D) (ks:List Int) (S:Addr->Prop),vs = [.ref l]∧SqL X.K H1 l xs∧Reps X.K S H1 ds xs∧SOk S H1∧ks.length = xs.length∧0 < xs.length∧(∀ (i:Nat) d n,ds[i]? = some d->ks[i]? = some n->C [d] fun e=>e = .int n) ∧
  ∀ (i:Nat) z n H',xs[i]? = some z->ks[i]? = some n->(∀ m ∈ ks,m ≤ n)->Same H1 H'->Q z H',?_,?_⟩
 ·intro pins s σ H Q I hw
  refine wpAny_Call_Name_kw (jgb I hg hm hv ?_ hn hdb)
  refine PyProof.Rows.callWith_kw ?_ he hplain
  refine jF (jbe h jcn hs pos pins s σ H _ I hw) fun us s1 qZ=>?_
  obtain ⟨vs,H1,I1,r1,l,xs,ds,ks,S,e1,hq,rd,so,hl,hne,hC,hQ⟩:=qZ
  subst e1
  obtain ⟨u,rfl,ru⟩:=jdG r1
  cases ru
  refine jF (jxg (nm:=some (Str.ofString "key")) (kpos:=kpos) (jgN (pos:=py) hgy hmy (v:=.ref f) rfl hdy) jzu pos pins s1 σ H1 (fun zs H2=>zs = [.ref f]∧H2 = H1) I1 ⟨rfl,rfl⟩) fun ws s2 qZ=>?_
  obtain ⟨zs,H2,I2,rz,ez,eh⟩:=qZ
  subst ez eh
  obtain ⟨u,rfl,ru⟩:=jdG rz
  cases ru
  exact jvV F mo hr hb hcalm I2 hq rd so hl hne hC hQ
 ·intro B S H σ ρ Φ Q er q hd
  refine w B S H σ ρ _ _ er q fun d v H1 hm s1 r=>?_
  match d,hm with
  | .lst ds,⟨ks,hne,hl,hC,hΦ⟩ =>
   obtain ⟨a,xs,rfl,lr,rs⟩:=j0 r
   have len:=rs.len
   refine ⟨a,xs,ds,ks,S,rfl,lr.sq,rs,er.ok.same s1,by rw [hl,len],?_,hC,fun i z n H' hz hn hx sm=>?_⟩
   ·rw [← len]; cases ds with
    | nil=>exact absurd rfl hne
    | cons _ _=>simp
   ·obtain ⟨d,hd',rd⟩:=rs.getV hz
    exact hd d z H' (hΦ i d n hd' hn hx) (s1.trans sm) (rd.same sm)
end
def IsRv (h:Heap) (a l:Addr) (i:Int):Prop:=∃ o,h.get? a = some o∧o.cls = .type "reversed"∧o.data = .fields #[.ref l,rawInt i]
theorem IsRv.typeIs {s:Shared} {a l:Addr} {i:Int} (x:IsRv s.heap a l i):s.TypeIs (.ref a) "reversed":=let ⟨o,ho,hc,_⟩:=x; ⟨o,ho,hc⟩
theorem IsRv.at {h h':Heap} {a l:Addr} {i:Int} (x:IsRv h a l i) (e:∀ o,h.get? a = some o->h'.get? a = some o):IsRv h' a l i:=let ⟨o,ho,r⟩:=x; ⟨o,e _ ho,r⟩
def IsIt:Bool->Heap->Addr->Addr->Nat->Prop
 | true,h,it,l,k=>h.IsListIter it l k
 | false,h,it,l,k=>h.IsTupleIter it l k
def IsSq:Bool->Heap->Addr->Array Value->Prop
 | true,h,l,xs=>h.IsList l xs
 | false,h,l,xs=>h.IsTuple l xs
theorem IsIt.obj {b:Bool} {h:Heap} {it l:Addr} {k:Nat} (x:IsIt b h it l k):∃ o vs,h.get? it = some o∧o.data = .fields vs:=by
 cases b <;> (obtain ⟨o,e,_,d⟩:=x; exact ⟨o,_,e,d⟩)
theorem IsIt.at {b:Bool} {h h':Heap} {it l:Addr} {k:Nat} (x:IsIt b h it l k) (e:∀ o,h.get? it = some o->h'.get? it = some o):IsIt b h' it l k:=by
 cases b <;> (obtain ⟨o,ho,r⟩:=x; exact ⟨o,e _ ho,r⟩)
theorem IsSq.at {b:Bool} {h h':Heap} {l:Addr} {xs:Array Value} (x:IsSq b h l xs) (e:∀ o,h.get? l = some o->h'.get? l = some o):IsSq b h' l xs:=by
 cases b <;> (obtain ⟨o,ho,r⟩:=x; exact ⟨o,e _ ho,r⟩)
inductive Mv (fp:List Addr):Heap->Heap->Prop
 | refl (h:Heap):Mv fp h h
 | step {h h1 h2:Heap} (b:Addr):Mv fp h h1->b ∈ fp->(∀ c o,c ≠ b->h1.get? c = some o->h2.get? c = some o)->Mv fp h h2
theorem Mv.keep {fp:List Addr} {h h':Heap} (m:Mv fp h h'):∀ c o,c ∉ fp->h.get? c = some o->h'.get? c = some o:=by
 induction m with
 | refl=>exact fun _ _ _ e=>e
 | step b _ hb k ih=>exact fun c o hc e=>k c o (fun z=>hc (z ▸ hb)) (ih c o hc e)
def SqB (K:PySem.W.Frag):Bool->Hp->Addr->List V->Prop
 | true,H,a,xs=>SqL K H a xs
 | false,H,a,xs=>SqT K H a xs
theorem SqB.at {X:Cx} {pins:List (Addr × Obj)} {σ:L2.St} {H:Hp} {s:Shared} {b:Bool} {a:Addr} {xs:List V} (I:Inv X pins σ H s) (h:SqB X.K b H a xs):∃ its:List Value,Vals xs its∧IsSq b s.heap a its.toArray:=by
 cases b with
 | true=>obtain ⟨its,r,p,_⟩:=I.list h; exact ⟨its,r,p.isList⟩
 | false=>obtain ⟨its,r,p,_⟩:=I.tuple h; exact ⟨its,r,p⟩
theorem SqB.inj {X:Cx} {pins:List (Addr × Obj)} {σ:L2.St} {H:Hp} {s:Shared} {b:Bool} {a:Addr} {xs ys:List V} (I:Inv X pins σ H s) (h:SqB X.K b H a xs) (h':SqB X.K b H a ys):xs = ys:=by
 cases b with
 | true=>exact I.list_inj h h'
 | false=>exact I.tuple_inj h h'
theorem IsSq.lt {b:Bool} {h:Heap} {l:Addr} {xs:Array Value} (x:IsSq b h l xs):l < h.objs.size:=by
 cases b <;> (obtain ⟨o,ho,_⟩:=x; exact Heap.lt_size ho)
theorem apart (n l m:Nat) (k1:l < n) (k2:m < n):ZipApart (n + 4) (n + 2) (n + 3) n (n + 1) l m:=by
 have f:∀ {a b:Nat},a < b->a ≠ b:=fun h=>Nat.ne_of_lt h
 have g:∀ {a b:Nat},b < a->a ≠ b:=fun h=>Nat.ne_of_gt h
 exact ⟨f (by omega),f (by omega),f (by omega),f (by omega),f (by omega),g (by omega),g (by omega),g (by omega),g (by omega),f (by omega),f (by omega),f (by omega),f (by omega),f (by omega),f (by omega),f (by omega),f (by omega),f (by omega)⟩
theorem ju1 {P:Program} {w:World} {H:Hp} {h:Heap} {a:Addr} {o:HO} (x:ObjOk P w H h a o):∃ u,h.get? a = some u:=by
 induction o with
 | lst xs=>obtain ⟨z,its,n,r,e⟩:=x; exact ⟨_,e⟩
 | tup xs=>obtain ⟨z,its,r,ob,e,c⟩:=x; exact ⟨_,e⟩
 | dK kvs=>obtain ⟨z,y,vs,r,ob,es,ep,e,c⟩:=x; exact ⟨_,e⟩
 | dT kvs=>obtain ⟨z,y,xs,r,ob,es,ep,e,c⟩:=x; exact ⟨_,e⟩
 | set S n=>obtain ⟨ob,es,ep,t,e,c⟩:=x; exact ⟨_,e⟩
 | ins C dx fs=>obtain ⟨d,z,ne,e,r⟩:=x; exact ⟨_,e⟩
 | own y=>obtain ⟨ob,e⟩:=x; exact ⟨_,e⟩
 | xd fs=>obtain ⟨mA,⟨od,es,ep,e,c⟩,r⟩:=x; exact ⟨_,e⟩
 | rng lo hi=>obtain ⟨t,u,v,e⟩:=x; exact ⟨_,e⟩
 | frz ob u ih=>obtain ⟨e,q⟩:=x; exact ⟨_,e⟩
 | tbl ps=>exact ⟨_,x⟩
 | met f y=>exact ⟨_,x⟩
 | ext φ=>obtain ⟨p,⟨o,e⟩,st⟩:=x; exact ⟨_,e⟩
structure FlyB (P:Program) (w:World) (l:List Env) (H H':Hp) (h h' B:Heap) (e C:Addr) (a0:Value):Prop where
 fl:Heap.FlyingW B l e (.ref C) a0 h'
 hok:HOk P w H' B
 keep:∀ b o,h.get? b = some o->H b = none->b ∉ frs l->B.get? b = some o
 slot:∀ b o,h.get? b = some o->H b = none->b ∈ frs l->∃ sl,h'.get? b = some { o with slots:=sl }
 free:∀ b o,h.get? b = some o->H b = none->H' b = none
 there:∀ b o,h.get? b = some o->b ∉ frs l->∃ o',B.get? b = some o'
 tups:∀ b xs,H b = some (.tup xs)->H' b = some (.tup xs)
 frzs:∀ b o u,H b = some (.frz o u)->H' b = some (.frz o u)
 tbls:∀ b ps,H b = some (.tbl ps)->∃ more,H' b = some (.tbl (ps ++ more))
 he:H' e = none
section
variable {P:Program} {w:World} {l:List Env} {H H':Hp} {h h' h'' B:Heap} {e C:Addr} {a0:Value}
theorem FlyB.un (f:FlyB P w l H H' h h' B e C a0):Un (frs l) [] H H' h h' where
 keep:=fun b o q n hb _=>f.fl.1 _ _ (f.keep b o q n hb)
 slot:=fun b o q n hb _=>f.slot b o q n hb
 free:=fun b o q n _=>f.free b o q n
 there:=fun b o q _=>by
  by_cases hb:b ∈ frs l
  ·obtain ⟨_,o',ho,_⟩:=f.fl.2.2.1.mem hb
   exact ⟨o',ho⟩
  ·obtain ⟨o',ho⟩:=f.there b o q hb
   exact ⟨o',f.fl.1 _ _ ho⟩
 tups:=f.tups
 frzs:=f.frzs
 tbls:=f.tbls
theorem FlyB.hk (f:FlyB P w l H H' h h' B e C a0):HOk P w H' h':=f.hok.kept f.fl.1
theorem FlyB.go (f:FlyB P w l H H' h h' B e C a0) (x:Heap.FlyingW B l e (.ref C) a0 h'') (u:h'.UpToSlots h''):FlyB P w l H H' h h'' B e C a0 where
 fl:=x
 hok:=f.hok
 keep:=f.keep
 slot:=fun b o q n hb=>by
  obtain ⟨sl,e1⟩:=f.slot b o q n hb
  obtain ⟨_,o',ho,hd⟩:=f.fl.2.2.1.mem hb
  rw [e1] at ho; cases ho
  obtain ⟨sl',e2⟩:=u b _ e1 hd
  exact ⟨sl',e2⟩
 free:=f.free
 there:=f.there
 tups:=f.tups
 frzs:=f.frzs
 tbls:=f.tbls
 he:=f.he
end
def CXC (P:Program) (w:World):CXT:=fun outer H s E e s'=>∃ ea C H' B a0,e = .ref ea∧s'.os = s.os∧AllBare s'.gens∧FlyB P w outer H H' s.heap s'.heap B ea C a0∧E (.ref C) none H'
section
variable {X:Cx} {pins:List (Addr × Obj)} {σ:L2.St} {H1:Hp} {s1:Shared} {h':Heap} {e C:Addr} {vs:List Value} {Q:Unit->Shared->Prop} {E:Value->Shared->Prop}
theorem jpf (I:Inv X pins σ H1 s1) (hst:X.stack = X.env :: X.outer) (hfr:X.env.frame = some X.env.locals) (hex:X.ex = []) (m:Heap.MadeExcOf s1.heap h' e (.ref C) vs)
  (hQ:∀ h'' B a0,FlyB X.prog X.w X.outer X.H₀ H1 X.s₀.heap h'' B e C a0->Q () { s1 with heap:=h'' }):wpAny (model X.prog X.w) X.A (leaving X.env (.ref e)) Q E { s1 with heap:=h' }:=by
 have hA:X.A.frames = some (X.env :: X.outer):=by rw [I.ok.frames,hst]
 have hl:s1.heap.FunFrames (PySem.W.hideAll s1.heap (frs (X.env :: X.outer))) (X.env :: X.outer) :=
  PySem.W.funFrames_hide (hst ▸ I.stack) fun env he b hb=>List.mem_filterMap.mpr ⟨env,he,hb⟩
 have nex:∀ b:Addr,b ∉ X.ex:=fun b z=>by rw [hex] at z; cases z
 have ns:∀ b o,X.s₀.heap.get? b = some o->b ∉ frs X.outer->b ∉ frs (X.env :: X.outer):=fun b o q n z=>by
  unfold frs at z
  rw [List.filterMap_cons,hfr] at z
  rcases List.mem_cons.mp z with z | z
  ·exact absurd (Nat.lt_of_lt_of_le (Heap.lt_size q) I.ok.above) (by rw [z]; exact Nat.lt_irrefl _)
  ·exact n z
 have nH:∀ b u,H1 b = some u->b ∉ frs (X.env :: X.outer):=fun b u q z=>by
  have:=I.stkFree b (hst ▸ z)
  rw [q] at this; cases this
 refine wpAny_leaves_madeW (s:={ s1 with heap:=h' }) (base:=PySem.W.hideAll s1.heap (frs (X.env :: X.outer))) (h:=s1.heap) hA hfr (fun b o q=>PySem.W.of_hideAll _ q) hl m fun h'' t x1 x2 x3 x4=>?_
 refine hQ h'' _ _ ⟨x1,fun a o q=>?_,fun b o q n hb=>?_,fun b o q n hb=>?_,fun b o q n=>I.base.free b o q n (nex b),fun b o q hb=>?_,I.base.tups,I.base.frzs,I.base.tbls,?_⟩
 ·refine (I.hok a o q).stay (fun b u hb r=>PySem.W.hideAll_get _ r ?_) (fun _ q=>q) fun _ _ q=>q
  rcases hb with rfl | hb
  ·exact nH _ _ q
  ·exact nH _ _ hb
 ·exact PySem.W.hideAll_get _ (I.base.keep b o q n hb (nex b)) (ns b o q hb)
 ·obtain ⟨sl,e1⟩:=I.base.slot b o q n hb (nex b)
  obtain ⟨_,o',ho,hd⟩:=I.ok.funs.mem hb
  rw [q] at ho; cases ho
  obtain ⟨sl',e2⟩:=x4 b _ (m.keeps _ _ e1) hd
  exact ⟨sl',e2⟩
 ·obtain ⟨o',e1⟩:=I.base.there b o q (nex b)
  exact ⟨o',PySem.W.hideAll_get _ e1 (ns b o q hb)⟩
 ·cases q:H1 e with
  | none=>rfl
  | some u =>
   obtain ⟨ob,z⟩:=ju1 (I.hok e u q)
   rw [m.new] at z; cases z
end
abbrev bmV:List Value:=[.type "ValueError",.type "Exception",.type "BaseException",.type "object"]
theorem jxm {K:PySem.W.Frag} {h:Heap} {C:Addr} {bmB:List Value} {newId:String} (X:K.In h) (q:PySem.W.excIn K C bmB newId = true) :
  ∃ bm N nm q bs hdct sn sub ab col dd k0 k1 k2 k3 k5 mN,h.get? C = some (excClassObj nm q C N bs bm hdct sn sub ab col dd k0 k1 k2 k3 k5 newId)∧h.Ns N mN∧mN "__init__" = none∧OwnTail h bmB bm:=by
 unfold PySem.W.excIn at q
 split at q
 next dd cd sl ho =>
  split at q
  next C' bm k0 k1 k2 k3 n k5 hm hs =>
   simp only [Bool.and_eq_true,beq_iff_eq,Bool.not_eq_true'] at q
   obtain ⟨⟨⟨⟨⟨e1,e2⟩,hdel⟩,ht⟩,hok⟩,hni⟩:=q
   subst e1 e2
   cases cd with
   | mk nm bs mro ns qn hd sn sub ab col del =>
    dsimp only at hm hdel hok hni
    subst hm hdel
    have hsl:sl = #[k0,k1,k2,k3,some (.builtin n),k5]:=by
     cases sl with
     | mk l=>exact congrArg Array.mk hs
    subst hsl
    exact ⟨bm,ns,nm,qn,bs,hd,sn,sub,ab,col,dd,k0,k1,k2,k3,k5,_,X _ _ ho,.of_isNs (PySem.W.isNs_of_in X hok),PySem.W.nsMap_none_of_in X hok hni,PySem.W.tail_of_in X ht⟩
  ·cases q
 ·cases q
section
variable {X:Cx} {x:Str} {C:Addr} {e₀:Expr} {jR:List Expr} {np cpos pos:Pos} {ta:TA} {R:Hp->Prop}
theorem ju4 (hc:X.calm = true) (hg:Gl X x) (hm:X.mg x = some (.ref C)) (hq:PySem.W.excIn X.K C bmV "ValueError.__new__" = true) (ha:PA X (e₀ :: jR) ta)
  (hR:∀ pins σ H1 s1 e h' vs,Inv X pins σ H1 s1->R H1->Heap.MadeExcOf s1.heap h' e (.ref C) vs->X.xe (.ref e) { s1 with heap:=h' })
  (hdb:(x == ("__debug__":Str)) = false:=by decide) (he:starEach (e₀ :: jR) X.env = (false,eval e₀ X.env) :: starEach jR X.env:=by rfl) (hpl:(backTo cpos (starEach jR X.env)).any (·.1) = false:=by rfl) :
  PS X (.Raise (some (.Call (.Name x np) (e₀ :: jR) [] cpos)) none pos) (fun _ σ H=>ta σ H fun vs H1=>vs.length ≤ sizeLine∧R H1):=by
 intro pins s σ H D I h
 obtain ⟨tl,N,nm,q,bs,hdct,sn,sub,ab,col,dd,k0,k1,k2,k3,k5,mN,hC,hN,hni,T⟩:=jxm I.ok.mod.kin hq
 refine wpAny_Raise_call_subT (C:=C) (nm:=nm) (q:=q) (N:=N) (bs:=bs) (bm:=tl) (hdct:=hdct) (sn:=sn) (sub:=sub) (ab:=ab) (col:=col) (dd:=dd) (k0:=k0) (k1:=k1) (k2:=k2) (k3:=k3) (k5:=k5)
  F.excBase_ValueError (mN:=mN) (T.hasType F.excBase_ValueError.hasBase) (I.ok.hd hc) (by rw [he]; show (false || (backTo cpos (starEach jR X.env)).any (·.1)) = false; rw [hpl]; rfl) hni (jdv I hg hm ⟨rfl,?_⟩ hdb)
 have hh:=ha cpos pins s σ H _ I h
 rw [he] at hh ⊢
 exact Calls.evalArgs_plain (wpAny_mono hh (fun us s2 ⟨vs,H1,I1,r,z,q⟩=>⟨rfl,by show us.length ≤ _; rw [← r.length]; exact z,I1.bk _ _ hC,hN.keeps I1.bk,T.keeps I1.bk,fun h' e m=>hR pins σ H1 s2 e h' us I1 q m⟩) fun _ _ y=>y)
end
def PRD (X:Cx) (R:Hp->Prop) (st:Stmt) (t:jL->Prop):Prop:=∃ t2,PS X st t2∧∀ B S H σ ρ D',ER X.K B S H σ ρ->t ρ->(∀ H1,Same B.H0 H1->R H1)->t2 D' σ H
section
variable {X:Cx} {R:Hp->Prop} {st:Stmt} {jR as bs:List Stmt} {t u:jL->Prop} {ts us:S3} {c:Expr} {tc:B3} {pos:Pos}
theorem jtp {x:Str} {C:Addr} {e₀:Expr} {es:List Expr} {np cpos:Pos} {ta:A3} (hc:X.calm = true) (hg:Gl X x) (hm:X.mg x = some (.ref C)) (hq:PySem.W.excIn X.K C bmV "ValueError.__new__" = true) (ha:PAD X (e₀ :: es) ta)
  (hR:∀ pins σ H1 s1 e h' vs,Inv X pins σ H1 s1->R H1->Heap.MadeExcOf s1.heap h' e (.ref C) vs->X.xe (.ref e) { s1 with heap:=h' })
  (hdb:(x == ("__debug__":Str)) = false:=by decide) (he:starEach (e₀ :: es) X.env = (false,eval e₀ X.env) :: starEach es X.env:=by rfl) (hpl:(backTo cpos (starEach es X.env)).any (·.1) = false:=by rfl) :
  PRD X R (.Raise (some (.Call (.Name x np) (e₀ :: es) [] cpos)) none pos) (fun ρ=>ta ρ fun ds=>ds.length ≤ sizeLine):=by
 obtain ⟨t2,h,w⟩:=ha
 refine ⟨_,ju4 hc hg hm hq h hR hdb he hpl,fun B S H σ ρ D' er q r=>w B S H σ ρ _ _ er q fun ds vs H1 p s1 rr=>⟨by rw [← rr.len]; exact p,r H1 (er.same.trans s1)⟩⟩
end
theorem jzx {K:PySem.W.Frag} {C:Addr} {v:Value} {r:Bool} (h:PySem.W.mroIn K C v = some r):(PySem.W.clsIn K C).isSome = true:=by
 unfold PySem.W.mroIn at h
 cases q:PySem.W.clsIn K C with
 | none=>rw [q] at h; cases h
 | some cd=>rfl
theorem all_nil {P:Addr->Prop}:∀ D ∈ ([]:List Addr),P D:=fun _ h=>by cases h
theorem all_cons {P:Addr->Prop} {D:Addr} {l:List Addr} (h:P D) (t:∀ D ∈ l,P D):∀ E ∈ D :: l,P E:=fun E hE=>by
 rcases List.mem_cons.mp hE with rfl | hE
 ·exact h
 ·exact t E hE
abbrev jkp (X:Cx) (ea:Addr) (oe:Obj):Cx:={ X with A:=X.A.mark (some (.ref ea)),calm:=false,pn:=(ea,oe) :: X.pn,xe:=fun _ _=>False }
section
variable {X:Cx} {i:Nat} {ea C:Addr} {oe:Obj} {x y n:Str} {p py pn pos ps:Pos} {b b':Bool} {a a2:Expr}
inductive Names (X:Cx):List Expr->List Addr->Prop where
 | nil:Names X [] []
 | cons {y:Str} {py:Pos} {D:Addr} {es:List Expr} {Ds:List Addr} (hg:Gl X y) (hm:X.mg y = some (.ref D)) (hd:(y == ("__debug__":Str)) = false) (he:starEach (.Name y py :: es) X.env = (false,eval (.Name y py) X.env) :: starEach es X.env) (r:Names X es Ds):Names X (.Name y py :: es) (D :: Ds)
theorem Names.pa {es:List Expr} {Ds:List Addr} (h:Names X es Ds):∃ t,PA X es t∧∀ σ H Q,Q (Ds.map V.ref) H->t σ H Q:=by
 induction h with
 | nil=>exact ⟨_,jcn,fun σ H Q q=>q⟩
 | cons hg hm hd he r ih =>
  obtain ⟨t,h,w⟩:=ih
  exact ⟨_,jbe (jgN hg hm (show RelV (.ref _) (.ref _) from rfl) hd) h he,fun σ H Q q=>w σ H _ q⟩
end
theorem juc {M:Model} {A:Around} {E:Value->Shared->Prop} {K:PySem.W.Frag} {h:Heap} {g:Array GenState} {d:Drawn} {t:Nat} {os:OsState} {e C D:Addr} {oe:Obj} {b:Bool} {Q:Bool->Shared->Prop}
  (X:K.In h) (hcD:(PySem.W.clsIn K D).isSome = true) (htD:PySem.W.typeIn K (.ref D) = some (.type "type")) (hbD:PySem.W.mroIn K D (.type "BaseException") = some true) (hs:PySem.W.mroIn K C (.ref D) = some b)
  (he:h.get? e = some oe) (hcls:oe.cls = .ref C) (hq:Q b ⟨h,g,d,t,os⟩):wpAny M A (excMatches (.ref e) (.ref D)) Q E ⟨h,g,d,t,os⟩:=by
 have f:=tc_notTuple
 have L1:=PySem.W.looks_mroIn (M:=M) X hbD
 have L2:=PySem.W.looks_mroIn (M:=M) X hs
 obtain ⟨cd,hc⟩:=Option.isSome_iff_exists.mp hcD
 unfold PySem.W.clsIn at hc
 split at hc
 next c' d' cd' sl' ho =>
  have hD:=X _ _ ho
  have ht:c' = .type "type":=by
   have z:Option.map (fun x=>x.cls) (List.lookup D K) = some (Value.type "type"):=htD
   rw [ho] at z
   exact Option.some.inj z
  subst ht
  unfold excMatches
  repeat (first | (with_reducible refine wpAny_loadPart_at he ?_; rw [hcls]) | with_reducible refine wpAny_loadPart_at hD ?_ | with_reducible refine L1.at ?_ | with_reducible refine L2.at ?_ | wp_step)
  cases b <;> (repeat wp_step) <;> exact hq
 ·cases hc
theorem ER.any {K:PySem.W.Frag} {B:Bs} {S:Addr->Prop} {H:Hp} {σ:L2.St} {ρ:jL} {i:Nat} {v:Option V} (er:ER K B S H σ ρ) (h:ρ[i]? = some .un):ER K B S H (σ.set i v) ρ where
 len:=by rw [List.length_set]; exact er.len
 same:=er.same
 sub:=er.sub
 ok0:=er.ok0
 ok:=er.ok
 val:=fun j c q=>by
  have:i ≠ j:=by rintro rfl; rw [h] at q; cases q
  rw [List.getElem?_set_ne this]; exact er.val j c q
 own:=fun j c q=>by
  have:i ≠ j:=by rintro rfl; rw [h] at q; cases q
  rw [List.getElem?_set_ne this]; exact er.own j c q
 uq:=fun j k a ds es q1 q2 q3 q4=>by
  have n1:i ≠ j:=by rintro rfl; rw [h] at q1; cases q1
  have n2:i ≠ k:=by rintro rfl; rw [h] at q2; cases q2
  rw [List.getElem?_set_ne n1] at q3
  rw [List.getElem?_set_ne n2] at q4
  exact er.uq j k a ds es q1 q2 q3 q4
 dct:=fun j ks c q=>by
  have:i ≠ j:=by rintro rfl; rw [h] at q; cases q
  rw [List.getElem?_set_ne this]; exact er.dct j ks c q
 dq:=fun j k a ks ds ks' ds' q1 q2 q3 q4=>by
  have n1:i ≠ j:=by rintro rfl; rw [h] at q1; cases q1
  have n2:i ≠ k:=by rintro rfl; rw [h] at q2; cases q2
  rw [List.getElem?_set_ne n1] at q3
  rw [List.getElem?_set_ne n2] at q4
  exact er.dq j k a ks ds ks' ds' q1 q2 q3 q4
 rf:=fun j v q=>by
  have:i ≠ j:=by rintro rfl; rw [h] at q; cases q
  rw [List.getElem?_set_ne this]; exact er.rf j v q
 rwx:=fun j v q=>by
  have:i ≠ j:=by rintro rfl; rw [h] at q; cases q
  rw [List.getElem?_set_ne this]; exact er.rwx j v q
 gh:=er.gh
theorem juC {X:Cx} {pins:List (Addr × Obj)} {σ:L2.St} {H:Hp} {s:Shared} {ea:Addr} {oe:Obj} (I:Inv X pins σ H s) (h1:s.heap.get? ea = some oe) (h2:H ea = none) (h3:ea ≠ X.env.locals) (h4:ea ∉ X.fs) (h5:∀ v,oe.data ≠ .cell v):Inv (jkp X ea oe) pins σ H s :=
 ⟨⟨I.ok.mod,I.ok.kind,I.ok.glob,I.ok.blt,I.ok.above,I.ok.inj,I.ok.has,I.ok.cab,(fun z=>Bool.noConfusion z),I.ok.frames,I.ok.stk,I.ok.exf,I.ok.bs,I.ok.bsz,I.ok.noex,I.ok.exfs,I.ok.funs,I.ok.frf⟩,
  I.os,I.bare,I.base,I.loc,I.cell,I.free,I.freeC,fun p hp=>by
   rcases List.mem_cons.mp (show p ∈ (ea,oe) :: (X.pn ++ pins) from hp) with rfl | hp
   ·exact ⟨h1,h2,h3,h4,h5⟩
   ·exact I.pin p hp,I.hok,I.len⟩
theorem jz0 {X:Cx} {pins:List (Addr × Obj)} {σ:L2.St} {H:Hp} {s:Shared} {ea:Addr} {oe:Obj} (ok:X.Ok) (I:Inv (jkp X ea oe) pins σ H s):Inv X pins σ H s :=
 ⟨ok,I.os,I.bare,I.base,I.loc,I.cell,I.free,I.freeC,fun p hp=>I.pin p (List.mem_cons_of_mem _ hp),I.hok,I.len⟩
theorem Names.sp {X:Cx} {pins:List (Addr × Obj)} {σ:L2.St} {H:Hp} {s:Shared} {E:Value->Shared->Prop} {pos:Pos} (I:Inv X pins σ H s):∀ {es:List Expr} {Ds:List Addr},Names X es Ds->∀ (Q:List Value->Shared->Prop),Q (Ds.map Value.ref) s->wpAny (model X.prog X.w) X.A (spliced (backTo pos (starEach es X.env))) Q E s
 | _,_,.nil,Q,q=>Calls.spliced_nil q
 | _,_,.cons hg hm hd he r,Q,q=>by
  rw [he]
  refine Calls.spliced_cons (jdv I hg hm ?_ hd)
  exact Names.sp I r _ q
theorem FlyB.more {P:Program} {w:World} {l:List Env} {H H':Hp} {h h' h'' B:Heap} {e C:Addr} {a0:Value} (f:FlyB P w l H H' h h' B e C a0) (k:∀ b o,h'.get? b = some o->h''.get? b = some o):FlyB P w l H H' h h'' B e C a0:=by
 obtain ⟨f1,f2,f3,oe,vs,T,oT,ts,g1,g2,g3,g4,g5,g6,g7,g8,g9⟩:=f.fl
 refine f.go ⟨fun b o q=>k _ _ (f1 _ _ q),f2,f3.of_keeps fun b o q _=>⟨o,k _ _ q,rfl⟩,oe,vs,T,oT,ts,k _ _ g1,g2,g3,g4,g5,g6,k _ _ g7,g8,g9⟩ fun b o q _=>⟨o.slots,k _ _ q⟩
section
variable {X:Cx} {pins:List (Addr × Obj)} {σ:L2.St} {H H':Hp} {s s':Shared} {e C:Addr} {B:Heap} {a0:Value} {Q:Unit->Shared->Prop} {E:Value->Shared->Prop}
theorem jqR (I:Inv X pins σ H s) (hst:X.stack = X.env :: X.outer) (hfr:X.env.frame = some X.env.locals) (hex:X.ex = []) (f:FlyB X.prog X.w X.stack H H' s.heap s'.heap B e C a0)
  (hQ:∀ h'',FlyB X.prog X.w X.outer X.H₀ H' X.s₀.heap h'' B e C a0->Q () { s' with heap:=h'' }):wpAny (model X.prog X.w) X.A (leaving X.env (.ref e)) Q E s':=by
 have hA:X.A.frames = some (X.env :: X.outer):=by rw [I.ok.frames,hst]
 have nex:∀ b:Addr,b ∉ X.ex:=fun b z=>by rw [hex] at z; cases z
 have ns:∀ b o,X.s₀.heap.get? b = some o->b ∉ frs X.outer->b ∉ frs X.stack:=fun b o q n z=>by
  rw [hst] at z
  unfold frs at z
  rw [List.filterMap_cons,hfr] at z
  rcases List.mem_cons.mp z with z | z
  ·exact absurd (Nat.lt_of_lt_of_le (Heap.lt_size q) I.ok.above) (by rw [z]; exact Nat.lt_irrefl _)
  ·exact n z
 have sub:∀ b,b ∈ frs X.outer->b ∈ frs X.stack:=fun b z=>by
  rw [hst]; unfold frs; rw [List.filterMap_cons,hfr]; exact List.mem_cons_of_mem _ z
 have fl0:=f.fl
 rw [hst] at fl0
 refine wpAny_leaves_onW hA hfr fl0 fun h'' x1 x2=>hQ h'' ⟨x1,f.hok,fun b o q n hb=>?_,fun b o q n hb=>?_,fun b o q n=>?_,fun b o q hb=>?_,fun b xs q=>f.tups b xs (I.base.tups b xs q),fun b o u q=>f.frzs b o u (I.base.frzs b o u q),fun b ps q=>?_,f.he⟩
 ·exact f.keep b o (I.base.keep b o q n hb (nex b)) (I.base.free b o q n (nex b)) (ns b o q hb)
 ·obtain ⟨sl,e1⟩:=I.base.slot b o q n hb (nex b)
  obtain ⟨sl',e2⟩:=f.slot b _ e1 (I.base.free b o q n (nex b)) (sub b hb)
  obtain ⟨_,o',ho,hd⟩:=I.ok.funs.mem hb
  rw [q] at ho; cases ho
  obtain ⟨sl'',e3⟩:=x2 b _ e2 hd
  exact ⟨sl'',e3⟩
 ·obtain ⟨o',e1⟩:=I.base.there b o q (nex b)
  exact f.free b o' e1 (I.base.free b o q n (nex b))
 ·obtain ⟨o',e1⟩:=I.base.there b o q (nex b)
  exact f.there b o' e1 (ns b o q hb)
 ·obtain ⟨m1,e1⟩:=I.base.tbls b ps q
  obtain ⟨m2,e2⟩:=f.tbls b _ e1
  exact ⟨m1 ++ m2,by rw [e2,Array.append_assoc]⟩
end
def jsb (X:Cx) (R:Hp->Prop) (C:Addr):Prop:=∀ (pins:List (Addr × Obj)) (σ:L2.St) (H H':Hp) (s s':Shared) (e:Addr) (B:Heap) (a0:Value),Inv X pins σ H s->s'.os = s.os->AllBare s'.gens->FlyB X.prog X.w X.stack H H' s.heap s'.heap B e C a0->R H'->X.xe (.ref e) s'
@[elab_as_elim] theorem len_0 {α:Type} {P:List α->Prop}:∀ us:List α,us.length = 0->P []->P us
 | [],_,h=>h
@[elab_as_elim] theorem len_1 {α:Type} {P:List α->Prop}:∀ us:List α,us.length = 1->(∀ a,P [a])->P us
 | [a],_,h=>h a
@[elab_as_elim] theorem len_2 {α:Type} {P:List α->Prop}:∀ us:List α,us.length = 2->(∀ a b,P [a,b])->P us
 | [a,b],_,h=>h a b
@[elab_as_elim] theorem len_3 {α:Type} {P:List α->Prop}:∀ us:List α,us.length = 3->(∀ a b c,P [a,b,c])->P us
 | [a,b,c],_,h=>h a b c
@[elab_as_elim] theorem len_4 {α:Type} {P:List α->Prop}:∀ us:List α,us.length = 4->(∀ a b c d,P [a,b,c,d])->P us
 | [a,b,c,d],_,h=>h a b c d
@[elab_as_elim] theorem len_5 {α:Type} {P:List α->Prop}:∀ us:List α,us.length = 5->(∀ a b c d e,P [a,b,c,d,e])->P us
 | [a,b,c,d,e],_,h=>h a b c d e
section
open PySem.W
def KAll {α:Type} (n:Nat) (P:α->Prop):KasT α->Prop
 | .ret a=>P a
 | .ask i j k=>i < n∧j < n∧∀ b,KAll n P (k b)
theorem KAll.bind {α β:Type} {n:Nat} {P:β->Prop} {R:α->Prop} {f:α->KasT β} (hf:∀ a,R a->KAll n P (f a)):∀ t:KasT α,KAll n R t->KAll n P (t.bind f)
 | .ret a,h=>hf a h
 | .ask i j k,h=>⟨h.1,h.2.1,fun b=>KAll.bind hf (k b) (h.2.2 b)⟩
theorem KAll.wp {α:Type} {n:Nat} {P:α->Prop} {cmp:Nat->Nat->(Bool->Shared->Prop)->Shared->Prop} {s:Shared} (hc:∀ i j C,i < n->j < n->(∀ b,C b s)->cmp i j C s):∀ t:KasT α,KAll n P t->t.kasWp cmp (fun a s'=>P a∧s' = s) s
 | .ret a,h=>⟨h,rfl⟩
 | .ask i j k,h=>hc i j _ h.1 h.2.1 fun b=>KAll.wp hc (k b) (h.2.2 b)
def PR (n:Nat) (p:Array Nat):Prop:=p.Perm (List.toArray (List.range n))
theorem PR.lt {n:Nat} {p:Array Nat} (h:PR n p) (h0:0 < n) (i:Nat):p.getD i 0 < n:=by
 rw [Array.getD_eq_getD_getElem?]
 cases e:p[i]? with
 | none=>exact h0
 | some x =>
  have:x ∈ p:=Array.mem_of_getElem? e
  have:=(h.mem_iff).mp this
  simpa using this
end
section
open PySem.SeqAt
open PySem.AutoSeq1 (wpAny_loadPart')
open PySem.MeetsSeq PySem.MeetsSeq2 PySem.MeetsSeq3
inductive Ord:Nat->D->Prop where
 | int (i:Int):Ord 0 (.int i)
 | tup {n:Nat} {ds:List D} (h:∀ d ∈ ds,Ord n d):Ord (n + 1) (.tup ds)
theorem Ord.dep {n:Nat} {d:D} (h:Ord n d):dep d ≤ n:=by
 induction h with
 | int i=>exact Nat.le_refl 0
 | tup h ih=>show jdn _ + 1 ≤ _; exact Nat.succ_le_succ (jrE ih)
end
section
open PySem.W
variable {X:Cx} {pins:List (Addr × Obj)} {σ:L2.St} {H:Hp} {s:Shared} {S:Addr->Prop}
end
section
open PySem.SeqAt
open PySem.AutoSeq1 (wpAny_loadPart')
open PySem.MeetsSeq PySem.MeetsSeq2 PySem.MeetsSeq3
open HT
variable {X:Cx}
end
section
variable {K:PySem.W.Frag} {B:Bs} {S:Addr->Prop} {H:Hp} {σ:L2.St} {ρ:jL}
theorem ER.hide {F:Addr->Prop} {H2:Hp} (er:ER K B S H σ ρ) (s:Same H H2) (hF:∀ b,F b->H b = none∧∃ o,H2 b = some o):ER K B (fun b=>S b ∨ F b) H2 σ ρ:=by
 have hT:=jb0 (K:=K) s
 have hL:∀ b xs,LR K S H b xs->LR K (fun b=>S b ∨ F b) H2 b xs:=fun b xs q=>by
  rcases q with ⟨n,q⟩ | q
  ·have nF:¬ F b:=fun z=>by
    have:=(hF b z).1
    rcases q with q | ⟨o,q⟩ <;> (rw [this] at q; cases q)
   refine .inl ⟨fun z=>z.elim n nF,?_⟩
   rcases q with q | ⟨o,q⟩
   ·exact .inl (s _ _ q)
   ·exact .inr ⟨o,s _ _ q⟩
  ·exact .inr q
 have mv:∀ {c:D} {w:V},Rep K S H c w->Rep K (fun b=>S b ∨ F b) H2 c w:=fun {c w} q=>Rep.map hT hL c w q
 have mvs:∀ {c:List D} {w:List V},Reps K S H c w->Reps K (fun b=>S b ∨ F b) H2 c w:=fun {c w} q=>Reps.map hT hL c w q
 exact {
  len:=er.len
  same:=er.same.trans s
  sub:=fun b h=>.inl (er.sub b h)
  ok0:=er.ok0
  ok:=fun b h=>h.elim (fun h=>let ⟨o,e⟩:=er.ok b h; ⟨o,s _ _ e⟩) fun h=>(hF b h).2
  val:=fun j c q=>let ⟨w,e,r⟩:=er.val j c q; ⟨w,e,mv r⟩
  own:=fun j c q=>let ⟨a,xs,e,h1,h2,h3,r⟩:=er.own j c q; ⟨a,xs,e,.inl h1,h2,s _ _ h3,mvs r⟩
  dct:=fun j ks ds q=>let ⟨b,e,hs,hz,r'⟩:=er.dct j ks ds q; ⟨b,e,.inl hs,hz,r'.map mvs (let ⟨o,ho,_⟩:=r'.isO; (s _ _ ho).trans ho.symm)⟩
  dq:=er.dq
  rf:=er.rf
  rwx:=er.rwx
  uq:=er.uq
  gh:=fun p hp=>mv (er.gh p hp) }
structure In2 (B:Bs) (S:Addr->Prop) (H:Hp) (a:Addr) (bs:List Addr) (rows:List (List Int)):Prop where
 sa:S a
 a0:B.H0 a = none
 ha:H a = some (.lst (bs.map V.ref))
 na:a ∉ bs
 nd:bs.Nodup
 len:bs.length = rows.length
 inn:∀ (m:Nat) b ns,bs[m]? = some b->rows[m]? = some ns->S b∧B.H0 b = none∧H b = some (.lst (ns.map V.int))
structure Own2 (B:Bs) (S:Addr->Prop) (H:Hp) (σ:L2.St) (ρ:jL) (i:Nat) (rows:List (List Int)):Prop where
 un:ρ[i]? = some .un
 no:∀ (j:Nat) ds,ρ[j]? ≠ some (.own ds)
 at':∃ a bs,σ[i]? = some (some (.ref a))∧In2 B S H a bs rows
theorem In2.go {a:Addr} {bs:List Addr} {rows:List (List Int)} {H':Hp} (h:In2 B S H a bs rows) (s:Same H H'):In2 B S H' a bs rows :=
 ⟨h.sa,h.a0,s _ _ h.ha,h.na,h.nd,h.len,fun m b ns e1 e2=>let ⟨x,y,z⟩:=h.inn m b ns e1 e2; ⟨x,y,s _ _ z⟩⟩
theorem Own2.go {i:Nat} {rows:List (List Int)} {H':Hp} (h:Own2 B S H σ ρ i rows) (s:Same H H'):Own2 B S H' σ ρ i rows :=
 ⟨h.un,h.no,let ⟨a,bs,e,q⟩:=h.at'; ⟨a,bs,e,q.go s⟩⟩
theorem Own2.put {i j:Nat} {rows:List (List Int)} {d:D} {v:V} (h:Own2 B S H σ ρ i rows) (hj:j ≠ i):Own2 B S H (σ.set j (some v)) (ρ.set j (.val d)) i rows:=by
 refine ⟨by rw [List.getElem?_set_ne hj]; exact h.un,fun k ds q=>?_,?_⟩
 ·by_cases hk:j = k
  ·subst hk
   rw [List.getElem?_set] at q
   split at q
   ·split at q <;> cases q
   ·exact h.no _ _ q
  ·rw [List.getElem?_set_ne hk] at q; exact h.no k ds q
 ·obtain ⟨a,bs,e,q⟩:=h.at'
  exact ⟨a,bs,by rw [List.getElem?_set_ne hj]; exact e,q⟩
end
abbrev S3o:=(F3->Prop)->jL->List (List Int)->Prop
abbrev K3o:=jL->List (List Int)->Prop
abbrev U3o:=K3o->jL->List (List Int)->Prop
mutual
def NoL:D->Prop
 | .lst _=>False
 | .tup ds=>jaM ds
 | _=>True
def jaM:List D->Prop
 | []=>True
 | d :: ds=>NoL d∧jaM ds
end
section
variable {K:PySem.W.Frag} {S S':Addr->Prop} {H:Hp}
mutual
theorem Rep.noL:∀ (d:D) (v:V),NoL d->Rep K S H d v->Rep K S' H d v
 | .non,v,_,h=>by simpa only [Rep] using h
 | .bl b,v,_,h=>by simpa only [Rep] using h
 | .int i,v,_,h=>by simpa only [Rep] using h
 | .str x,v,_,h=>by simpa only [Rep] using h
 | .tup ds,v,n,h=>by
  simp only [Rep] at h ⊢
  obtain ⟨a,xs,e,q,r⟩:=h
  exact ⟨a,xs,e,q,Reps.noL ds xs (by simpa only [NoL] using n) r⟩
 | .lst ds,v,n,h=>by simp only [NoL] at n
theorem Reps.noL:∀ (ds:List D) (vs:List V),jaM ds->Reps K S H ds vs->Reps K S' H ds vs
 | [],vs,_,h=>by simpa only [Reps] using h
 | d :: ds,vs,n,h=>by
  simp only [jaM] at n
  simp only [Reps] at h ⊢
  obtain ⟨x,r,e,q,t⟩:=h
  exact ⟨x,r,e,Rep.noL d x n.1 q,Reps.noL ds r n.2 t⟩
end
theorem jrz:∀ {ds:List D},(∀ d ∈ ds,NoL d)->jaM ds
 | [],_=>by simp only [jaM]
 | d :: ds,h=>by simp only [jaM]; exact ⟨h d List.mem_cons_self,jrz fun e he=>h e (List.mem_cons_of_mem _ he)⟩
end
abbrev frz (i:Nat) (ρ:jL):jL:=match ρ[i]? with | some (.own ds)=>ρ.set i (.val (.lst ds)) | _=>ρ
theorem ER.frz {K:PySem.W.Frag} {B:Bs} {S:Addr->Prop} {H:Hp} {σ:L2.St} {ρ:jL} (i:Nat) (er:ER K B S H σ ρ):∃ S',ER K B S' H σ (D3.frz i ρ):=by
 unfold D3.frz
 split
 ·rename_i ds e
  exact er.freeze e
 ·exact ⟨S,er⟩
def del (H:Hp) (p:Addr):Hp:=fun b=>if b = p then none else H b
theorem Reps.del {K:PySem.W.Frag} {S:Addr->Prop} {H:Hp} {p:Addr} {xs:List V} {ds:List D} {ys:List V} (hl:H p = some (.lst xs)) (r:Reps K (fun b=>S b ∨ b = p) H ds ys):Reps K S (D3.del H p) ds ys:=by
 refine Reps.map (fun b zs q=>?_) (fun b zs q=>?_) _ _ r
 ·rcases q with (q | ⟨o,q⟩) | q
  ·exact .inl (.inl (by simp only [D3.del,jdf q hl (fun z=>by cases z),if_false]; exact q))
  ·exact .inl (.inr ⟨o,by simp only [D3.del,jdf q hl (fun z=>by cases z),if_false]; exact q⟩)
  ·exact .inr q
 ·rcases q with ⟨n,q⟩ | q
  ·have hb:b ≠ p:=fun z=>n (.inr z)
   refine .inl ⟨fun z=>n (.inl z),?_⟩
   rcases q with q | ⟨o,q⟩
   ·exact .inl (by simp only [D3.del,hb,if_false]; exact q)
   ·exact .inr ⟨o,by simp only [D3.del,hb,if_false]; exact q⟩
  ·exact .inr q
theorem Reps.hide {K:PySem.W.Frag} {S:Addr->Prop} {H H2:Hp} {p:Addr} {ds:List D} {ys:List V} (hp:H p = none) (s:Same H H2) (r:Reps K S H ds ys):Reps K (fun b=>S b ∨ b = p) H2 ds ys:=by
 refine Reps.map (jb0 s) (fun b zs q=>?_) _ _ r
 rcases q with ⟨n,q⟩ | q
 ·have hb:b ≠ p:=by
   rintro rfl
   rcases q with q | ⟨o,q⟩ <;> rw [hp] at q <;> cases q
  refine .inl ⟨fun z=>z.elim n hb,?_⟩
  rcases q with q | ⟨o,q⟩
  ·exact .inl (s _ _ q)
  ·exact .inr ⟨o,s _ _ q⟩
 ·exact .inr q
end D3
set_option Elab.async false
set_option linter.all false
set_option maxRecDepth 100000
set_option maxHeartbeats 4000000
namespace PySem
open Sem (wp)
end PySem
namespace D3
open PySem PySem.Spec PyProof.Rows L2
section
open PySem.SeqAt
open PySem.AutoSeq1 (wpAny_loadPart')
open PySem.MeetsSeq PySem.MeetsSeq2 PySem.MeetsSeq3
def RcX (op:CmpOp) (A:Around) (s:Shared) (y x:Value) (c:Bool):Prop:=∀ (prog:Program) (w:World) (E:Value->Shared->Prop) (Q:Value->Shared->Prop),Q (.bool c) s->wpAny (model prog w) A (richCompare op y x) Q E s
inductive LexX (op:CmpOp) (A:Around) (s:Shared) (g:Nat->Nat->Bool):List Value->List Value->Bool->Prop where
 | nil {ws:List Value}:LexX op A s g [] ws (g 0 ws.length)
 | nil' {vs:List Value}:LexX op A s g vs [] (g vs.length 0)
 | eq {v w:Value} {vs ws:List Value} {c:Bool}:EqAt A s v w true->LexX op A s g vs ws c->LexX op A s g (v :: vs) (w :: ws) c
 | ne {v w:Value} {vs ws:List Value} {c:Bool}:EqAt A s v w false->RcX op A s v w c->LexX op A s g (v :: vs) (w :: ws) c
theorem LexX.fin {op:CmpOp} {A:Around} {s:Shared} {g:Nat->Nat->Bool} {vs ws:List Value} {c:Bool} (h:LexX op A s g vs ws c) (z:vs.zip ws = []):c = g vs.length ws.length∧(vs.length = 0 ∨ ws.length = 0):=by
 cases h with
 | nil=>exact ⟨rfl,.inl rfl⟩
 | nil'=>exact ⟨rfl,.inr rfl⟩
 | eq=>rw [List.zip_cons_cons] at z; cases z
 | ne=>rw [List.zip_cons_cons] at z; cases z
end
section
open PySem.W
variable {X:Cx} {pins:List (Addr × Obj)} {σ:L2.St} {H:Hp} {s:Shared} {S:Addr->Prop}
end
end D3
set_option Elab.async false
set_option linter.all false
set_option maxRecDepth 100000
set_option maxHeartbeats 4000000
namespace D3
open PySem PySem.Spec PyProof.Rows
section
variable {prog:Program} {w:World} {K:Type} [DecidableEq K] (k1:HeapKind prog w K)
inductive ItsH (h:Heap):List K->List Value->Prop
 | nil:ItsH h [] []
 | cons {k:K} {b:Addr} {ks:List K} {vs:List Value}:k1.is h k b->ItsH h ks vs->ItsH h (k :: ks) (.ref b :: vs)
def IsTupH (h:Heap) (ks:List K) (a:Addr):Prop:=∃ o items n,h.get? a = some o∧o.cls = .type "tuple"∧o.data = .seq items n∧ItsH k1 h ks items.toList
variable {k1}
theorem ItsH.inj {h:Heap} {x y:List K} {vs:List Value} (hx:ItsH k1 h x vs) (hy:ItsH k1 h y vs):x = y:=by
 induction hx generalizing y with
 | nil=>cases hy; rfl
 | cons h1 _ ih =>
  cases hy with
  | cons h2 t2=>rw [k1.inj h1 h2,ih t2]
theorem ItsH.keeps {h h':Heap} {ks:List K} {vs:List Value} {d:Addr} {o:Obj} {es ep} (x:ItsH k1 h ks vs) (ho:h.get? d = some o) (hd:o.data = .dict es ep) (hs:Heap.SameBut d h h'):ItsH k1 h' ks vs:=by
 induction x with
 | nil=>exact .nil
 | cons h1 _ ih=>exact .cons (k1.keeps h1 ho hd hs) ih
theorem IsTupH.typeIs {s:Shared} {ks:List K} {a:Addr} (x:IsTupH k1 s.heap ks a):s.TypeIs (.ref a) "tuple":=let ⟨o,_,_,ho,hc,_⟩:=x; ⟨o,ho,hc⟩
theorem IsTupH.inj {h:Heap} {a:Addr} {x y:List K} (hx:IsTupH k1 h x a) (hy:IsTupH k1 h y a):x = y:=by
 obtain ⟨o,items,n,ho,_,hd,hi⟩:=hx
 obtain ⟨o',items',n',ho',_,hd',hi'⟩:=hy
 cases (Option.some.inj (ho.symm.trans ho'))
 rw [hd] at hd'
 cases hd'
 exact hi.inj hi'
theorem IsTupH.keeps {h h':Heap} {ks:List K} {a d:Addr} {o:Obj} {es ep} (x:IsTupH k1 h ks a) (ho:h.get? d = some o) (hd:o.data = .dict es ep) (hs:Heap.SameBut d h h'):IsTupH k1 h' ks a:=by
 obtain ⟨o',items,n,ho',hc,hd',hi⟩:=x
 have hne:a ≠ d:=fun z=>by
  subst z
  cases (Option.some.inj (ho'.symm.trans ho))
  rw [hd] at hd'; cases hd'
 exact ⟨o',items,n,(hs.2 a hne).trans ho',hc,hd',hi.keeps ho hd hs⟩
variable {A:Around} {E:Value->Shared->Prop} {s:Shared}
theorem ItsH.toks {h:Heap} {ks:List K} {vs:List Value} (x:ItsH k1 h ks vs):True:=trivial
end
def DE (h:Heap) (d:Addr) (es:Array DictEntry) (ep:Nat):Prop:=∃ o,h.get? d = some o∧o.ExactDict∧o.data = .dict es ep
theorem DE.at {h h':Heap} {d es ep} (x:DE h d es ep) (e:∀ o,h.get? d = some o->h'.get? d = some o):DE h' d es ep:=let ⟨o,ho,r⟩:=x; ⟨o,e _ ho,r⟩
theorem DE.typeIs {s:Shared} {d es ep} (x:DE s.heap d es ep):s.TypeIs (.ref d) "dict":=let ⟨o,ho,hc,_⟩:=x; ⟨o,ho,hc.1⟩
section
open PySem.W
end
end D3
set_option Elab.async false
set_option linter.all false
set_option maxRecDepth 100000
set_option maxHeartbeats 4000000
namespace D3
open PySem PySem.Spec PyProof.Rows L2
section
variable {K:PySem.W.Frag} {B:Bs} {S:Addr->Prop} {H:Hp} {σ:L2.St} {ρ:jL} {a:Addr} {ks ds:List D} {o:HO}
theorem DctAt.kind (h:DctAt K S H a ks ds):(∃ kvs,H a = some (.dK kvs)) ∨ ∃ φ,H a = some (.ext φ):=by
 rcases h with ⟨_,_,_,_,_,h,_⟩ | ⟨_,_,_,_,_,_,_,_,_,h,_⟩
 ·exact .inl ⟨_,h⟩
 ·exact .inr ⟨_,h⟩
end
theorem DX.mono {a:Addr} {kss:List (List (List Int))} {bs:List Addr} {xs:List V}:∀ h1 h2:Heap,DX a kss bs xs h1->(∀ o,h1.get? a = some o->h2.get? a = some o)->DX a kss bs xs h2 :=
 fun h1 h2 ⟨us,o,es,ep,v,ho,r⟩ k=>⟨us,o,es,ep,v,k o ho,r⟩
def z3:List (List (List Int))->List Addr->List Value->List (List (List Int) × Addr × Value)
 | k :: ks,b :: bs,u :: us=>(k,b,u) :: z3 ks bs us
 | _,_,_=>[]
section
variable {X:Cx} {pins:List (Addr × Obj)} {σ:L2.St} {H:Hp} {s:Shared} {S:Addr->Prop}
theorem jqi {P:Program} {w:World}:∀ {ns:List Int} {us:List Value},Vals (ns.map V.int) us->ItemsAre (intKind P w) ns us
 | [],us,h=>by cases h; exact .nil
 | n :: ns,us,h=>by
  cases h with
  | cons h t =>
   obtain ⟨tk,rfl⟩:=h
   exact .cons (by show Value.isInt n (.int n tk) = true; simp [Value.isInt]) (jqi t)
theorem is1 (I:Inv X pins σ H s) {ns:List Int} {v:V} {u:Value} (r:Rep X.K S H (.tup (ns.map .int)) v) (ru:RelV v u):∃ b,u = .ref b∧(tupleKind (intKind X.prog X.w)).is s.heap ns b:=by
 obtain ⟨b,xs,rfl,q,rs⟩:=jU r
 cases rs.intsV
 cases (show u = Value.ref b from ru)
 obtain ⟨its,rv,⟨o,ho,hc,n,hd⟩,_⟩:=I.tuple q
 exact ⟨b,rfl,o,its.toArray,n,ho,hc,hd,by rw [List.toList_toArray]; exact jqi rv⟩
theorem its2 (I:Inv X pins σ H s):∀ {kk:List (List Int)} {xs:List V} {us:List Value},Reps X.K S H (kk.map fun ns=>.tup (ns.map .int)) xs->Vals xs us->ItsH (tupleKind (intKind X.prog X.w)) s.heap kk us
 | [],xs,us,r,v=>by
  simp only [List.map_nil,Reps] at r
  subst r; cases v; exact .nil
 | ns :: kk,xs,us,r,v=>by
  simp only [List.map_cons,Reps] at r
  obtain ⟨x,xs,rfl,rx,r⟩:=r
  cases v with
  | cons h v =>
   obtain ⟨b,rfl,hb⟩:=is1 I rx h
   exact .cons hb (its2 I r v)
end
section
open PySem.W
variable {X:Cx} {pins:List (Addr × Obj)} {σ:L2.St} {H:Hp} {s:Shared} {S:Addr->Prop}
end
section
open PySem.SeqAt
open PySem.AutoSeq1 (wpAny_loadPart')
open PySem.MeetsSeq PySem.MeetsSeq2 PySem.MeetsSeq3
end
section
open PySem.W
end
section
variable {X:Cx} {a b o e:Expr} {es:List Expr} {ta tb to te:E3} {pos apos cpos:Pos} {x:Str} {p:Pos}
abbrev jaX:R3
 | .str i,.str j,Φ=>i.length + j.length ≤ sizeLine∧Φ (.str (i ++ j))
 | _,_,_=>False
theorem jbo:OpD X (binaryOp .Add) jaX:=⟨_,jsD,fun S H x y u v Φ Q so rx ry hr hd=>by
 match x,y,hr with
 | .str i,.str j,hr =>
  simp only [Rep] at rx ry
  subst rx; subst ry
  exact ⟨i,j,rfl,rfl,hr.1,hd _ _ H hr.2 (Same.refl _) Rep.str⟩⟩
def inT (i j:Str):Bool:=!(Builtin.Str.occurrences j i 0 j.length 1).isEmpty
abbrev juH:R3
 | .str i,.str j,Φ=>Φ (.bl (inT i j))
 | _,_,_=>False
theorem jzQ:OpD X (compareOp .In) juH:=⟨_,jtu,fun S H x y u v Φ Q so rx ry hr hd=>by
 match x,y,hr with
 | .str i,.str j,hr =>
  simp only [Rep] at rx ry
  subst rx; subst ry
  exact ⟨i,j,rfl,rfl,hd _ _ H hr (Same.refl _) Rep.bl⟩⟩
abbrev jm5:jK
 | [.int i],Φ=>i.natAbs.log2 < 1920∧Φ (.str (toString i))
 | _,_=>False
theorem jox:jb8 X (.type "str") jm5:=⟨_,jo0,fun S H ds vs Φ Q so r h hd=>by
 match ds,h with
 | [.int i],h =>
  simp only [Reps,Rep] at r
  obtain ⟨v,_,rfl,rfl,rfl⟩:=r
  exact ⟨i,rfl,h.1,hd _ _ H h.2 (Same.refl _) Rep.str⟩⟩
abbrev jsY:jK
 | [.str z],Φ=>z.length ≤ sizeLine∧Φ (.int z.length)
 | _,_=>False
theorem jtb:jb8 X (.builtin "len") jsY:=⟨_,jql,fun S H ds vs Φ Q so r h hd=>by
 match ds,h with
 | [.str z],h =>
  simp only [Reps,Rep] at r
  obtain ⟨v,_,rfl,rfl,rfl⟩:=r
  exact ⟨z,rfl,h.1,hd _ _ H h.2 (Same.refl _) Rep.int⟩⟩
def MtD (X:Cx) (id:String) (r3:R3):Prop:=∃ r,MtR X id r∧∀ S H x y u v Φ Q,SOk S H->Rep X.K S H x u->Rep X.K S H y v->r3 x y Φ->Hand X.K S H Φ Q->r u [v] H Q
abbrev dMt (r:R3) (to te:E3):E3:=fun ρ Φ=>to ρ fun x=>match x with | .str z=>te ρ fun y=>r (.str z) y Φ | _=>False
theorem jh7 {name:Str} {id:String} {r:R3} (slot:Slot "str" name id) (hty:typeOf (.builtin id) = pure (.type "method_descriptor")) (hm:MtD X id r) (ho:PD X o to) (he:PD X e te)
  (hbase:attributeBase o name X.env (eval o X.env) = eval o X.env:=by rfl)
  (hfew:((backTo cpos (starEach [e] X.env)).all (fun x=>!x.1) && (backToKw cpos (keywordEach [] X.env)).all (fun x=>x.1.isSome)
   && decide (([e]:List Expr).length + ([]:List Keyword).length + (if ([]:List Keyword).isEmpty then 0 else 1) < 30)) = true:=by rfl)
  (hline:(apos.endLine == cpos.line) = true:=by rfl) (hs:starEach [e] X.env = (false,eval e X.env) :: starEach [] X.env:=by rfl) :
  PD X (.Call (.Attribute o name apos) [e] [] cpos) (dMt r to te):=by
 obtain ⟨r2,hm,wr⟩:=hm; obtain ⟨t1,ho,w1⟩:=ho; obtain ⟨t2,he,w2⟩:=he
 refine ⟨_,jv6 PySem.F.plainAttrs_str slot hty hm ho (jbe he jcn hs) hbase hfew hline hs rfl,fun B S H σ ρ Φ Q er q hd=>w1 B S H σ ρ _ _ er q fun d v H1 p1 s1 r1=>?_⟩
 match d,p1,r1 with
 | .str z,p1,r1 =>
  simp only [Rep] at r1
  subst r1
  exact ⟨rfl,w2 B S H1 σ ρ _ _ (er.go s1) p1 fun y u H2 p2 s2 r2'=>wr S H2 _ _ _ _ Φ Q ((er.ok.same s1).same s2) Rep.str r2' p2 (hd.go (s1.trans s2))⟩
abbrev jmA:R3
 | .str i,.str j,Φ=>Φ (.bl (Txt.startswith i j))
 | _,_,_=>False
theorem jpD:MtD X "str.startswith" jmA:=by
 refine ⟨fun x xs H Q=>∃ i j,x = .str i∧xs = [.str j]∧Q (.bl (Txt.startswith i j)) H,fun pins s σ H x xs v us Q I rx rv h=>?_,fun S H x y u v Φ Q so rx ry hr hd=>?_⟩
 ·obtain ⟨i,j,rfl,rfl,q⟩:=h
  obtain ⟨t,rfl⟩:=rx
  obtain ⟨u,rfl,ru⟩:=rv.one
  obtain ⟨t',rfl⟩:=ru
  exact SC.startswith ⟨.bl _,H,I,rfl,q⟩
 ·match x,y,hr with
  | .str i,.str j,hr =>
   simp only [Rep] at rx ry
   subst rx; subst ry
   exact ⟨i,j,rfl,rfl,hd _ _ H hr (Same.refl _) Rep.bl⟩
theorem jnP {K:PySem.W.Frag} {S:Addr->Prop} {H:Hp}:∀ {ys:List Str} {vs:List V},Reps K S H (ys.map .str) vs->vs = ys.map V.str
 | [],vs,h=>by simpa only [List.map_nil,Reps] using h
 | y :: ys,vs,h=>by
  simp only [List.map_cons,Reps,Rep] at h
  obtain ⟨x,r,rfl,rfl,h⟩:=h
  rw [jnP h]; rfl
theorem jjV {K:PySem.W.Frag} {S:Addr->Prop} {H:Hp}:∀ (ys:List Str),Reps K S H (ys.map .str) (ys.map V.str)
 | []=>Reps.nil
 | y :: ys=>Reps.cons Rep.str (jjV ys)
theorem jjd:∀ {ys:List Str} {us:List Value},Vals (ys.map V.str) us->StrsAre us ys
 | [],us,h=>by cases h; exact .nil
 | y :: ys,us,h=>by
  cases h with
  | cons r h =>
   obtain ⟨t,rfl⟩:=r
   exact .cons y t (jjd h)
theorem jnU:∀ (l:List (Str × Tok)),Vals ((l.map (·.1)).map V.str) (strValues l)
 | []=>.nil
 | p :: l=>.cons ⟨p.2,rfl⟩ (jnU l)
abbrev jom:R3
 | .str i,.lst ds,Φ=>∃ ys:List Str,ds = ys.map .str∧(ys.map (·.length)).sum + ys.length * i.length ≤ 16777216∧Φ (.str (Txt.join i ys))
 | _,_,_=>False
theorem jp8:MtD X "str.join" jom:=by
 refine ⟨fun x xs H Q=>∃ i p ys,x = .str i∧xs = [.ref p]∧SqL X.K H p (ys.map V.str)∧(ys.map (·.length)).sum + ys.length * i.length ≤ 16777216∧Q (.str (Txt.join i ys)) H,fun pins s σ H x xs v us Q I rx rv h=>?_,fun S H x y u v Φ Q so rx ry hr hd=>?_⟩
 ·obtain ⟨i,p,ys,rfl,rfl,hq,hz,q⟩:=h
  obtain ⟨t,rfl⟩:=rx
  obtain ⟨u,rfl,ru⟩:=rv.one
  cases ru
  obtain ⟨its,vi,pl,_⟩:=I.list hq
  exact join_list pl.isList (jjd vi) hz fun t' k=>⟨.str _,H,I.tok _,⟨_,rfl⟩,q⟩
 ·match x,y,hr with
  | .str i,.lst ds,hr =>
   simp only [Rep] at rx
   subst rx
   obtain ⟨ys,rfl,hz,hΦ⟩:=hr
   obtain ⟨p,xs,rfl,lr,rs⟩:=j0 ry
   cases jnP rs
   exact ⟨i,p,ys,rfl,rfl,lr.sq,hz,hd _ _ H hΦ (Same.refl _) Rep.str⟩
open PySem.Builtin PySem.Builtin.Str in
theorem jyB {prog:Program} {w:World} {A:Around} {E:Value->Shared->Prop} {s:Shared} {x y:Str} {t u:Tok} {Q:Value->Shared->Prop} (hy:(y.length == 0) = false)
  (h:∀ (l:List (Str × Tok)) (k:Nat),l.map (·.1) = Txt.split x y->Q (.ref s.heap.objs.size) { s with heap:=s.heap.push { cls:=.type "list",data:=.seq (strValues l).toArray },toks:=k })
  (hsz:x.length + 2 ≤ sizeLine):wpAny (model prog w) A (call (.builtin "str.split") [.str x t,.str y u]) Q E s:=by
 have hn:(partsBetween x (occurrences x y 0 x.length (x.length + 1)) y.length).length ≤ sizeLine:=by
  have e1:=StrLaws.occ_length_le x y 0 x.length (x.length + 1)
  rw [length_partsBetween]; omega
 cases h1:(decide (x.length < y.length) || decide (strKind x < strKind y)) with
 | true=>exact call_meets F.slot_str_split (typeIs_str _ _ _) F.entry_str_split (F.args_str_split_2 _ _) (meets_str_split_cannot_occur x y t u h1) (h [(x,t)] s.toks (if_pos h1).symm)
 | false =>
  cases hf:(occurrences x y 0 x.length (x.length + 1)).isEmpty with
  | true=>exact call_meets F.slot_str_split (typeIs_str _ _ _) F.entry_str_split (F.args_str_split_2 _ _) (meets_str_split_not_found x y t u h1 hy hf) (h [(x,t)] s.toks ((if_neg (ne_true_of_eq_false h1)).trans (if_pos hf)).symm)
  | false =>
   refine call_meets F.slot_str_split (typeIs_str _ _ _) F.entry_str_split (F.args_str_split_2 _ _) (meets_str_split_sep x y t u h1 hy hf (by omega) hn) ?_
   have:=h (numbered s.toks (partsBetween x (occurrences x y 0 x.length (x.length + 1)) y.length)) (s.toks + (partsBetween x (occurrences x y 0 x.length (x.length + 1)) y.length).length) ((numbered_texts _ _).trans ((if_neg (ne_true_of_eq_false h1)).trans (if_neg (ne_true_of_eq_false hf))).symm)
   rw [← strsFrom_eq] at this
   exact this
abbrev joQ (to te:E3):A3:=fun ρ Φ=>to ρ fun x=>match x with
 | .str z=>te ρ fun y=>match y with | .str c=>z.length + 2 ≤ sizeLine∧(c.length == 0) = false∧Φ ((Txt.split z c).map .str) | _=>False
 | _=>False
theorem jvC:MtR X "str.split" (fun x xs H Q=>∃ i j,x = .str i∧xs = [.str j]∧i.length + 2 ≤ sizeLine∧(j.length == 0) = false∧∀ l,H l = none->Q (.ref l) (jG H l (.lst ((Txt.split i j).map V.str)))):=by
 intro pins s σ H x xs v us Q I rx rv h
 obtain ⟨i,j,rfl,rfl,hz,hj,q⟩:=h
 obtain ⟨t,rfl⟩:=rx
 obtain ⟨u,rfl,ru⟩:=rv.one
 obtain ⟨t',rfl⟩:=ru
 refine jyB hj (fun l k el=>?_) hz
 have kp:∀ b o,s.heap.get? b = some o->(s.heap.push { cls:=.type "list",data:=.seq (strValues l).toArray }).get? b = some o:=fun b o e=>Heap.get?_push_of_some _ e
 have wl:((Txt.split i j).map V.str).length ≤ sizeLine:=by
  rw [List.length_map]
  have:=split_weight i j (by cases e:j.length with | zero=>rw [e] at hj; cases hj | succ n=>omega)
  omega
 have vv:=jnU l
 rw [el] at vv
 exact ⟨.ref s.heap.objs.size,_,I.laid (t':=k) kp (Nat.le_refl _) (show ObjOk X.prog X.w _ _ _ (.lst ((Txt.split i j).map V.str)) from ⟨wl,strValues l,0,vv,Heap.get?_push_size _ rfl⟩),rfl,q _ (I.hok.fresh (Nat.le_refl _))⟩
theorem jpt (ho:PD X o to) (he:PD X e te)
  (hbase:attributeBase o "split" X.env (eval o X.env) = eval o X.env:=by rfl)
  (hfew:((backTo cpos (starEach [e] X.env)).all (fun x=>!x.1) && (backToKw cpos (keywordEach [] X.env)).all (fun x=>x.1.isSome)
   && decide (([e]:List Expr).length + ([]:List Keyword).length + (if ([]:List Keyword).isEmpty then 0 else 1) < 30)) = true:=by rfl)
  (hline:(apos.endLine == cpos.line) = true:=by rfl) (hs:starEach [e] X.env = (false,eval e X.env) :: starEach [] X.env:=by rfl) :
  PF X (.Call (.Attribute o "split" apos) [e] [] cpos) (joQ to te):=by
 obtain ⟨t1,ho,w1⟩:=ho; obtain ⟨t2,he,w2⟩:=he
 refine ⟨_,jv6 PySem.F.plainAttrs_str PySem.F.slot_str_split PySem.F.type_str_split jvC ho (jbe he jcn hs) hbase hfew hline hs rfl,fun B S H σ ρ Φ Q er q hd=>w1 B S H σ ρ _ _ er q fun d v H1 p1 s1 r1=>?_⟩
 match d,p1,r1 with
 | .str z,p1,r1 =>
  simp only [Rep] at r1
  subst r1
  refine ⟨rfl,w2 B S H1 σ ρ _ _ (er.go s1) p1 fun y u H2 p2 s2 r2'=>?_⟩
  match y,p2,r2' with
  | .str c,p2,r2' =>
   simp only [Rep] at r2'
   subst r2'
   exact ⟨z,c,rfl,rfl,p2.1,p2.2.1,fun l hl=>hd _ _ l H2 p2.2.2 (s1.trans s2) hl (jjV _)⟩
end
section
variable {X:Cx} {a b o e:Expr} {es:List Expr} {ta tb to te:E3} {pos p2 apos cpos:Pos} {x:Str} {p:Pos}
abbrev jwd:jK
 | [.str z],Φ=>z.length ≤ 640∧∃ n,PySem.intText? z = some n∧Φ (.int n)
 | _,_=>False
theorem jol:CallR X (.type "int") (fun xs H Q=>∃ z n,xs = [.str z]∧z.length ≤ 640∧PySem.intText? z = some n∧Q (.int n) H):=by
 intro pins s σ H xs us Q I rv h
 obtain ⟨z,n,rfl,hl,hn,q⟩:=h
 obtain ⟨u,rfl,ru⟩:=rv.one
 obtain ⟨t,rfl⟩:=ru
 exact PySem.W.KIN.call_text hn hl ⟨.int n,H,I.tok _,⟨_,rfl⟩,q⟩
theorem jys:jb8 X (.type "int") jwd:=⟨_,jol,fun S H ds vs Φ Q so r h hd=>by
 match ds,h with
 | [.str z],h =>
  simp only [Reps,Rep] at r
  obtain ⟨v,_,rfl,rfl,rfl⟩:=r
  obtain ⟨hl,n,hn,hΦ⟩:=h
  exact ⟨z,n,rfl,hl,hn,hd _ _ H hΦ (Same.refl _) Rep.int⟩⟩
def jAR:V->Option Int->Option Int->Hp->VK->Prop:=fun x lo hi H Q=>∃ z,x = .str z∧z.length ≤ sizeLine∧Q (.str (Txt.slice z lo hi)) H
theorem jzm:SlR X jAR:=by
 intro pins s σ H x v vl vu lo hi sl Q I rx hs pl pu h
 obtain ⟨z,rfl,hz,q⟩:=h
 obtain ⟨t,rfl⟩:=rx
 refine ⟨"str",_,F.slot_str_getitem.lookup,typeIs_str _ _ _,?_⟩
 have fin:∀ t' k,EP X pins σ Q (.str (Txt.slice z lo hi) t') { s with toks:=k }:=fun t' k=>⟨.str _,H,I.tok _,⟨_,rfl⟩,q⟩
 cases pl <;> cases pu
 ·exact wpAny_getItem_str_slice (l:=none) (u:=none) (st:=none) hs rfl (post_val_or_str ⟨Nat.le_trans (Txt.slice_le z _ _) hz,fin⟩)
 ·exact wpAny_getItem_str_slice (l:=none) (u:=some (_,_)) (st:=none) hs rfl (post_val_or_str ⟨Nat.le_trans (Txt.slice_le z _ _) hz,fin⟩)
 ·exact wpAny_getItem_str_slice (l:=some (_,_)) (u:=none) (st:=none) hs rfl (post_val_or_str ⟨Nat.le_trans (Txt.slice_le z _ _) hz,fin⟩)
 ·exact wpAny_getItem_str_slice (l:=some (_,_)) (u:=some (_,_)) (st:=none) hs rfl (post_val_or_str ⟨Nat.le_trans (Txt.slice_le z _ _) hz,fin⟩)
abbrev jy6 (te:E3) (tl th:O3):E3:=fun ρ Φ=>te ρ fun d=>tl ρ fun lo=>th ρ fun hi=>match d with | .str z=>z.length ≤ sizeLine∧Φ (.str (Txt.slice z lo hi)) | _=>False
theorem jta {lo hi:Option Expr} {tl th:O3} (he:PD X e te) (hl:POD X lo tl) (hu:POD X hi th):PD X (.Subscript e (.Slice lo hi none p2) pos) (jy6 te tl th):=by
 obtain ⟨t2,h,w⟩:=he; obtain ⟨l2,hl,wl⟩:=hl; obtain ⟨u2,hu,wu⟩:=hu
 refine ⟨_,jo8 jzm h hl hu,fun B S H σ ρ Φ Q er q hd=>w B S H σ ρ _ _ er q fun d v H1 p1 s1 r1=>wl B S H1 σ ρ _ _ (er.go s1) p1 fun l H2 p2 s2=>wu B S H2 σ ρ _ _ ((er.go s1).go s2) p2 fun u H3 p3 s3=>?_⟩
 cases d <;> first | exact p3.elim | skip
 simp only [Rep] at r1
 subst r1
 exact ⟨_,rfl,p3.1,hd _ _ H3 p3.2 ((s1.trans s2).trans s3) Rep.str⟩
def Its (x:Str):It:=⟨fun i _=>i < x.cps.size,fun i H v H'=>H' = H∧∃ c,x.cps[i]? = some c∧v = .str ⟨#[c]⟩,fun i _=>i = x.cps.size⟩
theorem jvj {P:Program} {w:World} {K:PySem.W.Frag} {tg:Expr} {T:String} (hT:T = "str_ascii_iterator" ∨ T = "str_iterator") (x:Str) (t:Tok) (it:Addr)
  (W:∀ A:Around,A.handled = none->Walks P w A it [it] [it] x.cps.size (SignAt x) (fun i h=>h.IsStrIter it T x t i)):jio P w K tg (Its x) [it] it (fun i h=>h.IsStrIter it T x t i) where
 mem:=by simp
 obj:=fun i h st b hb=>by
  have e:b = it:=by simpa using hb
  subst e
  obtain ⟨o,e,c,d⟩:=st
  exact ⟨o,e,fun v z=>by rw [d] at z; cases z⟩
 keep:=fun i h h' st k=>let ⟨o,ho,r⟩:=st; ⟨o,k it (by simp) o ho,r⟩
 item:=by
  intro X hP hw hK hc i pins s σ H E I hf st hg
  subst hP hw hK
  obtain ⟨f0,f1,f2,f3,f4,f5⟩:=hf it (by simp)
  refine (W X.A (I.ok.hd hc)).item i s _ E hg st fun v h' tk hP st' kp=>?_
  obtain ⟨c,u,ec,rfl⟩:=hP
  have I1:Inv X pins σ H { s with heap:=h',toks:=tk }:=I.turned (t':=tk) (fun b o hb e=>kp b o (by simpa using hb) e) f0 f1 f3 f4 f5
  obtain ⟨o,e,c',d⟩:=id st'
  refine ⟨_,rfl,jla (s:={ s with heap:=h',toks:=tk }) e c' d ?_ ⟨.str ⟨#[c]⟩,H,I1,⟨_,rfl⟩,⟨rfl,c,ec,rfl⟩,st',fun b hb=>(hf b hb).1⟩⟩
  rcases hT with rfl | rfl <;> decide
 done:=by
  intro X hP hw hK hc i pins s σ H E I hf st hg
  subst hP hw hK
  obtain ⟨f0,f1,f2,f3,f4,f5⟩:=hf it (by simp)
  have hg:i = x.cps.size:=hg
  subst hg
  exact (W X.A (I.ok.hd hc)).done s _ E st fun h' tk kp=>⟨rfl,I.turned (t':=tk) (fun b o hb e=>kp b o (by simpa using hb) e) f0 f1 f3 f4 f5⟩
 self:=fun A i s Q E st h=>by
  rcases hT with rfl | rfl
  ·exact wpAny_pyIter_striter_ascii st h
  ·exact wpAny_pyIter_striter_wide st h
def jAL (tl:TE):TI:=fun σ H R=>tl σ H fun x H1=>∃ z,x = .str z∧R (Its z) H1
theorem jzq {tg l:Expr} {tl:TE} (hl:PE X l tl):PI X tg l (jAL tl):=by
 intro pins s σ H R I h
 refine jF (hl pins s σ H _ I h) fun v s1 qZ=>?_
 obtain ⟨x,H1,I1,r1,q1⟩:=qZ
 obtain ⟨z,rfl,q⟩:=q1
 obtain ⟨t,rfl⟩:=r1
 have go:∀ (T:String) (hT:T = "str_ascii_iterator" ∨ T = "str_iterator") (W:∀ A:Around,A.handled = none->Walks X.prog X.w A s1.heap.objs.size [s1.heap.objs.size] [s1.heap.objs.size] z.cps.size (SignAt z) (fun i h=>h.IsStrIter s1.heap.objs.size T z t i)),
   PIE X pins σ tg R (.ref s1.heap.objs.size) { s1 with heap:=s1.heap.push { cls:=.type T,data:=.fields #[.str z t,.int 0 0] } }:=fun T hT W=>by
  refine ⟨s1.heap.objs.size,[s1.heap.objs.size],_,_,H1,rfl,I1.kept (t':=s1.toks) fun b o e=>Heap.get?_push_of_some _ e,jvj hT z t _ W,⟨_,Heap.get?_push_size _ rfl,rfl,rfl⟩,fun b hb=>?_,q⟩
  have e:b = s1.heap.objs.size:=by simpa using hb
  subst e
  exact I1.fpOk (Nat.le_refl _) (I1.hok.fresh (Nat.le_refl _))
 cases ha:z.cps.all (· < 128)
 ·exact wpAny_pyIter_wide ha (go _ (.inr rfl) fun A hA=>Walks.strWide hA _ z t)
 ·exact wpAny_pyIter_ascii ha (go _ (.inl rfl) fun A hA=>Walks.strAscii hA _ z t)
def je7 (z:Str):List D:=z.cps.toList.map fun c=>.str ⟨#[c]⟩
abbrev jwp (te:E3):A3:=fun ρ Φ=>te ρ fun d=>match d with | .str z=>Φ (je7 z) | _=>False
theorem jw5 {tg:Expr} (he:PD X e te):PID X tg e (jwp te):=by
 obtain ⟨t2,h,w⟩:=he
 refine PID.one ⟨_,jzq h,fun B S H σ ρ Φ R er q k=>w B S H σ ρ _ _ er q fun d v H1 p1 s1 r1=>?_⟩
 cases d <;> first | exact p1.elim | skip
 rename_i z
 simp only [Rep] at r1
 subst r1
 have hl:(je7 z).length = z.cps.size:=by unfold je7; rw [List.length_map,Array.length_toList]
 refine ⟨z,rfl,k _ _ (.str z) (.str z) H1 p1 s1 Rep.str fun S' H' _=>⟨hl,fun i hi=>⟨by rw [hl] at hi; exact hi,fun y H2 hy=>?_⟩⟩⟩
 obtain ⟨rfl,c,ec,rfl⟩:=hy
 refine ⟨rfl,.str ⟨#[c]⟩,?_,Rep.str⟩
 unfold je7
 rw [List.getElem?_map,Array.getElem?_toList,ec]
 rfl
end
def cp (x:Str):List Nat:=x.cps.toList
theorem jqm {x y:Str} (h:cp x = cp y):x = y:=PyProof.Rows.ext_toList h
theorem jbL (x y:Str):cp (x ++ y) = cp x ++ cp y:=PySem.W.KT.app_list x y
theorem ja1 (x:Str):(cp x).length = x.length:=Array.length_toList
def jcD (c:Nat):List Str->List Nat
 | []=>[]
 | q :: r=>c :: cp (Str.join ⟨#[c]⟩ (q :: r))
theorem jbC (c:Nat) (p:Str):∀ r,cp (Str.join ⟨#[c]⟩ (p :: r)) = cp p ++ jcD c r
 | []=>by show cp p = cp p ++ []; rw [List.append_nil]
 | q :: r=>by
  show cp (p ++ (⟨#[c]⟩:Str) ++ Str.join ⟨#[c]⟩ (q :: r)) = cp p ++ (c :: cp (Str.join ⟨#[c]⟩ (q :: r)))
  rw [jbL,jbL,List.append_assoc]
  rfl
theorem jiN (c:Nat):∀ (a X:List Nat),c ∉ a->(X = [] ∨ ∃ Y,X = c :: Y)->(a ++ X).takeWhile (· != c) = a∧(a ++ X).dropWhile (· != c) = X
 | [],X,_,h=>by
  rcases h with rfl | ⟨Y,rfl⟩
  ·exact ⟨rfl,rfl⟩
  ·simp
 | d :: a,X,n,h=>by
  have hd:d ≠ c:=fun e=>n (by rw [e]; exact List.mem_cons_self)
  have ih:=jiN c a X (fun z=>n (List.mem_cons_of_mem _ z)) h
  have hb:(d != c) = true:=by simpa using hd
  rw [List.cons_append,List.takeWhile_cons,List.dropWhile_cons,hb]
  exact ⟨congrArg (d :: ·) ih.1,ih.2⟩
theorem jlC (c:Nat):∀ r,jcD c r = [] ∨ ∃ Y,jcD c r = c :: Y
 | []=>.inl rfl
 | q :: r=>.inr ⟨_,rfl⟩
theorem jpI (c:Nat):∀ {ps qs:List Str},ps ≠ []->qs ≠ []->(∀ p ∈ ps,c ∉ cp p)->(∀ p ∈ qs,c ∉ cp p)->Str.join ⟨#[c]⟩ ps = Str.join ⟨#[c]⟩ qs->ps = qs
 | [],_,h,_,_,_,_=>absurd rfl h
 | _ :: _,[],_,h,_,_,_=>absurd rfl h
 | p :: r,q :: s,_,_,hp,hq,e=>by
  have e1:cp p ++ jcD c r = cp q ++ jcD c s:=by rw [← jbC,← jbC,e]
  have t1:=jiN c (cp p) _ (hp p List.mem_cons_self) (jlC c r)
  have t2:=jiN c (cp q) _ (hq q List.mem_cons_self) (jlC c s)
  rw [e1] at t1
  have a:=jqm (t1.1.symm.trans t2.1)
  have b:=t1.2.symm.trans t2.2
  subst a
  congr 1
  cases r with
  | nil =>
   cases s with
   | nil=>rfl
   | cons s0 s=>cases b
  | cons r0 r =>
   cases s with
   | nil=>cases b
   | cons s0 s =>
    have b':cp (Str.join ⟨#[c]⟩ (r0 :: r)) = cp (Str.join ⟨#[c]⟩ (s0 :: s)):=(List.cons.inj b).2
    exact jpI c (fun z=>by cases z) (fun z=>by cases z) (fun u hu=>hp u (List.mem_cons_of_mem _ hu)) (fun u hu=>hq u (List.mem_cons_of_mem _ hu)) (jqm b')
theorem jvg (x:Str) (c:Nat):Txt.split x ⟨#[c]⟩ ≠ []:=by
 unfold Txt.split
 split
 ·exact fun z=>by cases z
 ·split
  ·exact fun z=>by cases z
  ·rw [StrLaws.partsBetween_eq]
   obtain ⟨p,r,e⟩:=StrLaws.partsFrom_ne x (⟨#[c]⟩:Str).length 0 (Builtin.Str.occurrences x ⟨#[c]⟩ 0 x.length (x.length + 1))
   rw [e]
   exact fun z=>by cases z
theorem jk1 (c:Nat) {ps:List Str} (hne:ps ≠ []) (hf:∀ p ∈ ps,c ∉ cp p):Txt.split (Str.join ⟨#[c]⟩ ps) ⟨#[c]⟩ = ps :=
 jpI c (jvg _ _) hne (fun p hp=>StrLaws.split_free _ c p hp) hf (StrLaws.join_split _ _)
theorem jhh (x:Str) (ys:List Str):Txt.join x ys = Str.join x ys:=StrLaws.glued_eq_join x ys
theorem jxN (x:Str) (c:Nat):inT ⟨#[c]⟩ x = decide (c ∈ cp x):=StrLaws.found_one x c
end D3
namespace D3
open PySem PySem.Spec PyProof.Rows L2 PySem.NumText
def dgs (m:Nat):List Nat:=(Nat.toDigits 10 m).map Char.toNat
abbrev jaA (n:Int):Str:=Str.ofString (toString n)
theorem jd1 (m:Nat):cp (jaA (m:Int)) = dgs m:=PySem.W.KIN.signs_num m
theorem jih (m:Nat):cp (jaA (Int.negSucc m)) = 45 :: dgs (m + 1):=by
 show (Str.ofString (toString (Int.negSucc m))).cps.toList = _
 rw [signs_ofString]
 have e:(toString (Int.negSucc m)).toList = '-' :: (Nat.repr (m + 1)).toList:=by
  show ("-" ++ Nat.repr (m + 1)).toList = _
  rw [String.toList_append]
  rfl
 rw [e,List.map_cons,Nat.toList_repr]
 rfl
theorem jdm (m:Nat):AllDigits (dgs m):=by
 intro c hc
 obtain ⟨ch,hch,e⟩:=List.mem_map.mp hc
 have r:=digit_range (Nat.isDigit_of_mem_toDigits (by decide) (by decide) hch)
 rw [← e]
 exact r
theorem joC (m:Nat):dgs m ≠ []:=fun e=>by
 have h:=toDigits_len_ge 10 m
 rw [List.map_eq_nil_iff.mp e] at h
 exact absurd h (by decide)
theorem jmV (m:Nat):digitsVal (dgs m) = m:=PySem.W.KIN.val_back m
theorem jga {n:Int} {k:Nat} (hk:0 < k) (h:n.natAbs < 10 ^ k):(jaA n).length ≤ k + 1∧(dgs n.natAbs).length ≤ k:=by
 have p:∀ m:Nat,m < 10 ^ k->(dgs m).length ≤ k:=fun m hm=>by
  have l:=toString_length_le (v:=(m:Int)) (by omega) hk (by exact_mod_cast hm)
  have e:=ja1 (jaA (m:Int))
  rw [jd1] at e
  rw [e]; exact l
 refine ⟨?_,p _ h⟩
 cases n with
 | ofNat m =>
  have:=p m h
  rw [← ja1]
  show (cp (jaA (m:Int))).length ≤ _
  rw [jd1]; omega
 | negSucc m =>
  have:=p (m + 1) h
  rw [← ja1,jih,List.length_cons]
  omega
theorem jh5 {n:Int} (h:n.natAbs < 10 ^ 60):PySem.intText? (jaA n) = some n:=by
 have l:=(jga (by decide) h).1
 cases n with
 | ofNat m =>
  have e:=intText_digits (x:=jaA (m:Int)) (by show AllDigits (cp _); rw [jd1]; exact jdm m) (by show cp _ ≠ []; rw [jd1]; exact joC m) (Nat.le_trans l (by decide))
  have e2:(jaA (m:Int)).cps.toList = dgs m:=jd1 m
  rw [e2,jmV] at e
  exact e
 | negSucc m =>
  have e:=intText_neg (x:=jaA (Int.negSucc m)) (cs:=dgs (m + 1)) (jih m) (jdm _) (joC _) (Nat.le_trans l (by decide))
  rw [jmV] at e
  exact e
theorem jug {n:Int}:∀ c ∈ cp (jaA n),c = 45 ∨ (48 ≤ c∧c ≤ 57):=by
 intro c hc
 cases n with
 | ofNat m =>
  have hc:c ∈ cp (jaA (m:Int)):=hc
  rw [jd1] at hc
  exact .inr (jdm m c hc)
 | negSucc m =>
  rw [jih] at hc
  rcases List.mem_cons.mp hc with h | h
  ·exact .inl h
  ·exact .inr (jdm _ c h)
theorem jkE {n:Int} {c:Nat} (h:c < 45 ∨ 57 < c):c ∉ cp (jaA n):=fun z=>by
 have:=jug c z
 omega
theorem jvO {m:Nat} (h:m ≠ 0):∀ r,dgs m ≠ 48 :: r:=fun r e=>by
 have hv:=jmV m
 rw [e,digitsVal_zero] at hv
 have ad:AllDigits r:=fun c hc=>jdm m c (by rw [e]; exact List.mem_cons_of_mem _ hc)
 have t:=toDigits_all r ad
 rw [hv] at t
 have l1:(dgs m).length = r.length + 1:=by rw [e]; rfl
 have l2:(dgs m).length = (Nat.toDigits 10 m).length:=by unfold dgs; rw [List.length_map]
 have l3:(r.dropWhile (· == 48)).length ≤ r.length:=(List.dropWhile_sublist _).length_le
 rw [l2,t] at l1
 split at l1
 ·rename_i ed
  have:r.length = 0:=by
   have:(['0']:List Char).length = 1:=rfl
   omega
  have r0:r = []:=List.eq_nil_of_length_eq_zero this
  subst r0
  exact h hv.symm
 ·rename_i c s ed
  rw [List.length_map] at l1
  rw [ed] at l3
  omega
end D3
set_option Elab.async false
set_option linter.all false
set_option maxRecDepth 100000
set_option maxHeartbeats 4000000
namespace D3
open PySem PySem.Spec PyProof.Rows L2
section
variable {X:Cx} {a b c:Expr} {ta tb tc:E3} {pos:Pos} {op op':CmpOp} {r r':R3}
abbrev jlH (r r':R3) (ta tb tc:E3):E3:=fun ρ Φ=>ta ρ fun x=>tb ρ fun y=>r x y fun d=>match d with
 | .bl k=>if k = true then tc ρ fun z=>r' y z Φ else Φ (.bl false)
 | _=>False
theorem jxE {r2 r2':R2} {ta2 tb2 tc2:TE} (wr:∀ S H x y u v Φ Q,SOk S H->Rep X.K S H x u->Rep X.K S H y v->r x y Φ->Hand X.K S H Φ Q->r2 u v H Q) (wr':∀ S H x y u v Φ Q,SOk S H->Rep X.K S H x u->Rep X.K S H y v->r' x y Φ->Hand X.K S H Φ Q->r2' u v H Q)
  (wa:∀ B S H σ ρ Φ Q,ER X.K B S H σ ρ->ta ρ Φ->Hand X.K S H Φ Q->ta2 σ H Q) (wb:∀ B S H σ ρ Φ Q,ER X.K B S H σ ρ->tb ρ Φ->Hand X.K S H Φ Q->tb2 σ H Q) (wc:∀ B S H σ ρ Φ Q,ER X.K B S H σ ρ->tc ρ Φ->Hand X.K S H Φ Q->tc2 σ H Q) :
  ∀ B S H σ ρ Φ Q,ER X.K B S H σ ρ->jlH r r' ta tb tc ρ Φ->Hand X.K S H Φ Q->jtM r2 r2' ta2 tb2 tc2 σ H Q:=fun B S H σ ρ Φ Q er h hd =>
 wa B S H σ ρ _ _ er h fun x u H1 hx s1 rx=>wb B S H1 σ ρ _ _ (er.go s1) hx fun y v H2 hy s2 ry=>wr S H2 x y u v _ _ ((er.ok.same s1).same s2) (rx.same s2) ry hy fun d z H3 hz s3 rz=>by
  cases d <;> first | exact hz.elim | skip
  rename_i k
  refine ⟨k,jak rz,?_⟩
  have er3:=((er.go s1).go s2).go s3
  cases k with
  | false =>
   have hz:Φ (.bl false):=by simpa using hz
   simp only [Bool.false_eq_true,if_false]
   exact hd _ _ H3 hz ((s1.trans s2).trans s3) Rep.bl
  | true =>
   have hz:tc ρ fun z=>r' y z Φ:=by simpa using hz
   simp only [if_true]
   exact wc B S H3 σ ρ _ _ er3 hz fun z' w' H4 h4 s4 r4=>wr' S H4 y z' v w' Φ Q (er3.ok.same s4) ((ry.same s3).same s4) r4 h4 (hd.go (((s1.trans s2).trans s3).trans s4))
theorem jpZ (ho:OpD X (compareOp op) r) (ho':OpD X (compareOp op') r') (ha:PD X a ta) (hb:PD X b tb) (hc:PD X c tc) (hm:lastMarks [op,op'] [b,c] = false:=by with_unfolding_all rfl):PD X (.Compare a [op,op'] [b,c] pos) (jlH r r' ta tb tc):=by
 obtain ⟨r2,ho,wr⟩:=ho; obtain ⟨r2',ho',wr'⟩:=ho'; obtain ⟨ta2,ha,wa⟩:=ha; obtain ⟨tb2,hb,wb⟩:=hb; obtain ⟨tc2,hc,wc⟩:=hc
 exact ⟨_,juX ho ho' ha hb hc hm,jxE wr wr' wa wb wc⟩
end
theorem jrb {K:PySem.W.Frag} {x:Str} {t:Tok}:jea K (.str x) (.str x) (.str x t):=⟨⟨t,rfl⟩,fun _ _=>Rep.str⟩
structure Ob where
 q:Addr
 p:Addr
 ks:List Str
 ds:List D
abbrev Wd:=List Ob
def kvs (ks:List Str) (xs:List V):List (j7 × V):=(ks.map Sum.inr).zip xs
structure Zc where
 C:Addr
 f:Str
structure ObOk (K:PySem.W.Frag) (Z:Zc) (S:Addr->Prop) (H:Hp) (o:Ob):Prop where
 s:S o.q
 at_:∃ xs,H o.q = some (.dK (kvs o.ks xs))∧o.ks.length = xs.length∧Reps K S H o.ds xs
 nd:o.ks.Nodup
 nl:jaM o.ds
 ins:o.p = o.q ∨ ∃ dx,H o.p = some (.ins Z.C dx [(Z.f,.ref o.q)])
structure WOk (K:PySem.W.Frag) (Z:Zc) (S:Addr->Prop) (H:Hp) (W:Wd):Prop where
 ob:∀ o ∈ W,ObOk K Z S H o
 nd:(W.map Ob.q).Nodup
def adr (W:Wd):List (Addr × Addr):=W.map fun o=>(o.q,o.p)
def noDct (ρ:jL):Prop:=∀ (i:Nat) ks ds,ρ[i]? ≠ some (.dct ks ds)
structure EW (K:PySem.W.Frag) (Z:Zc) (B:Bs) (S:Addr->Prop) (H:Hp) (σ:L2.St) (ρ:jL) (W:Wd):Prop where
 er:ER K B S H σ ρ
 w:WOk K Z S H W
 h0:∀ o ∈ W,B.H0 o.q = none
 no:noDct ρ
def SameX (W:Wd) (H H':Hp):Prop:=∀ a o,(∀ w ∈ W,a ≠ w.q)->H a = some o->H' a = some o
section
variable {K:PySem.W.Frag} {Z:Zc} {B:Bs} {S S':Addr->Prop} {H H' H2:Hp} {σ:L2.St} {ρ:jL} {W W':Wd}
theorem SameX.of (h:Same H H'):SameX W H H':=fun a o _ e=>h a o e
theorem SameX.refl:SameX W H H:=fun a o _ e=>e
theorem SameX.trans (h:SameX W H H') (h2:SameX W H' H2):SameX W H H2:=fun a o n e=>h2 a o n (h a o n e)
theorem SameX.adr (e:adr W' = adr W) (h:SameX W' H H'):SameX W H H':=fun a o n=>h a o fun w hw=>by
 have:(w.q,w.p) ∈ D3.adr W:=by rw [← e]; exact List.mem_map.mpr ⟨w,hw,rfl⟩
 obtain ⟨u,hu,eu⟩:=List.mem_map.mp this
 have e1:u.q = w.q:=congrArg Prod.fst eu
 rw [← e1]
 exact n u hu
theorem ObOk.same {o:Ob} (h:ObOk K Z S H o) (s:Same H H'):ObOk K Z S H' o :=
 ⟨h.s,let ⟨xs,e,l,r⟩:=h.at_; ⟨xs,s _ _ e,l,r.same s⟩,h.nd,h.nl,h.ins.imp id fun ⟨dx,e⟩=>⟨dx,s _ _ e⟩⟩
theorem WOk.same (h:WOk K Z S H W) (s:Same H H'):WOk K Z S H' W:=⟨fun o ho=>(h.ob o ho).same s,h.nd⟩
theorem WOk.dict (h:WOk K Z S H W):∀ w ∈ W,∃ kv,H w.q = some (.dK kv):=fun w hw=>let ⟨xs,e,_⟩:=(h.ob w hw).at_; ⟨_,e⟩
theorem jnN (hd:∀ w ∈ W,∃ kv,H w.q = some (.dK kv)) (s:SameX W H H'):∀ b xs,SqT K H b xs->SqT K H' b xs:=fun b xs q=>by
 have ne:∀ {o:HO},(∀ kv,o ≠ .dK kv)->H b = some o->H' b = some o:=fun {o} n e=>s b o (fun w hw z=>by
  obtain ⟨kv,e'⟩:=hd w hw
  rw [z,e'] at e
  cases e
  exact n kv rfl) e
 rcases q with (q | ⟨o,q⟩) | q
 ·exact .inl (.inl (ne (fun _ z=>by cases z) q))
 ·exact .inl (.inr ⟨o,ne (fun _ z=>by cases z) q⟩)
 ·exact .inr q
theorem jpT (hd:∀ w ∈ W,∃ kv,H w.q = some (.dK kv)) (s:SameX W H H'):∀ b xs,LR K S H b xs->LR K S H' b xs:=fun b xs q=>by
 have ne:∀ {o:HO},(∀ kv,o ≠ .dK kv)->H b = some o->H' b = some o:=fun {o} n e=>s b o (fun w hw z=>by
  obtain ⟨kv,e'⟩:=hd w hw
  rw [z,e'] at e
  cases e
  exact n kv rfl) e
 rcases q with ⟨n,q⟩ | q
 ·refine .inl ⟨n,?_⟩
  rcases q with q | ⟨o,q⟩
  ·exact .inl (ne (fun _ z=>by cases z) q)
  ·exact .inr ⟨o,ne (fun _ z=>by cases z) q⟩
 ·exact .inr q
theorem Rep.sameX {d:D} {v:V} (hd:∀ w ∈ W,∃ kv,H w.q = some (.dK kv)) (s:SameX W H H') (r:Rep K S H d v):Rep K S H' d v:=Rep.map (jnN hd s) (jpT hd s) d v r
theorem Reps.sameX {d:List D} {v:List V} (hd:∀ w ∈ W,∃ kv,H w.q = some (.dK kv)) (s:SameX W H H') (r:Reps K S H d v):Reps K S H' d v:=Reps.map (jnN hd s) (jpT hd s) d v r
theorem ER.goX (er:ER K B S H σ ρ) (no:noDct ρ) (hd:∀ w ∈ W,∃ kv,H w.q = some (.dK kv)) (h0:∀ w ∈ W,B.H0 w.q = none) (s:SameX W H H') (hd':∀ w ∈ W,∃ o,H' w.q = some o):ER K B S H' σ ρ where
 len:=er.len
 same:=fun a o e=>s a o (fun w hw z=>by rw [z,h0 w hw] at e; cases e) (er.same a o e)
 sub:=er.sub
 ok0:=er.ok0
 ok:=fun a h=>by
  obtain ⟨o,e⟩:=er.ok a h
  by_cases hq:∃ w ∈ W,a = w.q
  ·obtain ⟨w,hw,rfl⟩:=hq
   exact hd' w hw
  ·exact ⟨o,s a o (fun w hw z=>hq ⟨w,hw,z⟩) e⟩
 val:=fun i d q=>let ⟨v,a,r⟩:=er.val i d q; ⟨v,a,r.sameX hd s⟩
 own:=fun i ds q=>by
  obtain ⟨a,xs,x,y,z,u,r⟩:=er.own i ds q
  refine ⟨a,xs,x,y,z,s a _ (fun w hw e=>?_) u,r.sameX hd s⟩
  obtain ⟨kv,e'⟩:=hd w hw
  rw [e,e'] at u
  cases u
 uq:=er.uq
 dct:=fun i ks ds q=>absurd q (no i ks ds)
 dq:=fun i _ _ ks ds _ _ q=>absurd q (no i ks ds)
 rf:=er.rf
 rwx:=er.rwx
 gh:=fun p hp=>(er.gh p hp).sameX hd s
theorem EW.go (h:EW K Z B S H σ ρ W) (s:Same H H'):EW K Z B S H' σ ρ W:=⟨h.er.go s,h.w.same s,h.h0,h.no⟩
theorem jln (e:adr W' = adr W) {o:Ob} (ho:o ∈ W'):∃ u ∈ W,u.q = o.q∧u.p = o.p:=by
 have:(o.q,o.p) ∈ adr W:=by rw [← e]; exact List.mem_map.mpr ⟨o,ho,rfl⟩
 obtain ⟨u,hu,eu⟩:=List.mem_map.mp this
 exact ⟨u,hu,congrArg Prod.fst eu,congrArg Prod.snd eu⟩
theorem EW.goX (h:EW K Z B S H σ ρ W) (s:SameX W H H') (e:adr W' = adr W) (w:WOk K Z S H' W'):EW K Z B S H' σ ρ W' where
 er:=h.er.goX h.no h.w.dict h.h0 s fun u hu=>by
  obtain ⟨o,ho,eq,_⟩:=jln e.symm hu
  obtain ⟨kv,z⟩:=w.dict o ho
  exact ⟨_,eq ▸ z⟩
 w:=w
 h0:=fun o ho=>by
  obtain ⟨u,hu,eq,_⟩:=jln e ho
  rw [← eq]
  exact h.h0 u hu
 no:=h.no
end
abbrev E4:=jL->Wd->(D->Wd->Prop)->Prop
def jlo (K:PySem.W.Frag) (Z:Zc) (S:Addr->Prop) (H:Hp) (W:Wd) (Φ:D->Wd->Prop) (Q:VK):Prop:=∀ d v H' W',Φ d W'->SameX W H H'->adr W' = adr W->WOk K Z S H' W'->Rep K S H' d v->Q v H'
def PM (X:Cx) (Z:Zc) (e:Expr) (t:E4):Prop:=∃ t2,PE X e t2∧∀ B S H σ ρ W Φ Q,EW X.K Z B S H σ ρ W->t ρ W Φ->jlo X.K Z S H W Φ Q->t2 σ H Q
abbrev jaG (te:E3):E4:=fun ρ W Φ=>te ρ fun d=>Φ d W
theorem jaE {X:Cx} {Z:Zc} {e:Expr} {te:E3} (h:PD X e te):PM X Z e (jaG te):=by
 obtain ⟨t2,h,w⟩:=h
 exact ⟨t2,h,fun B S H σ ρ W Φ Q ew q hd=>w B S H σ ρ _ _ ew.er q fun d v H' p s r=>hd d v H' W p (SameX.of s) rfl (ew.w.same s) r⟩
inductive F4 where
 | nx (ρ:jL) (W:Wd) | bk (ρ:jL) (W:Wd) | ct (ρ:jL) (W:Wd) | rt (d:D) (W:Wd)
abbrev S4:=(F4->Prop)->jL->Wd->Prop
structure EndW (K:PySem.W.Frag) (Z:Zc) (B:Bs) (W:Wd) (Φ:F4->Prop) (D':jed):Prop where
 nx:∀ ρ S H σ W',Φ (.nx ρ W')->EW K Z B S H σ ρ W'->adr W' = adr W->D'.nx σ H
 bk:∀ ρ S H σ W',Φ (.bk ρ W')->EW K Z B S H σ ρ W'->adr W' = adr W->D'.bk σ H
 ct:∀ ρ S H σ W',Φ (.ct ρ W')->EW K Z B S H σ ρ W'->adr W' = adr W->D'.ct σ H
 rt:∀ d v S H W',Φ (.rt d W')->Same B.H0 H->Rep K B.S0 H d v->WOk K Z S H W'->adr W' = adr W->D'.rt v H
def PSW (X:Cx) (Z:Zc) (st:Stmt) (t:S4):Prop:=∃ t2,PS X st t2∧∀ B S H σ ρ W Φ D',EW X.K Z B S H σ ρ W->t Φ ρ W->EndW X.K Z B W Φ D'->t2 D' σ H
def jda (X:Cx) (Z:Zc) (sts:List Stmt) (t:S4):Prop:=∃ t2,PSs X sts t2∧∀ B S H σ ρ W Φ D',EW X.K Z B S H σ ρ W->t Φ ρ W->EndW X.K Z B W Φ D'->t2 D' σ H
def jbI (B:Bs) (H:Hp) (W:Wd):Hp:=fun a=>match H a with
 | some (.lst _)=>B.H0 a
 | some (.dK kv)=>if a ∈ W.map Ob.q then some (.dK kv) else B.H0 a
 | o=>o
def jhz (B:Bs) (H:Hp) (W:Wd):Bs:=⟨fun a=>B.S0 a ∨ ∃ w ∈ W,a = w.q,jbI B H W,B.gh⟩
section
variable {K:PySem.W.Frag} {Z:Zc} {B:Bs} {S S':Addr->Prop} {H H':Hp} {σ σ':L2.St} {ρ ρ':jL} {W:Wd}
theorem jnT (hb:Same B.H0 H):Same (jbI B H W) H:=fun a o e=>by
 unfold jbI at e
 split at e
 ·exact hb a o e
 ·rename_i kv ea
  split at e
  ·cases e; exact ea
  ·exact hb a o e
 ·exact e
theorem jeB (hb:Same B.H0 H):Same B.H0 (jbI B H W):=fun a o e=>by
 unfold jbI
 have:=hb a o e
 split
 ·exact e
 ·rename_i kv ea
  split
  ·rw [this] at ea; cases ea; rfl
  ·exact e
 ·exact this
theorem jmt {a:Addr} {o:HO} (e:H a = some o) (n1:∀ xs,o ≠ .lst xs) (n2:∀ kv,o ≠ .dK kv):jbI B H W a = some o:=by
 unfold jbI
 rw [e]
 cases o <;> first | rfl | exact absurd rfl (n1 _) | exact absurd rfl (n2 _)
theorem jtq:∀ o ∈ W,∀ kv,H o.q = some (.dK kv)->jbI B H W o.q = some (.dK kv):=fun o ho kv e=>by
 unfold jbI
 rw [e]
 exact if_pos (List.mem_map.mpr ⟨o,ho,rfl⟩)
theorem juF (s:Same (jbI B H W) H'):∀ b xs,SqT K H b xs->SqT K H' b xs:=fun b xs q=>by
 rcases q with (q | ⟨o,q⟩) | q
 ·exact .inl (.inl (s _ _ (jmt q (fun _ z=>by cases z) fun _ z=>by cases z)))
 ·exact .inl (.inr ⟨o,s _ _ (jmt q (fun _ z=>by cases z) fun _ z=>by cases z)⟩)
 ·exact .inr q
mutual
theorem Rep.tups (hT:∀ b xs,SqT K H b xs->SqT K H' b xs):∀ (d:D) (v:V),NoL d->Rep K S H d v->Rep K S' H' d v
 | .non,v,_,h=>by simpa only [Rep] using h
 | .bl b,v,_,h=>by simpa only [Rep] using h
 | .int i,v,_,h=>by simpa only [Rep] using h
 | .str x,v,_,h=>by simpa only [Rep] using h
 | .tup ds,v,n,h=>by
  simp only [Rep] at h ⊢
  obtain ⟨a,xs,e,q,r⟩:=h
  exact ⟨a,xs,e,hT a xs q,Reps.tups hT ds xs (by simpa only [NoL] using n) r⟩
 | .lst ds,v,n,h=>by simp only [NoL] at n
theorem Reps.tups (hT:∀ b xs,SqT K H b xs->SqT K H' b xs):∀ (ds:List D) (vs:List V),jaM ds->Reps K S H ds vs->Reps K S' H' ds vs
 | [],vs,_,h=>by simpa only [Reps] using h
 | d :: ds,vs,n,h=>by
  simp only [jaM] at n
  simp only [Reps] at h ⊢
  obtain ⟨x,r,e,q,t⟩:=h
  exact ⟨x,r,e,Rep.tups hT d x n.1 q,Reps.tups hT ds r n.2 t⟩
end
theorem EW.lend (h:EW K Z B S H σ ρ W):ER K (jhz B H W) S H σ ρ where
 len:=h.er.len
 same:=jnT h.er.same
 sub:=fun a z=>z.elim (h.er.sub a) fun ⟨w,hw,e⟩=>e ▸ (h.w.ob w hw).s
 ok0:=fun a z=>by
  rcases z with z | ⟨w,hw,rfl⟩
  ·obtain ⟨o,e⟩:=h.er.ok0 a z
   exact ⟨o,jeB h.er.same a o e⟩
  ·obtain ⟨kv,e⟩:=h.w.dict w hw
   exact ⟨_,jtq w hw kv e⟩
 ok:=h.er.ok
 val:=h.er.val
 own:=fun i ds q=>by
  obtain ⟨a,xs,x,y,z,u,r⟩:=h.er.own i ds q
  refine ⟨a,xs,x,y,?_,u,r⟩
  show jbI B H W a = none
  unfold jbI
  rw [u]
  exact z
 uq:=h.er.uq
 dct:=fun i ks ds q=>absurd q (h.no i ks ds)
 dq:=fun i _ _ ks ds _ _ q=>absurd q (h.no i ks ds)
 rf:=h.er.rf
 rwx:=fun i vs q=>let ⟨a,e,h0⟩:=h.er.rwx i vs q; ⟨a,e,jeB h.er.same a _ h0⟩
 gh:=h.er.gh
theorem WOk.back (h:WOk K Z S H W) (s:Same (jbI B H W) H') (hq:∀ w ∈ W,S' w.q):WOk K Z S' H' W :=
 ⟨fun o ho=>by
  have ok:=h.ob o ho
  obtain ⟨xs,e,l,r⟩:=ok.at_
  exact ⟨hq o ho,⟨xs,s _ _ (jtq o ho _ e),l,Reps.tups (juF s) _ _ ok.nl r⟩,ok.nd,ok.nl,ok.ins.imp id fun ⟨dx,e⟩=>⟨dx,s _ _ (jmt e (fun _ z=>by cases z) fun _ z=>by cases z)⟩⟩,h.nd⟩
theorem EW.back (h:EW K Z B S H σ ρ W) (er:ER K (jhz B H W) S' H' σ' ρ') (no:noDct ρ'):EW K Z B S' H' σ' ρ' W where
 er:={
  len:=er.len
  same:=fun a o e=>er.same a o (jeB h.er.same a o e)
  sub:=fun a z=>er.sub a (.inl z)
  ok0:=h.er.ok0
  ok:=er.ok
  val:=er.val
  own:=fun i ds q=>by
   obtain ⟨a,xs,x,y,z,u,r⟩:=er.own i ds q
   refine ⟨a,xs,x,y,?_,u,r⟩
   cases e:B.H0 a with
   | none=>rfl
   | some o =>
    have:(jhz B H W).H0 a = some o:=jeB h.er.same a o e
    rw [this] at z; cases z
  uq:=er.uq
  dct:=fun i ks ds q=>absurd q (no i ks ds)
  dq:=fun i _ _ ks ds _ _ q=>absurd q (no i ks ds)
  rf:=er.rf
  rwx:=fun i vs q=>by
   obtain ⟨a,e,h0⟩:=er.rwx i vs q
   refine ⟨a,e,?_⟩
   have h0:jbI B H W a = some (.lst vs):=h0
   have ha:H a = some (.lst vs):=jnT h.er.same a _ h0
   unfold jbI at h0
   rw [ha] at h0
   exact h0
  gh:=er.gh }
 w:=h.w.back er.same fun w hw=>er.sub _ (.inr ⟨w,hw,rfl⟩)
 h0:=h.h0
 no:=no
end
def ndS:Sl->Bool
 | .dct _ _=>false
 | _=>true
theorem jN {ρ:jL} (h:ρ.all ndS = true):noDct ρ:=fun i ks ds e=>by
 have:=List.all_eq_true.mp h _ (List.mem_of_getElem? e)
 cases this
theorem noDct.set {ρ:jL} {i:Nat} {d:D} (h:noDct ρ):noDct (ρ.set i (.val d)):=fun j ks ds e=>by
 rw [List.getElem?_set] at e
 split at e
 ·split at e <;> cases e
 ·exact h j ks ds e
section
variable {X:Cx} {Z:Zc} {st:Stmt} {sts jR as bs:List Stmt} {e c:Expr} {te:E3} {tm:E4} {tc:B3} {t u:S4} {t3:S3} {pos:Pos}
abbrev jwo (Φ:F4->Prop) (W:Wd):F3->Prop
 | .nx ρ=>noDct ρ∧Φ (.nx ρ W)
 | .bk ρ=>noDct ρ∧Φ (.bk ρ W)
 | .ct ρ=>noDct ρ∧Φ (.ct ρ W)
 | .rt d=>Φ (.rt d W)
abbrev jah (t:S3):S4:=fun Φ ρ W=>t (jwo Φ W) ρ
theorem juY {B:Bs} {S:Addr->Prop} {H:Hp} {σ:L2.St} {ρ:jL} {W:Wd} {Φ:F4->Prop} {D':jed} (ew:EW X.K Z B S H σ ρ W) (ok:EndW X.K Z B W Φ D'):jsy X.K (jhz B H W) (jwo Φ W) D' where
 nx:=fun ρ' S' H' σ' p er=>ok.nx ρ' S' H' σ' W p.2 (ew.back er p.1) rfl
 bk:=fun ρ' S' H' σ' p er=>ok.bk ρ' S' H' σ' W p.2 (ew.back er p.1) rfl
 ct:=fun ρ' S' H' σ' p er=>ok.ct ρ' S' H' σ' W p.2 (ew.back er p.1) rfl
 rt:=fun d v H' p s r=>ok.rt d v (jhz B H W).S0 H' W p (fun a o e=>s a o (jeB ew.er.same a o e)) (r.sub fun a z=>.inl z) (ew.w.back s fun w hw=>.inr ⟨w,hw,rfl⟩) rfl
theorem jH (h:PSD X st t3):PSW X Z st (jah t3):=by
 obtain ⟨t2,h,w⟩:=h
 exact ⟨t2,h,fun B S H σ ρ W Φ D' ew q ok=>w _ S H σ ρ _ D' ew.lend q (juY ew ok)⟩
abbrev jon (u:S4) (Φ:F4->Prop):F4->Prop
 | .nx ρ W=>u Φ ρ W
 | f=>Φ f
abbrev jas (t u:S4):S4:=fun Φ ρ W=>t (jon u Φ) ρ W
abbrev jfi:S4:=fun Φ ρ W=>Φ (.nx ρ W)
theorem jdA:jda X Z [] jfi:=⟨_,jm9,fun B S H σ ρ W Φ D' ew q ok=>ok.nx ρ S H σ W q ew rfl⟩
theorem jad (h:PSW X Z st t):jda X Z [st] t:=by
 obtain ⟨t2,h,w⟩:=h
 exact ⟨_,jjk h,w⟩
theorem jJ (h1:PSW X Z st t) (h2:jda X Z jR u):jda X Z (st :: jR) (jas t u):=by
 obtain ⟨t2,h,w⟩:=h1; obtain ⟨u2,g,z⟩:=h2
 refine ⟨_,jdu h g,fun B S H σ ρ W Φ D' ew q ok=>w B S H σ ρ W _ _ ew q ⟨fun ρ' S' H' σ' W' p ew' e=>?_,fun ρ' S' H' σ' W' p ew' e=>ok.bk ρ' S' H' σ' W' p ew' e,fun ρ' S' H' σ' W' p ew' e=>ok.ct ρ' S' H' σ' W' p ew' e,fun d v S' H' W' p s r wk e=>ok.rt d v S' H' W' p s r wk e⟩⟩
 exact z B S' H' σ' ρ' W' Φ D' ew' p ⟨fun ρ2 S2 H2 σ2 W2 p2 ew2 e2=>ok.nx ρ2 S2 H2 σ2 W2 p2 ew2 (e2.trans e),fun ρ2 S2 H2 σ2 W2 p2 ew2 e2=>ok.bk ρ2 S2 H2 σ2 W2 p2 ew2 (e2.trans e),fun ρ2 S2 H2 σ2 W2 p2 ew2 e2=>ok.ct ρ2 S2 H2 σ2 W2 p2 ew2 (e2.trans e),fun d v S2 H2 W2 p2 s r wk e2=>ok.rt d v S2 H2 W2 p2 s r wk (e2.trans e)⟩
abbrev B4:=jL->Wd->(Bool->Wd->Prop)->Prop
def PMB (X:Cx) (Z:Zc) (e:Expr) (t:B4):Prop:=∃ t2,PT X e t2∧∀ B S H σ ρ W Φ (Q:Bool->Hp->Prop),EW X.K Z B S H σ ρ W->t ρ W Φ->(∀ b H' W',Φ b W'->SameX W H H'->adr W' = adr W->WOk X.K Z S H' W'->Q b H')->t2 σ H Q
abbrev jcs (tc:B3):B4:=fun ρ W Φ=>tc ρ fun b=>Φ b W
theorem jbs (h:PB X e tc):PMB X Z e (jcs tc):=by
 obtain ⟨t2,h,w⟩:=h
 exact ⟨t2,h,fun B S H σ ρ W Φ Q ew q hd=>w B S H σ ρ _ _ ew.er q fun b H' p s=>hd b H' W p (SameX.of s) rfl (ew.w.same s)⟩
abbrev wIf (tc:B4) (t u:S4):S4:=fun Φ ρ W=>tc ρ W fun b W'=>if b = true then t Φ ρ W' else u Φ ρ W'
theorem EndW.adr {K:PySem.W.Frag} {B:Bs} {W W':Wd} {Φ:F4->Prop} {D':jed} (ok:EndW K Z B W Φ D') (e:D3.adr W' = D3.adr W):EndW K Z B W' Φ D' :=
 ⟨fun ρ2 S2 H2 σ2 W2 p2 ew2 e2=>ok.nx ρ2 S2 H2 σ2 W2 p2 ew2 (e2.trans e),fun ρ2 S2 H2 σ2 W2 p2 ew2 e2=>ok.bk ρ2 S2 H2 σ2 W2 p2 ew2 (e2.trans e),fun ρ2 S2 H2 σ2 W2 p2 ew2 e2=>ok.ct ρ2 S2 H2 σ2 W2 p2 ew2 (e2.trans e),fun d v S2 H2 W2 p2 s r wk e2=>ok.rt d v S2 H2 W2 p2 s r wk (e2.trans e)⟩
theorem jde {tb:B4} (hc:PMB X Z c tb) (ha:jda X Z as t) (hb:jda X Z bs u):PSW X Z (.If c as bs pos) (wIf tb t u):=by
 obtain ⟨c2,h,w⟩:=hc; obtain ⟨t2,ha,wa⟩:=ha; obtain ⟨u2,hb,wb⟩:=hb
 refine ⟨_,jrZ h ha hb,fun B S H σ ρ W Φ D' ew q ok=>w B S H σ ρ W _ _ ew q fun b H' W' p s e wk=>?_⟩
 have ew':=ew.goX s e wk
 cases b with
 | true =>
  have p:t Φ ρ W':=by simpa using p
  simp only [if_true]
  exact wa B S H' σ ρ W' Φ _ ew' p (ok.adr e)
 | false =>
  have p:u Φ ρ W':=by simpa using p
  simp only [Bool.false_eq_true,if_false]
  exact wb B S H' σ ρ W' Φ _ ew' p (ok.adr e)
abbrev jsv (tm:E4):S4:=fun Φ ρ W=>tm ρ W fun d W'=>Φ (.rt d W')
theorem jjw (h:PM X Z e tm):PSW X Z (.Return (some e) pos) (jsv tm):=by
 obtain ⟨t2,h,w⟩:=h
 exact ⟨_,joF h,fun B S H σ ρ W Φ D' ew q ok=>w B S H σ ρ W _ _ ew q fun d v H' W' p s e wk r=>ok.rt d v S H' W' p (ew.goX s e wk).er.same (r.sub ew.er.sub) wk e⟩
abbrev jpd (i:Nat) (tm:E4):S4:=fun Φ ρ W=>tm ρ W fun d W'=>Φ (.nx (ρ.set i (.val d)) W')
theorem EW.put {K:PySem.W.Frag} {B:Bs} {S:Addr->Prop} {H:Hp} {σ:L2.St} {ρ:jL} {W:Wd} {i:Nat} {d:D} {v:V} (h:EW K Z B S H σ ρ W) (r:Rep K S H d v):EW K Z B S H (σ.set i (some v)) (ρ.set i (.val d)) W:=⟨h.er.put r,h.w,h.h0,h.no.set⟩
theorem jnb {i:Nat} {x:Str} {pos':Pos} (hN:X.N.Nodup) (hi:X.N[i]? = some x) (hx:Loc X.env.scope x) (he:PM X Z e tm) (hs:swapsWith e (some (.Name x pos')) pos.line X.env = pure false:=by rfl)
  (hf:X.fn x = true ∨ X.env.scope.names.lookup x = some .local:=by first | exact .inl rfl | exact .inr rfl | assumption):PSW X Z (.Assign [.Name x pos'] e pos) (jpd i tm):=by
 obtain ⟨t2,h,w⟩:=he
 exact ⟨_,jk2 hN hi hx h hs hf,fun B S H σ ρ W Φ D' ew q ok=>w B S H σ ρ W _ _ ew q fun d v H' W' p s e wk r=>ok.nx _ S H' _ W' p ((ew.goX s e wk).put r) e⟩
abbrev jsm (tm:E4):S4:=fun Φ ρ W=>tm ρ W fun _ W'=>Φ (.nx ρ W')
theorem jko (he:PM X Z e tm) (hs:swapsWith e none pos.line X.env = pure false:=by rfl):PSW X Z (.Expr e pos) (jsm tm):=by
 obtain ⟨t2,h,w⟩:=he
 exact ⟨_,jxw h hs,fun B S H σ ρ W Φ D' ew q ok=>w B S H σ ρ W _ _ ew q fun d v H' W' p s e wk r=>ok.nx _ S H' _ W' p (ew.goX s e wk) e⟩
end
def RepA (K:PySem.W.Frag) (S:Addr->Prop) (H:Hp):Sl->V->Prop
 | .val d,v=>Rep K S H d v
 | .raw u,v=>v = u
 | _,_=>False
inductive RepsA (K:PySem.W.Frag) (S:Addr->Prop) (H:Hp):List Sl->List V->Prop
 | nil:RepsA K S H [] []
 | cons {a:Sl} {v:V} {as:List Sl} {vs:List V}:RepA K S H a v->RepsA K S H as vs->RepsA K S H (a :: as) (v :: vs)
section
variable {K:PySem.W.Frag} {Z:Zc} {S S':Addr->Prop} {H H':Hp} {W W':Wd}
theorem RepsA.len:∀ {as:List Sl} {vs:List V},RepsA K S H as vs->as.length = vs.length
 | _,_,.nil=>rfl
 | _,_,.cons _ r=>by rw [List.length_cons,List.length_cons,r.len]
theorem RepA.same {a:Sl} {v:V} (s:Same H H') (r:RepA K S H a v):RepA K S H' a v:=by
 cases a <;> first | exact Rep.same s r | exact r
theorem RepsA.same:∀ {as:List Sl} {vs:List V},Same H H'->RepsA K S H as vs->RepsA K S H' as vs
 | _,_,_,.nil=>.nil
 | _,_,s,.cons h r=>.cons (h.same s) (r.same s)
theorem RepsA.get:∀ {as:List Sl} {vs:List V},RepsA K S H as vs->∀ (i:Nat) a,as[i]? = some a->∃ v,vs[i]? = some v∧RepA K S H a v
 | _,_,.nil,i,a,e=>by cases e
 | _,_,.cons (v:=v) h r,0,a,e=>by cases e; exact ⟨v,rfl,h⟩
 | _,_,.cons h r,i + 1,a,e=>r.get i a e
end
abbrev AA:=jL->(List Sl->Prop)->Prop
abbrev jdy:=List Sl->Wd->(D->Wd->Prop)->Prop
def jej (C:jdy):Prop:=∀ as W (Φ Ψ:D->Wd->Prop),(∀ d W',Φ d W'->Ψ d W')->C as W Φ->C as W Ψ
def spW (K:PySem.W.Frag) (Z:Zc) (n:Nat) (C:jdy):Sp:=fun vs H Q _=>∃ as S W,as.length = n∧RepsA K S H as vs∧SOk S H∧WOk K Z S H W∧C as W fun d W'=>∀ v H',SameX W H H'->adr W' = adr W->WOk K Z S H' W'->Rep K S H' d v->Q v H'
abbrev jao (Φ:D->Wd->Prop):F4->Prop
 | .nx _ W=>Φ .non W
 | .rt d W=>Φ d W
 | _=>False
def ja8 (n:Nat) (as:List Sl):jL:=as ++ List.replicate (n - as.length) .un
def jfK (H:Hp) (W:Wd):Hp:=fun a=>if a ∈ W.map Ob.q then none else H a
section
variable {K:PySem.W.Frag} {Z:Zc} {S S':Addr->Prop} {H H':Hp} {W W':Wd}
theorem js4:Same (jfK H W) H:=fun a o e=>by
 unfold jfK at e
 split at e
 ·cases e
 ·exact e
theorem jmM {a:Addr} (h:∀ w ∈ W,a ≠ w.q):jfK H W a = H a:=if_neg fun z=>by
 obtain ⟨w,hw,e⟩:=List.mem_map.mp z
 exact h w hw e.symm
theorem jzv {w:Ob} (h:w ∈ W):jfK H W w.q = none:=if_pos (List.mem_map.mpr ⟨w,h,rfl⟩)
def jpx (S:Addr->Prop) (W:Wd):Addr->Prop:=fun a=>S a∧∀ w ∈ W,a ≠ w.q
theorem jbF {n:Nat} {as:List Sl} {i:Nat} {s:Sl} (e:(ja8 n as)[i]? = some s) (hs:s ≠ .un):as[i]? = some s:=by
 unfold ja8 at e
 rw [List.getElem?_append] at e
 split at e
 ·exact e
 ·rw [List.getElem?_replicate] at e
  split at e
  ·cases e; exact absurd rfl hs
  ·cases e
theorem jpa {N:List Str} {vs:List V} {i:Nat} {v:V} (e:vs[i]? = some v):(L2.jbc N vs)[i]? = some (some v):=by
 unfold L2.jbc
 have hi:i < vs.length:=(List.getElem?_eq_some_iff.mp e).1
 rw [List.getElem?_append_left (by rw [List.length_map]; exact hi),List.getElem?_map,e]
 rfl
theorem jpH {as:List Sl} {vs:List V} {N:List Str} (r:RepsA K S H as vs) (so:SOk S H) (w:WOk K Z S H W):EW K Z ⟨jpx S W,jfK H W,[]⟩ S H (L2.jbc N vs) (ja8 N.length as) W where
 er:={
  len:=by
   unfold L2.jbc ja8
   rw [List.length_append,List.length_append,List.length_map,List.length_replicate,List.length_replicate,r.len]
  same:=js4
  sub:=fun a z=>z.1
  ok0:=fun a z=>by
   obtain ⟨o,e⟩:=so a z.1
   exact ⟨o,by show jfK H W a = some o; rw [jmM z.2]; exact e⟩
  ok:=so
  val:=fun i d q=>by
   obtain ⟨v,ev,rv⟩:=r.get i _ (jbF q (fun z=>by cases z))
   exact ⟨v,jpa ev,rv⟩
  own:=fun i ds q=>by
   obtain ⟨v,ev,rv⟩:=r.get i _ (jbF q (fun z=>by cases z))
   exact rv.elim
  uq:=fun i j a ds es q=>by
   obtain ⟨v,ev,rv⟩:=r.get i _ (jbF q (fun z=>by cases z))
   exact rv.elim
  dct:=fun i ks ds q=>by
   obtain ⟨v,ev,rv⟩:=r.get i _ (jbF q (fun z=>by cases z))
   exact rv.elim
  dq:=fun i j a ks ds ks' ds' q=>by
   obtain ⟨v,ev,rv⟩:=r.get i _ (jbF q (fun z=>by cases z))
   exact rv.elim
  rf:=fun i v q=>by
   obtain ⟨u,eu,ru⟩:=r.get i _ (jbF q (fun z=>by cases z))
   cases (show u = v from ru)
   exact jpa eu
  rwx:=fun i vs q=>by
   obtain ⟨v,ev,rv⟩:=r.get i _ (jbF q (fun z=>by cases z))
   exact rv.elim
  gh:=fun p hp=>by cases hp }
 w:=w
 h0:=fun o ho=>jzv ho
 no:=fun i ks ds q=>by
  obtain ⟨v,ev,rv⟩:=r.get i _ (jbF q (fun z=>by cases z))
  exact rv.elim
theorem WOk.out (h:WOk K Z S' H W') (hq:∀ w ∈ W',S w.q):WOk K Z S H W':=⟨fun o ho=>by
 have ok:=h.ob o ho
 obtain ⟨xs,e,l,r⟩:=ok.at_
 exact ⟨hq o ho,⟨xs,e,l,Reps.noL _ _ ok.nl r⟩,ok.nd,ok.nl,ok.ins⟩,h.nd⟩
theorem Rep.out {d:D} {v:V} (hd:∀ w ∈ W,∃ kv,H w.q = some (.dK kv)) (r:Rep K (jpx S W) H d v):Rep K S H d v:=by
 refine Rep.map (fun _ _ q=>q) (fun b xs q=>?_) d v r
 rcases q with ⟨n,q⟩ | q
 ·refine .inl ⟨fun z=>n ⟨z,fun w hw e=>?_⟩,q⟩
  obtain ⟨kv,e'⟩:=hd w hw
  rw [← e] at e'
  rcases q with q | ⟨o,q⟩ <;> (rw [e'] at q; cases q)
 ·exact .inr q
end
section
variable {P:Program} {w:World} {K:PySem.W.Frag} {mg:Str->Option Value} {base:Heap} {Z:Zc}
theorem jiL {x qual:Str} {st:Stmt} {f:Addr} {fd:FuncData} {N ps:List Str} {k:Nat} {C:jdy} (mo:jej C) (F:Fun K x qual st f fd) (S:ju N ps (jj st))
  (body:∀ (cdv:Value) (A:Around) (outer:List Env) (s:Shared) (H:Hp) (E:XK),Room k (A.deeper (envOfC qual (jj st) s.heap.objs.size f cdv)) ->
   ∃ t,jda (jcW jS P w K mg base N qual (jj st) f cdv A outer s H E).nox Z (jag st) t∧∀ as W Φ,as.length = ps.length->C as W Φ->t (jao Φ) (ja8 N.length as) W) :
  FnOk P w K mg base jS (k + 1) f fd ps (spW K Z ps.length C):=by
 refine F.ok S (fun vs H Q E h=>?_) (fun cdv A outer s H vs Q E hr h=>?_)
 ·obtain ⟨as,S,W,hl,r,_⟩:=h
  rw [← r.len]; exact hl
 ·obtain ⟨t,⟨t2,ht,wt⟩,rd⟩:=body cdv A outer s H E hr
  obtain ⟨as,S,W,hl,r,so,wk,hc⟩:=h
  have fin:∀ d v S' H' W',(∀ v H',SameX W H H'->adr W' = adr W->WOk K Z S H' W'->Rep K S H' d v->Q v H')->Same (jfK H W) H'->Rep K (jpx S W) H' d v->WOk K Z S' H' W'->adr W' = adr W->Q v H':=fun d v S' H' W' h s r' wk' e=>by
   have hq:∀ u ∈ W',S u.q:=fun u hu=>by
    obtain ⟨o,ho,eq,_⟩:=jln e hu
    rw [← eq]
    exact (wk.ob o ho).s
   have hd:∀ u ∈ W,∃ kv,H' u.q = some (.dK kv):=fun u hu=>by
    obtain ⟨o,ho,eq,_⟩:=jln e.symm hu
    rw [← eq]
    exact wk'.dict o ho
   exact h v H' (fun a o n ea=>s a o (by rw [jmM n]; exact ea)) e (wk'.out hq) (r'.out hd)
  refine ⟨t2,ht,wt ⟨jpx S W,jfK H W,[]⟩ S H (L2.jbc N vs) (ja8 N.length as) W _ _ (jpH r so wk) (rd as W _ hl hc) ⟨fun ρ S' H' σ W' p ew e=>fin .non .non S' H' W' p ew.er.same Rep.non ew.w e,fun _ _ _ _ _ p=>p.elim,fun _ _ _ _ _ p=>p.elim,fun d v S' H' W' p s r' wk' e=>fin d v S' H' W' p s r' wk' e⟩⟩
end
section
variable {α:Type}
def jZ:List Str->List α->Str->Option α
 | k :: ks,d :: ds,x=>if k = x then some d else jZ ks ds x
 | _,_,_=>none
def jbV (ks:List Str) (x:Str):List Str:=if x ∈ ks then ks else ks ++ [x]
def jdw:List Str->List α->Str->α->List α
 | k :: ks,d :: ds,x,v=>(if k = x then v else d) :: jdw ks ds x v
 | _,_,_,_=>[]
def jcf (ks:List Str) (ds:List α) (x:Str) (v:α):List α:=if x ∈ ks then jdw ks ds x v else ds ++ [v]
def jct (ks:List Str) (x:Str):List Str:=ks.filter fun k=>decide (k ≠ x)
def jaZ:List Str->List α->Str->List α
 | k :: ks,d :: ds,x=>if k = x then jaZ ks ds x else d :: jaZ ks ds x
 | _,_,_=>[]
end
theorem jjl:∀ (ks:List Str) (xs:List V) (x:Str),jcl (kvs ks xs) (Sum.inr x:j7) = jZ ks xs x
 | [],_,_=>rfl
 | _ :: _,[],_=>rfl
 | k :: ks,v :: xs,x=>by
  have ih:=jjl ks xs x
  unfold jcl kvs at ih ⊢
  simp only [List.map_cons,List.zip_cons_cons,List.find?_cons,jZ]
  by_cases h:k = x
  ·subst h; simp
  ·have:¬ (Sum.inr k:j7) = Sum.inr x:=fun z=>h (Sum.inr.inj z)
   simp only [this,decide_false,h,if_false]
   exact ih
theorem jrv:∀ {ks:List Str} {xs:List V} {x:Str},ks.length = xs.length->((kvs ks xs).any fun kv=>decide (kv.1 = (Sum.inr x:j7))) = decide (x ∈ ks)
 | [],_,_,_=>by simp [kvs]
 | k :: ks,[],_,h=>by cases h
 | k :: ks,v :: xs,x,h=>by
  have ih:=jrv (x:=x) (Nat.succ.inj h)
  unfold kvs at ih ⊢
  simp only [List.map_cons,List.zip_cons_cons,List.any_cons,ih,List.mem_cons]
  by_cases e:x = k
  ·subst e; simp
  ·have e':¬ k = x:=fun z=>e z.symm
   simp [e,e']
theorem jxD {ks:List Str} {xs:List V} {x:Str} {v:V} (h:ks.length = xs.length):jc3 (kvs ks xs) (Sum.inr x:j7) v = kvs (jbV ks x) (jcf ks xs x v):=by
 unfold jc3
 rw [jrv h]
 unfold jbV jcf
 by_cases e:x ∈ ks
 ·rw [if_pos (decide_eq_true e),if_pos e,if_pos e]
  clear e
  induction ks generalizing xs with
  | nil=>rfl
  | cons k ks ih =>
   cases xs with
   | nil=>cases h
   | cons y xs =>
    have:=ih (Nat.succ.inj h)
    unfold kvs at this ⊢
    simp only [List.map_cons,List.zip_cons_cons,jdw]
    rw [this]
    by_cases e:k = x
    ·subst e; simp
    ·have:¬ (Sum.inr k:j7) = Sum.inr x:=fun z=>e (Sum.inr.inj z)
     simp [e,this]
 ·rw [if_neg (by rw [decide_eq_false e]; exact Bool.false_ne_true),if_neg e,if_neg e]
  unfold kvs
  rw [List.map_append,List.zip_append (by rw [List.length_map]; exact h)]
  rfl
theorem jpK:∀ (ks:List Str) (xs:List V) (x:Str),ks.length = xs.length->jhd (kvs ks xs) (Sum.inr x:j7) = kvs (jct ks x) (jaZ ks xs x)
 | [],_,_,_=>rfl
 | _ :: _,[],_,h=>by cases h
 | k :: ks,v :: xs,x,h=>by
  have ih:=jpK ks xs x (Nat.succ.inj h)
  unfold jhd kvs jct at ih ⊢
  simp only [List.map_cons,List.zip_cons_cons,List.filter_cons,jaZ]
  by_cases e:k = x
  ·subst e; simp only [ne_eq,not_true_eq_false,decide_false,Bool.false_eq_true,if_false,if_true]; exact ih
  ·have:¬ (Sum.inr k:j7) = Sum.inr x:=fun z=>e (Sum.inr.inj z)
   simp only [ne_eq,this,e,not_false_eq_true,decide_true,if_true,if_false,List.map_cons,List.zip_cons_cons]
   rw [ih]
section
variable {K:PySem.W.Frag} {S:Addr->Prop} {H:Hp}
theorem jhC:∀ {ks:List Str} {ds:List D} {xs:List V} {x:Str} {d:D},Reps K S H ds xs->jZ ks ds x = some d->∃ v,jZ ks xs x = some v∧Rep K S H d v
 | [],_,_,_,_,_,e=>by cases e
 | _ :: _,[],_,_,_,_,e=>by cases e
 | k :: ks,c :: ds,xs,x,d,r,e=>by
  simp only [Reps] at r
  obtain ⟨v,vs,rfl,rv,r⟩:=r
  unfold jZ at e ⊢
  split at e
  ·rename_i h; cases e; rw [if_pos h]; exact ⟨v,rfl,rv⟩
  ·rename_i h; rw [if_neg h]; exact jhC r e
theorem jn1:∀ {ks:List Str} {ds:List D} {xs:List V} {x:Str} {d:D} {v:V},Reps K S H ds xs->Rep K S H d v->Reps K S H (jdw ks ds x d) (jdw ks xs x v)
 | [],_,_,_,_,_,_,_=>Reps.nil
 | _ :: _,[],xs,_,_,_,r,_=>by
  simp only [Reps] at r
  subst r
  exact Reps.nil
 | k :: ks,c :: ds,xs,x,d,v,r,rd=>by
  simp only [Reps] at r
  obtain ⟨u,vs,rfl,ru,r⟩:=r
  unfold jdw
  refine Reps.cons ?_ (jn1 r rd)
  split
  ·exact rd
  ·exact ru
theorem jtC {ks:List Str} {ds:List D} {xs:List V} {x:Str} {d:D} {v:V} (r:Reps K S H ds xs) (rd:Rep K S H d v):Reps K S H (jcf ks ds x d) (jcf ks xs x v):=by
 unfold jcf
 split
 ·exact jn1 r rd
 ·exact r.app (Reps.cons rd Reps.nil)
theorem jim:∀ {ks:List Str} {ds:List D} {xs:List V} {x:Str},Reps K S H ds xs->Reps K S H (jaZ ks ds x) (jaZ ks xs x)
 | [],_,_,_,_=>Reps.nil
 | _ :: _,[],xs,_,r=>by
  simp only [Reps] at r
  subst r
  exact Reps.nil
 | k :: ks,c :: ds,xs,x,r=>by
  simp only [Reps] at r
  obtain ⟨u,vs,rfl,ru,r⟩:=r
  unfold jaZ
  split
  ·exact jim r
  ·exact Reps.cons ru (jim r)
theorem jvM {α:Type} {ks:List Str} {ds:List α} {x:Str} {v:α} (h:ks.length = ds.length):(jbV ks x).length = (jcf ks ds x v).length:=by
 have e:∀ (ks:List Str) (ds:List α),ks.length = ds.length->(jdw ks ds x v).length = ks.length:=by
  intro ks
  induction ks with
  | nil=>intro ds _; rfl
  | cons k ks ih =>
   intro ds h
   cases ds with
   | nil=>cases h
   | cons d ds=>simp only [jdw,List.length_cons,ih ds (Nat.succ.inj h)]
 unfold jbV jcf
 split
 ·exact (e ks ds h).symm
 ·rw [List.length_append,List.length_append,h]; rfl
theorem jnQ {α:Type} {x:Str}:∀ {ks:List Str} {ds:List α},ks.length = ds.length->(jct ks x).length = (jaZ ks ds x).length
 | [],_,_=>rfl
 | _ :: _,[],h=>by cases h
 | k :: ks,d :: ds,h=>by
  have ih:=jnQ (x:=x) (ks:=ks) (ds:=ds) (Nat.succ.inj h)
  unfold jct at ih ⊢
  simp only [List.filter_cons,jaZ]
  by_cases e:k = x
  ·simp only [e,ne_eq,not_true_eq_false,decide_false,Bool.false_eq_true,if_false,if_true]
   rw [← e]
   rw [← e] at ih
   exact ih
  ·simp only [e,ne_eq,not_false_eq_true,decide_true,if_true,if_false,List.length_cons,ih]
theorem jxb {ks:List Str} {x:Str} (h:ks.Nodup):(jbV ks x).Nodup:=by
 unfold jbV
 split
 ·exact h
 ·rename_i n
  refine List.nodup_append.mpr ⟨h,List.nodup_cons.mpr ⟨List.not_mem_nil,List.nodup_nil⟩,fun a ha b hb e=>?_⟩
  rw [List.mem_singleton.mp hb] at e
  exact n (e ▸ ha)
theorem jv1 {ds:List D} (h:jaM ds):∀ d ∈ ds,NoL d:=by
 induction ds with
 | nil=>intro d hd; cases hd
 | cons c ds ih =>
  simp only [jaM] at h
  intro d hd
  rcases List.mem_cons.mp hd with rfl | hd
  ·exact h.1
  ·exact ih h.2 d hd
theorem jwZ {ks:List Str} {x:Str} {v:D} (hv:NoL v):∀ {ds:List D},jaM ds->jaM (jdw ks ds x v):=by
 induction ks with
 | nil=>intro ds _; simp only [jdw,jaM]
 | cons k ks ih =>
  intro ds h
  cases ds with
  | nil=>simp only [jdw,jaM]
  | cons d ds =>
   simp only [jaM] at h
   simp only [jdw,jaM]
   refine ⟨?_,ih h.2⟩
   split
   ·exact hv
   ·exact h.1
theorem jwU {ks:List Str} {x:Str} {v:D} {ds:List D} (hv:NoL v) (h:jaM ds):jaM (jcf ks ds x v):=by
 unfold jcf
 split
 ·exact jwZ hv h
 ·refine jrz fun d hd=>?_
  rcases List.mem_append.mp hd with hd | hd
  ·exact jv1 h d hd
  ·rw [List.mem_singleton.mp hd]; exact hv
theorem jxX {ks:List Str} {x:Str}:∀ {ds:List D},jaM ds->jaM (jaZ ks ds x):=by
 induction ks with
 | nil=>intro ds _; simp only [jaZ,jaM]
 | cons k ks ih =>
  intro ds h
  cases ds with
  | nil=>simp only [jaZ,jaM]
  | cons d ds =>
   simp only [jaM] at h
   simp only [jaZ]
   split
   ·exact ih h.2
   ·simp only [jaM]; exact ⟨h.1,ih h.2⟩
end
def ja7 (W:Wd) (o:Ob):Wd:=W.map fun u=>if u.q = o.q then o else u
def Ob.put (o:Ob) (x:Str) (d:D):Ob:={ o with ks:=jbV o.ks x,ds:=jcf o.ks o.ds x d }
def Ob.drop (o:Ob) (x:Str):Ob:={ o with ks:=jct o.ks x,ds:=jaZ o.ks o.ds x }
section
variable {K:PySem.W.Frag} {Z:Zc} {B:Bs} {S:Addr->Prop} {H:Hp} {σ:L2.St} {ρ:jL} {W:Wd}
theorem jy1:∀ {W:Wd} {o u:Ob},(W.map Ob.q).Nodup->o ∈ W->u ∈ W->u.q = o.q->u = o
 | [],_,_,_,h,_,_=>by cases h
 | w :: W,o,u,nd,ho,hu,e=>by
  have nd':=List.nodup_cons.mp nd
  rcases List.mem_cons.mp ho with h1 | h1
  ·rcases List.mem_cons.mp hu with h2 | h2
   ·rw [h1,h2]
   ·exact absurd (List.mem_map.mpr ⟨u,h2,by rw [e,h1]⟩) nd'.1
  ·rcases List.mem_cons.mp hu with h2 | h2
   ·exact absurd (List.mem_map.mpr ⟨o,h1,by rw [← e,h2]⟩) nd'.1
   ·exact jy1 nd'.2 h1 h2 e
theorem jkt {o o':Ob} (nd:(W.map Ob.q).Nodup) (ho:o ∈ W) (e1:o'.q = o.q) (e2:o'.p = o.p):adr (ja7 W o') = adr W:=by
 unfold adr ja7
 rw [List.map_map]
 refine List.map_congr_left fun u hu=>?_
 show ((if u.q = o'.q then o' else u).q,(if u.q = o'.q then o' else u).p) = (u.q,u.p)
 split
 ·rename_i h
  have:=jy1 nd ho hu (h.trans e1)
  rw [this,e1,e2]
 ·rfl
theorem jyQ {o o':Ob} (nd:(W.map Ob.q).Nodup) (ho:o ∈ W) (e1:o'.q = o.q) (e2:o'.p = o.p):(ja7 W o').map Ob.q = W.map Ob.q:=by
 have:=congrArg (List.map Prod.fst) (jkt nd ho e1 e2)
 unfold adr at this
 rw [List.map_map,List.map_map] at this
 exact this
theorem WOk.set {o o':Ob} {xs:List V} (h:WOk K Z S H W) (ho:o ∈ W) (e1:o'.q = o.q) (e2:o'.p = o.p) (nd:o'.ks.Nodup) (nl:jaM o'.ds) (l:o'.ks.length = xs.length) (r:Reps K S H o'.ds xs) :
  WOk K Z S (jG H o.q (.dK (kvs o'.ks xs))) (ja7 W o')∧SameX W H (jG H o.q (.dK (kvs o'.ks xs))):=by
 have sx:SameX W H (jG H o.q (.dK (kvs o'.ks xs))):=fun a u n e=>by rw [jy (n o ho)]; exact e
 refine ⟨⟨fun u hu=>?_,by rw [jyQ h.nd ho e1 e2]; exact h.nd⟩,sx⟩
 have insx:∀ v:Ob,v ∈ W->(v.p = v.q ∨ ∃ dx,jG H o.q (.dK (kvs o'.ks xs)) v.p = some (.ins Z.C dx [(Z.f,.ref v.q)])):=fun v hv=>(h.ob v hv).ins.imp id fun ⟨dx,e⟩=>⟨dx,by
  have:v.p ≠ o.q:=fun z=>by
   obtain ⟨kv,e'⟩:=h.dict o ho
   rw [z,e'] at e
   cases e
  rw [jy this]; exact e⟩
 obtain ⟨v,hv,ev⟩:=List.mem_map.mp hu
 by_cases hq:v.q = o'.q
 ·rw [if_pos hq] at ev
  subst ev
  have hi:=insx o ho
  rw [← e1,← e2] at hi
  have s:=(h.ob o ho).s
  rw [← e1] at s
  refine ⟨s,⟨xs,?_,l,r.sameX h.dict sx⟩,nd,nl,?_⟩
  ·rw [e1]; exact jW
  ·rw [e1] at hi ⊢; exact hi
 ·rw [if_neg hq] at ev
  subst ev
  have ok:=h.ob v hv
  obtain ⟨ys,e,l',r'⟩:=ok.at_
  refine ⟨ok.s,⟨ys,?_,l',r'.sameX h.dict sx⟩,ok.nd,ok.nl,insx v hv⟩
  rw [jy (fun z=>hq (by rw [z,e1]))]; exact e
end
abbrev Q4:=jL->Wd->(Ob->Prop)->Prop
def PQ (X:Cx) (Z:Zc) (e:Expr) (g:D3.Q4):Prop:=∃ t2,PE X e t2∧∀ B S H σ ρ W Φ Q,EW X.K Z B S H σ ρ W->g ρ W Φ->(∀ o ∈ W,Φ o->Q (.ref o.q) H)->t2 σ H Q
section
variable {X:Cx} {Z:Zc} {e k v:Expr} {g:D3.Q4} {tk tv:E3} {pos pos' apos cpos:Pos}
abbrev jkC (i:Nat):D3.Q4:=fun ρ W Φ=>match ρ[i]? with | some (.raw (.ref p))=>∃ o ∈ W,o.p = p∧o.p ≠ o.q∧Φ o | _=>False
theorem jd0 {i:Nat} (he:PE X e (jd7 i)) (c:Cls X.K Z.C) (n:NoAttr X.K Z.C Z.f) (hb:attributeBase e Z.f X.env (eval e X.env) = eval e X.env):PQ X Z (.Attribute e Z.f pos) (jkC i):=by
 refine ⟨_,jyc he hb,fun B S H σ ρ W Φ Q ew q k=>?_⟩
 unfold jkC at q
 split at q
 ·rename_i p e0
  obtain ⟨o,ho,rfl,hpq,hΦ⟩:=q
  obtain ⟨dx,ei⟩:=(ew.w.ob o ho).ins.resolve_left hpq
  exact ⟨.ref o.p,ew.er.rf i _ e0,o.p,Z.C,dx,_,.ref o.q,rfl,ei,c,n,by rw [List.lookup_cons,beq_self_eq_true],k o ho hΦ⟩
 ·exact q.elim
abbrev jbS (i:Nat):D3.Q4:=fun ρ W Φ=>match ρ[i]? with | some (.raw (.ref p))=>∃ o ∈ W,o.p = p∧o.p = o.q∧Φ o | _=>False
theorem jby {i:Nat} (he:PE X e (jd7 i)):PQ X Z e (jbS i):=by
 refine ⟨_,he,fun B S H σ ρ W Φ Q ew q k=>?_⟩
 unfold jbS at q
 split at q
 ·rename_i p e0
  obtain ⟨o,ho,rfl,hpq,hΦ⟩:=q
  refine ⟨.ref o.p,ew.er.rf i _ e0,?_⟩
  rw [hpq]
  exact k o ho hΦ
 ·exact q.elim
theorem jpJ {K:PySem.W.Frag} {S:Addr->Prop} {H:Hp} {o:Ob} (h:ObOk K Z S H o) (x:Str):∃ r,DGet H o.q (.str x) r∧r.isSome = decide (x ∈ o.ks)∧∀ d,jZ o.ks o.ds x = some d->∃ v,r = some v∧Rep K S H d v:=by
 obtain ⟨xs,e,l,rs⟩:=h.at_
 refine ⟨_,DGet.k (k:=Sum.inr x) e,?_,fun d hd=>?_⟩
 ·rw [jjl]
  have:∀ (ks:List Str) (xs:List V),ks.length = xs.length->(jZ ks xs x).isSome = decide (x ∈ ks):=by
   intro ks
   induction ks with
   | nil=>intro xs _; simp [jZ]
   | cons k ks ih =>
    intro xs h
    cases xs with
    | nil=>cases h
    | cons v xs =>
     unfold jZ
     by_cases e:k = x
     ·simp [e]
     ·have e':¬ x = k:=fun z=>e z.symm
      rw [if_neg e,ih xs (Nat.succ.inj h)]
      simp [e']
  exact this _ _ l
 ·rw [jjl]
  exact jhC rs hd
abbrev jph (tk:E3) (g:D3.Q4) (neg:Bool):B4:=fun ρ W Φ=>tk ρ fun d=>match d with | .str x=>g ρ W fun o=>Φ (neg ^^ decide (x ∈ o.ks)) W | _=>False
theorem jff (hu:X.A.units + 1 < cLine) (hk:PD X k tk) (hg:PQ X Z e g) (h1:behindInMarks .NotIn e = false:=by first | exact jht _ (by decide) (by decide) | rfl):PMB X Z (.Compare k [.NotIn] [e] pos) (jph tk g true):=by
 obtain ⟨t1,hk,wk⟩:=hk; obtain ⟨t2,hg,wg⟩:=hg
 refine ⟨_,jze (juB hu hk hg) h1,fun B S H σ ρ W Φ Q ew q hd=>wk B S H σ ρ _ _ ew.er q fun d v H1 p s r=>?_⟩
 cases d <;> first | exact p.elim | skip
 rename_i x
 simp only [Rep] at r
 subst r
 refine wg B S H1 σ ρ W _ _ (ew.go s) p fun o ho hΦ=>?_
 obtain ⟨r,hr,hs,_⟩:=jpJ ((ew.go s).w.ob o ho) x
 refine ⟨o.q,r,rfl,hr,!r.isSome,rfl,?_⟩
 rw [hs]
 rw [Bool.true_xor] at hΦ
 exact hd _ H1 W hΦ (SameX.of s) rfl (ew.w.same s)
abbrev jhc (g:D3.Q4) (tk:E3):E4:=fun ρ W Φ=>g ρ W fun o=>tk ρ fun d=>match d with | .str x=>∃ c,jZ o.ks o.ds x = some c∧Φ c W | _=>False
theorem jd2 (hu:X.A.units + 1 < cLine) (hg:PQ X Z e g) (hk:PD X k tk) (hs:jmr k):PM X Z (.Subscript e k pos) (jhc g tk):=by
 obtain ⟨t1,hk,wk⟩:=hk; obtain ⟨t2,hg,wg⟩:=hg
 refine ⟨_,jw1 hu hg hk hs,fun B S H σ ρ W Φ Q ew q hd=>wg B S H σ ρ W _ _ ew q fun o ho hΦ=>wk B S H σ ρ _ _ ew.er hΦ fun d v H1 p s r=>?_⟩
 cases d <;> first | exact p.elim | skip
 rename_i x
 simp only [Rep] at r
 subst r
 obtain ⟨c,ec,hc⟩:=p
 obtain ⟨r,hr,_,hv⟩:=jpJ ((ew.go s).w.ob o ho) x
 obtain ⟨v,rfl,rv⟩:=hv c ec
 exact ⟨o.q,v,rfl,hr,hd c v H1 W hc (SameX.of s) rfl (ew.w.same s) rv⟩
abbrev jvm (g:D3.Q4) (tk:E3):E4:=fun ρ W Φ=>g ρ W fun o=>tk ρ fun d=>match d with | .str x=>∃ c,jZ o.ks o.ds x = some c∧Φ c (ja7 W (o.drop x)) | _=>False
theorem jpG (hg:PQ X Z e g) (hk:PD X k tk) (m:M1 X e "pop" apos k cpos):PM X Z (.Call (.Attribute e "pop" apos) [k] [] cpos) (jvm g tk):=by
 obtain ⟨t1,hk,wk⟩:=hk; obtain ⟨t2,hg,wg⟩:=hg
 refine ⟨_,jvK hg hk m,fun B S H σ ρ W Φ Q ew q hd=>wg B S H σ ρ W _ _ ew q fun o ho hΦ=>?_⟩
 obtain ⟨kv,ekv⟩:=ew.w.dict o ho
 refine ⟨o.q,rfl,.inl ⟨kv,.inl ekv⟩,wk B S H σ ρ _ _ ew.er hΦ fun d v H1 p s r=>?_⟩
 cases d <;> first | exact p.elim | skip
 rename_i x
 simp only [Rep] at r
 subst r
 obtain ⟨c,ec,hc⟩:=p
 have ew2:=ew.go s
 have okb:=ew2.w.ob o ho
 obtain ⟨xs,e,l,rs⟩:=okb.at_
 obtain ⟨y,ey,ry⟩:=jhC rs ec
 obtain ⟨hw,sx⟩:=ew2.w.set (o':=o.drop x) (xs:=jaZ o.ks xs x) ho rfl rfl (okb.nd.filter _) (jxX okb.nl) (jnQ l) (jim rs)
 have ea:=jkt (o':=o.drop x) ew2.w.nd ho rfl rfl
 refine ⟨_,Sum.inr x,y,e,rfl,by rw [jjl]; exact ey,?_⟩
 rw [jpK _ _ _ l]
 exact hd c y _ _ hc ((SameX.of s).trans sx) ea hw (ry.sameX ew2.w.dict sx)
end
abbrev jyD (k:(F4->Prop)->jL->Wd->Prop) (Φ:F4->Prop):F4->Prop
 | .nx ρ W=>k Φ ρ W
 | .ct ρ W=>k Φ ρ W
 | .bk ρ W=>Φ (.nx ρ W)
 | .rt d W=>Φ (.rt d W)
def jm1 (g:G3) (tb:S4):List D->(F4->Prop)->jL->Wd->Prop
 | [],Φ,ρ,W=>Φ (.nx ρ W)
 | d :: ds,Φ,ρ,W=>g d ρ fun ρ1=>noDct ρ1∧tb (jyD (jm1 g tb ds) Φ) ρ1 W
section
variable {K:PySem.W.Frag} {Z:Zc} {B:Bs} {S:Addr->Prop} {H:Hp} {σ:L2.St} {ρ:jL} {W:Wd} {hs:List (D × V)}
theorem EW.holds (h:EW K Z B S H σ ρ W) (r:∀ p ∈ hs,Rep K S H p.1 p.2):EW K Z { B with gh:=hs ++ B.gh } S H σ ρ W:=⟨h.er.holds r,h.w,h.h0,h.no⟩
theorem EW.unholds (h:EW K Z { B with gh:=hs ++ B.gh } S H σ ρ W):EW K Z B S H σ ρ W:=⟨h.er.unholds,h.w,h.h0,h.no⟩
end
section
variable {X:Cx} {Z:Zc} {tg iter e c a b:Expr} {jR:List Expr} {body:List Stmt} {ti:A3} {g:G3} {tb:S4} {te:E3} {tm:E4} {tA tB':B4} {pos:Pos}
abbrev jvb (ti:A3) (g:G3) (tb:S4):S4:=fun Φ ρ W=>ti ρ fun ds=>jm1 g tb ds Φ ρ W
theorem jrD (hp:PassesOwn (model X.prog X.w) X.A X.env X.xe) (hc:X.calm = true) (hi:PID X tg iter ti) (hg:PGD X tg g) (hb:jda X Z body tb)
  (hfs:∀ x,foldedSetIterable iter X.env x = pure x:=by intro _; rfl):PSW X Z (.For tg iter body [] pos) (jvb ti g tb):=by
 obtain ⟨wi,hi,ww⟩:=hi; obtain ⟨g2,hg,wg⟩:=hg; obtain ⟨b2,hb,wb⟩:=hb
 refine ⟨_,jtU hp hc hi hg hb hfs,fun B S H σ ρ W Φ D' ew q ok=>ww B S H σ ρ _ _ ew.er q fun ds J hs H1 hΦ s1 rv wk=>?_⟩
 refine ⟨fun i m σ' H'=>m = ds.length - i∧i ≤ ds.length∧∃ S' ρ' W',adr W' = adr W∧EW X.K Z { B with gh:=hs ++ B.gh } S' H' σ' ρ' W'∧jm1 g tb (ds.drop i) Φ ρ' W',⟨_,rfl,Nat.zero_le _,S,ρ,W,rfl,(ew.go s1).holds rv,hΦ⟩,?_⟩
 rintro i m σ' H' ⟨rfl,hi,S',ρ',W',ea,ew',hf⟩
 have rg:=fun p (hp:p ∈ hs)=>ew'.er.gh p (List.mem_append_left _ hp)
 obtain ⟨wstop,wgo⟩:=wk S' H' rg
 by_cases hlt:i < ds.length
 ·obtain ⟨go,yl⟩:=wgo i hlt
  rw [List.drop_eq_getElem_cons hlt] at hf
  refine .inr ⟨go,fun σ2 H2=>∃ S2 ρ2 W2,adr W2 = adr W∧EW X.K Z { B with gh:=hs ++ B.gh } S2 H2 σ2 ρ2 W2∧jm1 g tb (ds.drop (i + 1)) Φ ρ2 W2,fun σ2 H2 h2=>⟨_,by omega,rfl,hlt,h2⟩,fun x H2 y=>?_⟩
  obtain ⟨sy,e',ee,re⟩:=yl x H2 y
  rw [List.getElem?_eq_getElem hlt] at ee
  cases ee
  refine wg _ S' _ σ' ρ' _ x _ _ (ew'.er.go sy) re hf fun ρ1 σ1 h1 er1=>wb _ S' _ σ1 ρ1 W' _ _ ⟨er1,ew'.w.same sy,ew'.h0,h1.1⟩ h1.2 ⟨fun ρ2 S2 H2 σ2 W2 p ew2 e2=>⟨S2,ρ2,W2,e2.trans ea,ew2,p⟩,fun ρ2 S2 H2 σ2 W2 p ew2 e2=>ok.nx ρ2 S2 H2 σ2 W2 p ew2.unholds (e2.trans ea),fun ρ2 S2 H2 σ2 W2 p ew2 e2=>⟨S2,ρ2,W2,e2.trans ea,ew2,p⟩,fun c u S2 H2 W2 p s2 r2 wk2 e2=>ok.rt c u S2 H2 W2 p s2 r2 wk2 (e2.trans ea)⟩
 ·have hi':i = ds.length:=by omega
  subst hi'
  rw [List.drop_length] at hf
  exact .inl ⟨wstop,ok.nx ρ' S' H' σ' W' hf ew'.unholds ea⟩
abbrev mOp (r:R3) (tm:E4) (te:E3):E4:=fun ρ W Φ=>tm ρ W fun d W'=>te ρ fun e=>r d e fun z=>Φ z W'
abbrev mT (tm:E4):B4:=fun ρ W Φ=>tm ρ W fun d W'=>match d with | .bl k=>Φ k W' | _=>False
theorem jmZ {t2:TE} (w:∀ B S H σ ρ W Φ Q,EW X.K Z B S H σ ρ W->tm ρ W Φ->jlo X.K Z S H W Φ Q->t2 σ H Q) :
  ∀ B S H σ ρ W Φ (Q:Bool->Hp->Prop),EW X.K Z B S H σ ρ W->mT tm ρ W Φ->(∀ b H' W',Φ b W'->SameX W H H'->adr W' = adr W->WOk X.K Z S H' W'->Q b H')->jsI t2 σ H Q:=fun B S H σ ρ W Φ Q ew h hd =>
 w B S H σ ρ W _ _ ew h fun d v H' W' p s e wk r=>by
  cases d <;> first | exact p.elim | skip
  exact ⟨_,jak r,hd _ H' W' p s e wk⟩
theorem jrt {op:CmpOp} {r:R3} (ho:OpD X (compareOp op) r) (ha:PM X Z a tm) (hb:PD X b te) (hm:behindInMarks op b = false):PMB X Z (.Compare a [op] [b] pos) (mT (mOp r tm te)):=by
 obtain ⟨r2,ho,wr⟩:=ho; obtain ⟨ta2,ha,wa⟩:=ha; obtain ⟨tb2,hb,wb⟩:=hb
 refine ⟨_,jf9 ho ha hb hm,jmZ fun B S H σ ρ W Φ Q ew q hd=>wa B S H σ ρ W _ _ ew q fun d v H1 W1 p1 s1 e1 wk1 r1=>?_⟩
 have ew1:=ew.goX s1 e1 wk1
 exact wb B S H1 σ ρ _ _ ew1.er p1 fun y u H2 p2 s2 r2'=>wr S H2 d y v u _ Q (ew1.er.ok.same s2) (r1.same s2) r2' p2 fun z x H3 p3 s3 r3=>hd z x H3 W1 p3 (s1.trans (SameX.of (s2.trans s3))) e1 (wk1.same (s2.trans s3)) r3
theorem jxc (h:PM X Z e tm) (he:∀ whole,isTrue e X.env whole = (do let v ← whole; standAt e.pos; holding [v] (truthy v)):=by intro _; rfl):PMB X Z e (mT tm):=by
 obtain ⟨t2,h,w⟩:=h
 exact ⟨_,jut h he,jmZ w⟩
abbrev jwn (t:B4):B4:=fun ρ W Φ=>t ρ W fun k W'=>Φ (!k) W'
theorem jxo (ha:PMB X Z a tA):PMB X Z (.UnaryOp .Not a pos) (jwn tA):=by
 obtain ⟨t2,h,w⟩:=ha
 exact ⟨_,jtH h,fun B S H σ ρ W Φ Q ew q hd=>w B S H σ ρ W _ _ ew q fun k H1 W1 hk s1 e1 wk1=>hd _ H1 W1 hk s1 e1 wk1⟩
end
def PWM (X:Cx) (Z:Zc) (e:Expr) (t:B4):Prop:=∃ t2,PW X e t2∧∀ B S H σ ρ W Φ (Q:Bool->Hp->Prop),EW X.K Z B S H σ ρ W->t ρ W Φ->(∀ b H' W',Φ b W'->SameX W H H'->adr W' = adr W->WOk X.K Z S H' W'->Q b H')->t2 σ H Q
section
variable {X:Cx} {Z:Zc} {a b:Expr} {jR:List Expr} {tA tB':B4} {pos:Pos}
theorem PWM.pmb {e:Expr} {t:B4} (h:PWM X Z e t):PMB X Z e t:=let ⟨t2,h,w⟩:=h; ⟨t2,h.pt,w⟩
theorem jqu (ha:PMB X Z a tA):PWM X Z (.BoolOp .And [a] pos) tA:=let ⟨t2,h,w⟩:=ha; ⟨t2,jxC h,w⟩
theorem jmi (ha:PMB X Z a tA):PWM X Z (.BoolOp .Or [a] pos) tA:=let ⟨t2,h,w⟩:=ha; ⟨t2,jt2 h,w⟩
abbrev jsd (t u:B4):B4:=fun ρ W Φ=>t ρ W fun k W'=>if k = true then u ρ W' Φ else Φ false W'
abbrev joX (t u:B4):B4:=fun ρ W Φ=>t ρ W fun k W'=>if k = true then Φ true W' else u ρ W' Φ
theorem jrp (ha:PMB X Z a tA) (hb:PWM X Z (.BoolOp .And (b :: jR) pos) tB'):PWM X Z (.BoolOp .And (a :: b :: jR) pos) (jsd tA tB'):=by
 obtain ⟨t2,h,w⟩:=ha; obtain ⟨u2,g,z⟩:=hb
 refine ⟨_,jyv h g,fun B S H σ ρ W Φ Q ew q hd=>w B S H σ ρ W _ _ ew q fun k H1 W1 hk s1 e1 wk1=>?_⟩
 cases k with
 | true =>
  have hk:tB' ρ W1 Φ:=by simpa using hk
  simp only [if_true]
  exact z B S H1 σ ρ W1 _ _ (ew.goX s1 e1 wk1) hk fun k2 H2 W2 h2 s2 e2 wk2=>hd k2 H2 W2 h2 (s1.trans (s2.adr e1)) (e2.trans e1) wk2
 | false =>
  have hk:Φ false W1:=by simpa using hk
  simp only [Bool.false_eq_true,if_false]
  exact hd false H1 W1 hk s1 e1 wk1
theorem jld (ha:PMB X Z a tA) (hb:PWM X Z (.BoolOp .Or (b :: jR) pos) tB'):PWM X Z (.BoolOp .Or (a :: b :: jR) pos) (joX tA tB'):=by
 obtain ⟨t2,h,w⟩:=ha; obtain ⟨u2,g,z⟩:=hb
 refine ⟨_,jwh h g,fun B S H σ ρ W Φ Q ew q hd=>w B S H σ ρ W _ _ ew q fun k H1 W1 hk s1 e1 wk1=>?_⟩
 cases k with
 | true =>
  have hk:Φ true W1:=by simpa using hk
  simp only [if_true]
  exact hd true H1 W1 hk s1 e1 wk1
 | false =>
  have hk:tB' ρ W1 Φ:=by simpa using hk
  simp only [Bool.false_eq_true,if_false]
  exact z B S H1 σ ρ W1 _ _ (ew.goX s1 e1 wk1) hk fun k2 H2 W2 h2 s2 e2 wk2=>hd k2 H2 W2 h2 (s1.trans (s2.adr e1)) (e2.trans e1) wk2
end
theorem noDct.raw {ρ:jL} {i:Nat} {v:V} (h:noDct ρ):noDct (ρ.set i (.raw v)):=fun j ks ds e=>by
 rw [List.getElem?_set] at e
 split at e
 ·split at e <;> cases e
 ·exact h j ks ds e
abbrev jbr (Φ:F4->Prop):F4->Prop
 | .nx ρ W=>∃ o W',W = o :: W'∧Φ (.nx ρ W')
 | .bk ρ W=>∃ o W',W = o :: W'∧Φ (.bk ρ W')
 | .ct ρ W=>∃ o W',W = o :: W'∧Φ (.ct ρ W')
 | .rt d W=>∃ o W',W = o :: W'∧Φ (.rt d W')
section
variable {K:PySem.W.Frag} {Z:Zc} {B:Bs} {S:Addr->Prop} {H H':Hp} {σ:L2.St} {ρ:jL} {W W':Wd}
theorem WOk.tail {o:Ob} (h:WOk K Z S H (o :: W)):WOk K Z S H W:=⟨fun u hu=>h.ob u (List.mem_cons_of_mem _ hu),(List.nodup_cons.mp h.nd).2⟩
theorem EW.tail {o:Ob} (h:EW K Z B S H σ ρ (o :: W)):EW K Z B S H σ ρ W:=⟨h.er,h.w.tail,fun u hu=>h.h0 u (List.mem_cons_of_mem _ hu),h.no⟩
theorem jhB {o o':Ob} (e:adr (o' :: W') = adr (o :: W)):adr W' = adr W:=by
 unfold adr at e ⊢
 rw [List.map_cons,List.map_cons] at e
 exact (List.cons.inj e).2
theorem EndW.new {Φ:F4->Prop} {D':jed} {o:Ob} (ok:EndW K Z B W Φ D'):EndW K Z B (o :: W) (jbr Φ) D' where
 nx:=fun ρ S H σ W1 p ew e=>by
  obtain ⟨o',W',rfl,p⟩:=p
  exact ok.nx ρ S H σ W' p ew.tail (jhB e)
 bk:=fun ρ S H σ W1 p ew e=>by
  obtain ⟨o',W',rfl,p⟩:=p
  exact ok.bk ρ S H σ W' p ew.tail (jhB e)
 ct:=fun ρ S H σ W1 p ew e=>by
  obtain ⟨o',W',rfl,p⟩:=p
  exact ok.ct ρ S H σ W' p ew.tail (jhB e)
 rt:=fun d v S H W1 p s r wk e=>by
  obtain ⟨o',W',rfl,p⟩:=p
  exact ok.rt d v S H W' p s r wk.tail (jhB e)
theorem EW.new {o:Ob} (h:EW K Z B S H σ ρ W) (s:Same H H') (hq:H o.q = none) (eq:H' o.q = some (.dK [])) (e1:o.ks = []) (e2:o.ds = []) (hi:o.p = o.q ∨ ∃ dx,H' o.p = some (.ins Z.C dx [(Z.f,.ref o.q)])):EW K Z B (fun b=>S b ∨ b = o.q) H' σ ρ (o :: W) where
 er:=h.er.hide (F:=fun b=>b = o.q) s fun b e=>by rw [e]; exact ⟨hq,_,eq⟩
 w:=⟨fun u hu=>by
  rcases List.mem_cons.mp hu with rfl | hu
  ·refine ⟨.inr rfl,⟨[],?_,by rw [e1]; rfl,by rw [e2]; exact Reps.nil⟩,by rw [e1]; exact List.nodup_nil,by rw [e2]; simp only [jaM],hi⟩
   rw [e1]; exact eq
  ·have ok:=(h.w.ob u hu).same s
   obtain ⟨xs,e,l,r⟩:=ok.at_
   exact ⟨.inl ok.s,⟨xs,e,l,Reps.noL _ _ ok.nl r⟩,ok.nd,ok.nl,ok.ins⟩,List.nodup_cons.mpr ⟨(fun z=>by
  obtain ⟨u,hu,e⟩:=List.mem_map.mp z
  obtain ⟨kv,ek⟩:=h.w.dict u hu
  rw [e,hq] at ek
  cases ek),h.w.nd⟩⟩
 h0:=fun u hu=>by
  rcases List.mem_cons.mp hu with rfl | hu
  ·cases e0:B.H0 u.q with
   | none=>rfl
   | some z=>rw [h.er.same _ _ e0] at hq; cases hq
  ·exact h.h0 u hu
 no:=h.no
end
def jtL (Z:Zc):Sp:=fun vs H Q _=>∃ x dx,vs = [.ref x]∧H x = some (.ins Z.C dx [])∧∀ q,H q = none->Q .non (jG (jG H q (.dK [])) x (.ins Z.C dx [(Z.f,.ref q)]))
abbrev jkw (Φ:D->Prop):F4->Prop
 | .nx _ _=>Φ .non
 | .rt d _=>Φ d
 | _=>False
section
variable {P:Program} {w:World} {K:PySem.W.Frag} {mg:Str->Option Value} {base:Heap} {Z:Zc}
theorem jpj {n:Nat} {ds:List D}:noDct (jv n ds):=fun i ks d q=>by
 unfold jv at q
 rw [List.getElem?_append] at q
 split at q
 ·rw [List.getElem?_map] at q
  cases e:ds[i]? with
  | none=>rw [e] at q; cases q
  | some c=>rw [e] at q; cases q
 ·rw [List.getElem?_replicate] at q
  split at q <;> cases q
theorem jyE {x qual:Str} {st:Stmt} {f:Addr} {fd:FuncData} {N ps:List Str} {k:Nat} {C:jK} (F:Fun K x qual st f fd) (S:ju N ps (jj st))
  (body:∀ (cdv:Value) (A:Around) (outer:List Env) (s:Shared) (H:Hp) (E:XK),Room k (A.deeper (envOfC qual (jj st) s.heap.objs.size f cdv)) ->
   ∃ t,jda (jcW jS P w K mg base N qual (jj st) f cdv A outer s H E).nox Z (jag st) t∧∀ ds Φ,ds.length = ps.length->C ds Φ->t (jkw Φ) (jv N.length ds) []) :
  FnOk P w K mg base jS (k + 1) f fd ps (j2 K ps.length C):=by
 refine F.ok S (fun vs H Q E h=>?_) (fun cdv A outer s H vs Q E hr h=>?_)
 ·obtain ⟨ds,S,hl,r,_⟩:=h
  rw [← r.len]; exact hl
 ·obtain ⟨t,⟨t2,ht,wt⟩,rd⟩:=body cdv A outer s H E hr
  obtain ⟨ds,S,hl,r,so,hc⟩:=h
  refine ⟨t2,ht,wt ⟨S,H,[]⟩ S H (L2.jbc N vs) (jv N.length ds) [] (jkw fun d=>∀ v H',Same H H'->Rep K S H' d v->Q v H') _ ⟨jqv r so,⟨(fun o ho=>by cases ho),List.nodup_nil⟩,(fun o ho=>by cases ho),jpj⟩ (rd ds _ hl hc) ⟨?_,?_,?_,?_⟩⟩
  ·intro ρ S' H' σ' W' h ew e
   exact h .non H' ew.er.same Rep.non
  ·intro ρ S' H' σ' W' h ew e
   exact h.elim
  ·intro ρ S' H' σ' W' h ew e
   exact h.elim
  ·intro d v S' H' W' h s r' wk e
   exact h v H' s r'
end
def jez (g:G3) (te:E4) (ρ:jL):List D->List D->Wd->(D->Wd->Prop)->Prop
 | [],acc,W,Φ=>Φ (.lst acc) W
 | d :: ds,acc,W,Φ=>g d ρ fun ρ1=>noDct ρ1∧te ρ1 W fun y W'=>acc.length < sizeLine∧jez g te ρ ds (acc ++ [y]) W' Φ
abbrev jv4 (n:Nat) (ti:A3) (g:G3) (te:E4):E4:=fun ρ W Φ=>ti ρ fun ds=>jez g te (List.replicate n .un ++ ρ) ds [] W Φ
section
variable {K:PySem.W.Frag} {Z:Zc} {B:Bs} {S:Addr->Prop} {H:Hp} {σ:L2.St} {ρ:jL} {W:Wd}
theorem noDct.shift (h:noDct ρ) (n:Nat):noDct (List.replicate n .un ++ ρ):=fun i ks ds e=>by
 rw [List.getElem?_append] at e
 split at e
 ·rw [List.getElem?_replicate] at e
  split at e <;> cases e
 ·exact h _ ks ds e
theorem EW.gather {p:Addr} {xs:List V} (h:EW K Z B S H σ ρ W) (hp:H p = none):EW K Z B (fun b=>S b ∨ b = p) (jG H p (.lst xs)) σ ρ W :=
 ⟨h.er.gather hp,(h.w.same (jaP hp)).out fun w hw=>.inl (h.w.ob w hw).s,h.h0,h.no⟩
theorem EW.grow {p:Addr} {xs ys:List V} (h:EW K Z B S H σ ρ W) (hs:S p) (h0:B.H0 p = none) (hl:H p = some (.lst xs)) (hno:∀ (i:Nat) ds,ρ[i]? = some (.own ds)->σ[i]? ≠ some (some (.ref p))):EW K Z B S (jG H p (.lst ys)) σ ρ W:=by
 refine ⟨h.er.grow hs h0 hl hno,⟨fun o ho=>?_,h.w.nd⟩,h.h0,h.no⟩
 have ok:=h.w.ob o ho
 obtain ⟨xs',e,l,r⟩:=ok.at_
 obtain ⟨hT,hL⟩:=jgk (K:=K) (ys:=ys) hs hl
 refine ⟨ok.s,⟨xs',?_,l,Reps.map hT hL _ _ r⟩,ok.nd,ok.nl,ok.ins.imp id fun ⟨dx,e⟩=>⟨dx,?_⟩⟩
 ·rw [jy (jdf e hl fun z=>by cases z)]; exact e
 ·rw [jy (jdf e hl fun z=>by cases z)]; exact e
theorem EW.shift (h:EW K Z B S H σ ρ W) (n:Nat):EW K Z B S H (List.replicate n none ++ σ) (List.replicate n .un ++ ρ) W:=⟨h.er.shift n,h.w,h.h0,h.no.shift n⟩
end
theorem joS {K:PySem.W.Frag} {Z:Zc} {n:Nat} {g:G3} {te:E4} {g2:TG} {te2:TE}
  (wg:∀ B S H σ ρ d v Ψ (Q:L2.St->Hp->Prop),ER K B S H σ ρ->Rep K S H d v->g d ρ Ψ->(∀ ρ' σ',Ψ ρ'->ER K B S H σ' ρ'->σ'.length = σ.length->(∀ j,σ'[n + j]? = σ[n + j]?)->Q σ' H)->g2 v σ H Q)
  (we:∀ B S H σ ρ W Φ Q,EW K Z B S H σ ρ W->te ρ W Φ->jlo K Z S H W Φ Q->te2 σ H Q)
  {B:Bs} {S:Addr->Prop} {H:Hp} {σ:L2.St} {ρ:jL} {W:Wd} {Φ:D->Wd->Prop} {J:It} {hs:List (D × V)} {ds:List D} {p:Addr} {Q:VK} {Fin:List V->Hp->Prop}
  (ew:EW K Z B S H σ ρ W) (rv:∀ p ∈ hs,Rep K S H p.1 p.2) (wk:jm2 K J hs ds) (hp:H p = none) (h:jez g te (List.replicate n .un ++ ρ) ds [] W Φ) (hd:jlo K Z S H W Φ Q) (hF:∀ ys H',Q (.ref p) H'->Fin ys H') :
  lcW n J g2 (fun _ H Q=>Q true H) te2 σ p Fin (jG H p (.lst [])):=by
 have hno:∀ (i:Nat) es,ρ[i]? = some (.own es)->σ[i]? ≠ some (some (.ref p)):=fun i es q z=>by
  obtain ⟨a,zs,e,_,_,hl,_⟩:=ew.er.own i es q
  rw [e] at z; cases z
  rw [hp] at hl; cases hl
 have h0:B.H0 p = none:=ew.er.same.free hp
 have nS:¬ S p:=ew.er.ok.free hp
 refine ⟨fun i m ys H1=>m = ds.length - i∧i ≤ ds.length∧H1 p = some (.lst ys)∧∃ acc W1,adr W1 = adr W∧SameX W H H1∧EW K Z { B with gh:=hs ++ B.gh } (fun b=>S b ∨ b = p) H1 σ ρ W1∧Reps K (fun b=>S b ∨ b = p) H1 acc ys∧jez g te (List.replicate n .un ++ ρ) (ds.drop i) acc W1 Φ,
  ⟨_,rfl,Nat.zero_le _,jW,[],W,rfl,SameX.of (jaP hp),(ew.holds rv).gather hp,Reps.nil,h⟩,?_⟩
 rintro i m ys H1 ⟨rfl,hi,hl,acc,W1,ea,sx,ew1,ra,hc⟩
 refine ⟨hl,?_⟩
 obtain ⟨wstop,wgo⟩:=wk _ H1 fun p hp=>ew1.er.gh p (List.mem_append_left _ hp)
 by_cases hlt:i < ds.length
 ·obtain ⟨go,yl⟩:=wgo i hlt
  rw [List.drop_eq_getElem_cons hlt] at hc
  refine .inr ⟨go,fun x H2 y=>?_⟩
  obtain ⟨sy,e',ee,re⟩:=yl x H2 y
  rw [List.getElem?_eq_getElem hlt] at ee
  cases ee
  have ew1:=ew1.go sy
  have hl:=sy _ _ hl
  have sx:=sx.trans (SameX.of sy)
  have ra:=ra.same sy
  have ew1':=ew1.shift n
  refine wg _ _ _ _ _ _ x _ _ ew1'.er re hc fun ρ1 σ1 h1 er2 l1 l2=>⟨⟨by rw [l1,List.length_append,List.length_replicate],fun j=>?_⟩,?_⟩
  ·rw [l2 j,List.getElem?_append_right (by rw [List.length_replicate]; omega),List.length_replicate,Nat.add_sub_cancel_left]
  ·simp only [if_true]
   have ew2:EW K Z _ _ H2 σ1 ρ1 W1:=⟨er2,ew1.w,ew1.h0,h1.1⟩
   refine we _ _ _ _ _ _ _ _ ew2 h1.2 fun y u H4 W4 hy s4 e4 wk4 ry=>?_
   have hl4:H4 p = some (.lst ys):=s4 _ _ (fun w hw z=>by
    obtain ⟨kv,ek⟩:=ew1.w.dict w hw
    rw [← z,hl] at ek
    cases ek) hl
   have ew4:=ew1.goX s4 e4 wk4
   refine ⟨hl4,by rw [← ra.len]; exact hy.1,_,by omega,rfl,hlt,jW,acc ++ [y],W4,e4.trans ea,?_,ew4.grow (.inr rfl) h0 hl4 hno,?_,hy.2⟩
   ·intro a o n e
    rw [jy (j9 e hp)]
    exact (sx.trans (s4.adr ea)) a o n e
   ·obtain ⟨hT,hL⟩:=jgk (K:=K) (S:=fun b=>S b ∨ b = p) (ys:=ys ++ [u]) (.inr rfl) hl4
    exact Reps.map hT hL _ _ ((ra.sameX ew1.w.dict s4).app (Reps.cons ry Reps.nil))
 ·have hi':i = ds.length:=by omega
  subst hi'
  rw [List.drop_length] at hc
  refine .inl ⟨wstop,hF ys H1 (hd (.lst acc) (.ref p) H1 W1 hc sx ea (ew1.w.out fun w hw=>?_) (Rep.lst (.inl ⟨nS,.of hl⟩) (ra.sub fun b z=>.inl z)))⟩
  obtain ⟨o,ho,eq,_⟩:=jln ea hw
  rw [← eq]
  exact (ew.w.ob o ho).s
section
variable {X:Cx} {Z:Zc} {xs M:List Str} {scope:Scope} {target elt iter:Expr} {pos:Pos} {ti:A3} {g:G3} {te:E4} {n:Nat}
theorem jwN (hk:jfd scope X.env xs M X.N = true) (hn:xs.length = n) (hc:X.calm = true) (hi:PID X target iter ti)
  (hg:∀ C s H fp,PGN (j6 X xs M scope C s H fp) n target g) (he:∀ C s H fp,PM (j6 X xs M scope C s H fp) Z elt te)
  (hs:∀ x,foldedSetIterable iter X.env x = pure x:=by intro _; rfl):PM X Z (.ListComp elt [⟨target,iter,[],0⟩] scope pos) (jv4 n ti g te):=by
 obtain ⟨wi,hi,ww⟩:=hi
 refine ⟨_,jml hk hn hc hi (fun C s H fp=>(hg C s H fp).choose_spec.1) (fun C s H fp=>.inl ⟨rfl,rfl⟩) (fun C s H fp=>(he C s H fp).choose_spec.1) hs,fun B S H σ ρ W Φ Q ew q hd=>?_⟩
 refine ww B S H σ ρ _ _ ew.er q fun ds J hs H1 hΦ s1 rv wk D C s fp hD=>?_
 exact joS (hg C s H1 fp).choose_spec.2 (he C s H1 fp).choose_spec.2 (ew.go s1) rv wk hD hΦ (Q:=Q) (fun d v H2 W2 p1 s2 e2 wk2 r=>hd d v H2 W2 p1 ((SameX.of s1).trans s2) e2 wk2 r) fun _ _ z=>z
end
structure CDct (P:Program) (w:World) (K:PySem.W.Frag) (a:Addr) (ks:List Str) (us:List Value):Prop where
 sys:(a == sysModules) = false
 at_:∃ o es ep,K.lookup a = some o∧o.ExactDict∧o.data = .dict es ep∧KeysOf (jat P w) es∧Pairs (jat P w) es.toList ((ks.map Sum.inr).zip us)
 nd:ks.Nodup
 len:ks.length = us.length
section
variable {P:Program} {w:World} {K:PySem.W.Frag} {a:Addr} {ks:List Str} {us:List Value}
theorem jyG {ks:List Str} {us:List Value} (nd:ks.Nodup) (l:ks.length = us.length):((((ks.map Sum.inr:List j7).zip us).map (·.1))).Nodup:=by
 have e:((ks.map Sum.inr:List j7).zip us).map (·.1) = ks.map Sum.inr:=by
  rw [List.map_fst_zip]
  rw [List.length_map,l]
  exact Nat.le_refl _
 rw [e]
 exact List.Pairwise.map _ (fun a b h z=>h (Sum.inr.inj z)) nd
theorem CDct.dict (c:CDct P w K a ks us) {h:Heap} (k:K.In h):h.DictOf (jat P w) a ((ks.map Sum.inr).zip us):=by
 obtain ⟨o,es,ep,l,x,d,ko,pa⟩:=c.at_
 exact ⟨o,es,ep,k a o l,x,d,ko,pa,jyG c.nd c.len⟩
theorem jdH:∀ {ks:List Str} {us:List Value} {x:Str},ks.length = us.length->valueAt ((ks.map Sum.inr:List j7).zip us) (Sum.inr x) = jZ ks us x
 | [],_,_,_=>rfl
 | _ :: _,[],_,h=>by cases h
 | k :: ks,u :: us,x,h=>by
  have ih:=jdH (x:=x) (Nat.succ.inj h)
  unfold valueAt at ih ⊢
  simp only [List.map_cons,List.zip_cons_cons,List.find?_cons,jZ]
  by_cases e:k = x
  ·subst e; simp
  ·have:¬ (Sum.inr k:j7) = Sum.inr x:=fun z=>e (Sum.inr.inj z)
   simp only [this,decide_false,e,if_false]
   exact ih
theorem jdN {α:Type} {x:Str}:∀ {ks:List Str} {us:List α},ks.length = us.length->(jZ ks us x).isSome = decide (x ∈ ks)
 | [],_,_=>by simp [jZ]
 | _ :: _,[],h=>by cases h
 | k :: ks,u :: us,h=>by
  unfold jZ
  by_cases e:k = x
  ·simp [e]
  ·have e':¬ x = k:=fun z=>e z.symm
   rw [if_neg e,jdN (Nat.succ.inj h)]
   simp [e']
end
section
variable {X:Cx} {Z:Zc} {a:Addr} {ks:List Str} {us:List Value} {k e:Expr} {es:List Expr} {tk:E3} {x:Str} {pos p p2:Pos}
abbrev jpA (ks:List Str) (neg:Bool) (tk:E3):E3:=fun ρ Φ=>tk ρ fun d=>match d with | .str z=>Φ (.bl (neg ^^ decide (z ∈ ks))) | _=>False
theorem jyb (c:CDct X.prog X.w X.K a ks us):OpR X (compareOp .In) (fun u v H Q=>∃ z,u = .str z∧v = .ref a∧Q (.bl (decide (z ∈ ks))) H):=by
 intro pins s σ H x y v u Q I rx ry h
 obtain ⟨z,rfl,rfl,q⟩:=h
 cases (show u = Value.ref a from ry)
 have dd:=c.dict I.kIn
 refine wpAny_in_of (jel (k:=Sum.inr z) rx) c.sys dd.mapOf ?_
 rw [jdH c.len,jdN c.len]
 exact ⟨.bl _,H,I.tok _,rfl,q⟩
theorem js7 (c:CDct X.prog X.w X.K a ks us):OpR X (compareOp .NotIn) (fun u v H Q=>∃ z,u = .str z∧v = .ref a∧Q (.bl (!decide (z ∈ ks))) H):=by
 intro pins s σ H x y v u Q I rx ry h
 obtain ⟨z,rfl,rfl,q⟩:=h
 cases (show u = Value.ref a from ry)
 have dd:=c.dict I.kIn
 refine wpAny_notIn_of (jel (k:=Sum.inr z) rx) c.sys dd.mapOf ?_
 rw [jdH c.len,jdN c.len]
 exact ⟨.bl _,H,I.tok _,rfl,q⟩
theorem jl4 (c:CDct X.prog X.w X.K a ks us) (hk:PD X k tk) (hg:Gl X x) (hm:X.mg x = some (.ref a)) (hdb:(x == ("__debug__":Str)) = false:=by decide) (hb:behindInMarks .In (.Name x p) = false:=by rfl) :
  PB X (.Compare k [.In] [.Name x p] pos) (dT (jpA ks false tk)):=by
 obtain ⟨t2,hk,wk⟩:=hk
 refine ⟨_,jf9 (jyb c) hk (jgN hg hm (show RelV (.ref a) (.ref a) from rfl) hdb) hb,jlc fun B S H σ ρ Φ Q er q hd=>wk B S H σ ρ _ _ er q fun d v H1 p1 s1 r1=>?_⟩
 cases d <;> first | exact p1.elim | skip
 rename_i z
 simp only [Rep] at r1
 subst r1
 have p1:Φ (.bl (false ^^ decide (z ∈ ks))):=p1
 rw [Bool.false_xor] at p1
 exact ⟨_,rfl,rfl,hd _ _ H1 p1 s1 Rep.bl⟩
theorem juk (c:CDct X.prog X.w X.K a ks us) (hk:PD X k tk) (hg:Gl X x) (hm:X.mg x = some (.ref a)) (hdb:(x == ("__debug__":Str)) = false:=by decide) (hb:behindInMarks .NotIn (.Name x p) = false:=by rfl) :
  PB X (.Compare k [.NotIn] [.Name x p] pos) (dT (jpA ks true tk)):=by
 obtain ⟨t2,hk,wk⟩:=hk
 refine ⟨_,jf9 (js7 c) hk (jgN hg hm (show RelV (.ref a) (.ref a) from rfl) hdb) hb,jlc fun B S H σ ρ Φ Q er q hd=>wk B S H σ ρ _ _ er q fun d v H1 p1 s1 r1=>?_⟩
 cases d <;> first | exact p1.elim | skip
 rename_i z
 simp only [Rep] at r1
 subst r1
 have p1:Φ (.bl (true ^^ decide (z ∈ ks))):=p1
 rw [Bool.true_xor] at p1
 exact ⟨_,rfl,rfl,hd _ _ H1 p1 s1 Rep.bl⟩
def jwG (a:Addr) (ks:List Str) (vs:List V) (tk:TE):TE:=fun σ H Q=>tk σ H fun y H1=>∃ z v,y = .str z∧jZ ks vs z = some v∧Q v H1
theorem jnB:∀ {ks:List Str} {vs:List V} {us:List Value} {z:Str} {v:V},Vals vs us->jZ ks vs z = some v->∃ u,jZ ks us z = some u∧RelV v u
 | [],_,_,_,_,_,e=>by cases e
 | _ :: _,_,_,_,_,.nil,e=>by cases e
 | k :: ks,_,_,z,v,.cons r t,e=>by
  unfold jZ at e ⊢
  split at e
  ·rename_i h; cases e; rw [if_pos h]; exact ⟨_,rfl,r⟩
  ·rename_i h; rw [if_neg h]; exact jnB t e
theorem jrj {vs:List V} {tk2:TE} (c:CDct X.prog X.w X.K a ks us) (hv:Vals vs us) (hk:PE X k tk2) (hg:Gl X x) (hm:X.mg x = some (.ref a)) (hs:jmr k) (hdb:(x == ("__debug__":Str)) = false:=by decide) :
  PE X (.Subscript (.Name x p) k pos) (jwG a ks vs tk2):=by
 intro pins s σ H Q I h
 refine jrn PySem.F.slot_dict_getitem.lookup hs (jdv I hg hm (jF (hk pins s σ H _ I h) fun iv s2 qZ=>?_) hdb)
 obtain ⟨y,H2,I2,ry,z,v,ey,ev,q⟩:=qZ
 subst ey
 have dd:=c.dict I2.kIn
 obtain ⟨u,eu,ru⟩:=jnB hv ev
 refine ⟨dd.typeIs,wpAny_getItem_of (jel (k:=Sum.inr z) ry) dd.mapOf (by rw [jdH c.len]; exact eu) ⟨v,H2,I2.tok _,ru,q⟩⟩
abbrev joz (ks:List Str) (ds:List D) (tk:E3):E3:=fun ρ Φ=>tk ρ fun d=>match d with | .str z=>∃ c,jZ ks ds z = some c∧Φ c | _=>False
theorem jmH {vs:List V} {ds:List D} (c:CDct X.prog X.w X.K a ks us) (hv:Vals vs us) (hr:∀ S H,Reps X.K S H ds vs) (hk:PD X k tk) (hg:Gl X x) (hm:X.mg x = some (.ref a)) (hs:jmr k) (hdb:(x == ("__debug__":Str)) = false:=by decide) :
  PD X (.Subscript (.Name x p) k pos) (joz ks ds tk):=by
 obtain ⟨t2,hk,wk⟩:=hk
 refine ⟨_,jrj c hv hk hg hm hs hdb,fun B S H σ ρ Φ Q er q hd=>wk B S H σ ρ _ _ er q fun d v H1 p1 s1 r1=>?_⟩
 cases d <;> first | exact p1.elim | skip
 rename_i z
 simp only [Rep] at r1
 subst r1
 obtain ⟨c',ec,hc⟩:=p1
 obtain ⟨u,eu,ru⟩:=jhC (hr S H1) ec
 exact ⟨z,u,rfl,eu,hd _ _ H1 hc s1 ru⟩
structure Fns (X:Cx) (k:Nat) (vs:List V) (Cs:List jK):Prop where
 len:vs.length = Cs.length
 fn:∀ (i:Nat) v C,vs[i]? = some v->Cs[i]? = some C->∃ f fd ps,v = .ref f∧ps.length = 1∧FnOk X.prog X.w X.K X.mg X.base jS k f fd ps (j2 X.K ps.length C)∧jO C∧PySem.W.keepIn X.K (.ref f) = true∧Binds X.K fd ps []
theorem jrS {α β:Type} {z:Str}:∀ {ks:List Str} {xs:List α} {ys:List β} {y:β},xs.length = ys.length->jZ ks ys z = some y->∃ (i:Nat) (x:α),xs[i]? = some x∧ys[i]? = some y∧jZ ks xs z = some x
 | [],_,_,_,_,e=>by cases e
 | _ :: _,_,[],_,_,e=>by cases e
 | _ :: _,[],_ :: _,_,h,_=>by cases h
 | k :: ks,x :: xs,y' :: ys,y,h,e=>by
  unfold jZ at e
  split at e
  ·rename_i hk; cases e; exact ⟨0,x,rfl,rfl,by unfold jZ; rw [if_pos hk]⟩
  ·rename_i hk
   obtain ⟨i,u,e1,e2,e3⟩:=jrS (Nat.succ.inj h) e
   exact ⟨i + 1,u,e1,e2,by unfold jZ; rw [if_neg hk]; exact e3⟩
abbrev joG (ks:List Str) (Cs:List jK) (tk te:E3):E3:=fun ρ Φ=>tk ρ fun d=>match d with | .str z=>∃ C,jZ ks Cs z = some C∧te ρ fun c=>C [c] Φ | _=>False
theorem jhq {n:Nat} {vs:List V} {Cs:List jK} {te:E3} (c:CDct X.prog X.w X.K a ks us) (hv:Vals vs us) (hF:Fns X n vs Cs) (hr:Room n X.A) (hk:PD X k tk) (he:PD X e te) (hg:Gl X x) (hm:X.mg x = some (.ref a)) (hs:jmr k) (hdb:(x == ("__debug__":Str)) = false:=by decide)
  (hst:starEach [e] X.env = (false,eval e X.env) :: starEach [] X.env:=by rfl)
  (hc:eval (.Call (.Subscript (.Name x p) k p2) [e] [] pos) X.env = (do callWith pos (← eval (.Subscript (.Name x p) k p2) X.env) [] (backTo pos (starEach [e] X.env)) (backToKw pos (keywordEach [] X.env))):=by rfl) :
  PD X (.Call (.Subscript (.Name x p) k p2) [e] [] pos) (joG ks Cs tk te):=by
 obtain ⟨t1,hk,wk⟩:=hk; obtain ⟨t2,he,we⟩:=he
 refine ⟨fun σ H Q=>jwG a ks vs t1 σ H fun v H1=>∃ f fd ps C,v = .ref f∧ps.length = 1∧FnOk X.prog X.w X.K X.mg X.base jS n f fd ps (j2 X.K ps.length C)∧PySem.W.keepIn X.K (.ref f) = true∧Binds X.K fd ps []∧jor t2 jmz σ H1 fun vs' H2=>j2 X.K ps.length C (vs' ++ []) H2 Q E0,?_,?_⟩
 ·intro pins s σ H Q I h
  refine Call_ (jF (jrj c hv hk hg hm hs hdb pins s σ H _ I h) fun u s1 qZ=>?_) hc
  obtain ⟨v,H1,I1,rv,f,fd,ps,C,ev,hl,F,kp,hb,q⟩:=qZ
  subst ev
  cases (show u = Value.ref f from rv)
  refine PySem.W.callWith_K (first:=[]) (h₀:=X.base) I.ok.mod.kin kp (jF ((jbe he jcn hst) pos pins s1 σ H1 _ I1 q) fun us' s2 ⟨vs',H2,I2,r,q2⟩=>⟨I2.kIn,?_⟩) hst rfl
  exact joI F hr hb .nil jc5 I2 r q2
 ·intro B S H σ ρ Φ Q er q hd
  refine wk B S H σ ρ _ _ er q fun d v H1 p1 s1 r1=>?_
  cases d <;> first | exact p1.elim | skip
  rename_i z
  simp only [Rep] at r1
  subst r1
  obtain ⟨C,eC,p1⟩:=p1
  obtain ⟨i,v,e1,e2,e3⟩:=jrS hF.len eC
  obtain ⟨f,fd,ps,ev,hl,F,mo,kp,hb⟩:=hF.fn i v C e1 e2
  refine ⟨z,v,rfl,e3,f,fd,ps,C,ev,hl,F,kp,hb,we B S H1 σ ρ _ _ (er.go s1) p1 fun c' y H2 p2 s2 r2=>?_⟩
  exact ⟨[c'],S,by rw [hl]; rfl,Reps.cons r2 Reps.nil,(er.ok.same s1).same s2,mo [c'] Φ _ (fun d hΦ v' H' s r'=>hd d v' H' hΦ ((s1.trans s2).trans s) r') p2⟩
end
def jhw (w:World):List (Str × Tok × Value)->List DictEntry
 | []=>[]
 | e :: r=>⟨PyData.keyHash w.params e.1,.str e.1 e.2.1,e.2.2⟩ :: jhw w r
theorem jpc {P:Program} {w:World}:∀ (l:List (Str × Tok × Value)),∀ e ∈ jhw w l,∃ k,(jat P w).is k e.key = true∧e.hash = (jat P w).hash k
 | [],_,h=>by cases h
 | x :: r,e,h=>by
  rcases List.mem_cons.mp h with h | h
  ·subst h
   exact ⟨Sum.inr x.1,(jjc x.1 x.2.1),rfl⟩
  ·exact jpc r e h
theorem jnp {P:Program} {w:World}:∀ (l:List (Str × Tok × Value)),Pairs (jat P w) (jhw w l) (((l.map (·.1)).map Sum.inr).zip (l.map (·.2.2)))
 | []=>.nil
 | x :: r=>Pairs.cons (e:=⟨PyData.keyHash w.params x.1,.str x.1 x.2.1,x.2.2⟩) (kv:=(Sum.inr x.1,x.2.2)) (jjc x.1 x.2.1) rfl (jnp r)
theorem jmC {P:Program} {w:World} {K:PySem.W.Frag} {a:Addr} {n:Nat} (l:List (Str × Tok × Value)) (hl:K.lookup a = some ⟨.type "dict",none,.dict (jhw w l).toArray n,#[]⟩) (hs:(a == sysModules) = false) (nd:(l.map (·.1)).Nodup) :
  CDct P w K a (l.map (·.1)) (l.map (·.2.2)) :=
 ⟨hs,⟨_,_,_,hl,⟨rfl,rfl,rfl⟩,rfl,fun e he=>jpc l e (by simpa using he),by simpa using jnp l⟩,nd,by rw [List.length_map,List.length_map]⟩
abbrev AM:=jL->Wd->(List Sl->Wd->Prop)->Prop
def PAM (X:Cx) (Z:Zc) (es:List Expr) (t:AM):Prop:=∃ t2,PA X es t2∧∀ B S H σ ρ W Φ (Q:List V->Hp->Prop),EW X.K Z B S H σ ρ W->t ρ W Φ->(∀ as vs H' W',Φ as W'->SameX W H H'->adr W' = adr W->WOk X.K Z S H' W'->RepsA X.K S H' as vs->Q vs H')->t2 σ H Q
abbrev jbK:AM:=fun _ W Φ=>Φ [] W
abbrev jbn (tm:E4) (ta:AM):AM:=fun ρ W Φ=>tm ρ W fun d W'=>ta ρ W' fun as W2=>Φ (.val d :: as) W2
abbrev AV:=jL->Wd->(List D->Wd->Prop)->Prop
def PAV (X:Cx) (Z:Zc) (es:List Expr) (t:AV):Prop:=∃ t2,PA X es t2∧∀ B S H σ ρ W Φ (Q:List V->Hp->Prop),EW X.K Z B S H σ ρ W->t ρ W Φ->(∀ ds vs H' W',Φ ds W'->SameX W H H'->adr W' = adr W->WOk X.K Z S H' W'->Reps X.K S H' ds vs->Q vs H')->t2 σ H Q
abbrev jlY:AV:=fun _ W Φ=>Φ [] W
abbrev jgt (tm:E4) (ta:AV):AV:=fun ρ W Φ=>tm ρ W fun d W'=>ta ρ W' fun ds W2=>Φ (d :: ds) W2
section
variable {X:Cx} {Z:Zc} {e:Expr} {es:List Expr} {tm:E4} {ta:AM} {tv:AV}
theorem jbl:PAM X Z [] jbK:=⟨_,jcn,fun B S H σ ρ W Φ Q ew q k=>k [] [] H W q SameX.refl rfl ew.w .nil⟩
theorem jbm (he:PM X Z e tm) (ha:PAM X Z es ta) (hs:starEach (e :: es) X.env = (false,eval e X.env) :: starEach es X.env:=by rfl):PAM X Z (e :: es) (jbn tm ta):=by
 obtain ⟨t2,h,w⟩:=he; obtain ⟨u2,g,z⟩:=ha
 exact ⟨_,jbe h g hs,fun B S H σ ρ W Φ Q ew q k=>w B S H σ ρ W _ _ ew q fun d v H1 W1 p s1 e1 wk1 r1=>z B S H1 σ ρ W1 _ _ (ew.goX s1 e1 wk1) p fun as vs H2 W2 p2 s2 e2 wk2 r2=>k _ _ H2 W2 p2 (s1.trans (s2.adr e1)) (e2.trans e1) wk2 (.cons (show RepA X.K S H2 (.val d) v from r1.sameX wk1.dict s2) r2)⟩
theorem jjq:PAV X Z [] jlY:=⟨_,jcn,fun B S H σ ρ W Φ Q ew q k=>k [] [] H W q SameX.refl rfl ew.w Reps.nil⟩
theorem jeJ (he:PM X Z e tm) (ha:PAV X Z es tv) (hs:starEach (e :: es) X.env = (false,eval e X.env) :: starEach es X.env:=by rfl):PAV X Z (e :: es) (jgt tm tv):=by
 obtain ⟨t2,h,w⟩:=he; obtain ⟨u2,g,z⟩:=ha
 exact ⟨_,jbe h g hs,fun B S H σ ρ W Φ Q ew q k=>w B S H σ ρ W _ _ ew q fun d v H1 W1 p s1 e1 wk1 r1=>z B S H1 σ ρ W1 _ _ (ew.goX s1 e1 wk1) p fun as vs H2 W2 p2 s2 e2 wk2 r2=>k _ _ H2 W2 p2 (s1.trans (s2.adr e1)) (e2.trans e1) wk2 (Reps.cons (r1.sameX wk1.dict s2) r2)⟩
end
abbrev jix (n:Nat) (C:jdy) (ta:AM):E4:=fun ρ W Φ=>ta ρ W fun as W'=>as.length = n∧C as W' Φ
abbrev jdR (i:Nat) (n:Nat) (C:jdy) (ta:AM):E4:=fun ρ W Φ=>match ρ[i]? with | some (.raw v)=>(∃ o ∈ W,v = .ref o.p∧o.p ≠ o.q)∧ta ρ W fun as W'=>as.length + 1 = n∧C (.raw v :: as) W' Φ | _=>False
abbrev jlV (n:Nat) (C:jK) (ta:AV):E4:=fun ρ W Φ=>ta ρ W fun ds W'=>ds.length = n∧C ds fun d=>Φ d W'
abbrev jo6 (r:R3) (tm tn:E4):E4:=fun ρ W Φ=>tm ρ W fun d W1=>tn ρ W1 fun e W2=>r d e fun z=>Φ z W2
abbrev jgZ (g:D3.Q4) (tk:E3) (tv:E4):S4:=fun Φ ρ W=>tv ρ W fun c W1=>g ρ W1 fun o=>tk ρ fun d=>match d with | .str x=>NoL c∧o.ks.length < sizeLine∧Φ (.nx ρ (ja7 W1 (o.put x c))) | _=>False
section
variable {X:Cx} {Z:Zc} {k:Nat} {f:Addr} {fd:FuncData} {ps:List Str} {C:jdy} {C3:jK} {x:Str} {p pos pos' apos:Pos} {a b e o kx v:Expr} {es:List Expr} {ta:AM} {tv:AV} {tm tn:E4} {g:D3.Q4} {tk:E3}
theorem jho (F:FnOk X.prog X.w X.K X.mg X.base jS k f fd ps (spW X.K Z ps.length C)) (mo:jej C) (hr:Room k X.A) (hg:Gl X x) (hm:X.mg x = some (.ref f)) (hk:PySem.W.keepIn X.K (.ref f) = true) (hb:Binds X.K fd ps [])
  (ha:PAM X Z (e :: es) ta) (hdb:(x == ("__debug__":Str)) = false:=by decide) (he:starEach (e :: es) X.env = (false,eval e X.env) :: starEach es X.env:=by rfl) (hpl:(backTo pos (starEach es X.env)).any (·.1) = false:=by rfl) :
  PM X Z (.Call (.Name x p) (e :: es) [] pos) (jix ps.length C ta):=by
 obtain ⟨t2,h,w⟩:=ha
 refine ⟨_,jms F hr hg hm hk hb .nil jc5 h hdb he hpl,fun B S H σ ρ W Φ Q ew q hd=>w B S H σ ρ W _ _ ew q fun as vs H1 W1 hc s1 e1 wk1 r=>?_⟩
 rw [List.append_nil]
 exact ⟨as,S,W1,hc.1,r,(ew.goX s1 e1 wk1).er.ok,wk1,mo as W1 Φ _ (fun d W' hΦ v H' s e wk r'=>hd d v H' W' hΦ (s1.trans (s.adr e1)) (e.trans e1) wk r') hc.2⟩
theorem jg2 {i:Nat} {m:Str} (hf:(m == Z.f) = false) (mo:jej C) (ha:PAM X Z (e :: es) ta)
  (hpe:∀ t2,PA X (e :: es) t2->PE X (.Call (.Attribute o m apos) (e :: es) [] pos) (jsq Z.C m (spW X.K Z ps.length C) [] E0 (jd7 i) t2)):PM X Z (.Call (.Attribute o m apos) (e :: es) [] pos) (jdR i ps.length C ta):=by
 obtain ⟨t2,h,w⟩:=ha
 refine ⟨_,hpe t2 h,fun B S H σ ρ W Φ Q ew q hd=>?_⟩
 unfold jdR at q
 split at q
 ·rename_i v e0
  obtain ⟨⟨o,ho,rfl,hpq⟩,q⟩:=q
  obtain ⟨dx,ei⟩:=(ew.w.ob o ho).ins.resolve_left hpq
  refine ⟨.ref o.p,ew.er.rf i _ e0,o.p,dx,_,rfl,ei,?_,w B S H σ ρ W _ _ ew q fun as vs H1 W1 hc s1 e1 wk1 r=>?_⟩
  ·rw [List.lookup_cons,hf]; rfl
  ·rw [List.append_nil]
   exact ⟨.raw (.ref o.p) :: as,S,W1,hc.1,.cons (show RepA X.K S H1 (.raw (.ref o.p)) (.ref o.p) from rfl) r,(ew.goX s1 e1 wk1).er.ok,wk1,mo _ W1 Φ _ (fun d W' hΦ v H' s e wk r'=>hd d v H' W' hΦ (s1.trans (s.adr e1)) (e.trans e1) wk r') hc.2⟩
 ·exact q.elim
theorem jkA (F:FnOk X.prog X.w X.K X.mg X.base jS k f fd ps (j2 X.K ps.length C3)) (mo:jO C3) (hr:Room k X.A) (hg:Gl X x) (hm:X.mg x = some (.ref f)) (hk:PySem.W.keepIn X.K (.ref f) = true) (hb:Binds X.K fd ps [])
  (ha:PAV X Z (e :: es) tv) (hdb:(x == ("__debug__":Str)) = false:=by decide) (he:starEach (e :: es) X.env = (false,eval e X.env) :: starEach es X.env:=by rfl) (hpl:(backTo pos (starEach es X.env)).any (·.1) = false:=by rfl) :
  PM X Z (.Call (.Name x p) (e :: es) [] pos) (jlV ps.length C3 tv):=by
 obtain ⟨t2,h,w⟩:=ha
 refine ⟨_,jms F hr hg hm hk hb .nil jc5 h hdb he hpl,fun B S H σ ρ W Φ Q ew q hd=>w B S H σ ρ W _ _ ew q fun ds vs H1 W1 hc s1 e1 wk1 r=>?_⟩
 rw [List.append_nil]
 exact ⟨ds,S,hc.1,r,(ew.goX s1 e1 wk1).er.ok,mo ds _ _ (fun d hΦ v H' s r'=>hd d v H' W1 hΦ (s1.trans (SameX.of s)) e1 (wk1.same s) r') hc.2⟩
theorem jyR {op:Operator} {r:R3} (ho:OpD X (binaryOp op) r) (ha:PM X Z a tm) (hb:PM X Z b tn):PM X Z (.BinOp a op b pos) (jo6 r tm tn):=by
 obtain ⟨r2,ho,wr⟩:=ho; obtain ⟨ta2,ha,wa⟩:=ha; obtain ⟨tb2,hb,wb⟩:=hb
 refine ⟨_,jwt ho ha hb,fun B S H σ ρ W Φ Q ew q hd=>wa B S H σ ρ W _ _ ew q fun d v H1 W1 p1 s1 e1 wk1 r1=>?_⟩
 have ew1:=ew.goX s1 e1 wk1
 refine wb B S H1 σ ρ W1 _ _ ew1 p1 fun y u H2 W2 p2 s2 e2 wk2 r2'=>?_
 have ew2:=ew1.goX s2 e2 wk2
 exact wr S H2 d y v u _ Q ew2.er.ok (r1.sameX wk1.dict s2) r2' p2 fun z x H3 p3 s3 r3=>hd z x H3 W2 p3 ((s1.trans (s2.adr e1)).trans (SameX.of s3)) (e2.trans e1) (wk2.same s3) r3
theorem jeH (hu:X.A.units + 1 < cLine) (hg:PQ X Z e g) (hk:PD X kx tk) (hv:PM X Z v tm) (hs:swapsWith v (some (.Subscript e kx pos')) pos.line X.env = pure false:=by rfl):PSW X Z (.Assign [.Subscript e kx pos'] v pos) (jgZ g tk tm):=by
 obtain ⟨t1,hk,wk⟩:=hk; obtain ⟨t2,hg,wg⟩:=hg; obtain ⟨t3,hv,wv⟩:=hv
 refine ⟨_,jxx hu hg hk hv hs,fun B S H σ ρ W Φ D' ew q ok=>wv B S H σ ρ W _ _ ew q fun c y H1 W1 p1 s1 e1 wk1 r1=>?_⟩
 have ew1:=ew.goX s1 e1 wk1
 refine wg B S H1 σ ρ W1 _ _ ew1 p1 fun o ho p2=>wk B S H1 σ ρ _ _ ew1.er p2 fun d z H2 p3 s2 r2=>?_
 cases d <;> first | exact p3.elim | skip
 rename_i x
 simp only [Rep] at r2
 subst r2
 have ew2:=ew1.go s2
 have okb:=ew2.w.ob o ho
 obtain ⟨xs,e,l,rs⟩:=okb.at_
 obtain ⟨hw,sx⟩:=ew2.w.set (o':=o.put x c) (xs:=jcf o.ks xs x y) ho rfl rfl (jxb okb.nd) (jwU p3.1 okb.nl) (jvM l) (jtC rs (r1.same s2))
 have ea:=jkt (o':=o.put x c) ew2.w.nd ho rfl rfl
 refine ⟨o.q,_,rfl,DPut.k (k:=Sum.inr x) e (by unfold kvs; rw [List.length_zip,List.length_map,← l,Nat.min_self]; exact p3.2.1),?_⟩
 rw [jxD l]
 exact ok.nx ρ S _ σ _ p3.2.2 (ew2.goX sx ea hw) (ea.trans e1)
end
section
variable {X:Cx} {k:Nat} {vs:List V} {Cs:List jK} {f:Addr} {fd:FuncData} {ps:List Str} {C:jK}
theorem jrJ:Fns X k [] []:=⟨rfl,fun i v C e=>by cases e⟩
theorem jbu {j:Nat} (F:FnOk X.prog X.w X.K X.mg X.base jS j f fd ps (j2 X.K ps.length C)) (hj:j ≤ k) (hl:ps.length = 1) (mo:jO C) (kp:PySem.W.keepIn X.K (.ref f) = true) (hb:Binds X.K fd ps []) (h:Fns X k vs Cs):Fns X k (.ref f :: vs) (C :: Cs):=by
 refine ⟨by rw [List.length_cons,List.length_cons,h.len],fun i v C' e1 e2=>?_⟩
 cases i with
 | zero=>cases e1; cases e2; exact ⟨f,fd,ps,rfl,hl,F.mono hj,mo,kp,hb⟩
 | succ i=>exact h.fn i v C' e1 e2
end
theorem jar {x:Str} {t:Tok} {ns:List Str} {us:List Value} (h:Vals (ns.map V.str) us):Vals ((x :: ns).map V.str) (.str x t :: us):=.cons ⟨t,rfl⟩ h
theorem Reps.strs {K:PySem.W.Frag} {S:Addr->Prop} {H:Hp}:∀ ns:List Str,Reps K S H (ns.map D.str) (ns.map V.str)
 | []=>Reps.nil
 | _ :: ns=>Reps.cons Rep.str (Reps.strs ns)
theorem jbf {K:PySem.W.Frag} {f:Addr} {od:Option Addr} {its:Array Value} {n:Nat} {sl:Array (Option Value)} {ns:List Str} (l:K.lookup f = some ⟨.type "tuple",od,.seq its n,sl⟩) (hz:its.size ≤ sizeLine) (hv:Vals (ns.map V.str) its.toList):jea K (.tup (ns.map D.str)) (.ref f) (.ref f) :=
 ⟨rfl,fun S H=>Rep.tup (.inr ⟨_,its,n,l,rfl,rfl,hz,hv⟩) (Reps.strs ns)⟩
structure jjm (K:PySem.W.Frag) (ds:List D) (vs:List V) (us:List Value):Prop where
 r:Vals vs us
 d:∀ S H,Reps K S H ds vs
theorem juK {K:PySem.W.Frag}:jjm K [] [] []:=⟨.nil,fun _ _=>Reps.nil⟩
theorem ja0 {K:PySem.W.Frag} {d:D} {v:V} {u:Value} {ds:List D} {vs:List V} {us:List Value} (c:jea K d v u) (h:jjm K ds vs us):jjm K (d :: ds) (v :: vs) (u :: us):=⟨.cons c.r h.r,fun S H=>Reps.cons (c.d S H) (h.d S H)⟩
structure jp (K:PySem.W.Frag) (mg:Str->Option Value) (x:Str) (st:Stmt) (f:Addr) (fd:FuncData) (ps:List Str):Prop where
 F:Fun K x x st f fd
 m:mg x = some (.ref f)
 b:Binds K fd ps []
structure jek (K:PySem.W.Frag) (C:Addr) (m qual:Str) (st:Stmt) (f:Addr) (fd:FuncData) (ps:List Str):Prop where
 F:Fun K m qual st f fd
 h:jm3 K C m f
 b:Binds K fd ps []
section
variable {K:PySem.W.Frag} {mg:Str->Option Value} {h:Heap} {x qual:Str} {st:Stmt} {f C:Addr} {oc:Value} {od an:Option Addr} {osl:Array (Option Value)} {kV doc pm cdv ct:Value} {p1 p2 p3 p4:Str}
theorem j4 (X:K.In h) (G:h.Ns mainGlobals mg) (a:PySem.W.nsIn K mainGlobals x = some (some (.ref f))) (l:K.lookup f = some ⟨oc,od,.func (PySem.W.fnOf x x (jaB st) (jag st) (jj st) .none kV doc pm an cdv ct),osl⟩) (c:PySem.W.codeIn K cdv x = true) (k:PySem.W.keepIn K (.ref f) = true)
  (hb:∀ (kV doc pm:Value) (an:Option Addr) (cdv ct u1:Value),bindArgs (PySem.W.fnOf x x (jaB st) (jag st) (jj st) .none kV doc pm an cdv ct) ⟨[u1],[]⟩ = pure [(p1,u1)]):jp K mg x st f (PySem.W.fnOf x x (jaB st) (jag st) (jj st) .none kV doc pm an cdv ct) [p1] :=
 have F:=jiX l c k
 ⟨F,PySem.W.mg_of X G a,F.binds fun _ _ _ _ _ _ us hl=>len_1 us hl fun _=>hb ..⟩
theorem jaO (X:K.In h) (G:h.Ns mainGlobals mg) (a:PySem.W.nsIn K mainGlobals x = some (some (.ref f))) (l:K.lookup f = some ⟨oc,od,.func (PySem.W.fnOf x x (jaB st) (jag st) (jj st) .none kV doc pm an cdv ct),osl⟩) (c:PySem.W.codeIn K cdv x = true) (k:PySem.W.keepIn K (.ref f) = true)
  (hb:∀ (kV doc pm:Value) (an:Option Addr) (cdv ct u1 u2:Value),bindArgs (PySem.W.fnOf x x (jaB st) (jag st) (jj st) .none kV doc pm an cdv ct) ⟨[u1,u2],[]⟩ = pure [(p1,u1),(p2,u2)]):jp K mg x st f (PySem.W.fnOf x x (jaB st) (jag st) (jj st) .none kV doc pm an cdv ct) [p1,p2] :=
 have F:=jiX l c k
 ⟨F,PySem.W.mg_of X G a,F.binds fun _ _ _ _ _ _ us hl=>len_2 us hl fun _ _=>hb ..⟩
theorem jyC (X:K.In h) (G:h.Ns mainGlobals mg) (a:PySem.W.nsIn K mainGlobals x = some (some (.ref f))) (l:K.lookup f = some ⟨oc,od,.func (PySem.W.fnOf x x (jaB st) (jag st) (jj st) .none kV doc pm an cdv ct),osl⟩) (c:PySem.W.codeIn K cdv x = true) (k:PySem.W.keepIn K (.ref f) = true)
  (hb:∀ (kV doc pm:Value) (an:Option Addr) (cdv ct u1 u2 u3:Value),bindArgs (PySem.W.fnOf x x (jaB st) (jag st) (jj st) .none kV doc pm an cdv ct) ⟨[u1,u2,u3],[]⟩ = pure [(p1,u1),(p2,u2),(p3,u3)]):jp K mg x st f (PySem.W.fnOf x x (jaB st) (jag st) (jj st) .none kV doc pm an cdv ct) [p1,p2,p3] :=
 have F:=jiX l c k
 ⟨F,PySem.W.mg_of X G a,F.binds fun _ _ _ _ _ _ us hl=>len_3 us hl fun _ _ _=>hb ..⟩
theorem jzc {ps:List Str} (X:K.In h) (G:h.Ns mainGlobals mg) (a:PySem.W.nsIn K mainGlobals x = some (some (.ref f))) (l:K.lookup f = some ⟨oc,od,.func (PySem.W.fnOf x x (jaB st) (jag st) (jj st) .none kV doc pm an cdv ct),osl⟩) (c:PySem.W.codeIn K cdv x = true) (k:PySem.W.keepIn K (.ref f) = true)
  (hb:∀ (kV doc pm:Value) (an:Option Addr) (cdv ct:Value) (us:List Value),us.length = ps.length->bindArgs (PySem.W.fnOf x x (jaB st) (jag st) (jj st) .none kV doc pm an cdv ct) ⟨us,[]⟩ = pure (ps.zip us)):jp K mg x st f (PySem.W.fnOf x x (jaB st) (jag st) (jj st) .none kV doc pm an cdv ct) ps :=
 have F:=jiX l c k
 ⟨F,PySem.W.mg_of X G a,F.binds hb⟩
theorem jow {ps:List Str} (a:PySem.W.findIn K (.ref C) x = some (some (.ref f))) (i:PySem.W.isFn K (.ref f) = true) (l:K.lookup f = some ⟨oc,od,.func (PySem.W.fnOf x qual (jaB st) (jag st) (jj st) .none kV doc pm an cdv ct),osl⟩) (c:PySem.W.codeIn K cdv qual = true) (k:PySem.W.keepIn K (.ref f) = true)
  (hb:∀ (kV doc pm:Value) (an:Option Addr) (cdv ct:Value) (us:List Value),us.length = ps.length->bindArgs (PySem.W.fnOf x qual (jaB st) (jag st) (jj st) .none kV doc pm an cdv ct) ⟨us,[]⟩ = pure (ps.zip us)):jek K C x qual st f (PySem.W.fnOf x qual (jaB st) (jag st) (jj st) .none kV doc pm an cdv ct) ps :=
 have F:=jiX l c k
 ⟨F,⟨a,i,k⟩,F.binds hb⟩
theorem jzr {y:Str} (a:PySem.W.findIn K (.ref C) y = some none):NoAttr K C y:=a
theorem mgR (X:K.In h) (G:h.Ns mainGlobals mg) (a:PySem.W.nsIn K mainGlobals x = some (some (.ref f))):mg x = some (.ref f):=PySem.W.mg_of X G a
theorem mgS {u:Str} {t:Tok} (X:K.In h) (G:h.Ns mainGlobals mg) (a:PySem.W.nsIn K mainGlobals x = some (some (.str u t))):mg x = some (.str u t):=PySem.W.mg_of X G a
end
section
variable {X:Cx} {k:Nat} {f:Addr} {fd:FuncData} {st:Stmt} {ps:List Str} {C:jK} {x:Str} {p pos:Pos} {e:Expr} {es:List Expr} {ta:A3}
theorem jn (F:FnOk X.prog X.w X.K X.mg X.base jS k f fd ps (j2 X.K ps.length C)) (mo:jO C) (hr:Room k X.A) (D:jp X.K X.mg x st f fd ps)
  (ha:PAD X (e :: es) ta) (hg:Gl X x:=by rfl) (hdb:(x == ("__debug__":Str)) = false:=by decide) (he:starEach (e :: es) X.env = (false,eval e X.env) :: starEach es X.env:=by rfl) (hpl:(backTo pos (starEach es X.env)).any (·.1) = false:=by rfl) :
  PD X (.Call (.Name x p) (e :: es) [] pos) (jx ps.length C ta):=jxV F mo hr hg D.m D.F.kp D.b ha hdb he hpl
end
theorem jn9 {scope:Scope} {env:Env} {x:Str} (h:scope.names.lookup x = some .local):(relabel scope env).names.lookup x = some .local:=by
 show (scope.names.map _).lookup x = _
 generalize scope.names = l at h
 induction l with
 | nil=>cases h
 | cons a l ih =>
  obtain ⟨n,k⟩:=a
  rw [List.lookup_cons] at h
  rw [List.map_cons]
  by_cases e:(x == n) = true
  ·rw [e] at h
   cases h
   dsimp only
   rw [if_neg (by show ¬ (false && _ && _) = true; simp),List.lookup_cons,e]
  ·have e:(x == n) = false:=by simpa using e
   rw [e] at h
   have ih:=ih h
   dsimp only
   split
   ·rw [List.lookup_cons,e]; exact ih
   ·rw [List.lookup_cons,e]; exact ih
theorem jsW {M:Model} {A:Around} {E:Value->Shared->Prop} {s:Shared} {env:Env} {e:Expr} {scope:Scope} {pos:Pos} {newAcc first:Sem Value} {g:Comprehension} {gs:List Comprehension} {cl:List (Str × Addr)} {Q:Value->Shared->Prop}
  (hcl:clausesOf e = g :: gs) (hfs:∀ x,foldedSetIterable g.iter env x = pure x) (hc:closureFor scope env = pure cl) (hk:scope.kind = .function) (hloc:∀ x ∈ scope.names,x.2 = .local->scope.names.lookup x.1 = some .local)
  (h:wpAny M A first (fun x s₁=>wpAny M A (pyIter x) (fun it s₂=>wpAny M A newAcc (fun acc s₃=>wpAny M A (newFunctionEnv scope env.globals cl [] env.qual none .none (some env)) (fun cenv s₄=>cenv.frame = env.frame ∧
   codeAny M A (.compStart e 0 it acc { cenv with scope:=relabel scope env }) (fun r s'=>∃ m,s'.heap.Ns cenv.locals m∧∀ h' m',h'.Ns cenv.locals m'->Heap.SameBut cenv.locals s'.heap h'->match r with
    | .ok _=>Q acc { s' with heap:=h' }
    | .error x=>∀ env':Env,env'.frame = env.frame->wpAny M A (PySem.passOn "comprehension.variables-let-go" x env') Q E { s' with heap:=h' }) s₄) E s₃) E s₂) E s₁) E s) :
  wpAny M A (comprehension e scope env pos newAcc false first none) Q E s:=by
 unfold PySem.comprehension
 refine wpAny_bind (jF h fun x s1 h1=>?_)
 refine wpAny_bind (wpAny_standAt ?_)
 rw [hcl]
 dsimp only
 rw [hfs]
 refine wpAny_bind (wpAny_pure ?_)
 refine wpAny_bind (wpAny_holding ?_)
 simp only [Bool.false_eq_true,if_false]
 refine jF h1 fun it s2 h2=>?_
 simp only [Option.isSome_none,Bool.false_eq_true,if_false]
 refine wpAny_bind (jF h2 fun acc s3 h3=>?_)
 rw [hc]
 refine wpAny_bind (wpAny_pure ?_)
 refine wpAny_bind (jF h3 fun cenv s4 h4=>?_)
 refine wpAny_holding (wpAny_bind (wpAny_attempt (wpAny_holding (wpAny_run ?_))))
 refine codeAny_mono h4.2 fun r s' hr=>?_
 obtain ⟨m,hm,hq⟩:=hr
 have ks:({ cenv with scope:=relabel scope env }:Env).scope.kind = .function:=hk
 have lc:∀ x ∈ (List.filter (fun x:Str × NameKind=>match x with | (n,k)=>(k == NameKind.local || k == NameKind.cell) && n != Str.ofString ".0") scope.names).reverse,x.2 = .local->({ cenv with scope:=relabel scope env }:Env).kindOf x.1 = some .local:=fun x hx hl=>by
  have hx:=(List.mem_filter.mp (List.mem_reverse.mp hx)).1
  exact jn9 (hloc x hx hl)
 cases r with
 | ok a =>
  dsimp only
  refine wpAny_bind (wpAny_holding (wpAny_comp_letGo ks _ s' m lc hm fun h' m' hn sb=>wpAny_pure (hq h' m' hn sb)))
 | error x =>
  dsimp only
  refine wpAny_bind (wpAny_holding (wpAny_comp_letGo ks _ s' m lc hm fun h' m' hn sb=>hq h' m' hn sb { cenv with scope:=relabel scope env } h4.1))
structure jx6 (P:Program) (w:World) (l:List Env) (L:Addr) (H H':Hp) (h h' B:Heap) (e C:Addr) (a0:Value):Prop where
 fl:B.HeldW l e (.ref C) a0 L h'
 hok:HOk P w H' B
 keep:∀ b o,h.get? b = some o->H b = none->b ∉ frs l->B.get? b = some o
 slot:∀ b o,h.get? b = some o->H b = none->b ∈ frs l->∃ sl,h'.get? b = some { o with slots:=sl }
 free:∀ b o,h.get? b = some o->H b = none->H' b = none
 there:∀ b o,h.get? b = some o->b ∉ frs l->∃ o',B.get? b = some o'
 tups:∀ b xs,H b = some (.tup xs)->H' b = some (.tup xs)
 frzs:∀ b o u,H b = some (.frz o u)->H' b = some (.frz o u)
 tbls:∀ b ps,H b = some (.tbl ps)->∃ more,H' b = some (.tbl (ps ++ more))
 he:H' e = none
def jsL (X:Cx) (R:Hp->Prop) (C:Addr):Prop:=∀ (pins:List (Addr × Obj)) (σ:L2.St) (H H':Hp) (s s':Shared) (e:Addr) (B:Heap) (a0:Value) (L:Addr),Inv X pins σ H s->X.env.frame = some L->s'.os = s.os->AllBare s'.gens->jx6 X.prog X.w X.stack L H H' s.heap s'.heap B e C a0->R H'->X.xe (.ref e) s'
section
variable {X:Cx} {pins:List (Addr × Obj)} {σ:L2.St} {H H':Hp} {s s':Shared} {e C:Addr} {B:Heap} {a0:Value} {Q:Unit->Shared->Prop} {E:Value->Shared->Prop}
theorem jpz (I:Inv X pins σ H s) (hst:X.stack = X.env :: X.outer) (hfr:X.env.frame = some X.env.locals) (hex:X.ex = []) (f:jx6 X.prog X.w X.stack X.env.locals H H' s.heap s'.heap B e C a0)
  (hQ:∀ h'',FlyB X.prog X.w X.outer X.H₀ H' X.s₀.heap h'' B e C a0->Q () { s' with heap:=h'' }):wpAny (model X.prog X.w) X.A (leaving X.env (.ref e)) Q E s':=by
 have hA:X.A.frames = some (X.env :: X.outer):=by rw [I.ok.frames,hst]
 have nex:∀ b:Addr,b ∉ X.ex:=fun b z=>by rw [hex] at z; cases z
 have ns:∀ b o,X.s₀.heap.get? b = some o->b ∉ frs X.outer->b ∉ frs X.stack:=fun b o q n z=>by
  rw [hst] at z
  unfold frs at z
  rw [List.filterMap_cons,hfr] at z
  rcases List.mem_cons.mp z with z | z
  ·exact absurd (Nat.lt_of_lt_of_le (Heap.lt_size q) I.ok.above) (by rw [z]; exact Nat.lt_irrefl _)
  ·exact n z
 have sub:∀ b,b ∈ frs X.outer->b ∈ frs X.stack:=fun b z=>by
  rw [hst]; unfold frs; rw [List.filterMap_cons,hfr]; exact List.mem_cons_of_mem _ z
 have fl0:=f.fl
 rw [hst] at fl0
 unfold PySem.leaving
 refine wpAny_bind (wpAny_noteFrame_againW (base:=B) hfr fl0.2.2.2 (wpAny_landsW fl0 fun h'' x1 x2=>hQ h'' ?_))
 obtain ⟨y1,y2,y3,y4⟩:=x1
 have y3':h''.FunFrames B X.outer:=y3.2.2
 refine ⟨⟨y1,y2,y3',y4⟩,f.hok,fun b o q n hb=>?_,fun b o q n hb=>?_,fun b o q n=>?_,fun b o q hb=>?_,fun b xs q=>f.tups b xs (I.base.tups b xs q),fun b o u q=>f.frzs b o u (I.base.frzs b o u q),fun b ps q=>?_,f.he⟩
 ·exact f.keep b o (I.base.keep b o q n hb (nex b)) (I.base.free b o q n (nex b)) (ns b o q hb)
 ·obtain ⟨sl,e1⟩:=I.base.slot b o q n hb (nex b)
  obtain ⟨sl',e2⟩:=f.slot b _ e1 (I.base.free b o q n (nex b)) (sub b hb)
  obtain ⟨_,o',ho,hd⟩:=I.ok.funs.mem hb
  rw [q] at ho; cases ho
  obtain ⟨sl'',e3⟩:=x2 b _ e2 hd
  exact ⟨sl'',e3⟩
 ·obtain ⟨o',e1⟩:=I.base.there b o q (nex b)
  exact f.free b o' e1 (I.base.free b o q n (nex b))
 ·obtain ⟨o',e1⟩:=I.base.there b o q (nex b)
  exact f.there b o' e1 (ns b o q hb)
 ·obtain ⟨m1,e1⟩:=I.base.tbls b ps q
  obtain ⟨m2,e2⟩:=f.tbls b _ e1
  exact ⟨m1 ++ m2,by rw [e2,Array.append_assoc]⟩
end
theorem jpi {h:Heap} {a:Addr} {o:Obj} (e:h.get? a = some o):o.isFreed = false:=by
 unfold Heap.get? at e
 split at e
 ·cases e
 ·rename_i hn
  cases o with
  | mk c d dt sl =>
   cases dt <;> first | rfl | exact absurd e (hn _ _ _)
theorem jrV {h:Heap} {C:Addr} {o o2:Obj} (e:h.get? C = some o) (nf:o2.isFreed = false):Heap.SameBut C h (h.update C fun _=>o2)∧(h.update C fun _=>o2).get? C = some o2 :=
 ⟨⟨by unfold Heap.update; simp,fun b hb=>Heap.get?_update_ne h b C _ hb⟩,Heap.get?_update_self (fun _=>o2) e nf⟩
theorem jmo {e:Value} {env env':Env} (h:env.frame = env'.frame):noteFrame e env = noteFrame e env':=by
 unfold noteFrame PySem.frameOf
 rw [h]
theorem jve {α:Type} {M:Model} {A:Around} {E:Value->Shared->Prop} {s:Shared} {base:Heap} {l:List Env} {e L:Addr} {cls a0:Value} {Q:α->Shared->Prop} {env:Env} {what:String} (hfr:env.frame = some L) (f:base.HeldW l e cls a0 L s.heap)
  (hE:∀ h',(∀ b,h'.get? b = s.heap.get? b)->E (.ref e) { s with heap:=h' }):wpAny M A (PySem.passOn what (.ref e) env) Q E s:=by
 obtain ⟨_,_,_,oe,vs,T,oT,ts,e1,_,e2,e3,_,_,e4,e5,e6⟩:=id f
 unfold PySem.passOn
 refine wpAny_bind (wpAny_field e1 e2 e3 ?_)
 have hT:(Value.ref T == Value.none) = false:=rfl
 simp only [hT,Bool.false_eq_true,if_false]
 refine wpAny_bind ?_
 rw [hfr]
 unfold PySem.setFlight
 refine wpAny_bind (wpAny_field e1 e2 e3 ?_)
 have hT2:(Value.ref T != Value.none) = true:=rfl
 simp only [hT2,if_true]
 have h3:3 < ts.size:=by
  rcases Nat.lt_or_ge 3 ts.size with z | z
  ·exact z
  ·rw [Array.getElem?_eq_none z] at e6; cases e6
 refine wpAny_setField e4 e5 h3 (wpAny_throw (hE _ fun b=>?_))
 by_cases hb:b = T
 ·subst hb
  have same:Obj.mapFields (fun x=>x.setIfInBounds 3 ((some L).elim Value.none fun f=>rawInt ↑f)) oT = oT:=by
   cases oT with
   | mk c d dt sl =>
    cases (show dt = .fields ts from e5)
    show Obj.mk c d (.fields (ts.setIfInBounds 3 (rawInt ↑L))) sl = _
    congr 2
    refine Array.ext_getElem? fun i=>?_
    rw [Array.getElem?_setIfInBounds]
    split
    ·rename_i hi
     subst hi
     first | exact e6.symm | (rw [if_pos h3]; exact e6.symm)
    ·rfl
  rw [Heap.get?_update_self _ e4 (by rw [same]; exact jpi e4),same,e4]
 ·exact Heap.get?_update_ne _ b T _ hb
def EEc (X:Cx) (xs M:List Str) (scope:Scope) (s:Shared) (H:Hp) (fp:List Addr) (R:Hp->Prop) (Kx C:Addr):Value->Shared->Prop:=fun ev s' =>
 ∃ pins σ H1 s1 H' e B a0,ev = .ref e∧Inv (j6 X xs M scope C s H fp) pins σ H1 s1∧s'.os = s1.os∧AllBare s'.gens∧FlyB X.prog X.w X.stack H1 H' s1.heap s'.heap B e Kx a0∧R H'
theorem Inv.nopins {X:Cx} {pins:List (Addr × Obj)} {σ:L2.St} {H:Hp} {s:Shared} (I:Inv X pins σ H s):Inv X [] σ H s :=
 ⟨I.ok,I.os,I.bare,I.base,I.loc,I.cell,I.free,I.freeC,fun p hp=>I.pin p (List.mem_append_left _ (by simpa using hp)),I.hok,I.len⟩
section
variable {X:Cx} {xs M:List Str} {scope:Scope} {target elt iter:Expr} {ifs:List Expr} {pos:Pos} {g:Addr->Shared->Hp->List Addr->TG} {tt:Addr->Shared->Hp->List Addr->TT} {te:Addr->Shared->Hp->List Addr->TE} {n:Nat} {wi:TI} {R:Hp->Prop} {Kx L:Addr}
theorem jrI {B B' h h':Heap} {l:List Env} {e:Addr} {cls a0:Value} {C:Addr} {o2:Obj} (f:B.HeldW l e cls a0 L h) (hb:∀ b o,B'.get? b = some o->h'.get? b = some o) (he:B'.get? e = none) (hC:∀ b,b ≠ C->h'.get? b = h.get? b) (hB:∀ b,B.get? b = none->B'.get? b = none) (hl:C ∉ frs l) (h1:e ≠ C) (h2:∀ T,h.get? T = none ∨ B.get? T ≠ none ∨ T ≠ C):B'.HeldW l e cls a0 L h':=by
 obtain ⟨f1,f2,f3,oe,vs,T,oT,ts,e1,ec,e2,e3,bT,nT,e4,e5,e6⟩:=f
 have tC:T ≠ C:=by
  rcases h2 T with z | z | z
  ·rw [z] at e4; cases e4
  ·exact absurd bT z
  ·exact z
 refine ⟨hb,he,?_,oe,vs,T,oT,ts,(hC e h1).trans e1,ec,e2,e3,hB T bT,nT,(hC T tC).trans e4,e5,e6⟩
 have:∀ l:List Env,C ∉ frs l->h.FunFrames B l->h'.FunFrames B' l:=by
  intro l
  induction l with
  | nil=>intro _ _; trivial
  | cons env l ih =>
   intro hn hf
   obtain ⟨k,⟨L',o,z1,z2,z3,z4⟩,r⟩:=hf
   have hne:L' ≠ C:=fun z=>hn (by unfold frs; rw [List.filterMap_cons,z1,z]; exact List.mem_cons_self)
   refine ⟨k,⟨L',o,z1,hB _ z2,(hC _ hne).trans z3,z4⟩,ih (fun z=>hn (by unfold frs at z ⊢; rw [List.filterMap_cons,z1]; exact List.mem_cons_of_mem _ z)) r⟩
 exact this l hl f3
theorem jvt (hP:jsL X R Kx) (hst:X.stack = X.env :: X.outer) (hfr:X.env.frame = some X.env.locals) (hk:jfd scope X.env xs M X.N = true) (hn:xs.length = n) (hc:X.calm = true) (hi:PI X target iter wi)
  (hg:∀ C s H fp,PG (j6 X xs M scope C s H fp) target (g C s H fp)) (ht:∀ C s H fp,PTs (j6 X xs M scope C s H fp) ifs (tt C s H fp)) (he:∀ C s H fp,PE ((j6 X xs M scope C s H fp).wish (EEc X xs M scope s H fp R Kx C)) elt (te C s H fp))
  (hs:∀ x,foldedSetIterable iter X.env x = pure x:=by intro _; rfl):PE X (.ListComp elt [⟨target,iter,ifs,0⟩] scope pos) (tLc n wi g tt te):=by
 intro pins s σ H Q I h
 have c:=jtx hk
 rw [eval_ListComp]
 refine jsW rfl hs (jlI (jiW I c)) c.kind c.loc (jF (hi pins s σ H _ I h) fun v s1 h1=>jF h1 fun itv s2 h2=>?_)
 obtain ⟨it,fp,tn,J,H2,e,I2,T,st2,f2,rd⟩:=h2
 subst e
 refine jnx (EE:=fun C=>EEc X xs M scope s2 H2 fp R Kx C) (RR:=fun acc C r s'=>∃ m,s'.heap.Ns C m∧∀ h' m',h'.Ns C m'->Heap.SameBut C s'.heap h'->match r with
    | .ok _=>EP X pins σ Q acc { s' with heap:=h' }
    | .error x=>∀ env':Env,env'.frame = X.env.frame->wpAny (model X.prog X.w) X.A (PySem.passOn "comprehension.variables-let-go" x env') (EP X pins σ Q) X.xe { s' with heap:=h' }) (Fin:=fun D _ H'=>Q (.ref D) H') c hn hc I2 T st2 f2 (fun C=>hg C _ _ _) (fun C=>ht C _ _ _) (fun C=>he C _ _ _) ?_ (fun D C hD=>rd D C s2 fp hD) ?_
 ·rintro D C ev s' hC ⟨pins1,σ1,H1,s1,H',ea,B,a0,rfl,I1,hos,hbr,fly,hR⟩
  have I1:=Inv.nopins I1
  unfold notedBy
  rw [jmo (env:=compEnvC scope (cellsFrom (C + 1) scope.names (jbk X.env scope.names [])) C X.env) (env':=X.env) rfl]
  have hA:X.A.frames = some (X.env :: X.outer):=by rw [I.ok.frames,hst]
  have fl:=fly.fl
  rw [hst] at fl
  refine wpAny_looks_onW hA hfr fl fun h2 hh up=>?_
  obtain ⟨m,⟨oC,es,ep,c1,c2,c3⟩,_⟩:=I1.loc
  have c1:s1.heap.get? C = some oC:=c1
  have hCn:H1 C = none:=I1.free
  have hCf:C ∉ frs X.stack:=fun z=>by
   rw [hst] at z
   unfold frs at z
   rw [List.filterMap_cons,hfr] at z
   rcases List.mem_cons.mp z with z | z
   ·exact absurd (Nat.lt_of_lt_of_le I2.lt hC) (by rw [z]; exact Nat.lt_irrefl _)
   ·exact I2.nofs hC z
  have cB:B.get? C = some oC:=fly.keep C oC c1 hCn hCf
  have c2':h2.get? C = some oC:=hh.1 C oC cB
  refine ⟨m,⟨oC,es,ep,c2',c2,c3⟩,fun h3 m3 n3 sb env' he'=>?_⟩
  obtain ⟨o3,es3,ep3,d1,d2,d3⟩:=n3
  have nf:=jpi d1
  obtain ⟨sbB,eB⟩:=jrV (o2:=o3) cB nf
  obtain ⟨sb1,e1⟩:=jrV (o2:=o3) c1 nf
  have eaC:ea ≠ C:=fun z=>by have:=hh.2.1; rw [z,cB] at this; cases this
  have hTC:∀ B':Heap,B'.get? C ≠ none->∀ (hh:Heap) T,hh.get? T = none ∨ B'.get? T ≠ none ∨ T ≠ C:=fun B' hB hh T=>by
   by_cases z:T = C
   ·subst z; exact .inr (.inl hB)
   ·exact .inr (.inr z)
  have held:(B.update C fun _=>o3).HeldW X.stack ea (.ref Kx) a0 X.env.locals h3:=by
   rw [hst]
   refine jrI (C:=C) (o2:=o3) hh (fun b o q=>?_) ?_ (fun b hb=>sb.2 b hb) (fun b hb=>?_) (by rw [← hst]; exact hCf) eaC (hTC B (by rw [cB]; exact fun z=>by cases z) _)
   ·by_cases hb:b = C
    ·subst hb; rw [eB] at q; cases q; exact d1
    ·rw [sbB.2 b hb] at q; rw [sb.2 b hb]; exact hh.1 b o q
   ·rw [sbB.2 ea eaC]; exact hh.2.1
   ·have hb':b ≠ C:=fun z=>by rw [z,cB] at hb; cases hb
    rw [sbB.2 b hb']; exact hb
  refine jve (he'.trans hfr) held fun h4 same=>?_
  have H'C:H' C = none:=fly.free C oC c1 hCn
  refine hP pins σ H1 H' { s1 with heap:=s1.heap.update C fun _=>o3 } _ ea (B.update C fun _=>o3) a0 X.env.locals (jkx I2 I1 f2 hC sb1) hfr hos hbr ⟨?_,?_,fun b o q n hb=>?_,fun b o q n hb=>?_,fun b o q n=>?_,fun b o q hb=>?_,fly.tups,fly.frzs,fly.tbls,fly.he⟩ hR
  ·exact jrI (C:=C) (o2:=o3) held (fun b o q=>(same b).trans (held.1 b o q)) held.2.1 (fun b _=>same b) (fun b hb=>hb) hCf eaC (hTC _ (by rw [eB]; exact fun z=>by cases z) _)
  ·exact fun b o e=>(fly.hok b o e).stay (fun c v hc q=>sbB.extBut c v (fun z=>by
    subst z
    rcases hc with z | z
    ·rw [← z,H'C] at e; cases e
    ·rw [H'C] at z; cases z) q) (fun _ q=>q) fun _ _ q=>q
  ·by_cases hb':b = C
   ·subst hb'; rw [e1] at q; cases q; exact eB
   ·rw [sb1.2 b hb'] at q; rw [sbB.2 b hb']; exact fly.keep b o q n hb
  ·have hb':b ≠ C:=fun z=>hCf (z ▸ hb)
   have q:(s1.heap.update C fun _=>o3).get? b = some o:=q
   rw [sb1.2 b hb'] at q
   obtain ⟨sl,z⟩:=fly.slot b o q n hb
   obtain ⟨_,o',ho',hd⟩:=fly.fl.2.2.1.mem hb
   rw [z] at ho'; cases ho'
   obtain ⟨sl2,z2⟩:=up b _ z hd
   exact ⟨sl2,(same b).trans ((sb.2 b hb').trans z2)⟩
  ·by_cases hb':b = C
   ·rw [hb']; exact H'C
   ·have q:(s1.heap.update C fun _=>o3).get? b = some o:=q
    rw [sb1.2 b hb'] at q; exact fly.free b o q n
  ·by_cases hb':b = C
   ·subst hb'; exact ⟨o3,eB⟩
   ·have q:(s1.heap.update C fun _=>o3).get? b = some o:=q
    rw [sb1.2 b hb'] at q
    obtain ⟨o',z⟩:=fly.there b o q hb
    exact ⟨o',by rw [sbB.2 b hb']; exact z⟩
 ·intro D C ys H' s' hD hC hys fin I'
  obtain ⟨m,hm,_⟩:=I'.loc
  exact ⟨m,hm,fun h' m' _ sb=>⟨.ref D,H',jkx I2 I' f2 hC sb,rfl,fin⟩⟩
end
abbrev R4:=(Wd->Prop)->jL->Wd->Prop
def HandR (K:PySem.W.Frag) (Z:Zc) (B:Bs) (W:Wd) (Φ:Wd->Prop) (R:Hp->Prop):Prop:=∀ S' H1 W',Φ W'->Same B.H0 H1->WOk K Z S' H1 W'->adr W' = adr W->R H1
def PRW (X:Cx) (Z:Zc) (R:Hp->Prop) (st:Stmt) (t:R4):Prop:=∃ t2,PS X st t2∧∀ B S H σ ρ W Φ D',EW X.K Z B S H σ ρ W->t Φ ρ W->HandR X.K Z B W Φ R->t2 D' σ H
def jhx (X:Cx) (Z:Zc) (R:Hp->Prop) (st:List Stmt) (t:R4):Prop:=∃ t2,PSs X st t2∧∀ B S H σ ρ W Φ D',EW X.K Z B S H σ ρ W->t Φ ρ W->HandR X.K Z B W Φ R->t2 D' σ H
def jqt (X:Cx) (Z:Zc) (R:Hp->Prop) (e:Expr) (t:R4):Prop:=∃ t2,PE X e t2∧∀ B S H σ ρ W Φ Q,EW X.K Z B S H σ ρ W->t Φ ρ W->HandR X.K Z B W Φ R->t2 σ H Q
theorem HandR.adr {K:PySem.W.Frag} {Z:Zc} {B:Bs} {W W1:Wd} {Φ:Wd->Prop} {R:Hp->Prop} (h:HandR K Z B W Φ R) (e:D3.adr W1 = D3.adr W):HandR K Z B W1 Φ R:=fun S' H1 W' p s wk e'=>h S' H1 W' p s wk (e'.trans e)
section
variable {X:Cx} {Z:Zc} {R:Hp->Prop} {st:Stmt} {as bs jR:List Stmt} {e c:Expr} {t u:R4} {tc:B4} {ts:S4} {t3:jL->Prop} {us:S4} {pos pos':Pos}
abbrev jwc (t:jL->Prop):R4:=fun Φ ρ W=>t ρ∧Φ W
theorem jr3 {B:Bs} {S:Addr->Prop} {H:Hp} {σ:L2.St} {ρ:jL} {W:Wd} {Φ:Wd->Prop} (ew:EW X.K Z B S H σ ρ W) (p:Φ W) (hd:HandR X.K Z B W Φ R):∀ H1,Same (jhz B H W).H0 H1->R H1:=fun H1 s =>
 hd (jhz B H W).S0 H1 W p (fun a o e=>s a o (jeB ew.er.same a o e)) (ew.w.back s fun w hw=>.inr ⟨w,hw,rfl⟩) rfl
theorem jvf (h:PRD X R st t3):PRW X Z R st (jwc t3):=by
 obtain ⟨t2,h,w⟩:=h
 exact ⟨t2,h,fun B S H σ ρ W Φ D' ew q hd=>w _ S H σ ρ D' ew.lend q.1 (jr3 ew q.2 hd)⟩
theorem jrU (h:PRW X Z R st t):jhx X Z R [st] t:=by
 obtain ⟨t2,h,w⟩:=h
 exact ⟨_,jjk h,w⟩
theorem juJ (h:PRW X Z R st t) (g:jda X Z jR us):jhx X Z R (st :: jR) t:=by
 obtain ⟨t2,h,w⟩:=h; obtain ⟨u2,g,_⟩:=g
 exact ⟨_,jdu h g,fun B S H σ ρ W Φ D' ew q hd=>w B S H σ ρ W Φ _ ew q hd⟩
theorem jhD (g:jda X Z jR us):jhx X Z R jR (fun _ _ _=>False):=by
 obtain ⟨u2,g,_⟩:=g
 exact ⟨_,g,fun B S H σ ρ W Φ D' ew q hd=>q.elim⟩
abbrev jl3 (ts:S4) (u:R4):R4:=fun Φ ρ W=>ts (fun f=>match f with | .nx ρ' W'=>u Φ ρ' W' | _=>False) ρ W
theorem jkB (h:PSW X Z st ts) (g:jhx X Z R jR u):jhx X Z R (st :: jR) (jl3 ts u):=by
 obtain ⟨t2,h,w⟩:=h; obtain ⟨u2,g,z⟩:=g
 exact ⟨_,jdu h g,fun B S H σ ρ W Φ D' ew q hd=>w B S H σ ρ W _ _ ew q ⟨fun ρ' S' H' σ' W' p ew' e=>z B S' H' σ' ρ' W' Φ D' ew' p (hd.adr e),fun _ _ _ _ _ p=>p.elim,fun _ _ _ _ _ p=>p.elim,fun _ _ _ _ _ p=>p.elim⟩⟩
abbrev joR (tc:B4) (t u:R4):R4:=fun Φ ρ W=>tc ρ W fun k W'=>if k = true then t Φ ρ W' else u Φ ρ W'
theorem jkW (hc:PMB X Z c tc) (ha:jhx X Z R as t) (hb:jhx X Z R jR u):jhx X Z R (.If c as [] pos :: jR) (joR tc t u):=by
 obtain ⟨c2,h,w⟩:=hc; obtain ⟨t2,ha,wa⟩:=ha; obtain ⟨u2,hb,wb⟩:=hb
 refine ⟨_,jdu (jrZ h ha jm9) hb,fun B S H σ ρ W Φ D' ew q hd=>w B S H σ ρ W _ _ ew q fun b H' W' p s e wk=>?_⟩
 have ew':=ew.goX s e wk
 cases b with
 | true =>
  have p:t Φ ρ W':=by simpa using p
  simp only [if_true]
  exact wa B S H' σ ρ W' Φ _ ew' p (hd.adr e)
 | false =>
  have p:u Φ ρ W':=by simpa using p
  simp only [Bool.false_eq_true,if_false]
  exact wb B S H' σ ρ W' Φ _ ew' p (hd.adr e)
theorem jxG (h:jqt X Z R e t):PRW X Z R (.Return (some e) pos) t:=by
 obtain ⟨t2,h,w⟩:=h
 exact ⟨_,joF h,fun B S H σ ρ W Φ D' ew q hd=>w B S H σ ρ W Φ _ ew q hd⟩
theorem jxL {i:Nat} {y:Str} (hN:X.N.Nodup) (hi:X.N[i]? = some y) (hx:Loc X.env.scope y) (h:jqt X Z R e t) (hs:swapsWith e (some (.Name y pos')) pos.line X.env = pure false:=by rfl)
  (hf:X.fn y = true ∨ X.env.scope.names.lookup y = some .local:=by first | exact .inl rfl | exact .inr rfl | assumption):PRW X Z R (.Assign [.Name y pos'] e pos) t:=by
 obtain ⟨t2,h,w⟩:=h
 exact ⟨_,jk2 hN hi hx h hs hf,fun B S H σ ρ W Φ D' ew q hd=>w B S H σ ρ W Φ _ ew q hd⟩
end
def jkv (K:PySem.W.Frag) (Z:Zc) (n:Nat) (C:Addr) (Pre:List Sl->Wd->Prop):Sp:=fun vs H _ E=>∃ as S W,as.length = n∧RepsA K S H as vs∧SOk S H∧WOk K Z S H W∧Pre as W∧∀ H',SameX W H H'->WOk K Z S H' W->E (.ref C) none H'
section
variable {P:Program} {w:World} {K:PySem.W.Frag} {mg:Str->Option Value} {base:Heap} {Z:Zc}
theorem jo1 {x qual:Str} {st:Stmt} {f:Addr} {fd:FuncData} {N ps:List Str} {k:Nat} {C:Addr} {Pre:List Sl->Wd->Prop} (F:Fun K x qual st f fd) (S:ju N ps (jj st))
  (body:∀ (cdv:Value) (A:Around) (outer:List Env) (s:Shared) (H:Hp) (E:XK),Room k (A.deeper (envOfC qual (jj st) s.heap.objs.size f cdv)) ->
   (∀ pins σ H1 s1 e h' vs,Inv (jcW (CXC P w) P w K mg base N qual (jj st) f cdv A outer s H E) pins σ H1 s1->E (.ref C) none H1->Heap.MadeExcOf s1.heap h' e (.ref C) vs->(jcW (CXC P w) P w K mg base N qual (jj st) f cdv A outer s H E).xe (.ref e) { s1 with heap:=h' }) ->
   jsb (jcW (CXC P w) P w K mg base N qual (jj st) f cdv A outer s H E) (fun H1=>E (.ref C) none H1) C ->
   jsL (jcW (CXC P w) P w K mg base N qual (jj st) f cdv A outer s H E) (fun H1=>E (.ref C) none H1) C ->
   ∃ t,jhx (jcW (CXC P w) P w K mg base N qual (jj st) f cdv A outer s H E) Z (fun H1=>E (.ref C) none H1) (jag st) t∧∀ as W,as.length = ps.length->Pre as W->t (fun W'=>W' = W) (ja8 N.length as) W) :
  FnOk P w K mg base (CXC P w) (k + 1) f fd ps (jkv K Z ps.length C Pre):=by
 obtain ⟨oc,od,kV,doc,pm,an,cdv,ct,osl,rfl,lk,hcd⟩:=F.ex
 refine jwb lk hcd S (fun vs H Q E h=>?_) (fun A outer s H vs Q E hr h=>?_)
 ·obtain ⟨as,S,W,hl,r,_⟩:=h
  rw [← r.len]; exact hl
 ·obtain ⟨t,⟨t2,ht,wt⟩,rd⟩:=body cdv A outer s H E hr (fun pins σ H1 s1 e h' vs I hE m =>
   jpf I rfl rfl rfl m fun h'' B a0 fly=>⟨e,C,H1,B,a0,rfl,I.os,I.bare,fly,hE⟩)
   (fun pins σ H1 H' s1 s' e B a0 I hos hbr fly hE=>jqR I rfl rfl rfl fly fun h'' fly'=>⟨e,C,H',B,a0,rfl,hos.trans I.os,hbr,fly',hE⟩)
   (fun pins σ H1 H' s1 s' e B a0 L I hL hos hbr fly hE=>by
    cases (show some _ = some L from hL)
    exact jpz I rfl rfl rfl fly fun h'' fly'=>⟨e,C,H',B,a0,rfl,hos.trans I.os,hbr,fly',hE⟩)
  obtain ⟨as,S,W,hl,r,so,wk,hp,hE⟩:=h
  refine ⟨t2,ht,wt ⟨jpx S W,jfK H W,[]⟩ S H (L2.jbc N vs) (ja8 N.length as) W _ _ (jpH r so wk) (rd as W hl hp) fun S' H1 W' e s wk' ea=>?_⟩
  subst e
  exact hE H1 (fun a o n ea=>s a o (by show jfK H W' a = some o; rw [jmM n]; exact ea)) (wk'.out fun u hu=>(wk.ob u hu).s)
end
section
variable {X:Cx} {Z:Zc} {R:Hp->Prop} {C f:Addr} {k:Nat} {fd:FuncData} {ps:List Str} {Pre:List Sl->Wd->Prop} {o a:Expr} {es:List Expr} {m:Str} {pos apos:Pos} {ta:AM}
abbrev jhm (i:Nat) (n:Nat) (Pre:List Sl->Wd->Prop) (ta:AM):R4:=fun Φ ρ W=>match ρ[i]? with | some (.raw v)=>(∃ o ∈ W,v = .ref o.p∧o.p ≠ o.q)∧ta ρ W fun as W'=>as.length + 1 = n∧Pre (.raw v :: as) W'∧Φ W' | _=>False
theorem jnk {i:Nat} {pl:Sem Bool} (hP:jsb X R C) (hf:(m == Z.f) = false) (ho:PE X o (jd7 i)) (cl:Cls X.K Z.C) (hm:jm3 X.K Z.C m f) (F:FnOk X.prog X.w X.K X.mg X.base (CXC X.prog X.w) k f fd ps (jkv X.K Z ps.length C Pre)) (hr:Room k X.A) (hb:Binds X.K fd ps [])
  (ha:PAM X Z (a :: es) ta) (hst:starEach (a :: es) X.env = (false,eval a X.env) :: starEach es X.env:=by rfl) (hpl:(backTo pos (starEach es X.env)).any (·.1) = false:=by rfl)
  (ht:eval (.Call (.Attribute o m apos) (a :: es) [] pos) X.env = (do
   let ov ← eval o X.env
   standAt apos.atName
   let (f,first) ← holding [ov] (getMethod ov m pl)
   callWith pos f first (backTo pos (starEach (a :: es) X.env)) (backToKw pos (keywordEach [] X.env))):=by rfl) :
  jqt X Z R (.Call (.Attribute o m apos) (a :: es) [] pos) (jhm i ps.length Pre ta):=by
 obtain ⟨t2,h,w⟩:=ha
 refine ⟨fun σ H Q=>jd7 i σ H fun x H1=>∃ p dx fs,x = .ref p∧H1 p = some (.ins Z.C dx fs)∧fs.lookup m = none∧t2 σ H1 fun vs H2=>∃ as S W,as.length = ps.length∧RepsA X.K S H2 as (x :: vs)∧SOk S H2∧WOk X.K Z S H2 W∧Pre as W∧∀ H',SameX W H2 H'->WOk X.K Z S H' W->R H',?_,?_⟩
 ·intro pins s σ H Q I hh
  refine PySem.W.methodCall_KW (pl:=pl) (jF (ho pins s σ H _ I hh) fun u s1 qZ=>?_) ht
  obtain ⟨x,H1,I1,rx,p,dx,fs,ex,ea,l,q⟩:=qZ
  subst ex
  obtain rfl:u = Value.ref p:=rx
  refine jgY I1 ea cl hm l ?_
  refine PySem.W.callWith_K (first:=[.ref p]) (h₀:=X.base) I.ok.mod.kin hm.kp (jF (h pos pins s1 σ H1 _ I1 q) fun us s2 ⟨vs,H2,I2,r,as,S,W,hl,rr,so,wk,hpre,hR⟩=>⟨I2.kIn,?_⟩) hst hpl
  have r2:Vals (V.ref p :: vs) (Value.ref p :: us):=.cons rfl r
  have hl2:(Value.ref p :: us).length = ps.length:=by rw [← r2.length,← rr.len]; exact hl
  refine wpAny_call (codeAny_mono (F.run X.A X.stack s2 H2 ⟨Value.ref p :: us,[]⟩ (Value.ref p :: us) (V.ref p :: vs) (fun _ _=>False) (fun c _ H'=>c = .ref C∧R H') hr I2.env0 ?_ r2 ⟨as,S,W,hl,rr,so,wk,hpre,fun H' s w=>⟨rfl,hR H' s w⟩⟩) fun res s' hq=>?_)
  ·have z:=hb s2 (Value.ref p :: us) I2.kIn (by rw [List.append_nil]; exact hl2)
   rw [List.append_nil] at z; exact z
  cases res with
  | ok fl =>
   cases fl with
   | ret u=>obtain ⟨_,_,_,_,_,_,_,z⟩:=hq; exact z.elim
   | next=>exact False.elim hq
   | brk=>exact False.elim hq
   | cont=>exact False.elim hq
  | error ev =>
   obtain ⟨ea',C',H',Bh,a0,rfl,hos,hbr,fly,hc,hr'⟩:=hq
   cases hc
   exact hP pins σ H2 H' s2 s' ea' Bh a0 I2 hos hbr fly hr'
 ·intro B S H σ ρ W Φ Q ew q hd
  unfold jhm at q
  split at q
  ·rename_i v e0
   obtain ⟨⟨o,ho,rfl,hpq⟩,q⟩:=q
   obtain ⟨dx,ei⟩:=(ew.w.ob o ho).ins.resolve_left hpq
   refine ⟨.ref o.p,ew.er.rf i _ e0,o.p,dx,_,rfl,ei,?_,w B S H σ ρ W _ _ ew q fun as vs H1 W1 hc s1 e1 wk1 r=>?_⟩
   ·rw [List.lookup_cons,hf]; rfl
   ·have ew1:=ew.goX s1 e1 wk1
    refine ⟨.raw (.ref o.p) :: as,S,W1,hc.1,.cons (show RepA X.K S H1 (.raw (.ref o.p)) (.ref o.p) from rfl) r,ew1.er.ok,wk1,hc.2.1,fun H' s2 wk2=>?_⟩
    exact hd S H' W1 hc.2.2 (ew1.goX s2 rfl wk2).er.same wk2 e1
  ·exact q.elim
end
def jk9 (g:G3) (te:E4) (tr:R4) (ρ:jL):List D->Nat->Wd->(Wd->Prop)->Prop
 | [],_,_,_=>False
 | d :: ds,n,W,Φ=>g d ρ fun ρ1=>noDct ρ1∧(tr Φ ρ1 W ∨ te ρ1 W fun _ W'=>n < sizeLine∧jk9 g te tr ρ ds (n + 1) W' Φ)
abbrev jwa (n:Nat) (ti:A3) (g:G3) (te:E4) (tr:R4):R4:=fun Φ ρ W=>ti ρ fun ds=>jk9 g te tr (List.replicate n .un ++ ρ) ds 0 W Φ
theorem juZ {K:PySem.W.Frag} {Z:Zc} {n:Nat} {g:G3} {te:E4} {tr:R4} {g2:TG} {te2:TE} {R:Hp->Prop}
  (wg:∀ B S H σ ρ d v Ψ (Q:L2.St->Hp->Prop),ER K B S H σ ρ->Rep K S H d v->g d ρ Ψ->(∀ ρ' σ',Ψ ρ'->ER K B S H σ' ρ'->σ'.length = σ.length->(∀ j,σ'[n + j]? = σ[n + j]?)->Q σ' H)->g2 v σ H Q)
  (we:∀ B S H σ ρ W Φ Q,EW K Z B S H σ ρ W->te ρ W Φ->jlo K Z S H W Φ Q->te2 σ H Q) (wr:∀ B S H σ ρ W Φ Q,EW K Z B S H σ ρ W->tr Φ ρ W->HandR K Z B W Φ R->te2 σ H Q)
  {B:Bs} {S:Addr->Prop} {H:Hp} {σ:L2.St} {ρ:jL} {W:Wd} {Φ:Wd->Prop} {J:It} {hs:List (D × V)} {ds:List D} {p:Addr} {Fin:List V->Hp->Prop}
  (ew:EW K Z B S H σ ρ W) (rv:∀ p ∈ hs,Rep K S H p.1 p.2) (wk:jm2 K J hs ds) (hp:H p = none) (h:jk9 g te tr (List.replicate n .un ++ ρ) ds 0 W Φ) (hd:HandR K Z B W Φ R) :
  lcW n J g2 (fun _ H Q=>Q true H) te2 σ p Fin (jG H p (.lst [])):=by
 have hno:∀ (i:Nat) es,ρ[i]? = some (.own es)->σ[i]? ≠ some (some (.ref p)):=fun i es q z=>by
  obtain ⟨a,zs,e,_,_,hl,_⟩:=ew.er.own i es q
  rw [e] at z; cases z
  rw [hp] at hl; cases hl
 have h0:B.H0 p = none:=ew.er.same.free hp
 refine ⟨fun i m ys H1=>m = ds.length - i∧i ≤ ds.length∧H1 p = some (.lst ys)∧∃ acc W1,adr W1 = adr W∧EW K Z { B with gh:=hs ++ B.gh } (fun b=>S b ∨ b = p) H1 σ ρ W1∧Reps K (fun b=>S b ∨ b = p) H1 acc ys∧jk9 g te tr (List.replicate n .un ++ ρ) (ds.drop i) acc.length W1 Φ,
  ⟨_,rfl,Nat.zero_le _,jW,[],W,rfl,(ew.holds rv).gather hp,Reps.nil,h⟩,?_⟩
 rintro i m ys H1 ⟨rfl,hi,hl,acc,W1,ea,ew1,ra,hc⟩
 refine ⟨hl,?_⟩
 obtain ⟨wstop,wgo⟩:=wk _ H1 fun p hp=>ew1.er.gh p (List.mem_append_left _ hp)
 by_cases hlt:i < ds.length
 ·obtain ⟨go,yl⟩:=wgo i hlt
  rw [List.drop_eq_getElem_cons hlt] at hc
  refine .inr ⟨go,fun x H2 y=>?_⟩
  obtain ⟨sy,e',ee,re⟩:=yl x H2 y
  rw [List.getElem?_eq_getElem hlt] at ee
  cases ee
  have ew1:=ew1.go sy
  have hl:=sy _ _ hl
  have ra:=ra.same sy
  have ew1':=ew1.shift n
  refine wg _ _ _ _ _ _ x _ _ ew1'.er re hc fun ρ1 σ1 h1 er2 l1 l2=>⟨⟨by rw [l1,List.length_append,List.length_replicate],fun j=>?_⟩,?_⟩
  ·rw [l2 j,List.getElem?_append_right (by rw [List.length_replicate]; omega),List.length_replicate,Nat.add_sub_cancel_left]
  ·simp only [if_true]
   have ew2:EW K Z _ _ H2 σ1 ρ1 W1:=⟨er2,ew1.w,ew1.h0,h1.1⟩
   rcases h1.2 with h1 | h1
   ·exact wr _ _ _ _ _ _ _ _ ew2 h1 fun S' H' W' p' s' wk' e'=>hd S' H' W' p' s' wk' (e'.trans ea)
   ·refine we _ _ _ _ _ _ _ _ ew2 h1 fun y u H4 W4 hy s4 e4 wk4 ry=>?_
    have hl4:H4 p = some (.lst ys):=s4 _ _ (fun w hw z=>by
     obtain ⟨kv,ek⟩:=ew1.w.dict w hw
     rw [← z,hl] at ek
     cases ek) hl
    have ew4:=ew1.goX s4 e4 wk4
    refine ⟨hl4,by rw [← ra.len]; exact hy.1,_,by omega,rfl,hlt,jW,acc ++ [y],W4,e4.trans ea,ew4.grow (.inr rfl) h0 hl4 hno,?_,by rw [List.length_append]; exact hy.2⟩
    obtain ⟨hT,hL⟩:=jgk (K:=K) (S:=fun b=>S b ∨ b = p) (ys:=ys ++ [u]) (.inr rfl) hl4
    exact Reps.map hT hL _ _ ((ra.sameX ew1.w.dict s4).app (Reps.cons ry Reps.nil))
 ·have hi':i = ds.length:=by omega
  subst hi'
  rw [List.drop_length] at hc
  exact hc.elim
section
variable {X:Cx} {Z:Zc} {xs M:List Str} {scope:Scope} {target elt iter:Expr} {pos:Pos} {ti:A3} {g:G3} {te:E4} {tr:R4} {n:Nat} {R:Hp->Prop} {Kx:Addr}
theorem jtX (hP:jsL X R Kx) (hst:X.stack = X.env :: X.outer) (hfr:X.env.frame = some X.env.locals) (hk:jfd scope X.env xs M X.N = true) (hn:xs.length = n) (hc:X.calm = true) (hi:PID X target iter ti)
  (hg:∀ C s H fp,PGN (j6 X xs M scope C s H fp) n target g) (he:∀ C s H fp,PM ((j6 X xs M scope C s H fp).wish (EEc X xs M scope s H fp R Kx C)) Z elt te) (hr:∀ C s H fp,jqt ((j6 X xs M scope C s H fp).wish (EEc X xs M scope s H fp R Kx C)) Z R elt tr)
  (hs:∀ x,foldedSetIterable iter X.env x = pure x:=by intro _; rfl):jqt X Z R (.ListComp elt [⟨target,iter,[],0⟩] scope pos) (jwa n ti g te tr):=by
 obtain ⟨wi,hi,ww⟩:=hi
 refine ⟨_,jvt hP hst hfr hk hn hc hi (fun C s H fp=>(hg C s H fp).choose_spec.1) (fun C s H fp=>.inl ⟨rfl,rfl⟩) (te:=fun C s H fp σ H' Q=>(he C s H fp).choose σ H' Q ∨ (hr C s H fp).choose σ H' Q) (fun C s H fp pins s1 σ H1 Q I h=>?_) hs,fun B S H σ ρ W Φ Q ew q hd=>?_⟩
 ·rcases h with h | h
  ·exact (he C s H fp).choose_spec.1 pins s1 σ H1 Q I h
  ·exact (hr C s H fp).choose_spec.1 pins s1 σ H1 Q I h
 refine ww B S H σ ρ _ _ ew.er q fun ds J hs H1 hΦ s1 rv wk D C s fp hD=>?_
 exact juZ (hg C s H1 fp).choose_spec.2 (fun B S H σ ρ W Φ Q ew q hd=>.inl ((he C s H1 fp).choose_spec.2 B S H σ ρ W Φ Q ew q hd)) (fun B S H σ ρ W Φ Q ew q hd=>.inr ((hr C s H1 fp).choose_spec.2 B S H σ ρ W Φ Q ew q hd)) (ew.go s1) rv wk hD hΦ hd
end
theorem jw3 {X:Cx} {xs M:List Str} {scope:Scope} {s:Shared} {H:Hp} {fp:List Addr} {R:Hp->Prop} {Kx C:Addr}:jsb ((j6 X xs M scope C s H fp).wish (EEc X xs M scope s H fp R Kx C)) R Kx:=fun pins σ H1 H' s1 s' e B a0 I hos hbr fly hR =>
 ⟨pins,σ,H1,s1,H',e,B,a0,rfl,I.unwish,hos,hbr,fly,hR⟩
section
variable {X:Cx} {Z:Zc} {C f:Addr} {k:Nat} {fd:FuncData} {ps:List Str} {Pre:List Sl->Wd->Prop} {o a:Expr} {es:List Expr} {m y:Str} {pos apos pos' tp hp py:Pos} {ta:AM} {D:Addr} {b₀:Stmt} {suite:List Stmt} {ts:S4} {tm:E4}
def jyk (X:Cx) (Z:Zc) (i:Nat) (m:Str) (n:Nat) (Pre:List Sl->Wd->Prop) (t2:TA) (R:Hp->Prop):L2.St->Hp->Prop:=fun σ H=>jd7 i σ H fun x H1=>∃ p dx fs,x = .ref p∧H1 p = some (.ins Z.C dx fs)∧fs.lookup m = none∧t2 σ H1 fun vs H2=>∃ as S W,as.length = n∧RepsA X.K S H2 as (x :: vs)∧SOk S H2∧WOk X.K Z S H2 W∧Pre as W∧∀ H',SameX W H2 H'->WOk X.K Z S H' W->R H'
theorem jsw {i:Nat} {pl:Sem Bool} {t2:TA} {R:Hp->Prop} {pins:List (Addr × Obj)} {s:Shared} {σ:L2.St} {H:Hp} {Q:Value->Shared->Prop} (hxf:∀ e s,X.xe e s->False) (ho:PE X o (jd7 i)) (cl:Cls X.K Z.C) (hm:jm3 X.K Z.C m f) (F:FnOk X.prog X.w X.K X.mg X.base (CXC X.prog X.w) k f fd ps (jkv X.K Z ps.length C Pre)) (hr:Room k X.A) (hb:Binds X.K fd ps [])
  (ha:PA X (a :: es) t2) (I:Inv X pins σ H s) (hh:jyk X Z i m ps.length Pre t2 R σ H) (hst:starEach (a :: es) X.env = (false,eval a X.env) :: starEach es X.env) (hpl:(backTo pos (starEach es X.env)).any (·.1) = false)
  (ht:eval (.Call (.Attribute o m apos) (a :: es) [] pos) X.env = (do
   let ov ← eval o X.env
   standAt apos.atName
   let (f,first) ← holding [ov] (getMethod ov m pl)
   callWith pos f first (backTo pos (starEach (a :: es) X.env)) (backToKw pos (keywordEach [] X.env)))) :
  wpAny (model X.prog X.w) X.A (eval (.Call (.Attribute o m apos) (a :: es) [] pos) X.env) Q (fun ev s'=>∃ ea H1 s1 H' B a0,ev = .ref ea∧Inv X pins σ H1 s1∧s'.os = s1.os∧AllBare s'.gens∧FlyB X.prog X.w X.stack H1 H' s1.heap s'.heap B ea C a0∧R H') s:=by
 refine PySem.W.methodCall_KW (pl:=pl) (wpAny_mono (ho pins s σ H _ I hh) (fun u s1 qZ=>?_) fun _ _ z=>(hxf _ _ z).elim) ht
 obtain ⟨x,H1,I1,rx,p,dx,fs,ex,ea,l,q⟩:=qZ
 subst ex
 obtain rfl:u = Value.ref p:=rx
 refine jgY I1 ea cl hm l ?_
 refine PySem.W.callWith_K (first:=[.ref p]) (h₀:=X.base) I.ok.mod.kin hm.kp (wpAny_mono (ha pos pins s1 σ H1 _ I1 q) (fun us s2 ⟨vs,H2,I2,r,as,S,W,hl,rr,so,wk,hpre,hR⟩=>⟨I2.kIn,?_⟩) fun _ _ z=>(hxf _ _ z).elim) hst hpl
 have r2:Vals (V.ref p :: vs) (Value.ref p :: us):=.cons rfl r
 have hl2:(Value.ref p :: us).length = ps.length:=by rw [← r2.length,← rr.len]; exact hl
 refine wpAny_call (codeAny_mono (F.run X.A X.stack s2 H2 ⟨Value.ref p :: us,[]⟩ (Value.ref p :: us) (V.ref p :: vs) (fun _ _=>False) (fun c _ H'=>c = .ref C∧R H') hr I2.env0 ?_ r2 ⟨as,S,W,hl,rr,so,wk,hpre,fun H' s w=>⟨rfl,hR H' s w⟩⟩) fun res s' hq=>?_)
 ·have z:=hb s2 (Value.ref p :: us) I2.kIn (by rw [List.append_nil]; exact hl2)
  rw [List.append_nil] at z; exact z
 cases res with
 | ok fl =>
  cases fl with
  | ret u=>obtain ⟨_,_,_,_,_,_,_,z⟩:=hq; exact z.elim
  | next=>exact False.elim hq
  | brk=>exact False.elim hq
  | cont=>exact False.elim hq
 | error ev =>
  obtain ⟨ea',C',H',Bh,a0,rfl,hos,hbr,fly,hc,hr'⟩:=hq
  cases hc
  exact ⟨ea',H2,s2,H',Bh,a0,rfl,I2,hos,hbr,fly,hr'⟩
theorem jue {pins:List (Addr × Obj)} {σ:L2.St} {H1 H':Hp} {s1 s':Shared} {Bh:Heap} {ea:Addr} {a0:Value} {D':jed} {u2:Obj->TS} (hxf:∀ e s,X.xe e s->False) (hst:X.stack = X.env :: X.outer) (hfr:X.env.frame = some X.env.locals)
  (hgy:Gl X y) (hmy:X.mg y = some (.ref D)) (hcD:(PySem.W.clsIn X.K D).isSome = true) (htD:PySem.W.typeIn X.K (.ref D) = some (.type "type")) (hbD:PySem.W.mroIn X.K D (.type "BaseException") = some true) (hsD:PySem.W.mroIn X.K C (.ref D) = some true) (hdy:(y == ("__debug__":Str)) = false)
  (hsu:∀ oe,oe.cls = .ref C->PSs (jkp X ea oe) (b₀ :: suite) (u2 oe)) (I1:Inv X pins σ H1 s1) (hos:s'.os = s1.os) (hbr:AllBare s'.gens) (fly:FlyB X.prog X.w X.stack H1 H' s1.heap s'.heap Bh ea C a0) (hq:∀ oe,u2 oe { nx:=D'.nx,bk:=fun _ _=>False,ct:=fun _ _=>False,rt:=fun _ _=>False } σ H') :
  wpAny (model X.prog X.w) X.A (noteFrame (.ref ea) X.env) (fun _ s₂=>wpAny (model X.prog X.w) X.A (setFlight (.ref ea) none) (fun _ s₃=>wpAny (model X.prog X.w) X.A (handleBy (.ref ea) X.env [.ExceptHandler (some (.Name y py)) none (b₀ :: suite) hp]) (SP X pins D') X.xe s₃) X.xe s₂) X.xe s':=by
 have hA:X.A.frames = some (X.env :: X.outer):=by rw [I1.ok.frames,hst]
 have fl0:=fly.fl
 rw [hst] at fl0
 refine wpAny_looks_onW hA hfr fl0 fun h₄ hheld₄ hsm₄=>?_
 refine wpAny_landsW hheld₄ fun h₅ hfl₅ hsm₅=>?_
 have fly5:=fly.go (hst ▸ hfl₅) (hsm₄.trans hsm₅)
 have I5:Inv X pins σ H' { s' with heap:=h₅ }:=I1.call' (s':={ s' with heap:=h₅ }) hos fly5.un fly5.hk hbr (fun _ z=>by cases z)
 have nL:∀ {hh:Heap} {oe:Obj} {vs:Array Value},hh.FunFrames Bh X.stack->hh.get? ea = some oe->oe.data = .fields vs->ea ∉ frs X.stack:=fun hf h1 h2 z=>by
  obtain ⟨_,o,ho,hd⟩:=hf.mem z
  rw [h1] at ho; cases ho; exact hd _ h2
 refine wpAny_handleBy_cons (codeAny_handlers_test ?_) (by intro q; cases q)
 obtain ⟨oe,vs6,he6,hcl6,hd6,_⟩:=fly5.fl.first
 have nf:=nL fly5.fl.2.2.1 he6 hd6
 have ne:ea ≠ X.env.locals:=fun z=>nf (by rw [hst]; unfold frs; rw [List.filterMap_cons,hfr,z]; exact List.mem_cons_self)
 have nfs:ea ∉ X.fs:=fun z=>nf (by rw [hst]; unfold frs; rw [List.filterMap_cons,hfr]; exact List.mem_cons_of_mem _ z)
 have I6:Inv (jkp X ea oe) pins σ H' { s' with heap:=h₅ }:=juC I5 he6 fly5.he ne nfs (fun v z=>by rw [hd6] at z; cases z)
 refine jdv (X:=jkp X ea oe) I6 hgy hmy ?_ hdy
 obtain ⟨_,g',d',t',o'⟩:=s'
 refine juc I5.kIn hcD htD hbD hsD he6 hcl6 ?_
 refine codeAny_handlers_suite ?_
 refine lands_againW fly5.fl fun h₇ hfl₇ hsm₇=>?_
 have fly7:=fly5.go hfl₇ hsm₇
 have I7:Inv X pins σ H' ⟨h₇,g',d',t',o'⟩:=I1.call' (s':=⟨h₇,g',d',t',o'⟩) hos fly7.un fly7.hk hbr (fun _ z=>by cases z)
 obtain ⟨oe7,vs7,he7,hcl7,hd7,_⟩:=fly7.fl.first
 have I8:Inv (jkp X ea oe7) pins σ H' ⟨h₇,g',d',t',o'⟩:=juC I7 he7 fly7.he ne nfs (fun v z=>by rw [hd7] at z; cases z)
 refine wpAny_mono (hsu oe7 hcl7 pins _ σ H' _ I8 (hq oe7)) (fun fl s10 q=>?_) fun _ _ z=>z.elim
 cases fl with
 | next =>
  obtain ⟨σ2,H2,I10,er2⟩:=q
  exact ⟨σ2,H2,jz0 I1.ok I10,er2⟩
 | brk=>obtain ⟨_,_,_,z⟩:=q; exact z.elim
 | cont=>obtain ⟨_,_,_,z⟩:=q; exact z.elim
 | ret u=>obtain ⟨_,_,_,_,_,z⟩:=q; exact z.elim
abbrev nxW (Φ:F4->Prop):F4->Prop
 | .nx ρ W=>Φ (.nx ρ W)
 | _=>False
abbrev jzB (tn:S4) (rm:R4) (ts:S4):S4:=fun Φ ρ W=>tn (nxW Φ) ρ W ∨ rm (fun W'=>ts (nxW Φ) ρ W') ρ W
theorem jwS {i:Nat} {pl:Sem Bool} {st0:Stmt} {tn:S4} (hxf:∀ e s,X.xe e s->False) (hst:X.stack = X.env :: X.outer) (hfr:X.env.frame = some X.env.locals) (hf:(m == Z.f) = false) (hn:PSW X Z st0 tn)
  (ho:PE X o (jd7 i)) (cl:Cls X.K Z.C) (hm:jm3 X.K Z.C m f) (F:FnOk X.prog X.w X.K X.mg X.base (CXC X.prog X.w) k f fd ps (jkv X.K Z ps.length C Pre)) (hr:Room k X.A) (hb:Binds X.K fd ps []) (ha:PAM X Z (a :: es) ta)
  (hgy:Gl X y) (hmy:X.mg y = some (.ref D)) (hcD:(PySem.W.clsIn X.K D).isSome = true) (htD:PySem.W.typeIn X.K (.ref D) = some (.type "type")) (hbD:PySem.W.mroIn X.K D (.type "BaseException") = some true) (hsD:PySem.W.mroIn X.K C (.ref D) = some true)
  (hsu:∀ ea oe,jda (jkp X ea oe) Z (b₀ :: suite) ts)
  (hex:∀ {pins:List (Addr × Obj)} {σ:L2.St} {H:Hp} {s:Shared} {Q:Flow->Shared->Prop} {E:Value->Shared->Prop},Inv X pins σ H s->wpAny (model X.prog X.w) X.A (eval (.Call (.Attribute o m apos) (a :: es) [] pos) X.env) (fun _ _=>False) E s->wpAny (model X.prog X.w) X.A (exec st0 X.env) Q E s)
  (hdy:(y == ("__debug__":Str)) = false:=by decide) (hs:starEach (a :: es) X.env = (false,eval a X.env) :: starEach es X.env:=by rfl) (hpl:(backTo pos (starEach es X.env)).any (·.1) = false:=by rfl)
  (ht:eval (.Call (.Attribute o m apos) (a :: es) [] pos) X.env = (do
   let ov ← eval o X.env
   standAt apos.atName
   let (f,first) ← holding [ov] (getMethod ov m pl)
   callWith pos f first (backTo pos (starEach (a :: es) X.env)) (backToKw pos (keywordEach [] X.env))):=by rfl) :
  PSW X Z (.Try [st0] [.ExceptHandler (some (.Name y py)) none (b₀ :: suite) hp] [] [] tp) (jzB tn (jhm i ps.length Pre ta) ts):=by
 obtain ⟨n2,hn,wn⟩:=hn; obtain ⟨t2,h,w⟩:=ha
 refine ⟨fun D' σ H=>n2 { nx:=D'.nx,bk:=fun _ _=>False,ct:=fun _ _=>False,rt:=fun _ _=>False } σ H ∨ jyk X Z i m ps.length Pre t2 (fun H'=>∀ ea oe,(hsu ea oe).choose { nx:=D'.nx,bk:=fun _ _=>False,ct:=fun _ _=>False,rt:=fun _ _=>False } σ H') σ H,?_,?_⟩
 ·intro pins s σ H D' I hh
  refine wpAny_Try_except (wpAny_execs_cons ?_)
  rcases hh with hh | hh
  ·refine wpAny_mono (hn pins s σ H _ I hh) (fun fl s1 q=>?_) fun _ _ z=>(hxf _ _ z).elim
   cases fl with
   | next =>
    obtain ⟨σ2,H2,I2,q2⟩:=q
    exact wpAny_execs_nil (wpAny_execs_nil ⟨σ2,H2,I2,q2⟩)
   | brk=>obtain ⟨_,_,_,z⟩:=q; exact z.elim
   | cont=>obtain ⟨_,_,_,z⟩:=q; exact z.elim
   | ret u=>obtain ⟨_,_,_,_,_,z⟩:=q; exact z.elim
  ·refine hex I (wpAny_mono (jsw (Q:=fun _ _=>False) hxf ho cl hm F hr hb h I hh hs hpl ht) (fun _ _ z=>z) fun ev s' z=>?_)
   obtain ⟨ea,H1,s1,H',B,a0,rfl,I1,hos,hbr,fly,hR⟩:=z
   exact jue hxf hst hfr hgy hmy hcD htD hbD hsD hdy (u2:=fun oe=>(hsu ea oe).choose) (fun oe _=>(hsu ea oe).choose_spec.1) I1 hos hbr fly (hR ea)
 ·intro B S H σ ρ W Φ D' ew q ok
  have endN:∀ {W1:Wd},adr W1 = adr W->EndW X.K Z B W1 (nxW Φ) { nx:=D'.nx,bk:=fun _ _=>False,ct:=fun _ _=>False,rt:=fun _ _=>False }:=fun e1 =>
   ⟨fun ρ' S' H2 σ' W' p ew' e=>ok.nx ρ' S' H2 σ' W' p ew' (e.trans e1),fun _ _ _ _ _ p=>p.elim,fun _ _ _ _ _ p=>p.elim,fun _ _ _ _ _ p=>p.elim⟩
  rcases q with q | q
  ·exact .inl (wn B S H σ ρ W _ _ ew q (endN rfl))
  ·refine .inr ?_
   unfold jhm at q
   split at q
   ·rename_i v e0
    obtain ⟨⟨o',ho',rfl,hpq⟩,q⟩:=q
    obtain ⟨dx,ei⟩:=(ew.w.ob o' ho').ins.resolve_left hpq
    refine ⟨.ref o'.p,ew.er.rf i _ e0,o'.p,dx,_,rfl,ei,?_,w B S H σ ρ W _ _ ew q fun as vs H1 W1 hc s1 e1 wk1 r=>?_⟩
    ·rw [List.lookup_cons,hf]; rfl
    ·have ew1:=ew.goX s1 e1 wk1
     refine ⟨.raw (.ref o'.p) :: as,S,W1,hc.1,.cons (show RepA X.K S H1 (.raw (.ref o'.p)) (.ref o'.p) from rfl) r,ew1.er.ok,wk1,hc.2.1,fun H' s2 wk2 ea oe=>?_⟩
     exact (hsu ea oe).choose_spec.2 B S H' σ ρ W1 _ _ (ew1.goX s2 rfl wk2) hc.2.2 (endN e1)
   ·exact q.elim
theorem jyI {e:Expr} {x:Str} {p':Pos} (hsw:swapsWith e (some (.Name x p')) pos'.line X.env = pure false) {pins:List (Addr × Obj)} {σ:L2.St} {H:Hp} {s:Shared} {Q:Flow->Shared->Prop} {E:Value->Shared->Prop} (I:Inv X pins σ H s) (h:wpAny (model X.prog X.w) X.A (eval e X.env) (fun _ _=>False) E s):wpAny (model X.prog X.w) X.A (exec (.Assign [.Name x p'] e pos') X.env) Q E s :=
 wpAny_Assign_Name (wpAny_mono h (fun _ _ z=>z.elim) fun _ _ z=>z) hsw
end
section
variable {K:PySem.W.Frag} {Z:Zc} {B:Bs} {S:Addr->Prop} {H:Hp} {σ:L2.St} {ρ:jL} {W:Wd} {p:Addr} {o:HO} {vs:List V} {i:Nat}
def addB (B:Bs) (p:Addr) (o:HO):Bs:=⟨B.S0,jG B.H0 p o,B.gh⟩
theorem jua (h:Same B.H0 H) (hp:H p = none):B.H0 p = none:=by
 cases e:B.H0 p with
 | none=>rfl
 | some z=>rw [h _ _ e] at hp; cases hp
theorem jry (h:Same B.H0 H) (hp:H p = none):Same B.H0 (addB B p o).H0:=fun a z e=>by
 show jG B.H0 p o a = some z
 rw [jy (j9 e (jua h hp))]
 exact e
theorem ER.addB (er:ER K B S H σ ρ) (no:noDct ρ) (hp:H p = none):ER K (D3.addB B p o) S (jG H p o) σ ρ:=by
 have s:=jaP (o:=o) hp
 have le:=jry (o:=o) er.same hp
 have nn:∀ {a:Addr} {z:HO},H a = some z->B.H0 a = none->(D3.addB B p o).H0 a = none:=fun e h=>by
  show jG B.H0 p o _ = none
  rw [jy (j9 e hp)]
  exact h
 exact {
  len:=er.len
  same:=fun a z e=>by
   have e:jG B.H0 p o a = some z:=e
   by_cases h:a = p
   ·subst h; rw [jW] at e ⊢; exact e
   ·rw [jy h] at e ⊢; exact er.same a z e
  sub:=er.sub
  ok0:=fun a h=>let ⟨z,e⟩:=er.ok0 a h; ⟨z,le a z e⟩
  ok:=er.ok.same s
  val:=fun i d q=>let ⟨v,a,r⟩:=er.val i d q; ⟨v,a,r.same s⟩
  own:=fun i ds q=>let ⟨a,xs,x,y,z,u,r⟩:=er.own i ds q; ⟨a,xs,x,y,nn u z,s _ _ u,r.same s⟩
  uq:=er.uq
  dct:=fun i ks ds q=>absurd q (no i ks ds)
  dq:=fun i _ _ ks ds _ _ q=>absurd q (no i ks ds)
  rf:=er.rf
  rwx:=fun i vs q=>let ⟨a,e,h0⟩:=er.rwx i vs q; ⟨a,e,le a _ h0⟩
  gh:=fun p hp=>(er.gh p hp).same s }
theorem ER.putRow (er:ER K B S H σ ρ) (hp:B.H0 p = some (.lst vs)):ER K B S H (σ.set i (some (.ref p))) (ρ.set i (.row vs)):=by
 have g:∀ {j:Nat} {x:Sl},(∀ u,x ≠ .row u)->(ρ.set i (.row vs))[j]? = some x->i ≠ j∧ρ[j]? = some x:=fun {j x} hx e=>by
  by_cases hij:i = j
  ·subst hij
   rw [List.getElem?_set] at e
   split at e
   ·split at e
    ·cases e; exact absurd rfl (hx _)
    ·cases e
   ·rename_i z; exact absurd rfl z
  ·rw [List.getElem?_set_ne hij] at e
   exact ⟨hij,e⟩
 exact {
  len:=by rw [List.length_set,List.length_set]; exact er.len
  same:=er.same
  sub:=er.sub
  ok0:=er.ok0
  ok:=er.ok
  val:=fun j c q=>by
   obtain ⟨h,q⟩:=g (fun _ z=>by cases z) q
   rw [List.getElem?_set_ne h]; exact er.val j c q
  own:=fun j c q=>by
   obtain ⟨h,q⟩:=g (fun _ z=>by cases z) q
   rw [List.getElem?_set_ne h]; exact er.own j c q
  uq:=fun j k b c c' q1 q2 e1 e2=>by
   obtain ⟨h1,q1⟩:=g (fun _ z=>by cases z) q1
   obtain ⟨h2,q2⟩:=g (fun _ z=>by cases z) q2
   rw [List.getElem?_set_ne h1] at e1
   rw [List.getElem?_set_ne h2] at e2
   exact er.uq j k b c c' q1 q2 e1 e2
  dct:=fun j ks ds q=>by
   obtain ⟨h,q⟩:=g (fun _ z=>by cases z) q
   rw [List.getElem?_set_ne h]; exact er.dct j ks ds q
  dq:=fun j k b ks ds ks' ds' q1 q2 e1 e2=>by
   obtain ⟨h1,q1⟩:=g (fun _ z=>by cases z) q1
   obtain ⟨h2,q2⟩:=g (fun _ z=>by cases z) q2
   rw [List.getElem?_set_ne h1] at e1
   rw [List.getElem?_set_ne h2] at e2
   exact er.dq j k b ks ds ks' ds' q1 q2 e1 e2
  rf:=fun j u q=>by
   obtain ⟨h,q⟩:=g (fun _ z=>by cases z) q
   rw [List.getElem?_set_ne h]; exact er.rf j u q
  rwx:=fun j us q=>by
   by_cases hij:i = j
   ·subst hij
    rw [List.getElem?_set] at q
    split at q
    ·split at q
     ·rename_i hl; cases q; exact ⟨p,by rw [List.getElem?_set_self (by rw [er.len]; exact hl)],hp⟩
     ·cases q
    ·rename_i z; exact absurd rfl z
   ·rw [List.getElem?_set_ne hij] at q ⊢
    exact er.rwx j us q
  gh:=er.gh }
theorem noDct.row (h:noDct ρ):noDct (ρ.set i (.row vs)):=fun j ks ds e=>by
 rw [List.getElem?_set] at e
 split at e
 ·split at e <;> cases e
 ·exact h j ks ds e
theorem EW.row (h:EW K Z B S H σ ρ W) (hp:H p = none):EW K Z (addB B p (.lst vs)) S (jG H p (.lst vs)) (σ.set i (some (.ref p))) (ρ.set i (.row vs)) W :=
 ⟨(h.er.addB h.no hp).putRow (show jG B.H0 p _ p = _ from jW),h.w.same (jaP hp),fun o ho=>by
  obtain ⟨kv,e⟩:=h.w.dict o ho
  show jG B.H0 p _ o.q = none
  rw [jy (j9 e hp)]
  exact h.h0 o ho,h.no.row⟩
abbrev rtF (Φ:F4->Prop):F4->Prop
 | .rt d W=>Φ (.rt d W)
 | _=>False
theorem EndW.row {Φ:F4->Prop} {D':jed} (le:Same B.H0 (addB B p o).H0) (ok:EndW K Z B W Φ D'):EndW K Z (addB B p o) W (rtF Φ) D' :=
 ⟨fun _ _ _ _ _ q=>q.elim,fun _ _ _ _ _ q=>q.elim,fun _ _ _ _ _ q=>q.elim,fun d v S H W' q s r wk e=>ok.rt d v S H W' q (fun a z x=>s a z (le a z x)) r wk e⟩
end
def PN (X:Cx) (Z:Zc) (e:Expr) (R:Addr->Addr->Prop):Prop:=∃ t2,PE X e t2∧∀ B S H σ ρ W Q,EW X.K Z B S H σ ρ W->(∀ p q S' H',R p q->q ∉ W.map Ob.q->EW X.K Z B S' H' σ ρ (⟨q,p,[],[]⟩ :: W)->Q (.ref p) H')->t2 σ H Q
section
variable {X:Cx} {Z:Zc} {e e1 e2:Expr} {jR:List Stmt} {u:S4} {R:Addr->Addr->Prop} {pos pos' lpos pd:Pos}
theorem jrT (he:PE X e (jv5 Z.C (jtL Z) [] E0 jmz)):PN X Z e (fun p q=>p ≠ q):=by
 refine ⟨_,he,fun B S H σ ρ W Q ew k=>?_⟩
 intro p dx hp hdx hne
 refine ⟨p,dx,rfl,jW,fun a ha=>⟨rfl,?_⟩⟩
 have hap:a ≠ p:=fun e=>by rw [e,jW] at ha; cases ha
 have had:a ≠ dx:=fun e=>by rw [e,jy hne,jW] at ha; cases ha
 rw [jy hap,jy had] at ha
 have sm:Same H (jG (jG (jG (jG H dx (.own p)) p (.ins Z.C dx [])) a (.dK [])) p (.ins Z.C dx [(Z.f,.ref a)])):=fun b o e=>by
  have h1:b ≠ p:=j9 e hp
  have h2:b ≠ a:=j9 e ha
  have h3:b ≠ dx:=j9 e hdx
  rw [jy h1,jy h2,jy h1,jy h3]
  exact e
 have ew1:=ew.new (o:=⟨a,p,[],[]⟩) sm ha (by show jG _ p _ a = _; rw [jy hap]; exact jW) rfl rfl (.inr ⟨dx,jW⟩)
 exact k p a _ _ (fun e=>hap e.symm) (List.nodup_cons.mp ew1.w.nd).1 ew1
theorem jrN:PN X Z (.Dict [] [] pd) (fun p q=>p = q):=by
 refine ⟨_,jpe,fun B S H σ ρ W Q ew k=>?_⟩
 intro a ha
 have ew1:=ew.new (o:=⟨a,a,[],[]⟩) (jaP (o:=.dK []) ha) ha jW rfl rfl (.inl rfl)
 exact k a a _ _ rfl (List.nodup_cons.mp ew1.w.nd).1 ew1
abbrev jr0 (R:Addr->Addr->Prop) (i:Nat) (u:S4):S4:=fun Φ ρ W=>∀ p1 q1 p2 q2,R p1 q1->R p2 q2->q1 ∉ W.map Ob.q->q2 ∉ q1 :: W.map Ob.q->u (jbr (jbr (rtF Φ))) (ρ.set i (.row [.ref p1,.ref p2])) (⟨q2,p2,[],[]⟩ :: ⟨q1,p1,[],[]⟩ :: W)
theorem joW {i:Nat} {x:Str} (hN:X.N.Nodup) (hi:X.N[i]? = some x) (hx:Loc X.env.scope x) (h1:PN X Z e1 R) (h2:PN X Z e2 R) (hr:jda X Z jR u) (hs:swapsWith (.List [e1,e2] lpos) (some (.Name x pos')) pos.line X.env = pure false:=by rfl)
  (hs1:starEach [e1,e2] X.env = (false,eval e1 X.env) :: starEach [e2] X.env:=by rfl) (hs2:starEach [e2] X.env = (false,eval e2 X.env) :: starEach [] X.env:=by rfl)
  (hf:X.fn x = true ∨ X.env.scope.names.lookup x = some .local:=by first | exact .inl rfl | exact .inr rfl | assumption):jda X Z (.Assign [.Name x pos'] (.List [e1,e2] lpos) pos :: jR) (jr0 R i u):=by
 obtain ⟨u2,g,z⟩:=hr; obtain ⟨t1,h1,w1⟩:=h1; obtain ⟨t2,h2,w2⟩:=h2
 refine ⟨_,jdu (jk2 hN hi hx (jts (jbe h1 (jbe h2 jcn hs2) hs1)) hs hf) g,fun B S H σ ρ W Φ D' ew q ok=>w1 B S H σ ρ W _ ew fun p1 q1 S1 H1 r1 n1 ew1=>w2 B S1 H1 σ ρ _ _ ew1 fun p2 q2 S2 H2 r2 n2 ew2=>⟨show 2 ≤ sizeLine by decide,fun a ha=>?_⟩⟩
 exact z _ _ _ _ _ _ _ D' (ew2.row ha) (q p1 q1 p2 q2 r1 r2 n1 n2) (EndW.new (EndW.new (EndW.row (jry ew2.er.same ha) ok)))
abbrev GV:=jL->(V->Prop)->Prop
def PV (X:Cx) (Z:Zc) (e:Expr) (g:GV):Prop:=∃ t2,PE X e t2∧∀ B S H σ ρ W Φ Q,EW X.K Z B S H σ ρ W->g ρ Φ->(∀ v H',Φ v->Same H H'->Q v H')->t2 σ H Q
abbrev vIx (i:Nat) (tk:E3):GV:=fun ρ Φ=>match ρ[i]? with | some (.row vs)=>tk ρ fun d=>(match d with | .int k=>onS (atI vs k) Φ | _=>False) | _=>False
theorem jfx {i:Nat} {k:Expr} {tk:E3} (he:PE X e (jd7 i)) (hk:PD X k tk) (hs:jne k):PV X Z (.Subscript e k pos) (vIx i tk):=by
 obtain ⟨t2,hk,wk⟩:=hk
 refine ⟨_,jwB ix_list he hk hs,fun B S H σ ρ W Φ Q ew q hd=>?_⟩
 unfold vIx at q
 split at q
 ·rename_i vs e0
  obtain ⟨a,ea,h0⟩:=ew.er.rwx i vs e0
  refine ⟨.ref a,ea,wk B S H σ ρ _ _ ew.er q fun d v H1 p1 s1 r1=>?_⟩
  cases d <;> first | exact p1.elim | skip
  rename_i j
  obtain ⟨w,ew',hΦ⟩:=jqf p1
  exact ⟨a,vs,j,w,rfl,jT r1,.of (s1 _ _ (ew.er.same _ _ h0)),ew',hd w H1 hΦ s1⟩
 ·exact q.elim
end
abbrev jiz (g:GV) (ta:AM):AM:=fun ρ W Φ=>g ρ fun v=>ta ρ W fun as W'=>Φ (.raw v :: as) W'
abbrev jt7 (g:GV) (n:Nat) (C:jdy) (ta:AM):E4:=fun ρ W Φ=>g ρ fun v=>(∃ o ∈ W,v = .ref o.p∧o.p ≠ o.q)∧ta ρ W fun as W'=>as.length + 1 = n∧C (.raw v :: as) W' Φ
section
variable {X:Cx} {Z:Zc} {ps:List Str} {C:jdy} {pos apos p:Pos} {e o k a b:Expr} {es:List Expr} {ta:AM} {tv:AV} {g:GV} {gq:D3.Q4} {tk:E3} {tm tn:E4}
theorem jeK (he:PV X Z e g) (ha:PAM X Z es ta) (hs:starEach (e :: es) X.env = (false,eval e X.env) :: starEach es X.env:=by rfl):PAM X Z (e :: es) (jiz g ta):=by
 obtain ⟨t2,h,w⟩:=he; obtain ⟨u2,g,z⟩:=ha
 exact ⟨_,jbe h g hs,fun B S H σ ρ W Φ Q ew q k=>w B S H σ ρ W _ _ ew q fun v H1 p1 s1=>z B S H1 σ ρ W _ _ (ew.go s1) p1 fun as vs H2 W2 p2 s2 e2 wk2 r2=>k _ _ H2 W2 p2 ((SameX.of s1).trans s2) e2 wk2 (.cons (show RepA X.K S H2 (.raw v) v from rfl) r2)⟩
theorem jvY {m:Str} (hf:(m == Z.f) = false) (mo:jej C) (ho:PV X Z o g) (ha:PAM X Z (e :: es) ta)
  (hpe:∀ t1 t2,PE X o t1->PA X (e :: es) t2->PE X (.Call (.Attribute o m apos) (e :: es) [] pos) (jsq Z.C m (spW X.K Z ps.length C) [] E0 t1 t2)):PM X Z (.Call (.Attribute o m apos) (e :: es) [] pos) (jt7 g ps.length C ta):=by
 obtain ⟨t1,h1,w1⟩:=ho; obtain ⟨t2,h,w⟩:=ha
 refine ⟨_,hpe t1 t2 h1 h,fun B S H σ ρ W Φ Q ew q hd=>w1 B S H σ ρ W _ _ ew q fun v H0 q s0=>?_⟩
 obtain ⟨⟨o,ho,rfl,hpq⟩,q⟩:=q
 have ew:=ew.go s0
 obtain ⟨dx,ei⟩:=(ew.w.ob o ho).ins.resolve_left hpq
 refine ⟨o.p,dx,_,rfl,ei,?_,w B S H0 σ ρ W _ _ ew q fun as vs H1 W1 hc s1 e1 wk1 r=>?_⟩
 ·rw [List.lookup_cons,hf]; rfl
 ·rw [List.append_nil]
  exact ⟨.raw (.ref o.p) :: as,S,W1,hc.1,.cons (show RepA X.K S H1 (.raw (.ref o.p)) (.ref o.p) from rfl) r,(ew.goX s1 e1 wk1).er.ok,wk1,mo _ W1 Φ _ (fun d W' hΦ v H' s e wk r'=>hd d v H' W' hΦ ((SameX.of s0).trans (s1.trans (s.adr e1))) (e.trans e1) wk r') hc.2⟩
abbrev mB (r:jK) (tv:AV):E4:=fun ρ W Φ=>tv ρ W fun ds W'=>r ds fun d=>Φ d W'
theorem juE {x:Str} {id:String} {r:jK} (hc:jb8 X (.builtin id) r) (hg:Gl X x) (hm:X.mg x = none) (hv:bootBuiltins x = some (.builtin id)) (ha:PAV X Z (e :: es) tv) (hn:x ≠ "__name__":=by decide) (hdb:(x == ("__debug__":Str)) = false:=by decide)
  (he:starEach (e :: es) X.env = (false,eval e X.env) :: starEach es X.env:=by rfl) (hpl:(backTo pos (starEach es X.env)).any (·.1) = false:=by rfl):PM X Z (.Call (.Name x p) (e :: es) [] pos) (mB r tv):=by
 obtain ⟨r2,hc,wc⟩:=hc; obtain ⟨t2,h,w⟩:=ha
 exact ⟨_,jkl hc hg hm hv h hn hdb he hpl,fun B S H σ ρ W Φ Q ew q hd=>w B S H σ ρ W _ _ ew q fun ds vs H1 W1 p1 s1 e1 wk1 r1=>wc S H1 ds vs _ Q (ew.goX s1 e1 wk1).er.ok r1 p1 fun d v H2 p2 s2 r2=>hd d v H2 W1 p2 (s1.trans (SameX.of s2)) e1 (wk1.same s2) r2⟩
theorem jpN {op:CmpOp} {r:R3} (ho:OpD X (compareOp op) r) (ha:PM X Z a tm) (hb:PM X Z b tn) (hm:behindInMarks op b = false):PMB X Z (.Compare a [op] [b] pos) (mT (jo6 r tm tn)):=by
 obtain ⟨r2,ho,wr⟩:=ho; obtain ⟨ta2,ha,wa⟩:=ha; obtain ⟨tb2,hb,wb⟩:=hb
 refine ⟨_,jf9 ho ha hb hm,jmZ fun B S H σ ρ W Φ Q ew q hd=>wa B S H σ ρ W _ _ ew q fun d v H1 W1 p1 s1 e1 wk1 r1=>?_⟩
 have ew1:=ew.goX s1 e1 wk1
 refine wb B S H1 σ ρ W1 _ _ ew1 p1 fun y u H2 W2 p2 s2 e2 wk2 r2'=>?_
 have ew2:=ew1.goX s2 e2 wk2
 exact wr S H2 d y v u _ Q ew2.er.ok (r1.sameX wk1.dict s2) r2' p2 fun z x H3 p3 s3 r3=>hd z x H3 W2 p3 ((s1.trans (s2.adr e1)).trans (SameX.of s3)) (e2.trans e1) (wk2.same s3) r3
abbrev mIn (tk:E3) (g:D3.Q4):E4:=fun ρ W Φ=>tk ρ fun d=>match d with | .str x=>g ρ W fun o=>Φ (.bl (decide (x ∈ o.ks))) W | _=>False
theorem jzV (hu:X.A.units + 1 < cLine) (hk:PD X k tk) (hg:PQ X Z e gq) (h1:behindInMarks .In e = false:=by first | exact jht _ (by decide) (by decide) | rfl):PM X Z (.Compare k [.In] [e] pos) (mIn tk gq):=by
 obtain ⟨t1,hk,wk⟩:=hk; obtain ⟨t2,hg,wg⟩:=hg
 refine ⟨_,jzt (jzE hu hk hg) h1,fun B S H σ ρ W Φ Q ew q hd=>wk B S H σ ρ _ _ ew.er q fun d v H1 p s r=>?_⟩
 cases d <;> first | exact p.elim | skip
 rename_i x
 simp only [Rep] at r
 subst r
 refine wg B S H1 σ ρ W _ _ (ew.go s) p fun o ho hΦ=>?_
 obtain ⟨r,hr,hs,_⟩:=jpJ ((ew.go s).w.ob o ho) x
 refine ⟨o.q,r,rfl,hr,?_⟩
 rw [hs]
 exact hd _ _ H1 W hΦ (SameX.of s) rfl (ew.w.same s) Rep.bl
end
abbrev AI:=jL->Wd->(List D->Wd->Prop)->Prop
def PIM (X:Cx) (Z:Zc) (tg iter:Expr) (t:AI):Prop:=∃ wi,PI X tg iter wi∧∀ B S H σ ρ W Φ (R:It->Hp->Prop),EW X.K Z B S H σ ρ W->t ρ W Φ->(∀ ds J hs H1 W1,Φ ds W1->SameX W H H1->adr W1 = adr W->WOk X.K Z S H1 W1->(∀ p ∈ hs,Rep X.K S H1 p.1 p.2)->jm2 X.K J hs ds->R J H1)->wi σ H R
abbrev iT4 (tm:E4):AI:=fun ρ W Φ=>tm ρ W fun d W'=>match d with | .tup ds=>Φ ds W' | _=>False
abbrev jul (n:Nat) (ti:AI) (g:G3) (te:E4):E4:=fun ρ W Φ=>ti ρ W fun ds W1=>jez g te (List.replicate n .un ++ ρ) ds [] W1 Φ
section
variable {X:Cx} {Z:Zc} {xs M:List Str} {scope:Scope} {target elt iter:Expr} {pos:Pos} {ti:AI} {g:G3} {te tm:E4} {n:Nat}
theorem jxK (he:PM X Z iter tm):PIM X Z target iter (iT4 tm):=by
 obtain ⟨t2,h,w⟩:=he
 refine ⟨_,jzw h,fun B S H σ ρ W Φ R ew q k=>w B S H σ ρ W _ _ ew q fun d v H1 W1 p s e wk r=>?_⟩
 cases d <;> first | exact p.elim | skip
 rename_i ds
 obtain ⟨a,xs,rfl,lr,rs⟩:=jU r
 refine ⟨a,rfl,⟨xs,lr⟩,k ds _ [(.tup ds,.ref a)] H1 W1 p s e wk (fun p hp=>by rw [List.mem_singleton.mp hp]; exact r) fun S2 H2 r2=>?_⟩
 obtain ⟨a2,xs2,e2,lr2,rs2⟩:=jU (r2 _ (List.mem_singleton.mpr rfl))
 cases e2
 refine ⟨⟨xs2,lr2,by rw [rs2.len]; exact Nat.le_refl _⟩,fun i hi=>?_⟩
 have hi2:i < xs2.length:=by rw [← rs2.len]; exact hi
 refine ⟨⟨xs2,xs2[i],lr2,by simp [hi2]⟩,fun x H' y=>?_⟩
 obtain ⟨rfl,y⟩:=y
 obtain ⟨c,ec,rc⟩:=rs2.getV (y xs2 lr2)
 exact ⟨fun _ _ z=>z,c,ec,rc⟩
theorem jvn (hk:jfd scope X.env xs M X.N = true) (hn:xs.length = n) (hc:X.calm = true) (hi:PIM X Z target iter ti)
  (hg:∀ C s H fp,PGN (j6 X xs M scope C s H fp) n target g) (he:∀ C s H fp,PM (j6 X xs M scope C s H fp) Z elt te)
  (hs:∀ x,foldedSetIterable iter X.env x = pure x:=by intro _; rfl):PM X Z (.ListComp elt [⟨target,iter,[],0⟩] scope pos) (jul n ti g te):=by
 obtain ⟨wi,hi,ww⟩:=hi
 refine ⟨_,jml hk hn hc hi (fun C s H fp=>(hg C s H fp).choose_spec.1) (fun C s H fp=>.inl ⟨rfl,rfl⟩) (fun C s H fp=>(he C s H fp).choose_spec.1) hs,fun B S H σ ρ W Φ Q ew q hd=>?_⟩
 refine ww B S H σ ρ W _ _ ew q fun ds J hs H1 W1 hΦ s1 e1 wk1 rv wk D C s fp hD=>?_
 exact joS (hg C s H1 fp).choose_spec.2 (he C s H1 fp).choose_spec.2 (ew.goX s1 e1 wk1) rv wk hD hΦ (Q:=Q) (fun d v H2 W2 p1 s2 e2 wk2 r=>hd d v H2 W2 p1 (s1.trans (s2.adr e1)) (e2.trans e1) wk2 r) fun _ _ z=>z
end
abbrev jyF (tm tn:E4):E4:=fun ρ W Φ=>mT tm ρ W fun k W'=>if k = true then tn ρ W' Φ else Φ (.bl false) W'
section
variable {X:Cx} {Z:Zc} {a b:Expr} {jR:List Expr} {tm tn:E4} {pos:Pos}
theorem jzn {op} (h:PM X Z a tm):PM X Z (.BoolOp op [a] pos) tm:=let ⟨t2,h,w⟩:=h; ⟨t2,jtK h,w⟩
theorem jzC (ha:PM X Z a tm) (hb:PM X Z (.BoolOp .And (b :: jR) pos) tn):PM X Z (.BoolOp .And (a :: b :: jR) pos) (jyF tm tn):=by
 obtain ⟨t2,h,w⟩:=ha; obtain ⟨u2,g,z⟩:=hb
 refine ⟨_,jtF h g,fun B S H σ ρ W Φ Q ew q hd=>w B S H σ ρ W _ _ ew q fun d v H1 W1 hk s1 e1 wk1 r=>?_⟩
 cases d <;> first | exact hk.elim | skip
 rename_i k
 refine ⟨k,jak r,?_⟩
 cases k with
 | true =>
  have hk:tn ρ W1 Φ:=by simpa using hk
  simp only [if_true]
  exact z B S H1 σ ρ W1 _ _ (ew.goX s1 e1 wk1) hk fun d v H2 W2 h2 s2 e2 wk2 r2=>hd d v H2 W2 h2 (s1.trans (s2.adr e1)) (e2.trans e1) wk2 r2
 | false =>
  have hk:Φ (.bl false) W1:=by simpa using hk
  simp only [Bool.false_eq_true,if_false]
  exact hd _ _ H1 W1 hk s1 e1 wk1 Rep.bl
end
end D3
set_option linter.all false
namespace Mt
theorem jbH (a b:Int):a.fmod b = a - b * a.fdiv b:=by
 have:=Int.mul_fdiv_add_fmod a b; omega
theorem jeA {a b:Int} (h:b ≠ 0):(a.fmod b).natAbs < b.natAbs:=by
 rw [Int.fmod_eq_emod]
 have h1:=Int.emod_nonneg a h
 have h2:=Int.emod_lt a h
 by_cases hb:0 ≤ b
 ·rw [if_pos (.inl hb)]; omega
 ·by_cases hd:b ∣ a
  ·rw [if_pos (.inr hd),Int.emod_eq_zero_of_dvd hd]; omega
  ·rw [if_neg (by rintro (z | z) <;> contradiction)]
   have h3:a % b ≠ 0:=fun z=>hd (Int.dvd_of_emod_eq_zero z)
   omega
theorem jkF (a b:Int):Int.gcd b (a.fmod b) = Int.gcd a b:=by
 rw [jbH,Int.mul_comm,Int.gcd_sub_mul_right_right,Int.gcd_comm]
def jt (ns:List Int):Int:=ns.foldl (fun g x=>(Int.gcd g x:Int)) 0
theorem jnM (d:Int):∀ (ns:List Int) (g:Int),d ∣ ns.foldl (fun g x=>(Int.gcd g x:Int)) g ↔ d ∣ g∧∀ x ∈ ns,d ∣ x
 | [],g=>by simp
 | x :: ns,g=>by
  rw [List.foldl_cons,jnM d ns]
  constructor
  ·rintro ⟨h1,h2⟩
   refine ⟨Int.dvd_trans h1 (Int.gcd_dvd_left g x),fun y hy=>?_⟩
   rcases List.mem_cons.mp hy with rfl | hy
   ·exact Int.dvd_trans h1 (Int.gcd_dvd_right g y)
   ·exact h2 y hy
  ·rintro ⟨h1,h2⟩
   exact ⟨Int.dvd_coe_gcd h1 (h2 x List.mem_cons_self),fun y hy=>h2 y (List.mem_cons_of_mem _ hy)⟩
theorem dvd_gcdL {d:Int} {ns:List Int}:d ∣ jt ns ↔ ∀ x ∈ ns,d ∣ x:=by
 unfold jt; rw [jnM]; simp
theorem jaH {ns:List Int} {x:Int} (h:x ∈ ns):jt ns ∣ x:=dvd_gcdL.mp (Int.dvd_refl _) x h
theorem jiR:∀ (ns:List Int) (g:Int),0 ≤ g->0 ≤ ns.foldl (fun g x=>(Int.gcd g x:Int)) g
 | [],g,h=>h
 | x :: ns,g,h=>jiR ns _ (Int.natCast_nonneg _)
theorem jay (ns:List Int):0 ≤ jt ns:=jiR ns 0 (Int.le_refl 0)
theorem jjZ {ns:List Int} {g:Int} (h0:0 ≤ g) (h1:∀ x ∈ ns,g ∣ x) (h2:∀ d:Int,(∀ x ∈ ns,d ∣ x)->d ∣ g):jt ns = g :=
 Int.dvd_antisymm (jay ns) h0 (h2 _ fun x hx=>jaH hx) (dvd_gcdL.mpr h1)
theorem jnn {ns:List Int} (h:jt ns = 0):∀ x ∈ ns,x = 0:=fun x hx=>Int.zero_dvd.mp (h ▸ jaH hx)
theorem jrw {ns:List Int} {x:Int} (h:x ∈ ns) (h0:x ≠ 0):jt ns ≤ x.natAbs:=by
 have h1:=jaH h
 have h2:jt ns ∣ (x.natAbs:Int):=Int.dvd_natAbs.mpr h1
 exact Int.le_of_dvd (by omega) h2
theorem jpO {ns:List Int} {x:Int} (h:x ∈ ns) (h0:x ≠ 0):0 < jt ns:=by
 have h1:=jay ns
 have h2:jt ns ≠ 0:=fun z=>h0 (jnn z x h)
 omega
theorem jl0 {ns ms:List Int} (h:∀ d:Int,(∀ x ∈ ns,d ∣ x) ↔ ∀ x ∈ ms,d ∣ x):jt ns = jt ms :=
 jjZ (jay ms) (fun x hx=>(h _).mpr (fun y hy=>jaH hy) x hx) fun d hd=>dvd_gcdL.mpr ((h d).mp hd)
theorem je6 (k:Int) (ns:List Int):jt (ns.map (k * ·)) = k.natAbs * jt ns:=by
 apply Int.dvd_antisymm (jay _) (Int.mul_nonneg (Int.natCast_nonneg _) (jay _))
 ·by_cases hk:k = 0
  ·subst hk; simp
  -- k divides the left, so write it k * m
  have h1:(k.natAbs:Int) ∣ jt (ns.map (k * ·)):=dvd_gcdL.mpr fun x hx=>by
   obtain ⟨y,_,rfl⟩:=List.mem_map.mp hx
   exact Int.dvd_trans (Int.natAbs_dvd.mpr (Int.dvd_refl k)) (Int.dvd_mul_right k y)
  obtain ⟨m,hm⟩:=h1
  rw [hm]
  apply Int.mul_dvd_mul_left
  apply dvd_gcdL.mpr
  intro y hy
  have h2:jt (ns.map (k * ·)) ∣ k * y:=jaH (List.mem_map.mpr ⟨y,hy,rfl⟩)
  rw [hm] at h2
  have h3:k * m ∣ k * y:=by
   rcases Int.natAbs_eq k with e | e
   ·rw [e]; rw [← e]; rw [← e] at h2; exact h2
   ·have e':(k.natAbs:Int) = -k:=by omega
    rw [e',Int.neg_mul] at h2
    exact Int.neg_dvd.mp h2
  exact Int.dvd_of_mul_dvd_mul_left hk h3
 ·apply dvd_gcdL.mpr
  intro x hx
  obtain ⟨y,hy,rfl⟩:=List.mem_map.mp hx
  exact Int.mul_dvd_mul (Int.natAbs_dvd.mpr (Int.dvd_refl k)) (jaH hy)
end Mt
set_option linter.all false
namespace Mt
structure Pot (C a' r' a r:Int):Prop where
 h:(a.natAbs:Int) * r'.natAbs + a'.natAbs * r.natAbs ≤ C
 s:r = 0 ∨ (0 < r∧0 ≤ r') ∨ (r < 0∧r' ≤ 0)
theorem juu {r' r:Int} (hr:r ≠ 0) (s:(0 < r∧0 ≤ r') ∨ (r < 0∧r' ≤ 0)):0 ≤ r'.fdiv r∧(r'.natAbs:Int) = r'.fdiv r * r.natAbs + (r'.fmod r).natAbs∧((0 < r∧0 ≤ r'.fmod r) ∨ (r < 0∧r'.fmod r ≤ 0)):=by
 have e:=jbH r' r
 have lt:=jeA (a:=r') hr
 rcases s with ⟨h1,h2⟩ | ⟨h1,h2⟩
 ·have h3:0 ≤ r'.fmod r:=Int.fmod_nonneg_of_pos r' h1
  have h4:0 ≤ r'.fdiv r:=Int.fdiv_nonneg h2 (Int.le_of_lt h1)
  refine ⟨h4,?_,.inl ⟨h1,h3⟩⟩
  rw [Int.natAbs_of_nonneg h2,Int.natAbs_of_nonneg (Int.le_of_lt h1),Int.natAbs_of_nonneg h3,e,Int.mul_comm]
  omega
 ·have h3:r'.fmod r ≤ 0:=by
   have q:=Int.fmod_nonneg_of_pos (-r') (show 0 < -r by omega)
   rw [Int.neg_fmod_neg] at q
   omega
  have h4:0 ≤ r'.fdiv r:=by
   have q:=Int.fdiv_nonneg (show 0 ≤ -r' by omega) (show 0 ≤ -r by omega)
   rw [Int.neg_fdiv_neg] at q
   exact q
  refine ⟨h4,?_,.inr ⟨h1,h3⟩⟩
  have e1:(r'.natAbs:Int) = -r':=by omega
  have e2:(r.natAbs:Int) = -r:=by omega
  have e3:((r'.fmod r).natAbs:Int) = -(r'.fmod r):=by omega
  rw [e1,e2,e3,e,Int.mul_neg,Int.mul_comm]
  omega
theorem jtO {r' r:Int} (hr:r ≠ 0):(0 < r∧0 ≤ r'.fmod r) ∨ (r < 0∧r'.fmod r ≤ 0):=by
 rcases Int.lt_or_gt_of_ne hr with h | h
 ·have q:=Int.fmod_nonneg_of_pos (-r') (show 0 < -r by omega)
  rw [Int.neg_fmod_neg] at q
  exact .inr ⟨h,by omega⟩
 ·exact .inl ⟨h,Int.fmod_nonneg_of_pos r' h⟩
theorem Pot.step {C a' r' a r:Int} (p:Pot C a' r' a r) (hr:r ≠ 0):Pot C a r (a' - r'.fdiv r * a) (r'.fmod r):=by
 have s:=p.s.resolve_left hr
 obtain ⟨h1,h2,h3⟩:=juu hr s
 refine ⟨Int.le_trans ?_ p.h,?_⟩
 ·have h4:((a' - r'.fdiv r * a).natAbs:Int) ≤ a'.natAbs + r'.fdiv r * a.natAbs:=by
   have q:=Int.natAbs_sub_le a' (r'.fdiv r * a)
   rw [Int.natAbs_mul] at q
   have e:((r'.fdiv r).natAbs:Int) = r'.fdiv r:=Int.natAbs_of_nonneg h1
   have q':((a' - r'.fdiv r * a).natAbs:Int) ≤ (a'.natAbs:Int) + (r'.fdiv r).natAbs * a.natAbs:=by exact_mod_cast q
   rw [e] at q'
   exact q'
  have h5:((a' - r'.fdiv r * a).natAbs:Int) * r.natAbs ≤ (a'.natAbs + r'.fdiv r * a.natAbs) * r.natAbs:=Int.mul_le_mul_of_nonneg_right h4 (Int.natCast_nonneg _)
  rw [h2]
  grind
 ·rcases h3 with ⟨x,y⟩ | ⟨x,y⟩
  ·rcases Int.lt_or_eq_of_le y with z | z
   ·exact .inr (.inl ⟨z,by omega⟩)
   ·exact .inl z.symm
  ·rcases Int.lt_or_eq_of_le y with z | z
   ·exact .inr (.inr ⟨z,by omega⟩)
   ·exact .inl z
theorem Pot.first {r' r:Int} (hr:r ≠ 0) {a' a:Int} (h:a'.natAbs ≤ 1) (h':a.natAbs ≤ 1):Pot (r'.natAbs + 4 * r.natAbs) a r (a' - r'.fdiv r * a) (r'.fmod r):=by
 have lt:=jeA (a:=r') hr
 have e:=jbH r' r
 refine ⟨?_,?_⟩
 ·-- |q r| ≤ |r'| + |r|
  have h1:(r'.fdiv r * r).natAbs ≤ r'.natAbs + r.natAbs:=by
   have:r'.fdiv r * r = r' - r'.fmod r:=by rw [Int.mul_comm]; omega
   rw [this]
   have:=Int.natAbs_sub_le r' (r'.fmod r)
   omega
  have h2:((a' - r'.fdiv r * a) * r).natAbs ≤ r.natAbs + (r'.natAbs + r.natAbs):=by
   have e2:(a' - r'.fdiv r * a) * r = a' * r - a * (r'.fdiv r * r):=by grind
   rw [e2]
   have q:=Int.natAbs_sub_le (a' * r) (a * (r'.fdiv r * r))
   rw [Int.natAbs_mul,Int.natAbs_mul a] at q
   have q1:a'.natAbs * r.natAbs ≤ 1 * r.natAbs:=Nat.mul_le_mul_right _ h
   have q2:a.natAbs * (r'.fdiv r * r).natAbs ≤ 1 * (r'.fdiv r * r).natAbs:=Nat.mul_le_mul_right _ h'
   omega
  rw [Int.natAbs_mul] at h2
  have h3:a.natAbs * (r'.fmod r).natAbs ≤ 1 * (r'.fmod r).natAbs:=Nat.mul_le_mul_right _ h'
  have h4:(a' - r'.fdiv r * a).natAbs * r.natAbs + a.natAbs * (r'.fmod r).natAbs ≤ r'.natAbs + 4 * r.natAbs:=by omega
  exact_mod_cast h4
 ·rcases jtO (r':=r') hr with ⟨x,y⟩ | ⟨x,y⟩
  ·rcases Int.lt_or_eq_of_le y with z | z
   ·exact .inr (.inl ⟨z,by omega⟩)
   ·exact .inl z.symm
  ·rcases Int.lt_or_eq_of_le y with z | z
   ·exact .inr (.inr ⟨z,by omega⟩)
   ·exact .inl z
theorem Pot.a' {C a' r' a r:Int} (p:Pot C a' r' a r) (hr:r ≠ 0):(a'.natAbs:Int) ≤ C:=by
 have h:=p.h
 have h1:(a'.natAbs:Int) * 1 ≤ a'.natAbs * r.natAbs:=Int.mul_le_mul_of_nonneg_left (by omega) (Int.natCast_nonneg _)
 have h2:0 ≤ (a.natAbs:Int) * r'.natAbs:=Int.mul_nonneg (Int.natCast_nonneg _) (Int.natCast_nonneg _)
 omega
theorem Pot.a {C a' r' a r:Int} (p:Pot C a' r' a r) (hr:r' ≠ 0):(a.natAbs:Int) ≤ C:=by
 have h:=p.h
 have h1:(a.natAbs:Int) * 1 ≤ a.natAbs * r'.natAbs:=Int.mul_le_mul_of_nonneg_left (by omega) (Int.natCast_nonneg _)
 have h2:0 ≤ (a'.natAbs:Int) * r.natAbs:=Int.mul_nonneg (Int.natCast_nonneg _) (Int.natCast_nonneg _)
 omega
end Mt
set_option maxHeartbeats 4000000
namespace My
open PySem PySem.Spec PyProof.Rows L2 D3
abbrev zA:R3:=dI0 fun i j=>.int (i + j)
abbrev zS:R3:=dI0 fun i j=>.int (i - j)
abbrev zM:R3:=dI IntMulOk fun i j=>.int (i * j)
abbrev zD:R3:=dI CD fun i j=>.int (i.fdiv j)
abbrev zR:R3:=dI (fun _ j=>j ≠ 0) fun i j=>.int (i.fmod j)
open Mt
structure Q4 where
 a:Int
 b:Int
 c:Int
 d:Int
def qd (q:Q4):D:=.tup [.int q.a,.int q.b,.int q.c,.int q.d]
def jbj (p q:Q4):Q4:=⟨p.a * q.a - p.b * q.b - p.c * q.c - p.d * q.d,p.a * q.b + p.b * q.a + p.c * q.d - p.d * q.c,p.a * q.c - p.b * q.d + p.c * q.a + p.d * q.b,p.a * q.d + p.b * q.c - p.c * q.b + p.d * q.a⟩
def jeM (q:Q4):Q4:=⟨q.a,-q.b,-q.c,-q.d⟩
def jac (q:Q4):Int:=q.a * q.a + q.b * q.b + q.c * q.c + q.d * q.d
structure Bq (k:Nat) (q:Q4):Prop where
 a:Bd k q.a
 b:Bd k q.b
 c:Bd k q.c
 d:Bd k q.d
theorem Bq.mono {k l:Nat} {q:Q4} (h:Bq k q) (hl:k ≤ l):Bq l q:=⟨h.a.mono hl,h.b.mono hl,h.c.mono hl,h.d.mono hl⟩
theorem Bq.mul {k l:Nat} {p q:Q4} (h:Bq k p) (g:Bq l q):Bq (k + l + 3) (jbj p q):=by
 have e:∀ {x y z w:Int},Bd (k + l) x->Bd (k + l) y->Bd (k + l) z->Bd (k + l) w->Bd (k + l + 3) (x - y - z - w):=fun hx hy hz hw=>by
  have:=((hx.sub hy).sub hz).sub hw
  exact this.mono (by omega)
 have f:∀ {x y z w:Int},Bd (k + l) x->Bd (k + l) y->Bd (k + l) z->Bd (k + l) w->Bd (k + l + 3) (x + y + z - w):=fun hx hy hz hw=>by
  have:=((hx.add hy).add hz).sub hw
  exact this.mono (by omega)
 have f2:∀ {x y z w:Int},Bd (k + l) x->Bd (k + l) y->Bd (k + l) z->Bd (k + l) w->Bd (k + l + 3) (x - y + z + w):=fun hx hy hz hw=>by
  have:=((hx.sub hy).add hz).add hw
  exact this.mono (by omega)
 have f3:∀ {x y z w:Int},Bd (k + l) x->Bd (k + l) y->Bd (k + l) z->Bd (k + l) w->Bd (k + l + 3) (x + y - z + w):=fun hx hy hz hw=>by
  have:=((hx.add hy).sub hz).add hw
  exact this.mono (by omega)
 exact ⟨e (h.a.mul g.a) (h.b.mul g.b) (h.c.mul g.c) (h.d.mul g.d),f (h.a.mul g.b) (h.b.mul g.a) (h.c.mul g.d) (h.d.mul g.c),f2 (h.a.mul g.c) (h.b.mul g.d) (h.c.mul g.a) (h.d.mul g.b),f3 (h.a.mul g.d) (h.b.mul g.c) (h.c.mul g.b) (h.d.mul g.a)⟩
theorem Bq.bar {k:Nat} {q:Q4} (h:Bq k q):Bq k (jeM q):=⟨h.a,h.b.neg,h.c.neg,h.d.neg⟩
structure P3 where
 x:Int
 y:Int
 z:Int
def pt (p:P3):D:=.tup [.int p.x,.int p.y,.int p.z]
structure Bp (k:Nat) (p:P3):Prop where
 x:Bd k p.x
 y:Bd k p.y
 z:Bd k p.z
theorem Bp.mono {k l:Nat} {q:P3} (h:Bp k q) (hl:k ≤ l):Bp l q:=⟨h.x.mono hl,h.y.mono hl,h.z.mono hl⟩
def jP (t:Int) (p:P3) (u:Int) (q:P3):P3:=⟨t * p.x + u * q.x,t * p.y + u * q.y,t * p.z + u * q.z⟩
def jx0 (t:Int) (p:Q4) (u:Int) (q:Q4):Q4:=⟨t * p.a + u * q.a,t * p.b + u * q.b,t * p.c + u * q.c,t * p.d + u * q.d⟩
theorem jkh {g:G3} {tb:S3} {d:D} {ds:List D} {Φ:F3->Prop} {ρ:jL} (h:g d ρ fun ρ1=>tb (jop (FOR g tb ds) Φ) ρ1):FOR g tb (d :: ds) Φ ρ:=h
theorem jxU {g:G3} {tb:S3} {Φ:F3->Prop} {ρ:jL} (h:Φ (.nx ρ)):FOR g tb [] Φ ρ:=h
theorem jwk (n d k:Nat):HT.sIx n d (some (k:Int)) = min k n:=by
 show (if (k:Int) < 0 then ((k:Int) + (n:Int)).toNat else min (k:Int).toNat n) = min k n
 rw [if_neg (by omega),Int.toNat_natCast]
theorem jv3 {α β:Type} (f:α->β) (xs:List α) (lo hi:Option Int):D3.jhA (xs.map f) lo hi = (D3.jhA xs lo hi).map f:=by
 unfold D3.jhA; rw [List.length_map,List.map_take,List.map_drop]
theorem Q4.eq {p q:Q4} (ha:p.a = q.a) (hb:p.b = q.b) (hc:p.c = q.c) (hd:p.d = q.d):p = q:=by
 cases p; cases q; simp only at ha hb hc hd; subst ha hb hc hd; rfl
theorem jup (p q:Q4):jac (jbj p q) = jac p * jac q:=by
 simp only [jbj,jac]; grind
def q1:Q4:=⟨1,0,0,0⟩
def jAQ (p q:Q4):Q4:=⟨p.a + q.a,p.b + q.b,p.c + q.c,p.d + q.d⟩
theorem Bq.add {k l:Nat} {p q:Q4} (h:Bq k p) (g:Bq l q):Bq (max k l + 1) (jAQ p q):=⟨h.a.add g.a,h.b.add g.b,h.c.add g.c,h.d.add g.d⟩
def ql (q:Q4):List Int:=[q.a,q.b,q.c,q.d]
def q0:Q4:=⟨0,0,0,0⟩
def low (q:Q4):Bool:=HT.lexLt (ql q) [0,0,0,0]
def shr (q:Q4):Int:=if low q then -jt (ql q) else jt (ql q)
def jI (q:Q4):Q4:=⟨q.a.fdiv (shr q),q.b.fdiv (shr q),q.c.fdiv (shr q),q.d.fdiv (shr q)⟩
theorem jgn {q:Q4} (h:jt (ql q) = 0):q = q0:=by
 have h:=jnn h
 have a:=h q.a (by simp [ql]); have b:=h q.b (by simp [ql]); have c:=h q.c (by simp [ql]); have d:=h q.d (by simp [ql])
 cases q; simp only at a b c d; subst a b c d; rfl
theorem jly {k:Nat} {q:Q4} (h:Bq k q):Bd k (jt (ql q)):=by
 by_cases hz:jt (ql q) = 0
 ·rw [hz]; unfold Bd; exact Nat.pow_pos (by decide)
 ·have hx:∃ x ∈ ql q,x ≠ 0:=by
   apply Classical.byContradiction
   intro hno
   apply hz
   refine jjZ (by decide) (fun x hx=>?_) (fun d _=>Int.dvd_zero d)
   have:x = 0:=Classical.byContradiction fun z=>hno ⟨x,hx,z⟩
   rw [this]; exact Int.dvd_refl 0
  obtain ⟨x,hx,x0⟩:=hx
  have le:=jrw hx x0
  have nn:=jay (ql q)
  have bx:Bd k x:=by
   simp only [ql,List.mem_cons,List.not_mem_nil,or_false] at hx
   rcases hx with rfl | rfl | rfl | rfl
   ·exact h.a
   ·exact h.b
   ·exact h.c
   ·exact h.d
  unfold Bd at *
  omega
theorem jc8 {q:Q4} (h:q ≠ q0):shr q ≠ 0:=by
 have:jt (ql q) ≠ 0:=fun z=>h (jgn z)
 unfold shr; split <;> omega
theorem jt0 {k:Nat} {q:Q4} (h:Bq k q):Bd k (shr q):=by
 unfold shr; split
 ·exact (jly h).neg
 ·exact jly h
instance:DecidableEq Q4:=fun p q=>if h:p.a = q.a∧p.b = q.b∧p.c = q.c∧p.d = q.d then .isTrue (by cases p; cases q; simp only at h; obtain ⟨h1,h2,h3,h4⟩:=h; subst h1 h2 h3 h4; rfl) else .isFalse fun e=>h (by subst e; exact ⟨rfl,rfl,rfl,rfl⟩)
def jbb (q:Q4):Int:=if q.a = 0 then if q.b = 0 then if q.c = 0 then q.d else q.c else q.b else q.a
theorem jeN (q:Q4):low q = decide (jbb q < 0):=by
 unfold low jbb ql
 simp only [HT.lexLt]
 split
 ·split
  ·split
   ·split
    ·rename_i h; rw [h]; rfl
    ·rfl
   ·rfl
  ·rfl
 ·rfl
def qsc (s:Int) (p:Q4):Q4:=⟨s * p.a,s * p.b,s * p.c,s * p.d⟩
theorem jv9 (s:Int) (p:Q4):ql (qsc s p) = (ql p).map (s * ·):=rfl
theorem jy3 (s t:Int) (p:Q4):qsc s (qsc t p) = qsc (s * t) p:=by simp only [qsc,Int.mul_assoc]
theorem jm0 {s:Int} (hs:s ≠ 0) (p:Q4):jbb (qsc s p) = s * jbb p:=by
 unfold jbb qsc
 simp only [Int.mul_eq_zero,hs,false_or]
 split
 ·split
  ·split <;> rfl
  ·rfl
 ·rfl
theorem jnZ {q:Q4} (h:jbb q = 0):q = q0:=by
 unfold jbb at h
 cases q with | mk a b c d =>
 simp only at h
 split at h
 ·split at h
  ·split at h
   ·rename_i h1 h2 h3; subst h1 h2 h3 h; rfl
   ·contradiction
  ·contradiction
 ·contradiction
structure IsPlain (p:Q4):Prop where
 g:jt (ql p) = 1
 l:0 < jbb p
theorem IsPlain.ne {p:Q4} (h:IsPlain p):p ≠ q0:=by
 rintro rfl; exact absurd h.l (by decide)
theorem jiI {s:Int} {p:Q4} (hs:s ≠ 0) (h:IsPlain p):jI (qsc s p) = p:=by
 have e:shr (qsc s p) = s:=by
  unfold shr
  rw [jeN,jm0 hs,jv9,je6,h.g,Int.mul_one]
  rcases Int.lt_or_gt_of_ne hs with q | q
  ·have:s * jbb p < 0:=Int.mul_neg_of_neg_of_pos q h.l
   rw [if_pos (decide_eq_true this)]; omega
  ·have:0 < s * jbb p:=Int.mul_pos q h.l
   rw [if_neg (by rw [decide_eq_true_eq]; omega)]; omega
 unfold jI
 rw [e]
 simp only [qsc,Int.mul_fdiv_cancel_left _ hs]
theorem jcK {q:Q4} (h:q ≠ q0):q = qsc (shr q) (jI q):=by
 have hd:∀ x ∈ ql q,shr q ∣ x:=fun x hx=>by
  have:=jaH hx
  unfold shr; split
  ·exact Int.neg_dvd.mpr this
  ·exact this
 have e:∀ x ∈ ql q,shr q * x.fdiv (shr q) = x:=fun x hx=>Int.mul_fdiv_cancel' (hd x hx)
 have a:=e q.a (by simp [ql]); have b:=e q.b (by simp [ql]); have c:=e q.c (by simp [ql]); have d:=e q.d (by simp [ql])
 unfold jI qsc
 cases q
 simp only at a b c d ⊢
 rw [a,b,c,d]
theorem jxS (q:Q4):((shr q).natAbs:Int) = jt (ql q):=by
 have:=jay (ql q)
 unfold shr; split <;> omega
theorem jca {q:Q4} (h:q ≠ q0):IsPlain (jI q):=by
 have e:=jcK h
 have hs:=jc8 h
 constructor
 ·have g:=jxS q
  have:jt (ql q) = (shr q).natAbs * jt (ql (jI q)):=by
   have e2:jt (ql q) = jt (ql (qsc (shr q) (jI q))):=by rw [← e]
   rw [e2,jv9,je6]
  rw [← g] at this
  have h0:((shr q).natAbs:Int) ≠ 0:=by omega
  have h1:((shr q).natAbs:Int) * 1 = (shr q).natAbs * jt (ql (jI q)):=by rw [Int.mul_one]; exact this
  exact (Int.eq_of_mul_eq_mul_left h0 h1).symm
 ·have l:jbb q = shr q * jbb (jI q):=by
   have e2:jbb q = jbb (qsc (shr q) (jI q)):=by rw [← e]
   rw [e2,jm0 hs]
  have g:=jay (ql q)
  have l0:jbb q ≠ 0:=fun z=>h (jnZ z)
  have lp0:jbb (jI q) ≠ 0:=fun z=>l0 (by rw [l,z,Int.mul_zero])
  rcases Int.lt_or_gt_of_ne lp0 with z | z
  ·exfalso
   by_cases hl:jbb q < 0
   ·have es:shr q = -jt (ql q):=by unfold shr; rw [jeN,if_pos (decide_eq_true hl)]
    have:0 ≤ shr q * jbb (jI q):=Int.mul_nonneg_of_nonpos_of_nonpos (by omega) (by omega)
    omega
   ·have es:shr q = jt (ql q):=by unfold shr; rw [jeN,if_neg (by rw [decide_eq_true_eq]; exact hl)]
    have:shr q * jbb (jI q) ≤ 0:=Int.mul_nonpos_of_nonneg_of_nonpos (by omega) (by omega)
    omega
  ·exact z
theorem jnw {s:Int} {q:Q4} (hs:s ≠ 0) (h:q ≠ q0):jI (qsc s q) = jI q:=by
 rw [jcK h,jy3,jiI (Int.mul_ne_zero hs (jc8 h)) (jca h),jiI (jc8 h) (jca h)]
theorem jeo {k:Nat} {x y:Int} (h:Bd k x) (le:y.natAbs ≤ x.natAbs):Bd k y:=Nat.lt_of_le_of_lt le h
theorem jdx {k:Nat} {q:Q4} (h:Bq k q) (h0:q ≠ q0):Bq k (jI q):=by
 have e:=jcK h0
 have hs:=jc8 h0
 have le:∀ x y:Int,x = shr q * y->y.natAbs ≤ x.natAbs:=fun x y z=>by
  rw [z,Int.natAbs_mul]
  exact Nat.le_mul_of_pos_left _ (by omega)
 generalize jI q = p at *
 generalize shr q = s at *
 subst e
 exact ⟨jeo h.a (le _ _ rfl),jeo h.b (le _ _ rfl),jeo h.c (le _ _ rfl),jeo h.d (le _ _ rfl)⟩
structure T9 where
 p:P3
 q:P3
 r:P3
 n:Int
def tl (t:T9):List Int:=[t.p.x,t.p.y,t.p.z,t.q.x,t.q.y,t.q.z,t.r.x,t.r.y,t.r.z,t.n]
def tr (t:T9):D:=.tup [pt t.p,pt t.q,pt t.r]
def tb (t:T9):D:=.tup [tr t,.int t.n]
structure Bt (k:Nat) (t:T9):Prop where
 p:Bp k t.p
 q:Bp k t.q
 r:Bp k t.r
 n:Bd k t.n
theorem Bt.mono {k l:Nat} {t:T9} (h:Bt k t) (hl:k ≤ l):Bt l t:=⟨h.p.mono hl,h.q.mono hl,h.r.mono hl,h.n.mono hl⟩
theorem Bt.mem {k:Nat} {t:T9} (h:Bt k t):∀ x ∈ tl t,Bd k x:=by
 intro x hx
 simp only [tl,List.mem_cons,List.not_mem_nil,or_false] at hx
 rcases hx with rfl | rfl | rfl | rfl | rfl | rfl | rfl | rfl | rfl | rfl
 ·exact h.p.x
 ·exact h.p.y
 ·exact h.p.z
 ·exact h.q.x
 ·exact h.q.y
 ·exact h.q.z
 ·exact h.r.x
 ·exact h.r.y
 ·exact h.r.z
 ·exact h.n
def ja6 (q:Q4):T9:=⟨⟨q.a * q.a + q.b * q.b - q.c * q.c - q.d * q.d,2 * (q.b * q.c - q.a * q.d),2 * (q.b * q.d + q.a * q.c)⟩,
 ⟨2 * (q.b * q.c + q.a * q.d),q.a * q.a - q.b * q.b + q.c * q.c - q.d * q.d,2 * (q.c * q.d - q.a * q.b)⟩,
 ⟨2 * (q.b * q.d - q.a * q.c),2 * (q.c * q.d + q.a * q.b),q.a * q.a - q.b * q.b - q.c * q.c + q.d * q.d⟩,q.a * q.a + q.b * q.b + q.c * q.c + q.d * q.d⟩
def jov (p:P3) (g:Int):P3:=⟨p.x.fdiv g,p.y.fdiv g,p.z.fdiv g⟩
def juN (t:T9) (g:Int):T9:=⟨jov t.p g,jov t.q g,jov t.r g,t.n.fdiv g⟩
def jbv (t:T9):T9:=juN t (jt (tl t))
def jD (q:Q4):T9:=jbv (ja6 q)
theorem jqw {k:Nat} {x:Int} (h:Bd k x):Bd (k + 2) (2 * x):=by
 have:=(show Bd 2 (2:Int) from jeW (by decide)).mul h
 exact this.mono (by omega)
theorem jzH {k:Nat} {x y z w:Int} (hx:Bd k x) (hy:Bd k y) (hz:Bd k z) (hw:Bd k w):Bd (k + 3) (x + y - z - w)∧Bd (k + 3) (x - y + z - w)∧Bd (k + 3) (x - y - z + w)∧Bd (k + 3) (x + y + z + w) :=
 ⟨(((hx.add hy).sub hz).sub hw).mono (by omega),(((hx.sub hy).add hz).sub hw).mono (by omega),(((hx.sub hy).sub hz).add hw).mono (by omega),(((hx.add hy).add hz).add hw).mono (by omega)⟩
theorem jrA {k:Nat} {q:Q4} (h:Bq k q):Bt (2 * k + 3) (ja6 q):=by
 have s:∀ {x y:Int},Bd k x->Bd k y->Bd (2 * k) (x * y):=fun hx hy=>(hx.mul hy).mono (by omega)
 obtain ⟨p1,p2,p3,p4⟩:=jzH (s h.a h.a) (s h.b h.b) (s h.c h.c) (s h.d h.d)
 have d:∀ {x y:Int},Bd (2 * k) x->Bd (2 * k) y->Bd (2 * k + 3) (2 * (x - y))∧Bd (2 * k + 3) (2 * (x + y)):=fun hx hy =>
  ⟨(jqw (hx.sub hy)).mono (by omega),(jqw (hx.add hy)).mono (by omega)⟩
 exact ⟨⟨p1,(d (s h.b h.c) (s h.a h.d)).1,(d (s h.b h.d) (s h.a h.c)).2⟩,⟨(d (s h.b h.c) (s h.a h.d)).2,p2,(d (s h.c h.d) (s h.a h.b)).1⟩,⟨(d (s h.b h.d) (s h.a h.c)).1,(d (s h.c h.d) (s h.a h.b)).2,p3⟩,p4⟩
theorem jen (x:Int):0 ≤ x * x:=by
 rcases Int.le_total 0 x with h | h
 ·exact Int.mul_nonneg h h
 ·exact Int.mul_nonneg_of_nonpos_of_nonpos h h
theorem ju6 (q:Q4):0 ≤ jac q:=by
 have:=jen q.a; have:=jen q.b; have:=jen q.c; have:=jen q.d
 unfold jac; omega
theorem jgv {x:Int} (h:x * x = 0):x = 0:=by
 rcases Int.mul_eq_zero.mp h with z | z <;> exact z
theorem jsQ {q:Q4} (h:jac q = 0):q = q0:=by
 have a:=jen q.a; have b:=jen q.b; have c:=jen q.c; have d:=jen q.d
 unfold jac at h
 have a0:=jgv (show q.a * q.a = 0 by omega); have b0:=jgv (show q.b * q.b = 0 by omega)
 have c0:=jgv (show q.c * q.c = 0 by omega); have d0:=jgv (show q.d * q.d = 0 by omega)
 cases q; simp only at a0 b0 c0 d0; subst a0 b0 c0 d0; rfl
theorem jdW {q:Q4} (h:q ≠ q0):0 < jac q:=by
 have:=ju6 q
 have:jac q ≠ 0:=fun z=>h (jsQ z)
 omega
theorem jui (q:Q4):(ja6 q).n = jac q:=rfl
theorem jxR {k:Nat} {t:T9} (h0:t.n ≠ 0) (h:Bt k t):0 < jt (tl t)∧Bd k (jt (tl t)):=by
 have hm:t.n ∈ tl t:=by simp [tl]
 have p:=jpO hm h0
 refine ⟨p,?_⟩
 have le:=jrw hm h0
 have b:=h.n
 unfold Bd at *
 omega
theorem jun {g x:Int} (hg:0 < g) (h:g ∣ x):(x.fdiv g).natAbs ≤ x.natAbs:=by
 have e:g * x.fdiv g = x:=Int.mul_fdiv_cancel' h
 have:x.natAbs = g.natAbs * (x.fdiv g).natAbs:=by rw [← Int.natAbs_mul,e]
 rw [this]
 exact Nat.le_mul_of_pos_left _ (by omega)
theorem jxI {ms:List Int} (h:∀ x ∈ ms,jt ms ∣ x):(ms.map (·.fdiv (jt ms))).map (jt ms * ·) = ms:=by
 rw [List.map_map]
 conv=>rhs; rw [← List.map_id ms]
 exact List.map_congr_left fun x hx=>Int.mul_fdiv_cancel' (h x hx)
theorem juI {ms:List Int} (h0:jt ms ≠ 0):jt (ms.map (·.fdiv (jt ms))) = 1:=by
 have e:=je6 (jt ms) (ms.map (·.fdiv (jt ms)))
 rw [jxI fun x hx=>jaH hx,Int.natAbs_of_nonneg (jay ms)] at e
 have e2:jt ms * 1 = jt ms * jt (ms.map (·.fdiv (jt ms))):=by rw [Int.mul_one]; exact e
 exact (Int.eq_of_mul_eq_mul_left h0 e2).symm
structure jAX (t:T9):Prop where
 g:0 < jt (tl t)
 n:0 < (jbv t).n
 one:jt (tl (jbv t)) = 1
 px:jt (tl t) * (jbv t).p.x = t.p.x
 py:jt (tl t) * (jbv t).p.y = t.p.y
 pz:jt (tl t) * (jbv t).p.z = t.p.z
 qx:jt (tl t) * (jbv t).q.x = t.q.x
 qy:jt (tl t) * (jbv t).q.y = t.q.y
 qz:jt (tl t) * (jbv t).q.z = t.q.z
 rx:jt (tl t) * (jbv t).r.x = t.r.x
 ry:jt (tl t) * (jbv t).r.y = t.r.y
 rz:jt (tl t) * (jbv t).r.z = t.r.z
 nn:jt (tl t) * (jbv t).n = t.n
theorem jmg {t:T9} (h:0 < t.n):jAX t:=by
 have hm:t.n ∈ tl t:=by simp [tl]
 have g:=jpO hm (by omega)
 have e:∀ x ∈ tl t,jt (tl t) * x.fdiv (jt (tl t)) = x:=fun x hx=>Int.mul_fdiv_cancel' (jaH hx)
 have en:=e t.n hm
 refine ⟨g,?_,(show jt ((tl t).map (·.fdiv (jt (tl t)))) = 1 from juI (by omega)),e _ (by simp [tl]),e _ (by simp [tl]),e _ (by simp [tl]),e _ (by simp [tl]),e _ (by simp [tl]),e _ (by simp [tl]),e _ (by simp [tl]),e _ (by simp [tl]),e _ (by simp [tl]),en⟩
 have:(jbv t).n = t.n.fdiv (jt (tl t)):=rfl
 rw [this]
 rcases Int.lt_or_le 0 (t.n.fdiv (jt (tl t))) with z | z
 ·exact z
 ·have:=Int.mul_nonpos_of_nonneg_of_nonpos (Int.le_of_lt g) z
  omega
theorem jxu {k:Nat} {t:T9} (h:0 < t.n) (bt:Bt k t):Bt k (jbv t):=by
 have l:=jmg h
 have b:∀ x ∈ tl t,Bd k (x.fdiv (jt (tl t))):=fun x hx=>jeo (bt.mem x hx) (jun l.g (jaH hx))
 exact ⟨⟨b _ (by simp [tl]),b _ (by simp [tl]),b _ (by simp [tl])⟩,⟨b _ (by simp [tl]),b _ (by simp [tl]),b _ (by simp [tl])⟩,⟨b _ (by simp [tl]),b _ (by simp [tl]),b _ (by simp [tl])⟩,b _ (by simp [tl])⟩
theorem jkk {q:Q4} (h:q ≠ q0):0 < (ja6 q).n:=by rw [jui]; exact jdW h
theorem jks {k:Nat} {q:Q4} (h:q ≠ q0) (b:Bq k q):Bt (2 * k + 3) (jD q):=jxu (jkk h) (jrA b)
def jwm (q:Q4) (g:Int):Q4:=⟨q.a.fdiv g,q.b.fdiv g,q.c.fdiv g,q.d.fdiv g⟩
def jdo (q:Q4):Q4:=jwm q (jt (ql q))
theorem ju2 (q:Q4):q = qsc (jt (ql q)) (jdo q):=by
 have e:∀ x ∈ ql q,jt (ql q) * x.fdiv (jt (ql q)) = x:=fun x hx=>Int.mul_fdiv_cancel' (jaH hx)
 have a:=e q.a (by simp [ql]); have b:=e q.b (by simp [ql]); have c:=e q.c (by simp [ql]); have d:=e q.d (by simp [ql])
 unfold jdo jwm qsc
 cases q
 simp only at a b c d ⊢
 rw [a,b,c,d]
theorem jxn {k:Nat} {q:Q4} (h:q ≠ q0) (b:Bq k q):Bq k (jdo q):=by
 have g:0 < jt (ql q):=by
  have:=jay (ql q)
  have:jt (ql q) ≠ 0:=fun z=>h (jgn z)
  omega
 have l:∀ x ∈ ql q,(x.fdiv (jt (ql q))).natAbs ≤ x.natAbs:=fun x hx=>jun g (jaH hx)
 exact ⟨jeo b.a (l _ (by simp [ql])),jeo b.b (l _ (by simp [ql])),jeo b.c (l _ (by simp [ql])),jeo b.d (l _ (by simp [ql]))⟩
def jX (p q:P3):Int:=p.x * q.x + p.y * q.y + p.z * q.z
def ja4 (t:T9) (p:P3):Q4:=⟨jX t.p p,jX t.q p,jX t.r p,t.n⟩
theorem jrG {t:T9} {p:P3} (h:t.n ≠ 0):ja4 t p ≠ q0:=fun z=>h (congrArg Q4.d z)
theorem jp4 {k:Nat} {p q:P3} (h:Bp k p) (g:Bp k q):Bd (2 * k + 2) (jX p q):=(((h.x.mul g.x).add (h.y.mul g.y)).add (h.z.mul g.z)).mono (by omega)
theorem jra {k:Nat} {t:T9} {p:P3} (h:Bt k t) (g:Bp k p):Bq (2 * k + 2) (ja4 t p):=⟨jp4 h.p g,jp4 h.q g,jp4 h.r g,h.n.mono (by omega)⟩
instance:DecidableEq P3:=fun p q=>if h:p.x = q.x∧p.y = q.y∧p.z = q.z then .isTrue (by cases p; cases q; simp only at h; obtain ⟨h1,h2,h3⟩:=h; subst h1 h2 h3; rfl) else .isFalse fun e=>h (by subst e; exact ⟨rfl,rfl,rfl⟩)
theorem P3.eq {p q:P3} (hx:p.x = q.x) (hy:p.y = q.y) (hz:p.z = q.z):p = q:=by
 cases p; cases q; simp only at hx hy hz; subst hx hy hz; rfl
def jv2 (o:Int) (s r:P3):P3:=jP 1 r (-o) s
def o1 (u p:P3):Int:=p.x.fdiv u.x
def r1 (u p:P3):P3:=jv2 (o1 u p) u p
def o2 (u v p:P3):Int:=(r1 u p).y.fdiv v.y
def r2 (u v p:P3):P3:=jv2 (o2 u v p) v (r1 u p)
def o3 (u v w p:P3):Int:=(r2 u v p).z.fdiv w.z
def r3 (u v w p:P3):P3:=jv2 (o3 u v w p) w (r2 u v p)
def det (p q r:P3):Int:=p.x * (q.y * r.z - q.z * r.y) - p.y * (q.x * r.z - q.z * r.x) + p.z * (q.x * r.y - q.y * r.x)
structure jcr (t:T9):Prop where
 n:1 ≤ t.n
 g:jt (tl t) = 1
 pp:jX t.p t.p = t.n * t.n
 pq:jX t.p t.q = 0
 pr:jX t.p t.r = 0
 qp:jX t.q t.p = 0
 qq:jX t.q t.q = t.n * t.n
 qr:jX t.q t.r = 0
 rp:jX t.r t.p = 0
 rq:jX t.r t.q = 0
 rr:jX t.r t.r = t.n * t.n
 d:det t.p t.q t.r = t.n * t.n * t.n
def tsc (s:Int) (t:T9):T9:=⟨⟨s * t.p.x,s * t.p.y,s * t.p.z⟩,⟨s * t.q.x,s * t.q.y,s * t.q.z⟩,⟨s * t.r.x,s * t.r.y,s * t.r.z⟩,s * t.n⟩
theorem jz4 (s:Int) (t:T9):tl (tsc s t) = (tl t).map (s * ·):=rfl
theorem jxi (s:Int) (q:Q4):ja6 (qsc s q) = tsc (s * s) (ja6 q):=by
 simp only [ja6,qsc,tsc,T9.mk.injEq,P3.mk.injEq]
 refine ⟨⟨?_,?_,?_⟩,⟨?_,?_,?_⟩,⟨?_,?_,?_⟩,?_⟩ <;> grind
theorem T9.eq {t u:T9} (hp:t.p = u.p) (hq:t.q = u.q) (hr:t.r = u.r) (hn:t.n = u.n):t = u:=by
 cases t; cases u; simp only at hp hq hr hn; subst hp hq hr hn; rfl
theorem jwT {s:Int} (hs:0 < s) (t:T9) (ht:0 < jt (tl t)):jbv (tsc s t) = jbv t:=by
 have g:jt (tl (tsc s t)) = s * jt (tl t):=by rw [jz4,je6,Int.natAbs_of_nonneg (Int.le_of_lt hs)]
 have e:∀ x:Int,(s * x).fdiv (s * jt (tl t)) = x.fdiv (jt (tl t)):=fun x=>by
  rw [Int.mul_fdiv_mul_of_pos _ _ hs]
 unfold jbv juN jov
 rw [g]
 simp only [tsc,e]
theorem jpb {s:Int} {q:Q4} (hs:s ≠ 0) (h0:q ≠ q0):jD (qsc s q) = jD q:=by
 have:0 < s * s:=by
  have:=jen s
  have:s * s ≠ 0:=fun z=>hs (jgv z)
  omega
 unfold jD
 rw [jxi,jwT this _ (jmg (jkk h0)).g]
theorem jtT {s:Int} {q:Q4} (hs:s ≠ 0) (h0:q ≠ q0):qsc s q ≠ q0:=fun z=>h0 (jnZ (by
 have:=jm0 hs q
 rw [z] at this
 have l0:jbb q0 = 0:=rfl
 rw [l0] at this
 rcases Int.mul_eq_zero.mp this.symm with w | w
 ·exact absurd w hs
 ·exact w))
def m1 (t:T9):Q4:=⟨t.n + t.p.x + t.q.y + t.r.z,t.r.y - t.q.z,t.p.z - t.r.x,t.q.x - t.p.y⟩
def m2 (t:T9):Q4:=⟨t.r.y - t.q.z,t.n + t.p.x - t.q.y - t.r.z,t.q.x + t.p.y,t.p.z + t.r.x⟩
def m3 (t:T9):Q4:=⟨t.p.z - t.r.x,t.q.x + t.p.y,t.n - t.p.x + t.q.y - t.r.z,t.r.y + t.q.z⟩
def m4 (t:T9):Q4:=⟨t.q.x - t.p.y,t.p.z + t.r.x,t.r.y + t.q.z,t.n - t.p.x - t.q.y + t.r.z⟩
theorem jwr {q:Q4} (h0:q ≠ q0):∃ g:Int,g ≠ 0∧qsc g (m1 (jD q)) = qsc (4 * q.a) q∧qsc g (m2 (jD q)) = qsc (4 * q.b) q∧qsc g (m3 (jD q)) = qsc (4 * q.c) q∧qsc g (m4 (jD q)) = qsc (4 * q.d) q:=by
 have l:=jmg (jkk h0)
 obtain ⟨hg,hn,one,px,py,pz,qx,qy,qz,rx,ry,rz,nn⟩:=l
 have en:jD q = jbv (ja6 q):=rfl
 rw [en]
 refine ⟨jt (tl (ja6 q)),Int.ne_of_gt hg,?_⟩
 generalize jt (tl (ja6 q)) = g at *
 generalize jbv (ja6 q) = t at *
 simp only [ja6] at px py pz qx qy qz rx ry rz nn
 clear en h0 one hn hg
 have c1:=Int.mul_comm q.b q.a; have c2:=Int.mul_comm q.c q.a; have c3:=Int.mul_comm q.d q.a; have c4:=Int.mul_comm q.c q.b; have c5:=Int.mul_comm q.d q.b; have c6:=Int.mul_comm q.d q.c
 refine ⟨?_,?_,?_,?_⟩ <;> apply Q4.eq <;> simp only [qsc,m1,m2,m3,m4,Int.mul_add,Int.mul_sub,Int.mul_assoc,px,py,pz,qx,qy,qz,rx,ry,rz,nn,c1,c2,c3,c4,c5,c6] <;> simp +arith only
theorem jzD (g:Int):qsc g q0 = q0:=by simp only [qsc,q0,Int.mul_zero]
theorem jz2 (q:Q4):qsc 0 q = q0:=by simp only [qsc,q0,Int.zero_mul]
theorem jet {m q:Q4} {g c:Int} (hg:g ≠ 0) (e:qsc g m = qsc c q) (hm:m ≠ q0) (hq:q ≠ q0):jI m = jI q:=by
 have hc:c ≠ 0:=fun z=>by
  rw [z,jz2] at e
  exact jtT hg hm e
 rw [← jnw hg hm,e,jnw hc hq]
theorem jxa {m q:Q4} {g c:Int} (e:qsc g m = qsc c q) (hc:c ≠ 0) (hq:q ≠ q0):m ≠ q0:=fun z=>by
 rw [z,jzD] at e
 exact jtT hc hq e.symm
theorem jud {q m:Q4} (h0:q ≠ q0) (h1:jac (m1 (jD q)) ≤ jac m) (h2:jac (m2 (jD q)) ≤ jac m) (h3:jac (m3 (jD q)) ≤ jac m) (h4:jac (m4 (jD q)) ≤ jac m):m ≠ q0:=fun z=>by
 have hm:jac m = 0:=by rw [z]; rfl
 obtain ⟨g,hg,e1,e2,e3,e4⟩:=jwr h0
 have k:∀ {m':Q4} {c:Int},qsc g m' = qsc (4 * c) q->jac m' ≤ jac m->c = 0:=fun {m' c} e h=>by
  by_cases hc:c = 0
  ·exact hc
  ·have:=jdW (jxa e (by omega) h0)
   omega
 exact h0 (Q4.eq (k e1 h1) (k e2 h2) (k e3 h3) (k e4 h4))
theorem jA3 {k:Nat} {t:T9} (h:Bt k t):Bq (k + 3) (m1 t)∧Bq (k + 3) (m2 t)∧Bq (k + 3) (m3 t)∧Bq (k + 3) (m4 t):=by
 have a:∀ {x y:Int},Bd k x->Bd k y->Bd (k + 3) (x + y):=fun hx hy=>(hx.add hy).mono (by omega)
 have b:∀ {x y:Int},Bd k x->Bd k y->Bd (k + 3) (x - y):=fun hx hy=>(hx.sub hy).mono (by omega)
 have c1:Bd (k + 3) (t.n + t.p.x + t.q.y + t.r.z):=(((h.n.add h.p.x).add h.q.y).add h.r.z).mono (by omega)
 have c2:Bd (k + 3) (t.n + t.p.x - t.q.y - t.r.z):=(((h.n.add h.p.x).sub h.q.y).sub h.r.z).mono (by omega)
 have c3:Bd (k + 3) (t.n - t.p.x + t.q.y - t.r.z):=(((h.n.sub h.p.x).add h.q.y).sub h.r.z).mono (by omega)
 have c4:Bd (k + 3) (t.n - t.p.x - t.q.y + t.r.z):=(((h.n.sub h.p.x).sub h.q.y).add h.r.z).mono (by omega)
 exact ⟨⟨c1,b h.r.y h.q.z,b h.p.z h.r.x,b h.q.x h.p.y⟩,⟨b h.r.y h.q.z,c2,a h.q.x h.p.y,a h.p.z h.r.x⟩,⟨b h.p.z h.r.x,a h.q.x h.p.y,c3,a h.r.y h.q.z⟩,⟨b h.q.x h.p.y,a h.p.z h.r.x,a h.r.y h.q.z,c4⟩⟩
theorem jjo {p q:Q4} (hp:p ≠ q0) (hq:q ≠ q0):jbj p q ≠ q0:=fun z=>by
 have e:=jup p q
 rw [z] at e
 have a:=jdW hp; have b:=jdW hq
 have c:=Int.mul_pos a b
 have:jac q0 = 0:=rfl
 omega
theorem jxl (s r:Int) (p q:Q4):jbj (qsc s p) (qsc r q) = qsc (s * r) (jbj p q):=by
 apply Q4.eq <;> simp only [jbj,qsc] <;> grind
theorem ju8 {p q:Q4} (hp:p ≠ q0) (hq:q ≠ q0):jD (jbj (jI p) (jI q)) = jD (jbj p q):=by
 have e:jbj p q = qsc (shr p * shr q) (jbj (jI p) (jI q)):=by
  rw [← jxl,← jcK hp,← jcK hq]
 rw [e,jpb (Int.mul_ne_zero (jc8 hp) (jc8 hq)) (jjo (jca hp).ne (jca hq).ne)]
def jQ (t:T9):T9:=⟨⟨t.p.x,t.q.x,t.r.x⟩,⟨t.p.y,t.q.y,t.r.y⟩,⟨t.p.z,t.q.z,t.r.z⟩,t.n⟩
theorem juO (q:Q4):ja6 (jeM q) = jQ (ja6 q):=by
 simp only [ja6,jeM,jQ,jac,Int.neg_mul,Int.mul_neg,Int.neg_neg,Int.sub_neg,← Int.sub_eq_add_neg]
theorem jxj (t:T9):jt (tl (jQ t)) = jt (tl t):=by
 refine jl0 fun d=>⟨fun h x hx=>h x ?_,fun h x hx=>h x ?_⟩
 ·simp only [tl,jQ,List.mem_cons,List.not_mem_nil,or_false] at hx ⊢
  rcases hx with h | h | h | h | h | h | h | h | h | h <;> simp [h]
 ·simp only [tl,jQ,List.mem_cons,List.not_mem_nil,or_false] at hx ⊢
  rcases hx with h | h | h | h | h | h | h | h | h | h <;> simp [h]
theorem jo4 (q:Q4):jQ (jD q) = jD (jeM q):=by
 unfold jD jbv
 rw [juO,jxj]
 rfl
theorem jmS {q:Q4} (h:q ≠ q0):jeM q ≠ q0:=fun z=>h (by
 have a:=congrArg Q4.a z; have b:=congrArg Q4.b z; have c:=congrArg Q4.c z; have d:=congrArg Q4.d z
 simp only [jeM,q0] at a b c d
 exact Q4.eq (by show q.a = 0; omega) (by show q.b = 0; omega) (by show q.c = 0; omega) (by show q.d = 0; omega))
def pl (p:P3):D:=.lst [.int p.x,.int p.y,.int p.z]
def Shr (t:T9) (p:P3):Prop:=t.n ∣ jX (jQ t).p p∧t.n ∣ jX (jQ t).q p∧t.n ∣ jX (jQ t).r p
instance (t:T9) (p:P3):Decidable (Shr t p):=inferInstanceAs (Decidable (_∧_))
theorem jtY {k:Nat} {t:T9} (h:Bt k t):Bt k (jQ t):=⟨⟨h.p.x,h.q.x,h.r.x⟩,⟨h.p.y,h.q.y,h.r.y⟩,⟨h.p.z,h.q.z,h.r.z⟩,h.n⟩
theorem juV {u:T9} {p:P3} (h:0 < u.n):(jdo (ja4 u p)).d = 1 ↔ u.n ∣ jX u.p p∧u.n ∣ jX u.q p∧u.n ∣ jX u.r p:=by
 have em:=ju2 (ja4 u p)
 have e1:jX u.p p = jt (ql (ja4 u p)) * (jdo (ja4 u p)).a:=congrArg Q4.a em
 have e2:jX u.q p = jt (ql (ja4 u p)) * (jdo (ja4 u p)).b:=congrArg Q4.b em
 have e3:jX u.r p = jt (ql (ja4 u p)) * (jdo (ja4 u p)).c:=congrArg Q4.c em
 have e4:u.n = jt (ql (ja4 u p)) * (jdo (ja4 u p)).d:=congrArg Q4.d em
 constructor
 ·intro z
  rw [z,Int.mul_one] at e4
  rw [← e4] at e1 e2 e3
  exact ⟨⟨_,e1⟩,⟨_,e2⟩,⟨_,e3⟩⟩
 ·rintro ⟨a,b,c⟩
  have g:u.n ∣ jt (ql (ja4 u p)):=dvd_gcdL.mpr fun x hx=>by
   simp only [ql,ja4,List.mem_cons,List.not_mem_nil,or_false] at hx
   rcases hx with rfl | rfl | rfl | rfl
   ·exact a
   ·exact b
   ·exact c
   ·exact Int.dvd_refl _
  have gn:=jay (ql (ja4 u p))
  generalize jt (ql (ja4 u p)) = k at *
  have e5:k = u.n:=Int.dvd_antisymm gn (by omega) ⟨_,e4⟩ g
  rw [e5] at e4
  exact (Int.eq_of_mul_eq_mul_left (by omega) (show u.n * 1 = _ by rw [Int.mul_one]; exact e4)).symm
structure Pr (p:Int):Prop where
 two:2 ≤ p
 only:∀ d:Int,0 < d->d ∣ p->d = 1 ∨ d = p
theorem jwl {n:Int} (h:2 ≤ n):∃ p,Pr p∧p ∣ n:=by
 have key:∀ (k:Nat) (n:Int),2 ≤ n->n.toNat ≤ k->∃ p,Pr p∧p ∣ n:=by
  intro k
  induction k with
  | zero=>intro n h1 h2; omega
  | succ k ih =>
   intro n h1 h2
   by_cases hd:∃ d:Int,1 < d∧d < n∧d ∣ n
   ·obtain ⟨d,a,b,c⟩:=hd
    obtain ⟨p,hp,pd⟩:=ih d (by omega) (by omega)
    exact ⟨p,hp,Int.dvd_trans pd c⟩
   ·refine ⟨n,⟨h1,fun d d0 dn=>?_⟩,Int.dvd_refl n⟩
    have le:=Int.le_of_dvd (by omega) dn
    by_cases e:d = 1
    ·exact .inl e
    by_cases e2:d = n
    ·exact .inr e2
    exact absurd ⟨d,by omega,by omega,dn⟩ hd
 exact key _ n h (Nat.le_refl _)
theorem jjQ {p:Int} (h:2 ≤ p):¬ p ∣ 1:=fun z=>by
 have:=Int.le_of_dvd (by decide) z
 omega
theorem jzz {x:Int} (h0:0 ≤ x) (h:∀ p,Pr p->¬ p ∣ x):x = 1:=by
 rcases Int.lt_or_le x 2 with z | z
 ·rcases Int.lt_or_le 0 x with y | y
  ·omega
  ·have e:x = 0:=by omega
   subst e
   obtain ⟨p,hp,_⟩:=jwl (n:=2) (by decide)
   exact absurd (Int.dvd_zero p) (h p hp)
 ·obtain ⟨p,hp,d⟩:=jwl z
  exact absurd d (h p hp)
def Cop (a b:Int):Prop:=∀ d:Int,d ∣ a->d ∣ b->d ∣ 1
theorem Cop.mul {a b c:Int} (h:Cop a b) (d:a ∣ b * c):a ∣ c:=by
 have g:Int.gcd a b = 1:=Int.gcd_eq_one_iff.mpr h
 have e:a ∣ (Int.gcd (a * c) (b * c):Int):=Int.dvd_coe_gcd (Int.dvd_mul_right a c) d
 rw [Int.gcd_mul_right,g,Nat.one_mul] at e
 exact Int.dvd_natAbs.mp e
theorem jth {p x:Int} (h:Pr p) (n:¬ p ∣ x):Cop p x:=by
 intro d dp dx
 have z:d ≠ 0:=fun z=>by subst z; have:=Int.zero_dvd.mp dp; have:=h.two; omega
 rcases h.only (d.natAbs:Int) (by omega) (Int.natAbs_dvd.mpr dp) with e | e
 ·exact Int.natAbs_dvd.mp (by rw [e]; exact Int.dvd_refl 1)
 ·exact absurd (by rw [← e]; exact Int.natAbs_dvd.mpr dx) n
structure PW (m g c:Int):Prop where
 pos:0 < c
 dvd:c ∣ m
 cop:Cop c g
 all:∀ d,d ∣ m->Cop d g->d ∣ c
def crs (p q:P3):P3:=⟨p.y * q.z - p.z * q.y,p.z * q.x - p.x * q.z,p.x * q.y - p.y * q.x⟩
structure Cols (p q r:P3) (n:Int):Prop where
 xx:p.x * p.x + q.x * q.x + r.x * r.x = n * n
 yy:p.y * p.y + q.y * q.y + r.y * r.y = n * n
 zz:p.z * p.z + q.z * q.z + r.z * r.z = n * n
 xy:p.x * p.y + q.x * q.y + r.x * r.y = 0
 xz:p.x * p.z + q.x * q.z + r.x * r.z = 0
 yz:p.y * p.z + q.y * q.z + r.y * r.z = 0
theorem Cols.cyc {p q r:P3} {n:Int} (h:Cols p q r n):Cols q r p n:=by
 have c:∀ {x y z s:Int},x + y + z = s->y + z + x = s:=fun e=>by rw [← e,Int.add_comm,Int.add_assoc]
 exact ⟨c h.xx,c h.yy,c h.zz,c h.xy,c h.xz,c h.yz⟩
theorem jmY (p q r:P3):det q r p = det p q r:=by simp only [det]; grind
theorem jyw {p q r:P3} {n:Int} (h:Cols p q r n) (hd:det p q r = n * n * n) (n0:n ≠ 0):(crs p q).x = n * r.x∧(crs p q).y = n * r.y∧(crs p q).z = n * r.z:=by
 have vp:jX (crs p q) p = 0:=by simp only [crs,jX]; grind
 have vq:jX (crs p q) q = 0:=by simp only [crs,jX]; grind
 have vr:jX (crs p q) r = n * n * n:=by rw [← hd]; simp only [crs,jX,det]; grind
 generalize crs p q = v at *
 have nn:n * n ≠ 0:=fun z=>by rcases Int.mul_eq_zero.mp z with z | z <;> exact n0 z
 have ex:(p.x * p.x + q.x * q.x + r.x * r.x) * v.x + (p.x * p.y + q.x * q.y + r.x * r.y) * v.y + (p.x * p.z + q.x * q.z + r.x * r.z) * v.z = p.x * jX v p + q.x * jX v q + r.x * jX v r:=by simp only [jX]; grind
 have ey:(p.x * p.y + q.x * q.y + r.x * r.y) * v.x + (p.y * p.y + q.y * q.y + r.y * r.y) * v.y + (p.y * p.z + q.y * q.z + r.y * r.z) * v.z = p.y * jX v p + q.y * jX v q + r.y * jX v r:=by simp only [jX]; grind
 have ez:(p.x * p.z + q.x * q.z + r.x * r.z) * v.x + (p.y * p.z + q.y * q.z + r.y * r.z) * v.y + (p.z * p.z + q.z * q.z + r.z * r.z) * v.z = p.z * jX v p + q.z * jX v q + r.z * jX v r:=by simp only [jX]; grind
 rw [h.xx,h.xy,h.xz,vp,vq,vr] at ex
 rw [h.xy,h.yy,h.yz,vp,vq,vr] at ey
 rw [h.xz,h.yz,h.zz,vp,vq,vr] at ez
 have f:∀ a b:Int,n * n * a = b * (n * n * n)->a = n * b:=fun a b e=>Int.eq_of_mul_eq_mul_left nn (by rw [e]; grind)
 simp only [Int.zero_mul,Int.mul_zero,Int.zero_add,Int.add_zero] at ex ey ez
 exact ⟨f _ _ ex,f _ _ ey,f _ _ ez⟩
def DC (n:Int) (p q:P3):Prop:=n ∣ (crs p q).x∧n ∣ (crs p q).y∧n ∣ (crs p q).z
theorem jmb (n:Int) (p:P3):DC n p p:=by
 have a:(crs p p).x = 0:=by simp only [crs]; grind
 have b:(crs p p).y = 0:=by simp only [crs]; grind
 have c:(crs p p).z = 0:=by simp only [crs]; grind
 unfold DC; rw [a,b,c]; exact ⟨Int.dvd_zero n,Int.dvd_zero n,Int.dvd_zero n⟩
theorem DC.sym {n:Int} {p q:P3} (h:DC n p q):DC n q p:=by
 have a:(crs q p).x = -(crs p q).x:=by simp only [crs]; grind
 have b:(crs q p).y = -(crs p q).y:=by simp only [crs]; grind
 have c:(crs q p).z = -(crs p q).z:=by simp only [crs]; grind
 unfold DC; rw [a,b,c]; exact ⟨Int.dvd_neg.mpr h.1,Int.dvd_neg.mpr h.2.1,Int.dvd_neg.mpr h.2.2⟩
theorem jc6 {n c:Int} {w r u:P3} (h1:DC n w u) (h2:DC n r u):DC n (jP 1 w c r) u:=by
 have a:(crs (jP 1 w c r) u).x = (crs w u).x + c * (crs r u).x:=by simp only [crs,jP]; grind
 have b:(crs (jP 1 w c r) u).y = (crs w u).y + c * (crs r u).y:=by simp only [crs,jP]; grind
 have d:(crs (jP 1 w c r) u).z = (crs w u).z + c * (crs r u).z:=by simp only [crs,jP]; grind
 unfold DC; rw [a,b,d]
 exact ⟨Int.dvd_add h1.1 (Int.dvd_mul_of_dvd_right h2.1),Int.dvd_add h1.2.1 (Int.dvd_mul_of_dvd_right h2.2.1),Int.dvd_add h1.2.2 (Int.dvd_mul_of_dvd_right h2.2.2)⟩
theorem jw0 {t:T9} (h:jcr t) (h':jcr (jQ t)):DC t.n t.p t.q∧DC t.n t.q t.r∧DC t.n t.r t.p:=by
 have n0:t.n ≠ 0:=by have:=h.n; omega
 have co:Cols t.p t.q t.r t.n:=⟨h'.pp,h'.qq,h'.rr,h'.pq,h'.pr,h'.qr⟩
 have dt:=h.d
 have f:∀ {p q r:P3},Cols p q r t.n->det p q r = t.n * t.n * t.n->DC t.n p q:=fun {p q r} co dt=>by
  obtain ⟨a,b,c⟩:=jyw co dt n0
  unfold DC; rw [a,b,c]
  exact ⟨Int.dvd_mul_right ..,Int.dvd_mul_right ..,Int.dvd_mul_right ..⟩
 exact ⟨f co dt,f co.cyc (by rw [jmY]; exact dt),f co.cyc.cyc (by rw [jmY,jmY]; exact dt)⟩
theorem jmT {m c:Int} {w r:P3} (h:PW m (jt [w.x,w.y,w.z]) c) {p:Int} (hp:Pr p) (pm:p ∣ m) (px:p ∣ (jP 1 w c r).x) (py:p ∣ (jP 1 w c r).y) (pz:p ∣ (jP 1 w c r).z):(p ∣ w.x∧p ∣ w.y∧p ∣ w.z)∧(p ∣ r.x∧p ∣ r.y∧p ∣ r.z):=by
 simp only [jP,Int.one_mul] at px py pz
 have gm:∀ {d:Int},d ∣ w.x->d ∣ w.y->d ∣ w.z->d ∣ jt [w.x,w.y,w.z]:=fun a b c=>dvd_gcdL.mpr fun x hx=>by
  simp only [List.mem_cons,List.not_mem_nil,or_false] at hx
  rcases hx with rfl | rfl | rfl
  ·exact a
  ·exact b
  ·exact c
 have np:¬ p ∣ c:=fun z=>by
  have a:=(Int.dvd_add_left (Int.dvd_mul_of_dvd_left (c:=r.x) z)).mp px
  have b:=(Int.dvd_add_left (Int.dvd_mul_of_dvd_left (c:=r.y) z)).mp py
  have d:=(Int.dvd_add_left (Int.dvd_mul_of_dvd_left (c:=r.z) z)).mp pz
  exact jjQ hp.two (h.cop p z (gm a b d))
 have pg:p ∣ jt [w.x,w.y,w.z]:=by
  apply Classical.byContradiction
  intro n
  exact np (h.all p pm (jth hp n))
 have wx:p ∣ w.x:=Int.dvd_trans pg (jaH (by simp))
 have wy:p ∣ w.y:=Int.dvd_trans pg (jaH (by simp))
 have wz:p ∣ w.z:=Int.dvd_trans pg (jaH (by simp))
 have cp:=jth hp np
 exact ⟨⟨wx,wy,wz⟩,cp.mul ((Int.dvd_add_right wx).mp px),cp.mul ((Int.dvd_add_right wy).mp py),cp.mul ((Int.dvd_add_right wz).mp pz)⟩
structure jf8 (t:T9) (w:P3):Prop where
 one:jt [w.x,w.y,w.z,t.n] = 1
 sq:t.n ∣ jX w w
 says:∀ p,t.n ∣ jX w p ↔ Shr t p
theorem jaT (c:Int) (w r p:P3):jX (jP 1 w c r) p = jX w p + c * jX r p:=by simp only [jX,jP]; grind
theorem jjt (p q:P3):jX p q = jX q p:=by simp only [jX]; grind
def z3:P3:=⟨0,0,0⟩
theorem jiB (p:P3):jX z3 p = 0:=by simp only [jX,z3]; omega
theorem jmh {n:Int} {w u p:P3} (one:jt [w.x,w.y,w.z,n] = 1) (dc:DC n w u) (h:n ∣ jX w p):n ∣ jX u p:=by
 obtain ⟨a,b,c⟩:=dc
 have ex:w.x * jX u p = u.x * jX w p + (p.y * (crs w u).z - p.z * (crs w u).y):=by simp only [jX,crs]; grind
 have ey:w.y * jX u p = u.y * jX w p + (p.z * (crs w u).x - p.x * (crs w u).z):=by simp only [jX,crs]; grind
 have ez:w.z * jX u p = u.z * jX w p + (p.x * (crs w u).y - p.y * (crs w u).x):=by simp only [jX,crs]; grind
 have m:∀ {x y:Int},n ∣ y->n ∣ x * y:=fun h=>Int.dvd_mul_of_dvd_right h
 have dx:n ∣ w.x * jX u p:=by rw [ex]; exact Int.dvd_add (m h) (Int.dvd_sub (m c) (m b))
 have dy:n ∣ w.y * jX u p:=by rw [ey]; exact Int.dvd_add (m h) (Int.dvd_sub (m a) (m c))
 have dz:n ∣ w.z * jX u p:=by rw [ez]; exact Int.dvd_add (m h) (Int.dvd_sub (m b) (m a))
 generalize jX u p = X at *
 have e:=je6 X [w.x,w.y,w.z,n]
 rw [one] at e
 have d:n ∣ jt ([w.x,w.y,w.z,n].map (X * ·)):=dvd_gcdL.mpr fun x hx=>by
  simp only [List.map_cons,List.map_nil,List.mem_cons,List.not_mem_nil,or_false] at hx
  rcases hx with rfl | rfl | rfl | rfl
  ·rw [Int.mul_comm]; exact dx
  ·rw [Int.mul_comm]; exact dy
  ·rw [Int.mul_comm]; exact dz
  ·exact Int.dvd_mul_left ..
 rw [e,Int.mul_one] at d
 exact Int.dvd_natAbs.mp d
theorem jzM (n:Int) (u:P3):DC n z3 u:=by
 simp only [DC,crs,z3,Int.zero_mul,Int.sub_self,Int.dvd_zero,and_self]
theorem jvA {t:T9} (h:jcr t) (h':jcr (jQ t)) {a b c:Int} (ha:PW t.n (jt [z3.x,z3.y,z3.z]) a) (hb:PW t.n (jt [(jP 1 z3 a (jQ t).p).x,(jP 1 z3 a (jQ t).p).y,(jP 1 z3 a (jQ t).p).z]) b)
  (hc:PW t.n (jt [(jP 1 (jP 1 z3 a (jQ t).p) b (jQ t).q).x,(jP 1 (jP 1 z3 a (jQ t).p) b (jQ t).q).y,(jP 1 (jP 1 z3 a (jQ t).p) b (jQ t).q).z]) c) :
  jf8 t (jP 1 (jP 1 (jP 1 z3 a (jQ t).p) b (jQ t).q) c (jQ t).r):=by
 have tt:jQ (jQ t) = t:=rfl
 obtain ⟨d1,d2,d3⟩:=jw0 h' (by rw [tt]; exact h)
 have en:(jQ t).n = t.n:=rfl
 rw [en] at d1 d2 d3
 have g1:=h'.g
 have pp:=h'.pp; have pq:=h'.pq; have pr:=h'.pr; have qp:=h'.qp; have qq:=h'.qq; have qr:=h'.qr; have rp:=h'.rp; have rq:=h'.rq; have rr:=h'.rr
 rw [en] at pp qq rr
 have sh:∀ p,Shr t p ↔ t.n ∣ jX (jQ t).p p∧t.n ∣ jX (jQ t).q p∧t.n ∣ jX (jQ t).r p:=fun p=>Iff.rfl
 have zd:∀ u,DC t.n z3 u:=jzM _
 have one:jt [(jP 1 (jP 1 (jP 1 z3 a (jQ t).p) b (jQ t).q) c (jQ t).r).x,(jP 1 (jP 1 (jP 1 z3 a (jQ t).p) b (jQ t).q) c (jQ t).r).y,(jP 1 (jP 1 (jP 1 z3 a (jQ t).p) b (jQ t).q) c (jQ t).r).z,t.n] = 1:=by
  refine jzz (jay _) fun p hp hd=>?_
  have l:=dvd_gcdL.mp hd
  have pm:=l t.n (by simp)
  obtain ⟨⟨x3,y3,w3⟩,r3⟩:=jmT (r:=(jQ t).r) hc hp pm (l _ (by simp)) (l _ (by simp)) (l _ (by simp))
  obtain ⟨⟨x2,y2,w2⟩,r2⟩:=jmT (r:=(jQ t).q) hb hp pm x3 y3 w3
  obtain ⟨_,r1⟩:=jmT (r:=(jQ t).p) ha hp pm x2 y2 w2
  refine jjQ hp.two ?_
  rw [← g1]
  refine dvd_gcdL.mpr fun x hx=>?_
  simp only [tl,List.mem_cons,List.not_mem_nil,or_false] at hx
  rcases hx with rfl | rfl | rfl | rfl | rfl | rfl | rfl | rfl | rfl | rfl
  ·exact r1.1
  ·exact r1.2.1
  ·exact r1.2.2
  ·exact r2.1
  ·exact r2.2.1
  ·exact r2.2.2
  ·exact r3.1
  ·exact r3.2.1
  ·exact r3.2.2
  ·exact pm
 generalize jQ t = u at *
 refine ⟨one,?_,fun p=>⟨fun hd=>?_,fun hs=>?_⟩⟩
 ·have e:jX (jP 1 (jP 1 (jP 1 z3 a u.p) b u.q) c u.r) (jP 1 (jP 1 (jP 1 z3 a u.p) b u.q) c u.r) = t.n * (t.n * (a * a + b * b + c * c)):=by
   rw [jaT,jaT,jaT,jiB,jjt u.p,jjt u.q,jjt u.r,jaT,jaT,jaT,jiB,jaT,jaT,jaT,jiB,jaT,jaT,jaT,jiB,pp,pq,pr,qp,qq,qr,rp,rq,rr]
   grind
  rw [e]; exact Int.dvd_mul_right ..
 ·refine (sh p).mpr ⟨?_,?_,?_⟩
  ·exact jmh one (jc6 (jc6 (jc6 (zd _) (jmb _ _)) d1.sym) d3) hd
  ·exact jmh one (jc6 (jc6 (jc6 (zd _) d1) (jmb _ _)) d2.sym) hd
  ·exact jmh one (jc6 (jc6 (jc6 (zd _) d3.sym) d2) (jmb _ _)) hd
 ·obtain ⟨s1,s2,s3⟩:=(sh p).mp hs
  rw [jaT,jaT,jaT,jiB]
  exact Int.dvd_add (Int.dvd_add (Int.dvd_add (Int.dvd_zero _) (Int.dvd_mul_of_dvd_right s1)) (Int.dvd_mul_of_dvd_right s2)) (Int.dvd_mul_of_dvd_right s3)
def jma (w:P3) (n:Int):P3:=⟨w.x.fmod n,w.y.fmod n,w.z.fmod n⟩
theorem jki (w:P3) (n:Int) (p:P3):∃ k,jX (jma w n) p = jX w p + n * k:=by
 refine ⟨-(w.x.fdiv n * p.x + w.y.fdiv n * p.y + w.z.fdiv n * p.z),?_⟩
 simp only [jma,jX,jbH]; grind
theorem jf1 {n x k:Int}:n ∣ x + n * k ↔ n ∣ x:=Int.dvd_add_left (Int.dvd_mul_right n k)
theorem jvw {t:T9} {w:P3} (h:jf8 t w):jf8 t (jma w t.n):=by
 have dv:∀ (d x:Int),d ∣ t.n->(d ∣ x.fmod t.n ↔ d ∣ x):=fun d x hd=>by
  rw [jbH,Int.sub_eq_add_neg]
  exact Int.dvd_add_left (Int.dvd_neg.mpr (Int.dvd_mul_of_dvd_left hd))
 refine ⟨?_,?_,fun p=>?_⟩
 ·rw [← h.one]
  refine jl0 fun d=>?_
  simp only [jma,List.mem_cons,List.not_mem_nil,or_false,forall_eq_or_imp,forall_eq]
  constructor
  ·rintro ⟨a,b,c,e⟩; exact ⟨(dv d _ e).mp a,(dv d _ e).mp b,(dv d _ e).mp c,e⟩
  ·rintro ⟨a,b,c,e⟩; exact ⟨(dv d _ e).mpr a,(dv d _ e).mpr b,(dv d _ e).mpr c,e⟩
 ·obtain ⟨k,e⟩:=jki w t.n (jma w t.n)
  rw [e,jf1,jjt]
  obtain ⟨k,e⟩:=jki w t.n w
  rw [e,jf1]; exact h.sq
 ·obtain ⟨k,e⟩:=jki w t.n p
  rw [e,jf1]; exact h.says p
structure S6 where
 a:Int
 b:Int
 c:Int
 d:Int
 e:Int
 f:Int
def s1 (s:S6):P3:=⟨s.a,s.b,s.c⟩
def s2 (s:S6):P3:=⟨0,s.d,s.e⟩
def s3 (s:S6):P3:=⟨0,0,s.f⟩
def stD (s:S6):D:=.lst [pt (s1 s),pt (s2 s),pt (s3 s)]
structure jyn (s:S6):Prop where
 a0:0 < s.a
 d0:0 < s.d
 f0:0 < s.f
 b0:0 ≤ s.b
 b1:s.b < s.d
 c0:0 ≤ s.c
 c1:s.c < s.f
 e0:0 ≤ s.e
 e1:s.e < s.f
theorem jlp {a b:Int} (ha:0 < a) (h:0 < a * b):0 < b:=by
 rcases Int.lt_or_le 0 b with z | z
 ·exact z
 ·have:=Int.mul_nonpos_of_nonneg_of_nonpos (Int.le_of_lt ha) z
  omega
theorem jkj {a b:Int} (a0:0 < a) (b0:0 < b):a ≤ a * b:=by
 have:=Int.mul_le_mul_of_nonneg_left (show 1 ≤ b by omega) (show 0 ≤ a by omega)
 rwa [Int.mul_one] at this
theorem jp7 {a b:Int} (a0:0 < a) (b0:0 < b):b ≤ a * b:=by rw [Int.mul_comm]; exact jkj b0 a0
theorem jtQ {a b:Int} (h0:0 ≤ a) (h:a ≤ b):a.natAbs ≤ b.natAbs:=by omega
theorem jru {a b:Int} (h0:0 < b) (h:a ∣ b):a.natAbs ≤ b.natAbs:=Nat.le_of_dvd (Int.natAbs_pos.mpr (Int.ne_of_gt h0)) (Int.natAbs_dvd_natAbs.mpr h)
theorem jz7 {k:Nat} {s:S6} {m:Int} (h:jyn s) (vol:s.a * s.d * s.f = m) (bm:Bd k m):Bp k (s1 s)∧Bp k (s2 s)∧Bp k (s3 s):=by
 obtain ⟨a0,d0,f0,b0,b1,c0,c1,e0,e1⟩:=h
 have ad:0 < s.a * s.d:=Int.mul_pos a0 d0
 have l1:s.a * s.d ≤ m:=by rw [← vol]; exact jkj ad f0
 have l3:s.d ≤ m:=Int.le_trans (jp7 a0 d0) l1
 have l4:s.f ≤ m:=by rw [← vol]; exact jp7 ad f0
 have le:∀ {x:Int},0 ≤ x->x ≤ m->Bd k x:=fun h1 h2=>Nat.lt_of_le_of_lt (jtQ h1 h2) bm
 have lt:∀ {x y:Int},0 ≤ x->x < y->y ≤ m->Bd k x:=fun h1 h2 h3=>le h1 (Int.le_trans (Int.le_of_lt h2) h3)
 have z:Bd k 0:=le (Int.le_refl 0) (Int.le_trans (Int.le_of_lt f0) l4)
 exact ⟨⟨le (Int.le_of_lt a0) (Int.le_trans (jkj a0 d0) l1),lt b0 b1 l3,lt c0 c1 l4⟩,⟨z,le (Int.le_of_lt d0) l3,lt e0 e1 l4⟩,⟨z,z,le (Int.le_of_lt f0) l4⟩⟩
structure DS (w:P3) (m:Int) (s:S6):Prop where
 st:jyn s
 p1:m ∣ w.x * s.a + w.y * s.b + w.z * s.c
 p2:m ∣ w.y * s.d + w.z * s.e
 p3:m ∣ w.z * s.f
 vol:s.a * s.d * s.f = m
 k1:∀ x y z,m ∣ w.x * x + w.y * y + w.z * z->s.a ∣ x
 k2:∀ y z,m ∣ w.y * y + w.z * z->s.d ∣ y
 k3:∀ z,m ∣ w.z * z->s.f ∣ z
theorem jAc {w:P3} {m g h s t u v:Int} (m0:0 < m) (one:jt [w.x,w.y,w.z,m] = 1) (eg:s * w.z + t * m = g) (gz:g ∣ w.z) (gm:g ∣ m) (g0:0 < g) (eh:u * w.y + v * g = h) (hy:h ∣ w.y) (hg:h ∣ g) (h0:0 < h) :
  DS w m ⟨h,(-w.x * u).fmod (g.fdiv h),(-((w.x * h + w.y * (-w.x * u).fmod (g.fdiv h)).fdiv g) * s).fmod (m.fdiv g),g.fdiv h,(-((w.y * g.fdiv h).fdiv g) * s).fmod (m.fdiv g),m.fdiv g⟩:=by
 have ed:h * g.fdiv h = g:=Int.mul_fdiv_cancel' hg
 have ef:g * m.fdiv g = m:=Int.mul_fdiv_cancel' gm
 have cop:Cop h w.x:=fun d a b=>by
  rw [← one]
  refine dvd_gcdL.mpr fun x hx=>?_
  simp only [List.mem_cons,List.not_mem_nil,or_false] at hx
  rcases hx with rfl | rfl | rfl | rfl
  ·exact b
  ·exact Int.dvd_trans a hy
  ·exact Int.dvd_trans (Int.dvd_trans a hg) gz
  ·exact Int.dvd_trans (Int.dvd_trans a hg) gm
 generalize g.fdiv h = d at *
 generalize m.fdiv g = f at *
 obtain ⟨y',ey⟩:=hy
 obtain ⟨z',ez⟩:=gz
 have d0:0 < d:=jlp h0 (by rw [ed]; exact g0)
 have f0:0 < f:=jlp g0 (by rw [ef]; exact m0)
 have eb:∃ kb,(-w.x * u).fmod d = -w.x * u - d * kb:=⟨_,jbH ..⟩
 have b0:=Int.fmod_nonneg_of_pos (-w.x * u) d0
 have b1:=Int.fmod_lt_of_pos (-w.x * u) d0
 generalize (-w.x * u).fmod d = b at *
 obtain ⟨kb,eb⟩:=eb
 have eu:u * y' + v * d = 1:=by
  have e:h * (u * y' + v * d) = h * 1:=by
   rw [Int.mul_one]
   calc h * (u * y' + v * d) = u * (h * y') + v * (h * d):=by grind
    _ = h:=by rw [← ey,ed]; exact eh
  exact Int.eq_of_mul_eq_mul_left (Int.ne_of_gt h0) e
 have es:s * z' + t * f = 1:=by
  have e:g * (s * z' + t * f) = g * 1:=by
   rw [Int.mul_one]
   calc g * (s * z' + t * f) = s * (g * z') + t * (g * f):=by grind
    _ = g:=by rw [← ez,ef]; exact eg
  exact Int.eq_of_mul_eq_mul_left (Int.ne_of_gt g0) e
 have q1:w.x * h + w.y * b = g * (w.x * v - y' * kb):=by
  rw [eb]
  calc w.x * h + w.y * (-w.x * u - d * kb) = w.x * h - w.x * (u * w.y) - (w.y * d) * kb:=by grind
   _ = w.x * h - w.x * (u * w.y) - (y' * (h * d)) * kb:=by rw [show w.y * d = y' * (h * d) by rw [ey]; grind]
   _ = w.x * (u * w.y + v * g) - w.x * (u * w.y) - (y' * g) * kb:=by rw [ed,eh]
   _ = g * (w.x * v - y' * kb):=by grind
 have q2:w.y * d = g * y':=by rw [ey,← ed]; grind
 have n1:(w.x * h + w.y * b).fdiv g = w.x * v - y' * kb:=by rw [q1]; exact Int.mul_fdiv_cancel_left _ (Int.ne_of_gt g0)
 have n2:(w.y * d).fdiv g = y':=by rw [q2]; exact Int.mul_fdiv_cancel_left _ (Int.ne_of_gt g0)
 rw [n1,n2]
 have zf:w.z * f = m * z':=by rw [ez,← ef]; grind
 have low:∀ n:Int,∃ k,w.z * (-n * s).fmod f = -(g * n) + m * k:=fun n=>by
  refine ⟨n * t - z' * (-n * s).fdiv f,?_⟩
  rw [jbH]
  calc w.z * (-n * s - f * (-n * s).fdiv f) = -(n * (s * w.z)) - (w.z * f) * (-n * s).fdiv f:=by grind
   _ = -(n * (g - t * m)) - (m * z') * (-n * s).fdiv f:=by rw [zf,(Int.sub_eq_iff_eq_add.mpr eg.symm).symm]
   _ = -(g * n) + m * (n * t - z' * (-n * s).fdiv f):=by grind
 refine ⟨⟨h0,d0,f0,b0,b1,Int.fmod_nonneg_of_pos _ f0,Int.fmod_lt_of_pos _ f0,Int.fmod_nonneg_of_pos _ f0,Int.fmod_lt_of_pos _ f0⟩,?_,?_,?_,?_,?_,?_,?_⟩
 ·obtain ⟨k,e⟩:=low (w.x * v - y' * kb)
  exact ⟨k,by show w.x * h + w.y * b + w.z * _ = _; rw [q1,e,Int.add_neg_cancel_left]⟩
 ·obtain ⟨k,e⟩:=low y'
  exact ⟨k,by show w.y * d + w.z * _ = _; rw [q2,e,Int.add_neg_cancel_left]⟩
 ·exact ⟨z',zf⟩
 ·show h * d * f = m
  rw [ed,ef]
 ·intro x y z hd
  refine cop.mul ?_
  have hm:h ∣ m:=Int.dvd_trans hg gm
  have e:=Int.dvd_trans hm hd
  have hz:h ∣ w.z * z:=Int.dvd_mul_of_dvd_left (Int.dvd_trans hg ⟨z',ez⟩)
  have hy2:h ∣ w.y * y:=Int.dvd_mul_of_dvd_left ⟨y',ey⟩
  exact (Int.dvd_add_left hy2).mp ((Int.dvd_add_left hz).mp e)
 ·intro y z hd
  have e:=Int.dvd_trans gm hd
  have hz:g ∣ w.z * z:=Int.dvd_mul_of_dvd_left ⟨z',ez⟩
  obtain ⟨q,e⟩:=(Int.dvd_add_left hz).mp e
  have e2:y' * y = d * q:=by
   refine Int.eq_of_mul_eq_mul_left (Int.ne_of_gt h0) ?_
   calc h * (y' * y) = (h * y') * y:=(Int.mul_assoc ..).symm
    _ = (h * d) * q:=by rw [← ey,ed]; exact e
    _ = h * (d * q):=Int.mul_assoc ..
  refine ⟨u * q + v * y,?_⟩
  calc y = (u * y' + v * d) * y:=by rw [eu,Int.one_mul]
   _ = u * (y' * y) + v * d * y:=by grind
   _ = d * (u * q + v * y):=by rw [e2]; grind
 ·intro z hd
  obtain ⟨q,e⟩:=hd
  have e2:z' * z = f * q:=by
   refine Int.eq_of_mul_eq_mul_left (Int.ne_of_gt g0) ?_
   calc g * (z' * z) = (g * z') * z:=(Int.mul_assoc ..).symm
    _ = (g * f) * q:=by rw [← ez,ef]; exact e
    _ = g * (f * q):=Int.mul_assoc ..
  refine ⟨s * q + t * z,?_⟩
  calc z = (s * z' + t * f) * z:=by rw [es,Int.one_mul]
   _ = s * (z' * z) + t * f * z:=by grind
   _ = f * (s * q + t * z):=by rw [e2]; grind
def InG (s:S6) (p:P3):Prop:=p.x.fmod s.a = 0∧(p.y - p.x.fdiv s.a * s.b).fmod s.d = 0∧(p.z - p.x.fdiv s.a * s.c - (p.y - p.x.fdiv s.a * s.b).fdiv s.d * s.e).fmod s.f = 0
instance (s:S6) (p:P3):Decidable (InG s p):=inferInstanceAs (Decidable (_∧_))
def jcc (t:T9):Int:=t.p.x + t.q.y + t.r.z
def jos:Nat->Int
 | 0=>2
 | 1=>3
 | 2=>4
 | 3=>6
 | _=>1
def jaf (ns:List Int):Str:=Txt.join "," (ns.map jaA)
theorem juz {n:Int} (h:Bd 1900 n):n.natAbs.log2 < 1920:=by
 by_cases z:n.natAbs = 0
 ·rw [z]; decide
 ·exact Nat.lt_of_lt_of_le ((Nat.log2_lt z).mpr h) (by decide)
theorem joJ {n:Int} (h:Bd 1900 n):(jaA n).length ≤ 601 :=
 (jga (k:=600) (by decide) (Nat.lt_of_lt_of_le h (by decide +kernel))).1
theorem jnI:∀ (ns:List Int),(∀ n ∈ ns,Bd 1900 n)->((ns.map jaA).map (·.length)).sum ≤ 601 * ns.length
 | [],_=>Nat.le_refl _
 | n :: ns,h=>by
  have a:=joJ (h n List.mem_cons_self)
  have b:=jnI ns fun m hm=>h m (List.mem_cons_of_mem _ hm)
  simp only [List.map_cons,List.sum_cons,List.length_cons] at b ⊢
  omega
theorem jtW {Φ:List D->Prop} {d0:D} {ns:List Int} (hl:ns.length ≤ 4) (hb:∀ n ∈ ns,Bd 1900 n) (h:Φ ((ns.map jaA).map .str)) :
  je9 (gN 0) (fun _ Φ=>Φ true) (dB jm5 (je (jb 0) jm)) [.un,.val d0] (ns.map .int) [] Φ:=by
 refine jeP (fun d=>match d with | .int n=>.str (jaA n) | d=>d) _ _ (by simp only [List.length_nil,List.length_map]; omega) (fun d hd Ψ p=>?_) ?_
 ·obtain ⟨n,hn,rfl⟩:=List.mem_map.mp hd
  exact ⟨juz (hb n hn),p⟩
 ·rw [List.nil_append,List.map_map]
  rw [List.map_map] at h
  exact h
theorem jls (c:Nat) {k:Nat}:∀ l:List Str,(∀ p ∈ l,p.length ≤ k)->(jcD c l).length ≤ (k + 1) * l.length
 | [],_=>Nat.le_refl _
 | q :: r,h=>by
  have a:=h q List.mem_cons_self
  have b:=jls c r fun p hp=>h p (List.mem_cons_of_mem _ hp)
  show (c :: cp (Str.join ⟨#[c]⟩ (q :: r))).length ≤ _
  rw [jbC,List.length_cons,List.length_append,ja1,List.length_cons,Nat.mul_succ]
  omega
theorem jij (ns:List Int) (h:∀ n ∈ ns,Bd 1900 n):(jaf ns).length ≤ 602 * ns.length:=by
 unfold jaf
 rw [jhh,← ja1]
 cases ns with
 | nil=>exact Nat.zero_le _
 | cons n ns =>
  have a:=joJ (h n List.mem_cons_self)
  have b:=jls 44 (ns.map jaA) (k:=601) fun p hp=>by
   obtain ⟨m,hm,rfl⟩:=List.mem_map.mp hp
   exact joJ (h m (List.mem_cons_of_mem _ hm))
  rw [List.length_map] at b
  rw [List.map_cons,show (",":Str) = ⟨#[44]⟩ from rfl,jbC,List.length_append,ja1,List.length_cons]
  omega
def jgp (z s:Str):Bool:=(cp z).all fun c=>decide (c ∈ cp s)
def jaF (z:Str):Bool:=decide (1 ≤ z.length) && decide (z.length ≤ 8) && jgp z "abcdefghijklmnopqrstuvwxyz"
theorem jiT {Φ:List D->Prop} {d0 d1:Sl}:∀ (ms:List Int) (acc:List D),acc.length + ms.length ≤ 100->Φ (acc ++ (ms.filter (fun x=>!decide (x = 0))).map .int) ->
  je9 (gN 0) (dT (jf dNe (jb 0) (dC (.int 0)))) (jb 0) [.un,d0,d1] (ms.map .int) acc Φ
 | [],acc,_,h=>by
  have h:Φ (acc ++ []):=h
  rw [List.append_nil] at h; exact h
 | m :: ms,acc,hl,h=>by
  simp only [List.length_cons] at hl
  refine tst (fun hc=>⟨jdX (by omega),?_⟩) (fun hc=>?_)
  ·have hc:(!decide (m = 0)) = true:=hc
   refine jiT ms (acc ++ [.int m]) (by simp only [List.length_append,List.length_cons,List.length_nil]; omega) ?_
   rw [List.filter_cons,hc] at h
   rw [List.append_assoc]; exact h
  ·have hc:(!decide (m = 0)) = false:=hc
   refine jiT ms acc (by omega) ?_
   rw [List.filter_cons,hc] at h
   exact h
theorem js8 {q:Q4} (h:q ≠ q0):atI (((ql q).filter (fun x=>!decide (x = 0))).map D.int) 0 = some (.int (jbb q)):=by
 cases q with | mk a b c d =>
 unfold jbb ql
 simp only
 by_cases ha:a = 0
 ·by_cases hb:b = 0
  ·by_cases hc:c = 0
   ·by_cases hd:d = 0
    ·exact absurd (by subst ha hb hc hd; rfl) h
    ·simp only [List.filter_cons,List.filter_nil,ha,hb,hc,hd,decide_true,decide_false,Bool.not_true,Bool.not_false,if_true,Bool.false_eq_true,if_false]; rw [List.map_cons]; exact jc0 ..
   ·simp only [List.filter_cons,List.filter_nil,ha,hb,hc,decide_true,decide_false,Bool.not_true,Bool.not_false,if_true,Bool.false_eq_true,if_false]; rw [List.map_cons]; exact jc0 ..
  ·simp only [List.filter_cons,List.filter_nil,ha,hb,decide_true,decide_false,Bool.not_true,Bool.not_false,if_true,Bool.false_eq_true,if_false]; rw [List.map_cons]; exact jc0 ..
 ·simp only [List.filter_cons,List.filter_nil,ha,decide_true,decide_false,Bool.not_true,Bool.not_false,if_true,Bool.false_eq_true,if_false]; rw [List.map_cons]; exact jc0 ..
theorem jpy {k:Nat} {q:Q4} (h:Bq k q):∀ n ∈ ql q,Bd k n:=by
 intro n hn
 simp only [ql,List.mem_cons,List.not_mem_nil,or_false] at hn
 rcases hn with rfl | rfl | rfl | rfl
 ·exact h.a
 ·exact h.b
 ·exact h.c
 ·exact h.d
theorem jpq {q:Q4} (h0:q ≠ q0):jI q ≠ q0:=(jca h0).ne
theorem joD {q:Q4} (h0:q ≠ q0):jD (jI q) = jD q:=by
 conv=>rhs; rw [jcK h0]
 rw [jpb (jc8 h0) (jca h0).ne]
abbrev St2:=List Str × (Str->Q4)
def hob (r:Addr) (s:St2):Ob:=⟨r,r,s.1,s.1.map fun n=>qd (s.2 n)⟩
def dob (q p:Addr) (s:St2):Ob:=⟨q,p,s.1,s.1.map fun n=>tb (jD (s.2 n))⟩
abbrev nm3:List Str:=["a","ab","turn"]
structure Gd (N:Nat) (s:St2):Prop where
 l:s.1.length ≤ N
 n:∀ n ∈ s.1,n ∈ nm3∧s.2 n ≠ q0∧Bq 270 (s.2 n)∧jI (s.2 n) = s.2 n
theorem jbO {n:Str} (h:n ∈ nm3):jaF n = true:=by
 simp only [nm3,List.mem_cons,List.not_mem_nil,or_false] at h
 rcases h with rfl | rfl | rfl <;> decide +kernel
theorem jk0 {te:E3} {ρ:jL} {W:Wd} {Φ:D->Wd->Prop} (f:D->D) (hn:∀ d,noDct (ρ.set 0 (.val d))):∀ (xs acc:List D),acc.length + xs.length ≤ 1000->(∀ d ∈ xs,∀ Ψ:D->Prop,Ψ (f d)->te (ρ.set 0 (.val d)) Ψ)->Φ (.lst (acc ++ xs.map f)) W->jez (gN 0) (jaG te) ρ xs acc W Φ
 | [],acc,_,_,h=>by rw [List.map_nil,List.append_nil] at h; exact h
 | d :: xs,acc,hl,hs,h=>by
  rw [List.length_cons] at hl
  refine ⟨hn d,hs d List.mem_cons_self _ ⟨Nat.lt_of_le_of_lt (show acc.length ≤ 1000 by omega) (by decide),jk0 f hn xs _ ?_ (fun e he=>hs e (List.mem_cons_of_mem _ he)) ?_⟩⟩
  ·rw [List.length_append]; show acc.length + 1 + xs.length ≤ 1000; omega
  ·rw [List.append_assoc]; exact h
theorem juj (a b:Bool):jC (.bl a) (.bl b) = (a == b):=by simp only [jC]
theorem js6 (a:Bool):dep (.bl a) ≤ 100:=by simp only [dep]; decide
def top (i:Nat):Stmt:=PySem.Challenge.pw_turngrid_k55_two_desks.main.body.getD i (.Pass ⟨0,0,0,0⟩)
abbrev jpk:Stmt:=jjs (top 64) 0
abbrev jhv:Stmt:=top 45
abbrev jfE:Stmt:=top 47
abbrev jeS:Stmt:=top 46
abbrev ji7:Stmt:=top 44
abbrev jg4:Stmt:=top 66
abbrev jjb:Stmt:=jjs (top 64) 3
abbrev jgW:Stmt:=jjs (top 64) 2
abbrev jhr:Stmt:=top 65
abbrev jdq:Stmt:=top 48
abbrev jcG:Stmt:=top 13
abbrev ji0:Stmt:=top 12
abbrev jbG:Stmt:=top 20
abbrev jg0:Stmt:=top 10
abbrev jm6:Stmt:=top 19
abbrev jbQ:Stmt:=top 26
abbrev jfL:Stmt:=top 7
abbrev joA:Stmt:=top 18
abbrev jig:Stmt:=top 25
abbrev jfW:Stmt:=top 54
abbrev jee:Stmt:=top 55
abbrev jiU:Stmt:=top 8
abbrev jg9:Stmt:=top 9
abbrev jjh:Stmt:=top 15
abbrev jeF:Stmt:=top 32
abbrev jkJ:Stmt:=top 29
abbrev jp6:Stmt:=top 28
abbrev jdr:Stmt:=top 14
abbrev jiV:Stmt:=top 36
abbrev jdp:Stmt:=top 35
abbrev jeI:Stmt:=top 56
abbrev jmn:Stmt:=top 30
abbrev jfO:Stmt:=top 57
abbrev jfC:Stmt:=top 49
abbrev jfB:Stmt:=top 34
abbrev jd4:Stmt:=top 58
abbrev jiv:Stmt:=top 23
abbrev jc2:Stmt:=top 24
abbrev jja:Stmt:=top 22
abbrev jiY:Stmt:=top 17
abbrev jna:Stmt:=top 27
abbrev jec:Stmt:=top 37
abbrev jfQ:Stmt:=top 59
abbrev jmK:Stmt:=top 40
abbrev jfa:Stmt:=top 60
abbrev jdl:Stmt:=top 51
abbrev jeg:Stmt:=top 52
abbrev jfX:Stmt:=top 53
abbrev jsT:Stmt:=jjs (top 64) 1
abbrev jfZ:Stmt:=top 73
abbrev jeT:Stmt:=top 75
abbrev jd5:Stmt:=top 70
abbrev jfP:Stmt:=top 72
abbrev jfH:Stmt:=top 71
abbrev jhy:Stmt:=top 69
abbrev jif:Stmt:=top 74
abbrev jd8:Stmt:=top 68
abbrev jsC:Stmt:=top 76
theorem jxO:ju ["self"] ["self"] (jj jpk):=⟨rfl,rfl,rfl,by decide +kernel,rfl,by decide +kernel,by decide +kernel⟩
theorem jj8:ju ["word","signs"] ["word","signs"] (jj jhv):=⟨rfl,rfl,rfl,by decide +kernel,rfl,by decide +kernel,by decide +kernel⟩
theorem jin:ju ["word","figures"] ["word"] (jj jfE):=⟨rfl,rfl,rfl,by decide +kernel,rfl,by decide +kernel,by decide +kernel⟩
theorem jh1:ju ["word","often","parts"] ["word","often"] (jj jeS):=⟨rfl,rfl,rfl,by decide +kernel,rfl,by decide +kernel,by decide +kernel⟩
theorem jk8:ju ["word"] ["word"] (jj ji7):=⟨rfl,rfl,rfl,by decide +kernel,rfl,by decide +kernel,by decide +kernel⟩
theorem jjT:ju ["word"] ["word"] (jj jg4):=⟨rfl,rfl,rfl,by decide +kernel,rfl,by decide +kernel,by decide +kernel⟩
theorem jev:ju ["self","kind","word"] ["self","kind","word"] (jj jjb):=⟨rfl,rfl,rfl,by decide +kernel,rfl,by decide +kernel,by decide +kernel⟩
theorem jdK:ju ["self","words","kinds"] ["self","words"] (jj jgW):=⟨rfl,rfl,rfl,by decide +kernel,rfl,by decide +kernel,by decide +kernel⟩
theorem jj0:ju ["row","words"] ["row"] (jj jhr):=⟨rfl,rfl,rfl,by decide +kernel,rfl,by decide +kernel,by decide +kernel⟩
theorem jfc:ju ["numbers"] ["numbers"] (jj jdq):=⟨rfl,rfl,rfl,by decide +kernel,rfl,by decide +kernel,by decide +kernel⟩
theorem jei:ju ["one","other","rest"] ["one","other"] (jj jcG):=⟨rfl,rfl,rfl,by decide +kernel,rfl,by decide +kernel,by decide +kernel⟩
theorem jli:ju ["numbers","found","number"] ["numbers"] (jj ji0):=⟨rfl,rfl,rfl,by decide +kernel,rfl,by decide +kernel,by decide +kernel⟩
theorem jcN:ju ["quad"] ["quad"] (jj jbG):=⟨rfl,rfl,rfl,by decide +kernel,rfl,by decide +kernel,by decide +kernel⟩
theorem jjK:ju ["row","n"] ["row","n"] (jj jg0):=⟨rfl,rfl,rfl,by decide +kernel,rfl,by decide +kernel,by decide +kernel⟩
theorem jpM:ju ["quad","shrink"] ["quad"] (jj jm6):=⟨rfl,rfl,rfl,by decide +kernel,rfl,by decide +kernel,by decide +kernel⟩
theorem jdg:ju ["turn","rows","bottom","x","y","z","ab","ac","ad","bc","bd","cd"] ["turn"] (jj jbQ):=⟨rfl,rfl,rfl,by decide +kernel,rfl,by decide +kernel,by decide +kernel⟩
theorem jje:ju ["one","other"] ["one","other"] (jj jfL):=⟨rfl,rfl,rfl,by decide +kernel,rfl,by decide +kernel,by decide +kernel⟩
theorem jrP:ju ["quad"] ["quad"] (jj joA):=⟨rfl,rfl,rfl,by decide +kernel,rfl,by decide +kernel,by decide +kernel⟩
theorem jlk:ju ["turn"] ["turn"] (jj jig):=⟨rfl,rfl,rfl,by decide +kernel,rfl,by decide +kernel,by decide +kernel⟩
theorem jie:ju ["told"] ["told"] (jj jfW):=⟨rfl,rfl,rfl,by decide +kernel,rfl,by decide +kernel,by decide +kernel⟩
theorem jgz:ju ["told"] ["told"] (jj jee):=⟨rfl,rfl,rfl,by decide +kernel,rfl,by decide +kernel,by decide +kernel⟩
theorem jlF:ju ["one","times","other","times_too"] ["one","times","other","times_too"] (jj jiU):=⟨rfl,rfl,rfl,by decide +kernel,rfl,by decide +kernel,by decide +kernel⟩
theorem jjO:ju ["row","taken","times"] ["row","taken","times"] (jj jg9):=⟨rfl,rfl,rfl,by decide +kernel,rfl,by decide +kernel,by decide +kernel⟩
theorem jlX:ju ["one","other","row","below","rest"] ["one","other"] (jj jjh):=⟨rfl,rfl,rfl,by decide +kernel,rfl,by decide +kernel,by decide +kernel⟩
theorem jhQ:ju ["dial","w","m","last","middle","a","d","f","b","c","e"] ["dial"] (jj jeF):=⟨rfl,rfl,rfl,by decide +kernel,rfl,by decide +kernel,by decide +kernel⟩
theorem jnV:ju ["rows","place"] ["rows","place"] (jj jkJ):=⟨rfl,rfl,rfl,by decide +kernel,rfl,by decide +kernel,by decide +kernel⟩
theorem jrX:ju ["turn","rows"] ["turn"] (jj jp6):=⟨rfl,rfl,rfl,by decide +kernel,rfl,by decide +kernel,by decide +kernel⟩
theorem jfo:ju ["n","other","rest","shared"] ["n","other"] (jj jdr):=⟨rfl,rfl,rfl,by decide +kernel,rfl,by decide +kernel,by decide +kernel⟩
theorem jlU:ju ["turn","bottom","w","row"] ["turn"] (jj jiV):=⟨rfl,rfl,rfl,by decide +kernel,rfl,by decide +kernel,by decide +kernel⟩
theorem jfv:ju ["turn"] ["turn"] (jj jdp):=⟨rfl,rfl,rfl,by decide +kernel,rfl,by decide +kernel,by decide +kernel⟩
theorem jhM:ju ["told"] ["told"] (jj jeI):=⟨rfl,rfl,rfl,by decide +kernel,rfl,by decide +kernel,by decide +kernel⟩
theorem jo3:ju ["turn","point","spot"] ["turn","point"] (jj jmn):=⟨rfl,rfl,rfl,by decide +kernel,rfl,by decide +kernel,by decide +kernel⟩
theorem jiM:ju ["told"] ["told"] (jj jfO):=⟨rfl,rfl,rfl,by decide +kernel,rfl,by decide +kernel,by decide +kernel⟩
theorem ji8:ju ["truth"] ["truth"] (jj jfC):=⟨rfl,rfl,rfl,by decide +kernel,rfl,by decide +kernel,by decide +kernel⟩
theorem jiO:ju ["turn","point"] ["turn","point"] (jj jfB):=⟨rfl,rfl,rfl,by decide +kernel,rfl,by decide +kernel,by decide +kernel⟩
theorem jgF:ju ["told"] ["told"] (jj jd4):=⟨rfl,rfl,rfl,by decide +kernel,rfl,by decide +kernel,by decide +kernel⟩
theorem jlR:ju ["quad","a","b","c","d"] ["quad"] (jj jiv):=⟨rfl,rfl,rfl,by decide +kernel,rfl,by decide +kernel,by decide +kernel⟩
theorem je4:ju ["rows","bottom"] ["rows","bottom"] (jj jc2):=⟨rfl,rfl,rfl,by decide +kernel,rfl,by decide +kernel,by decide +kernel⟩
theorem jk6:ju ["quad","bottom","rows","shrink"] ["quad"] (jj jja):=⟨rfl,rfl,rfl,by decide +kernel,rfl,by decide +kernel,by decide +kernel⟩
theorem jlE:ju ["one","other"] ["one","other"] (jj jiY):=⟨rfl,rfl,rfl,by decide +kernel,rfl,by decide +kernel,by decide +kernel⟩
theorem jqh:ju ["one","other"] ["one","other"] (jj jna):=⟨rfl,rfl,rfl,by decide +kernel,rfl,by decide +kernel,by decide +kernel⟩
theorem jgB:ju ["one","other"] ["one","other"] (jj jec):=⟨rfl,rfl,rfl,by decide +kernel,rfl,by decide +kernel,by decide +kernel⟩
theorem jip:ju ["told"] ["told"] (jj jfQ):=⟨rfl,rfl,rfl,by decide +kernel,rfl,by decide +kernel,by decide +kernel⟩
theorem jo7:ju ["turn","slant"] ["turn"] (jj jmK):=⟨rfl,rfl,rfl,by decide +kernel,rfl,by decide +kernel,by decide +kernel⟩
theorem jhK:ju ["told","found"] ["told"] (jj jfa):=⟨rfl,rfl,rfl,by decide +kernel,rfl,by decide +kernel,by decide +kernel⟩
theorem jfg:ju ["told"] ["told"] (jj jdl):=⟨rfl,rfl,rfl,by decide +kernel,rfl,by decide +kernel,by decide +kernel⟩
theorem jgh:ju ["told"] ["told"] (jj jeg):=⟨rfl,rfl,rfl,by decide +kernel,rfl,by decide +kernel,by decide +kernel⟩
theorem jii:ju ["told"] ["told"] (jj jfX):=⟨rfl,rfl,rfl,by decide +kernel,rfl,by decide +kernel,by decide +kernel⟩
theorem jkZ:ju ["self","row","words","first","told"] ["self","row"] (jj jsT):=⟨rfl,rfl,rfl,by decide +kernel,rfl,by decide +kernel,by decide +kernel⟩
theorem jiZ:ju ["numbers"] ["numbers"] (jj jfZ):=⟨rfl,rfl,rfl,by decide +kernel,rfl,by decide +kernel,by decide +kernel⟩
theorem jhL:ju ["desk","held","name","word","gone"] ["desk","held"] (jj jeT):=⟨rfl,rfl,rfl,by decide +kernel,rfl,by decide +kernel,by decide +kernel⟩
theorem jgm:ju ["numbers","found","one","other","left"] ["numbers"] (jj jd5):=⟨rfl,rfl,rfl,by decide +kernel,rfl,by decide +kernel,by decide +kernel⟩
theorem jit:ju ["quad","by"] ["quad"] (jj jfP):=⟨rfl,rfl,rfl,by decide +kernel,rfl,by decide +kernel,by decide +kernel⟩
theorem jic:ju ["one","other","a","b","c","d","e","f","g","h","first","second","third"] ["one","other"] (jj jfH):=⟨rfl,rfl,rfl,by decide +kernel,rfl,by decide +kernel,by decide +kernel⟩
theorem jjJ:ju ["cell","most","left"] ["cell","most"] (jj jhy):=⟨rfl,rfl,rfl,by decide +kernel,rfl,by decide +kernel,by decide +kernel⟩
theorem jkV:ju ["cells","held","names","cell","name","other","quad","way","old"] ["cells","held"] (jj jif):=⟨rfl,rfl,rfl,by decide +kernel,rfl,by decide +kernel,by decide +kernel⟩
theorem jgE:ju ["script","k"] ["script","k"] (jj jd8):=⟨rfl,rfl,rfl,by decide +kernel,rfl,by decide +kernel,by decide +kernel⟩
theorem juw:ju ["script","desks","held","k","which"] ["script"] (jj jsC):=⟨rfl,rfl,rfl,by decide +kernel,rfl,by decide +kernel,by decide +kernel⟩
def jid:D:=(.str "0123456789")
def jjf:D:=(.str "abcdefghijklmnopqrstuvwxyz")
def jhn:D:=(.tup [(.int 2),(.int 3),(.int 4),(.int 6),(.int 1)])
abbrev ks_MAKERS:List Str:=["turn","after","back"]
abbrev ks_ROWS:List Str:=["turn","after","back","drop","quad","bottom","stair","move","shared","same","order"]
abbrev ja3:List D:=[(.tup [(.str "new"),(.str "quad")]),(.tup [(.str "new"),(.str "turn"),(.str "turn")]),(.tup [(.str "new"),(.str "turn")]),(.tup [(.str "turn")]),(.tup [(.str "turn")]),(.tup [(.str "turn")]),(.tup [(.str "turn")]),(.tup [(.str "turn"),(.str "point")]),(.tup [(.str "turn"),(.str "point")]),(.tup [(.str "turn"),(.str "turn")]),(.tup [(.str "turn")])]
abbrev ks_TELLERS:List Str:=["quad","bottom","stair","move","shared","same","order"]
set_option genInjectivity false
set_option genSizeOf false
structure Ad where
 a_init:Addr
 d_init:FuncData
 a_has_only:Addr
 d_has_only:FuncData
 a_is_number:Addr
 d_is_number:FuncData
 a_numbers_of:Addr
 d_numbers_of:FuncData
 a_is_name:Addr
 d_is_name:FuncData
 a_new_name:Addr
 d_new_name:FuncData
 a_meaning:Addr
 d_meaning:FuncData
 a_meanings:Addr
 d_meanings:FuncData
 a_words_of:Addr
 d_words_of:FuncData
 a_numbers_told:Addr
 d_numbers_told:FuncData
 a_divisor_of_two:Addr
 d_divisor_of_two:FuncData
 a_divisor:Addr
 d_divisor:FuncData
 a_leads_below_nought:Addr
 d_leads_below_nought:FuncData
 a_row_over:Addr
 d_row_over:FuncData
 a_plain:Addr
 d_plain:FuncData
 a_multiples_of_quad:Addr
 d_multiples_of_quad:FuncData
 a_row_times:Addr
 d_row_times:FuncData
 a_size:Addr
 d_size:FuncData
 a_quad_of:Addr
 d_quad_of:FuncData
 a_told_quad:Addr
 d_told_quad:FuncData
 a_told_bottom:Addr
 d_told_bottom:FuncData
 a_row_mix:Addr
 d_row_mix:FuncData
 a_row_less:Addr
 d_row_less:FuncData
 a_makings:Addr
 d_makings:FuncData
 a_dial_stair:Addr
 d_dial_stair:FuncData
 a_column:Addr
 d_column:FuncData
 a_back:Addr
 d_back:FuncData
 a_part_without:Addr
 d_part_without:FuncData
 a_dial_of:Addr
 d_dial_of:FuncData
 a_shared_stair:Addr
 d_shared_stair:FuncData
 a_told_stair:Addr
 d_told_stair:FuncData
 a_moved:Addr
 d_moved:FuncData
 a_told_spot:Addr
 d_told_spot:FuncData
 a_yes_or_no:Addr
 d_yes_or_no:FuncData
 a_is_shared:Addr
 d_is_shared:FuncData
 a_told_shared:Addr
 d_told_shared:FuncData
 a_rows_of:Addr
 d_rows_of:FuncData
 a_table_divisor:Addr
 d_table_divisor:FuncData
 a_turn_of:Addr
 d_turn_of:FuncData
 a_product:Addr
 d_product:FuncData
 a_after:Addr
 d_after:FuncData
 a_share_alike:Addr
 d_share_alike:FuncData
 a_told_same:Addr
 d_told_same:FuncData
 a_order:Addr
 d_order:FuncData
 a_told_order:Addr
 d_told_order:FuncData
 a_made_of_quad:Addr
 d_made_of_quad:FuncData
 a_made_of_two:Addr
 d_made_of_two:FuncData
 a_made_back:Addr
 d_made_back:FuncData
 a_say:Addr
 d_say:FuncData
 a_law_spelt:Addr
 d_law_spelt:FuncData
 a_law_looked:Addr
 d_law_looked:FuncData
 a_law_divisor:Addr
 d_law_divisor:FuncData
 a_law_plain:Addr
 d_law_plain:FuncData
 a_law_times:Addr
 d_law_times:FuncData
 a_law_near:Addr
 d_law_near:FuncData
 a_law_row:Addr
 d_law_row:FuncData
 a_law_cell_at:Addr
 d_law_cell_at:FuncData
 a_law:Addr
 d_law:FuncData
 v_FIGURES:V
 u_FIGURES:Value
 v_LETTERS:V
 u_LETTERS:Value
 v_ORDERS:V
 u_ORDERS:Value
 x_NoName:Addr
 c_Desk:Addr
 q_MAKERS:Addr
 q_ROWS:Addr
 vs_ROWS:List V
 us_ROWS:List Value
 q_TELLERS:Addr
abbrev zc (t:Ad):Zc:=⟨t.c_Desk,"turns"⟩
structure Txt (P:Program) (w:World) (K:PySem.W.Frag) (mg:Str->Option Value) (t:Ad):Prop where
 D_init:jek K t.c_Desk "__init__" "Desk.__init__" jpk t.a_init t.d_init ["self"]
 D_has_only:jp K mg "has_only" jhv t.a_has_only t.d_has_only ["word","signs"]
 D_is_number:jp K mg "is_number" jfE t.a_is_number t.d_is_number ["word"]
 D_numbers_of:jp K mg "numbers_of" jeS t.a_numbers_of t.d_numbers_of ["word","often"]
 D_is_name:jp K mg "is_name" ji7 t.a_is_name t.d_is_name ["word"]
 D_new_name:jp K mg "new_name" jg4 t.a_new_name t.d_new_name ["word"]
 D_meaning:jek K t.c_Desk "meaning" "Desk.meaning" jjb t.a_meaning t.d_meaning ["self","kind","word"]
 D_meanings:jek K t.c_Desk "meanings" "Desk.meanings" jgW t.a_meanings t.d_meanings ["self","words"]
 D_words_of:jp K mg "words_of" jhr t.a_words_of t.d_words_of ["row"]
 D_numbers_told:jp K mg "numbers_told" jdq t.a_numbers_told t.d_numbers_told ["numbers"]
 D_divisor_of_two:jp K mg "divisor_of_two" jcG t.a_divisor_of_two t.d_divisor_of_two ["one","other"]
 D_divisor:jp K mg "divisor" ji0 t.a_divisor t.d_divisor ["numbers"]
 D_leads_below_nought:jp K mg "leads_below_nought" jbG t.a_leads_below_nought t.d_leads_below_nought ["quad"]
 D_row_over:jp K mg "row_over" jg0 t.a_row_over t.d_row_over ["row","n"]
 D_plain:jp K mg "plain" jm6 t.a_plain t.d_plain ["quad"]
 D_multiples_of_quad:jp K mg "multiples_of_quad" jbQ t.a_multiples_of_quad t.d_multiples_of_quad ["turn"]
 D_row_times:jp K mg "row_times" jfL t.a_row_times t.d_row_times ["one","other"]
 D_size:jp K mg "size" joA t.a_size t.d_size ["quad"]
 D_quad_of:jp K mg "quad_of" jig t.a_quad_of t.d_quad_of ["turn"]
 D_told_quad:jp K mg "told_quad" jfW t.a_told_quad t.d_told_quad ["told"]
 D_told_bottom:jp K mg "told_bottom" jee t.a_told_bottom t.d_told_bottom ["told"]
 D_row_mix:jp K mg "row_mix" jiU t.a_row_mix t.d_row_mix ["one","times","other","times_too"]
 D_row_less:jp K mg "row_less" jg9 t.a_row_less t.d_row_less ["row","taken","times"]
 D_makings:jp K mg "makings" jjh t.a_makings t.d_makings ["one","other"]
 D_dial_stair:jp K mg "dial_stair" jeF t.a_dial_stair t.d_dial_stair ["dial"]
 D_column:jp K mg "column" jkJ t.a_column t.d_column ["rows","place"]
 D_back:jp K mg "back" jp6 t.a_back t.d_back ["turn"]
 D_part_without:jp K mg "part_without" jdr t.a_part_without t.d_part_without ["n","other"]
 D_dial_of:jp K mg "dial_of" jiV t.a_dial_of t.d_dial_of ["turn"]
 D_shared_stair:jp K mg "shared_stair" jdp t.a_shared_stair t.d_shared_stair ["turn"]
 D_told_stair:jp K mg "told_stair" jeI t.a_told_stair t.d_told_stair ["told"]
 D_moved:jp K mg "moved" jmn t.a_moved t.d_moved ["turn","point"]
 D_told_spot:jp K mg "told_spot" jfO t.a_told_spot t.d_told_spot ["told"]
 D_yes_or_no:jp K mg "yes_or_no" jfC t.a_yes_or_no t.d_yes_or_no ["truth"]
 D_is_shared:jp K mg "is_shared" jfB t.a_is_shared t.d_is_shared ["turn","point"]
 D_told_shared:jp K mg "told_shared" jd4 t.a_told_shared t.d_told_shared ["told"]
 D_rows_of:jp K mg "rows_of" jiv t.a_rows_of t.d_rows_of ["quad"]
 D_table_divisor:jp K mg "table_divisor" jc2 t.a_table_divisor t.d_table_divisor ["rows","bottom"]
 D_turn_of:jp K mg "turn_of" jja t.a_turn_of t.d_turn_of ["quad"]
 D_product:jp K mg "product" jiY t.a_product t.d_product ["one","other"]
 D_after:jp K mg "after" jna t.a_after t.d_after ["one","other"]
 D_share_alike:jp K mg "share_alike" jec t.a_share_alike t.d_share_alike ["one","other"]
 D_told_same:jp K mg "told_same" jfQ t.a_told_same t.d_told_same ["told"]
 D_order:jp K mg "order" jmK t.a_order t.d_order ["turn"]
 D_told_order:jp K mg "told_order" jfa t.a_told_order t.d_told_order ["told"]
 D_made_of_quad:jp K mg "made_of_quad" jdl t.a_made_of_quad t.d_made_of_quad ["told"]
 D_made_of_two:jp K mg "made_of_two" jeg t.a_made_of_two t.d_made_of_two ["told"]
 D_made_back:jp K mg "made_back" jfX t.a_made_back t.d_made_back ["told"]
 D_say:jek K t.c_Desk "say" "Desk.say" jsT t.a_say t.d_say ["self","row"]
 D_law_spelt:jp K mg "_law_spelt" jfZ t.a_law_spelt t.d_law_spelt ["numbers"]
 D_law_looked:jp K mg "_law_looked" jeT t.a_law_looked t.d_law_looked ["desk","held"]
 D_law_divisor:jp K mg "_law_divisor" jd5 t.a_law_divisor t.d_law_divisor ["numbers"]
 D_law_plain:jp K mg "_law_plain" jfP t.a_law_plain t.d_law_plain ["quad"]
 D_law_times:jp K mg "_law_times" jfH t.a_law_times t.d_law_times ["one","other"]
 D_law_near:jp K mg "_law_near" jhy t.a_law_near t.d_law_near ["cell","most"]
 D_law_row:jp K mg "_law_row" jif t.a_law_row t.d_law_row ["cells","held"]
 D_law_cell_at:jp K mg "_law_cell_at" jd8 t.a_law_cell_at t.d_law_cell_at ["script","k"]
 D_law:jp K mg "law" jsC t.a_law t.d_law ["script"]
 z_abs:mg "abs" = none
 z_all:mg "all" = none
 z_int:mg "int" = none
 z_isinstance:mg "isinstance" = none
 z_len:mg "len" = none
 z_max:mg "max" = none
 z_min:mg "min" = none
 z_range:mg "range" = none
 z_str:mg "str" = none
 z_sum:mg "sum" = none
 z_tuple:mg "tuple" = none
 m_FIGURES:mg "FIGURES" = some t.u_FIGURES
 c_FIGURES:jea K jid t.v_FIGURES t.u_FIGURES
 m_LETTERS:mg "LETTERS" = some t.u_LETTERS
 c_LETTERS:jea K jjf t.v_LETTERS t.u_LETTERS
 m_ORDERS:mg "ORDERS" = some t.u_ORDERS
 c_ORDERS:jea K jhn t.v_ORDERS t.u_ORDERS
 m_NoName:mg "NoName" = some (.ref t.x_NoName)
 xe_NoName:PySem.W.excIn K t.x_NoName bmV "ValueError.__new__" = true
 xmb_NoName:PySem.W.mroIn K t.x_NoName (.type "BaseException") = some true
 xs_NoName_NoName:PySem.W.mroIn K t.x_NoName (.ref t.x_NoName) = some true
 xty_NoName:PySem.W.typeIn K (.ref t.x_NoName) = some (.type "type")
 m_Desk:mg "Desk" = some (.ref t.c_Desk)
 cl:Cls K t.c_Desk
 na:NoAttr K t.c_Desk "turns"
 mkc:Mk K t.c_Desk t.a_init
 m_MAKERS:mg "MAKERS" = some (.ref t.q_MAKERS)
 d_MAKERS:CDct P w K t.q_MAKERS ks_MAKERS [.ref t.a_made_of_quad,.ref t.a_made_of_two,.ref t.a_made_back]
 w_MAKERS:Vals [.ref t.a_made_of_quad,.ref t.a_made_of_two,.ref t.a_made_back] [.ref t.a_made_of_quad,.ref t.a_made_of_two,.ref t.a_made_back]
 m_ROWS:mg "ROWS" = some (.ref t.q_ROWS)
 d_ROWS:CDct P w K t.q_ROWS ks_ROWS t.us_ROWS
 e_ROWS:jjm K ja3 t.vs_ROWS t.us_ROWS
 m_TELLERS:mg "TELLERS" = some (.ref t.q_TELLERS)
 d_TELLERS:CDct P w K t.q_TELLERS ks_TELLERS [.ref t.a_told_quad,.ref t.a_told_bottom,.ref t.a_told_stair,.ref t.a_told_spot,.ref t.a_told_shared,.ref t.a_told_same,.ref t.a_told_order]
 w_TELLERS:Vals [.ref t.a_told_quad,.ref t.a_told_bottom,.ref t.a_told_stair,.ref t.a_told_spot,.ref t.a_told_shared,.ref t.a_told_same,.ref t.a_told_order] [.ref t.a_told_quad,.ref t.a_told_bottom,.ref t.a_told_stair,.ref t.a_told_spot,.ref t.a_told_shared,.ref t.a_told_same,.ref t.a_told_order]
theorem jl {sc:Scope} {x:Str} (h:(sc.names.lookup x == some .local || sc.names.lookup x == some .cell) = true):Loc sc x:=by
 simp only [Bool.or_eq_true,beq_iff_eq] at h
 exact h
variable {P:Program} {w:World} {K:PySem.W.Frag} {mg:Str->Option Value} {base:Heap} {t:Ad}
theorem jrg (T:Txt P w K mg t):FnOk P w K mg base jS 1 t.a_init t.d_init ["self"] (jtL (zc t)):=by
 refine T.D_init.F.ok jxO (fun vs H Q E h=>?_) (fun cdv A outer s H vs Q E hr h=>?_)
 ·obtain ⟨x,dx,rfl,_⟩:=h
  rfl
 ·obtain ⟨x,dx,rfl,hp,k⟩:=h
  refine ⟨_,jjk (jyt (pv 0) jpe rfl),?_⟩
  intro d hd
  have npd:x ≠ d:=j9 hp hd
  exact ⟨_,rfl,x,_,dx,[],rfl,(by rw [jy npd]; exact hp),T.cl,T.na,(by show 0 < 1000; decide),k d hd⟩
def jc1:jK:=fun ds Φ=>∃ z s:Str,ds = [.str z,.str s]∧z.length ≤ 900∧Φ (.bl (jgp z s))
theorem jhJ:jO jc1:=fun ds Φ Ψ mo h0=>by
 obtain ⟨z,s,a,b,h⟩:=h0
 exact ⟨z,s,a,b,mo _ h⟩
theorem js9 {Φ:List D->Prop} {d0:D} {z s:Str} (hl:z.length ≤ 900) (h:Φ ((cp z).map fun c=>.bl (decide (c ∈ cp s)))) :
  je9 (gN 0) (fun _ Φ=>Φ true) (jf juH (jb 0) (jb 2)) [.un,.val d0,.val (.str s)] (je7 z) [] Φ:=by
 refine jeP (fun d=>match d with | .str x=>.bl (inT x s) | d=>d) _ _ (by rw [List.length_nil,je7,List.length_map,show z.cps.toList.length = z.length from ja1 z]; omega) (fun d hd Ψ p=>?_) ?_
 ·obtain ⟨c,hc,rfl⟩:=List.mem_map.mp hd
  exact p
 ·rw [List.nil_append,je7,List.map_map]
  refine cast (congrArg Φ (List.map_congr_left fun c _=>?_)) h
  exact congrArg D.bl (jxN s c).symm
theorem jxd {l:List Nat} {f:Nat->Bool}:∀ Φ:D->Prop,Φ (.bl (l.all f))->jsS [.lst (l.map fun c=>.bl (f c))] Φ:=fun Φ h=>by
 refine ⟨l.map f,by rw [List.map_map]; rfl,?_⟩
 rw [List.all_map]
 exact h
abbrev jlx:S3 :=
 (jE (dB jsS (je (dF (jbq 1 (jwp (jb 0)) (gN 0) (fun _ Φ=>Φ true) (jf juH (jb 0) (jb 2)))) jm)))
theorem jqV:∀ (ds:List D) (Φ:D->Prop),ds.length = 2->jc1 ds Φ->jlx (jA Φ) (jv 2 ds):=by
 rintro ds Φ hl ⟨z,s,rfl,hz,h⟩
 exact js9 hz (jxd _ h)
theorem jkb (T:Txt P w K mg t):FnOk P w K mg base jS 1 t.a_has_only t.d_has_only ["word","signs"] (j2 K 2 jc1):=by
 have sc:=jj8
 refine jM (k:=0) T.D_has_only.F jj8 (fun cdv A outer s H E hr=>⟨jlx,(jq (jr (jan (jwL rfl) rfl T.z_all jtD (jc (jaw (jaQ (xs:=["sign"]) (M:=["word","signs"]) (n:=1) (by rfl) rfl rfl (jw5 (ja (pv 0))) (fun _ _ _ _=>(jam (i:=0) (by decide) (show List.Nodup (["sign","word","signs"]:List Str) by decide +kernel) rfl (by first | exact Or.inl rfl | exact Or.inr rfl))) (fun _ _ _ _=>jaS) (fun _ _ _ _=>(jlf jzQ (ja (pv 0)) (ja (pv 2)) (by rfl))))) jg)))),jqV⟩)
def jbg (z:Str):Str:=if Txt.startswith z "-" = true then Txt.slice z (some 1) none else z
def jju (z:Str):Bool:=decide (z = "0") || (decide (1 ≤ (jbg z).length) && decide ((jbg z).length ≤ 60) && jgp (jbg z) "0123456789" && !Txt.startswith (jbg z) "0")
def jdL:jK:=fun ds Φ=>∃ z:Str,ds = [.str z]∧z.length ≤ 900∧Φ (.bl (jju z))
theorem jme:jO jdL:=fun ds Φ Ψ mo h0=>by
 obtain ⟨z,a,b,h⟩:=h0
 exact ⟨z,a,b,mo _ h⟩
theorem jqX (z:Str):(Txt.slice z (some 1) none).length ≤ z.length:=Txt.slice_le z _ _
theorem eqS_str {x y:Str}:jC (.str x) (.str y) = decide (x = y):=by
 rw [show jC (.str x) (.str y) = (x == y) by simp only [jC]]
 by_cases e:x = y
 ·subst e; simp
 ·rw [decide_eq_false e]; exact beq_false_of_ne e
theorem jgQ {x:Str}:dep (.str x) ≤ 100:=by simp only [dep]; decide
theorem le_i {a b:Nat}:decide ((a:Int) ≤ (b:Int)) = decide (a ≤ b):=by simp
theorem jsN (z:Str):(jbg z).length ≤ z.length:=by
 unfold jbg; split
 ·exact jqX z
 ·exact Nat.le_refl _
theorem jmP {n:Nat} (h:n ≤ 900):n ≤ sizeLine:=Nat.le_trans h (by decide)
def jd3:S3 :=
 (jE (jsM (jlH (dI0 fun i j=>.bl (decide (i ≤ j))) (dI0 fun i j=>.bl (decide (i ≤ j))) (dC (.int 1)) (dB jsY (je (jb 1) jm)) (dC (.int 60))) (jsM (jx 2 jc1 (je (jb 1) (je (dC jid) jm))) (jzi (dMt jmA (jb 1) (dC (.str "0")))))))
def jd9:S3 :=
 (jB (jz 1 (dIf (dT (dMt jmA (jb 0) (dC (.str "-")))) (jy6 (jb 0) (jou (dC (.int 1))) jwz) (jb 0)))
 jd3)
abbrev jjL:S3 :=
 (jB (sIf (dT (jf jfA (jb 0) (dC (.str "0"))))
 (jE (dC (.bl true)))
 ja2)
 jd9)
theorem jqs:∀ (ds:List D) (Φ:D->Prop),ds.length = 1->jdL ds Φ->jjL (jA Φ) (jv 2 ds):=by
 rintro ds Φ hl ⟨z,rfl,hz,h⟩
 have hf:=Nat.le_trans (jsN z) hz
 by_cases e:z = "0"
 ·subst e
  exact ⟨jgQ,tT (jha _) h⟩
 ·have e0:decide (z = "0") = false:=decide_eq_false e
  unfold jju at h
  rw [e0,Bool.false_or] at h
  refine ⟨jgQ,tF (eqS_str.trans e0) ?_⟩
  show jd9 (jA Φ) [.val (.str z),.un]
  unfold jd9
  have go:jd3 (jA Φ) [.val (.str z),.val (.str (jbg z))]:=by
   unfold jd3
   refine ⟨jmP hf,?_⟩
   refine tst (fun k=>?_) fun k=>?_
   ·rw [show decide (1 ≤ (jbg z).length) = true from le_i.symm.trans k,Bool.true_and] at h
    show if decide (((jbg z).length:Int) ≤ ((60:Nat):Int)) = true then _ else _
    rw [le_i]
    refine tst (fun k2=>?_) fun k2=>?_
    ·rw [k2,Bool.true_and] at h
     refine ⟨rfl,_,_,rfl,hf,?_⟩
     refine tst (fun k3=>?_) fun k3=>?_
     ·rw [k3,Bool.true_and] at h
      exact h
     ·rw [k3,Bool.false_and] at h
      exact h
    ·rw [k2,Bool.false_and,Bool.false_and] at h
     exact h
   ·rw [show decide (1 ≤ (jbg z).length) = false from le_i.symm.trans k,Bool.false_and,Bool.false_and,Bool.false_and] at h
    exact tF rfl h
  unfold jbg at go
  refine tst (fun k=>?_) fun k=>?_
  ·rw [if_pos k] at go
   exact ⟨jmP hz,go⟩
  ·rw [if_neg (by rw [k]; exact Bool.false_ne_true)] at go
   exact go
theorem joH (T:Txt P w K mg t):FnOk P w K mg base jS 2 t.a_is_number t.d_is_number ["word"] (j2 K 1 jdL):=by
 have sc:=jin
 refine jM (k:=1) T.D_is_number.F jin (fun cdv A outer s H E hr=>⟨jjL,(jk (jaK (jal (jey (hu3 hr)) (ja (pv 0)) jV (j3 _))
 (jq (jr jhj))
 jau)
 (jk (jo (i:=1) sc.nd rfl (jl rfl) (jpY (jeY (jh7 PySem.F.slot_str_startswith PySem.F.type_str_startswith jpD (ja (pv 0)) jV)) (jta (ja (pv 0)) (jkN jd) jvN) (ja (pv 0))))
 (jq (jr (jqp (jpZ jsi jsi jd (jan jtb rfl T.z_len jbZ (jc (ja (pv 1)) jg)) jd) (jqp (jn (jkb T) jhJ (hr.mono (by decide)) T.D_has_only (jc (ja (pv 1)) (jc (jkK rfl T.m_FIGURES T.c_FIGURES) jg))) (jt5 (jyZ (jh7 PySem.F.slot_str_startswith PySem.F.type_str_startswith jpD (ja (pv 1)) jV))))))))),jqs⟩)
theorem jhi (z:Str) (c:Nat):Txt.startswith z ⟨#[c]⟩ = decide ((cp z).head? = some c):=by
 have e:z = ⟨(cp z).toArray⟩:=by cases z; rfl
 rw [e]
 generalize cp z = l
 cases l with
 | nil=>rfl
 | cons a l =>
  rw [Bool.eq_iff_iff]
  simp [Txt.startswith,Builtin.Str.subAt,Str.length]
  show a = c ↔ some a = some c
  simp
theorem jsK (z:Str):cp (Txt.slice z (some 1) none) = (cp z).drop 1:=by
 have e:Builtin.Str.strSliceIndices (some (1:Int)) none 1 z.length = (List.range (z.length - 1)).map (fun k=>1 + k):=by
  by_cases h:1 ≤ z.length
  ·rw [← StrLaws.strSliceIndices_plain h (Nat.le_refl _)]
   simp [Builtin.Str.strSliceIndices]
   rw [if_neg (by omega),Int.min_self,Int.max_eq_right (a:=0) (b:=(z.length:Int)) (by omega)]
  ·have h0:z.length = 0:=by omega
   rw [h0]
   rfl
 unfold Txt.slice
 rw [e,List.length_map,List.length_range]
 by_cases h:1 ≤ z.length
 ·have pk:=StrLaws.picks (cp z) (z.length - 1) 1 (by rw [ja1]; omega)
  rw [List.take_of_length_le (by rw [List.length_drop,ja1]; omega)] at pk
  have ne:((1:Int) == 1 && (z.length - 1) == z.length) = false:=by
   rw [show ((z.length - 1) == z.length) = false from beq_false_of_ne (by omega),Bool.and_false]
  rw [ne,if_neg Bool.false_ne_true,← pk]
  show List.filterMap _ _ = List.filterMap _ _
  refine congrArg (fun f=>List.filterMap f _) (funext fun i=>?_)
  show z.cps[i]? = z.cps.toList[i]?
  rw [Array.getElem?_toList]
 ·have h0:z.length = 0:=by omega
  rw [h0,if_pos (by decide)]
  have l0:cp z = []:=List.length_eq_zero_iff.mp ((ja1 z).trans h0)
  rw [l0]
  rfl
theorem jvP {x:Str} {m:Nat} (h:cp x = dgs m):jgp x "0123456789" = true:=by
 unfold jgp
 rw [h,List.all_eq_true]
 intro c hc
 have r:=jdm m c hc
 have:c = 48 ∨ c = 49 ∨ c = 50 ∨ c = 51 ∨ c = 52 ∨ c = 53 ∨ c = 54 ∨ c = 55 ∨ c = 56 ∨ c = 57:=by omega
 rcases this with rfl | rfl | rfl | rfl | rfl | rfl | rfl | rfl | rfl | rfl <;> decide
theorem jnA {x:Str} {m:Nat} (h:cp x = dgs m) (hm:m ≠ 0) (hb:m < 10 ^ 60):(decide (1 ≤ x.length) && decide (x.length ≤ 60) && jgp x "0123456789" && !Txt.startswith x "0") = true:=by
 have l:=(jga (n:=(m:Int)) (k:=60) (by decide) hb).2
 have l2:x.length = (dgs m).length:=by rw [← h,ja1]
 have l3:(dgs m).length ≠ 0:=fun e=>joC m (List.length_eq_zero_iff.mp e)
 rw [show ((m:Int)).natAbs = m from rfl] at l
 rw [jvP h,decide_eq_true (show 1 ≤ x.length by omega),decide_eq_true (show x.length ≤ 60 by omega),show ("0":Str) = ⟨#[48]⟩ from rfl,jhi,h]
 cases e:dgs m with
 | nil=>rfl
 | cons a r =>
  have:a ≠ 48:=fun z=>jvO hm r (by rw [e,z])
  rw [decide_eq_false (by rw [List.head?_cons]; exact fun k=>this (Option.some.inj k))]
  rfl
theorem jyx {n:Int} (h:n.natAbs < 10 ^ 60):jju (jaA n) = true:=by
 cases n with
 | ofNat m =>
  show jju (jaA (m:Int)) = true
  by_cases z:m = 0
  ·subst z
   decide
  ·unfold jju
   have f:jbg (jaA (m:Int)) = jaA (m:Int):=by
    unfold jbg
    rw [if_neg]
    rw [show ("-":Str) = ⟨#[45]⟩ from rfl,jhi,jd1]
    intro k
    have k:=of_decide_eq_true k
    have:=jdm m 45 (List.mem_of_mem_head? k)
    omega
   rw [f,jnA (jd1 m) z h,Bool.or_true]
 | negSucc m =>
  unfold jju
  have f:cp (jbg (jaA (Int.negSucc m))) = dgs (m + 1):=by
   unfold jbg
   rw [if_pos,jsK,jih]
   ·rfl
   ·rw [show ("-":Str) = ⟨#[45]⟩ from rfl,jhi,jih]
    rfl
  rw [jnA f (by omega) h,Bool.or_true]
theorem jr1 {ns:List Int} (h:ns ≠ []):Txt.split (jaf ns) "," = ns.map jaA:=by
 unfold jaf
 rw [jhh]
 refine jk1 44 (fun e=>h (List.map_eq_nil_iff.mp e)) fun p hp=>?_
 obtain ⟨n,_,rfl⟩:=List.mem_map.mp hp
 exact jkE (.inl (by decide))
theorem jny (c:Nat):∀ l:List Str,(∀ p ∈ l,p.length ≤ 61)->(jcD c l).length ≤ 62 * l.length
 | [],_=>Nat.le_refl _
 | q :: r,h=>by
  have a:=h q List.mem_cons_self
  have b:=jny c r fun p hp=>h p (List.mem_cons_of_mem _ hp)
  show (c :: cp (Str.join ⟨#[c]⟩ (q :: r))).length ≤ _
  rw [jbC,List.length_cons,List.length_append,ja1,List.length_cons]
  omega
theorem jku {ns:List Int} (h:∀ n ∈ ns,n.natAbs < 10 ^ 60):(jaf ns).length ≤ 62 * ns.length:=by
 unfold jaf
 rw [jhh,← ja1]
 cases ns with
 | nil=>exact Nat.zero_le _
 | cons n ns =>
  have l:∀ m ∈ n :: ns,(jaA m).length ≤ 61:=fun m hm=>(jga (by decide) (h m hm)).1
  have a:=l n List.mem_cons_self
  have b:=jny 44 (ns.map jaA) fun p hp=>by
   obtain ⟨m,hm,rfl⟩:=List.mem_map.mp hp
   exact l m (List.mem_cons_of_mem _ hm)
  rw [List.length_map] at b
  rw [List.map_cons,show (",":Str) = ⟨#[44]⟩ from rfl,jbC,List.length_append,ja1,List.length_cons]
  omega
def jb6:jK:=fun ds Φ=>∃ ns:List Int,ds = [.str (jaf ns),.int ns.length]∧ns ≠ []∧ns.length ≤ 4∧(∀ n ∈ ns,n.natAbs < 10 ^ 60)∧Φ (.tup (ns.map .int))
theorem jbU:jO jb6:=fun ds Φ Ψ mo h0=>by
 obtain ⟨ns,a,b,c,d,h⟩:=h0
 exact ⟨ns,a,b,c,d,mo _ h⟩
def jdi:S3 :=
 (jE (dB jcT (je (dF (jbq 1 (iLT (jb 2)) (gN 0) (fun _ Φ=>Φ true) (dB jwd (je (jb 0) jm)))) jm)))
def jds:S3 :=
 (jB (sIf (bOr (dT (jf dNe (dB jf3 (je (jb 2) jm)) (jb 1))) (jqc (dT (dB jsS (je (dF (jbq 1 (iLT (jb 2)) (gN 0) (fun _ Φ=>Φ true) (jx 1 jdL (je (jb 0) jm)))) jm)))))
 jdV
 ja2)
 jdi)
abbrev jib:S3 :=
 (jB (jz 2 (dF (joQ (jb 0) (dC (.str ",")))))
 jds)
theorem joc:∀ (ds:List D) (Φ:D->Prop),ds.length = 2->jb6 ds Φ->jib (jA Φ) (jv 3 ds):=by
 rintro ds Φ hl ⟨ns,rfl,hne,hn,hb,h⟩
 have tl:=jku hb
 refine ⟨Nat.le_trans (show _ ≤ 1000 by omega) (by decide),rfl,?_⟩
 rw [jr1 hne]
 show jds (jA Φ) [.val (.str (jaf ns)),.val (.int ns.length),.val (.lst ((ns.map jaA).map .str))]
 unfold jds
 refine tF (by rw [List.length_map,List.length_map]; simp) ?_
 have sh:∀ n ∈ ns,(jaA n).length ≤ 61:=fun n hn=>(jga (by decide) (hb n hn)).1
 refine jeP (fun d=>.bl true) _ _ (by simp only [List.length_nil,List.length_map]; omega) (fun d hd Ψ p=>?_) ?_
 ·obtain ⟨x,hx,rfl⟩:=List.mem_map.mp hd
  obtain ⟨n,hn,rfl⟩:=List.mem_map.mp hx
  exact ⟨rfl,_,rfl,Nat.le_trans (sh n hn) (by decide),by rw [jyx (hb n hn)]; exact p⟩
 ·refine ⟨ns.map fun _=>true,by simp only [List.nil_append,List.map_map]; rfl,?_⟩
  refine tF (by rw [List.all_map]; simp) ?_
  show jdi (jA Φ) [.val (.str (jaf ns)),.val (.int ns.length),.val (.lst ((ns.map jaA).map .str))]
  unfold jdi
  refine jeP (fun d=>match d with | .str x=>.int ((PySem.intText? x).getD 0) | d=>d) _ _ (by simp only [List.length_nil,List.length_map]; omega) (fun d hd Ψ p=>?_) ?_
  ·obtain ⟨x,hx,rfl⟩:=List.mem_map.mp hd
   obtain ⟨n,hn,rfl⟩:=List.mem_map.mp hx
   have p:Ψ (.int ((PySem.intText? (jaA n)).getD 0)):=p
   rw [jh5 (hb n hn)] at p
   exact ⟨Nat.le_trans (sh n hn) (by decide),n,jh5 (hb n hn),p⟩
  ·rw [List.nil_append,List.map_map,List.map_map]
   refine cast (congrArg (fun l=>Φ (.tup l)) (List.map_congr_left fun n hn=>?_)) h
   show D.int n = .int ((PySem.intText? (jaA n)).getD 0)
   rw [jh5 (hb n hn)]
   rfl
theorem jcx (T:Txt P w K mg t):FnOk P w K mg base jS 3 t.a_numbers_of t.d_numbers_of ["word","often"] (j2 K 2 jb6):=by
 have sc:=jh1
 refine jM (k:=2) T.D_numbers_of.F jh1 (fun cdv A outer s H E hr=>⟨jib,(jk (jo (i:=2) sc.nd rfl (jl rfl) (jaw (jpt (ja (pv 0)) jV)))
 (jk (jaK (PWB.pb (jwe (jal jh8 (jan jes rfl T.z_len jbZ (jc (ja (pv 2)) jg)) (ja (pv 1)) (j3 _)) (jtl (jlB (jeY (jan (jwL rfl) rfl T.z_all jtD (jc (jaw (jaQ (xs:=["part"]) (M:=["word","often","parts"]) (n:=1) (by rfl) rfl rfl (jaR (ja (pv 2))) (fun _ _ _ _=>(jam (i:=0) (by decide) (show List.Nodup (["part","word","often","parts"]:List Str) by decide +kernel) rfl (by first | exact Or.inl rfl | exact Or.inr rfl))) (fun _ _ _ _=>jaS) (fun _ _ _ _=>(jn (joH T) jme (hr.mono (by decide)) T.D_is_number (jc (ja (pv 0)) jg))))) jg)))))))
 (jq jb2)
 jau)
 (jq (jr (jaJ jcO rfl T.z_tuple jbY (jc (jaw (jaQ (xs:=["part"]) (M:=["word","often","parts"]) (n:=1) (by rfl) rfl rfl (jaR (ja (pv 2))) (fun _ _ _ _=>(jam (i:=0) (by decide) (show List.Nodup (["part","word","often","parts"]:List Str) by decide +kernel) rfl (by first | exact Or.inl rfl | exact Or.inr rfl))) (fun _ _ _ _=>jaS) (fun _ _ _ _=>(jaJ jys rfl T.z_int jyY (jc (ja (pv 0)) jg))))) jg)))))),joc⟩)
def jfs:jK:=fun ds Φ=>∃ z:Str,ds = [.str z]∧z.length ≤ 900∧Φ (.bl (jaF z))
theorem joN:jO jfs:=fun ds Φ Ψ mo h0=>by
 obtain ⟨z,a,b,h⟩:=h0
 exact ⟨z,a,b,mo _ h⟩
abbrev jnE:S3 :=
 (jE (jsM (jlH (dI0 fun i j=>.bl (decide (i ≤ j))) (dI0 fun i j=>.bl (decide (i ≤ j))) (dC (.int 1)) (dB jsY (je (jb 0) jm)) (dC (.int 8))) (jx 2 jc1 (je (jb 0) (je (dC jjf) jm)))))
theorem jsV:∀ (ds:List D) (Φ:D->Prop),ds.length = 1->jfs ds Φ->jnE (jA Φ) (jv 1 ds):=by
 rintro ds Φ hl ⟨z,rfl,hz,h⟩
 refine ⟨jmP hz,?_⟩
 unfold jaF at h
 refine tst (fun k=>?_) fun k=>?_
 ·rw [show decide (1 ≤ z.length) = true from le_i.symm.trans k,Bool.true_and] at h
  show if decide ((z.length:Int) ≤ ((8:Nat):Int)) = true then _ else _
  rw [le_i]
  refine tst (fun k2=>?_) fun k2=>?_
  ·rw [k2,Bool.true_and] at h
   exact ⟨rfl,_,_,rfl,hz,h⟩
  ·rw [k2,Bool.false_and] at h
   exact h
 ·rw [show decide (1 ≤ z.length) = false from le_i.symm.trans k,Bool.false_and,Bool.false_and] at h
  exact tF rfl h
theorem jsZ (T:Txt P w K mg t):FnOk P w K mg base jS 2 t.a_is_name t.d_is_name ["word"] (j2 K 1 jfs):=by
 have sc:=jk8
 refine jM (k:=1) T.D_is_name.F jk8 (fun cdv A outer s H E hr=>⟨jnE,(jq (jr (jqp (jpZ jsi jsi jd (jan jtb rfl T.z_len jbZ (jc (ja (pv 0)) jg)) jd) (jt5 (jn (jkb T) jhJ (hr.mono (by decide)) T.D_has_only (jc (ja (pv 0)) (jc (jkK rfl T.m_LETTERS T.c_LETTERS) jg))))))),jsV⟩)
def jeq:jK:=fun ds Φ=>∃ z:Str,ds = [.str z]∧jaF z = true∧Φ (.str z)
theorem jhF:jO jeq:=fun ds Φ Ψ mo h0=>by
 obtain ⟨z,a,b,h⟩:=h0
 exact ⟨z,a,b,mo _ h⟩
theorem jsz {z:Str} (h:jaF z = true):z.length ≤ 8:=by
 unfold jaF at h
 simp only [Bool.and_eq_true,decide_eq_true_eq] at h
 exact h.1.2
def jpU:S3 :=
 (jE (jb 0))
abbrev jle:S3 :=
 (jB (sIf (jqc (dT (jx 1 jfs (je (jb 0) jm))))
 jdV
 ja2)
 jpU)
theorem jq3:∀ (ds:List D) (Φ:D->Prop),ds.length = 1->jeq ds Φ->jle (jA Φ) (jv 1 ds):=by
 rintro ds Φ hl ⟨z,rfl,hz,h⟩
 exact ⟨rfl,z,rfl,Nat.le_trans (jsz hz) (by decide),tF (by rw [hz]; rfl) h⟩
theorem jkc (T:Txt P w K mg t):FnOk P w K mg base jS 3 t.a_new_name t.d_new_name ["word"] (j2 K 1 jeq):=by
 have sc:=jjT
 refine jM (k:=2) T.D_new_name.F jjT (fun cdv A outer s H E hr=>⟨jle,(jk (jaK (jlB (jeY (jn (jsZ T) joN (hr.mono (by decide)) T.D_is_name (jc (ja (pv 0)) jg))))
 (jq jb2)
 jau)
 (jq (jr (ja (pv 0))))),jq3⟩)
def Mng (o:Ob) (kind word:Str) (d:D):Prop :=
 (kind = "quad"∧∃ ns:List Int,ns.length = 4∧word = jaf ns∧(∀ n ∈ ns,n.natAbs < 10 ^ 60)∧d = .tup (ns.map .int)) ∨
 (kind = "point"∧∃ ns:List Int,ns.length = 3∧word = jaf ns∧(∀ n ∈ ns,n.natAbs < 10 ^ 60)∧d = .tup (ns.map .int)) ∨
 (kind = "new"∧jaF word = true∧d = .str word) ∨
 (kind = "turn"∧jZ o.ks o.ds word = some d)
theorem jgX {α:Type} {x:Str} {d:α}:∀ {ks:List Str} {ds:List α},jZ ks ds x = some d->x ∈ ks
 | [],_,e=>by cases e
 | _ :: _,[],e=>by cases e
 | k :: ks,c :: ds,e=>by
  unfold jZ at e
  split at e
  ·rename_i h; rw [h]; exact List.mem_cons_self
  ·exact List.mem_cons_of_mem _ (jgX e)
def jb1:jdy:=fun as W Φ=>∃ (o:Ob) (kind word:Str) (d:D),as = [.raw (.ref o.p),.val (.str kind),.val (.str word)]∧o ∈ W∧o.p ≠ o.q∧Mng o kind word d∧Φ d W
theorem jeL:jej jb1:=fun as W Φ Ψ mo ⟨o,k,w,d,a,b,c,e,h⟩=>⟨o,k,w,d,a,b,c,e,mo _ _ h⟩
def jfI:S4 :=
 (jsv (jhc (jkC 0) (jb 2)))
def jfS:S4 :=
 (jas (wIf (jph (jb 2) (jkC 0) true)
 (jah jdV)
 jfi)
 jfI)
def jcp:S4 :=
 (jas (jah (sIf (dT (jf jfA (jb 1) (dC (.str "new"))))
 (jE (jx 1 jeq (je (jb 2) jm)))
 ja2))
 jfS)
def jbt:S4 :=
 (jas (jah (sIf (dT (jf jfA (jb 1) (dC (.str "point"))))
 (jE (jx 2 jb6 (je (jb 2) (je (dC (.int 3)) jm))))
 ja2))
 jcp)
abbrev jnX:S4 :=
 (jas (jah (sIf (dT (jf jfA (jb 1) (dC (.str "quad"))))
 (jE (jx 2 jb6 (je (jb 2) (je (dC (.int 4)) jm))))
 ja2))
 jbt)
theorem jr5:∀ (as:List Sl) (W:Wd) (Φ:D->Wd->Prop),as.length = 3->jb1 as W Φ->jnX (jao Φ) (ja8 3 as) W:=by
 rintro as W Φ hl ⟨o,kind,word,d,rfl,ho,hpq,hm,h⟩
 rcases hm with ⟨rfl,ns,hn,rfl,hb,rfl⟩ | ⟨rfl,ns,hn,rfl,hb,rfl⟩ | ⟨rfl,hw,rfl⟩ | ⟨rfl,hg⟩
 ·refine ⟨by decide,tT (by decide +kernel) ?_⟩
  exact ⟨rfl,ns,by rw [hn]; rfl,(by intro e; rw [e] at hn; cases hn),by omega,hb,h⟩
 ·refine ⟨by decide,tF (by decide +kernel) ⟨jN rfl,?_⟩⟩
  show jbt (jao Φ) [.raw (.ref o.p),.val (.str "point"),.val (.str (jaf ns))] W
  unfold jbt
  refine ⟨by decide,tT (by decide +kernel) ?_⟩
  exact ⟨rfl,ns,by rw [hn]; rfl,(by intro e; rw [e] at hn; cases hn),by omega,hb,h⟩
 ·refine ⟨by decide,tF (by decide +kernel) ⟨jN rfl,?_⟩⟩
  show jbt (jao Φ) [.raw (.ref o.p),.val (.str "new"),.val (.str word)] W
  unfold jbt
  refine ⟨by decide,tF (by decide +kernel) ⟨jN rfl,?_⟩⟩
  show jcp (jao Φ) [.raw (.ref o.p),.val (.str "new"),.val (.str word)] W
  unfold jcp
  refine ⟨by decide,tT (by decide +kernel) ?_⟩
  exact ⟨rfl,word,rfl,hw,h⟩
 ·refine ⟨by decide,tF (by decide +kernel) ⟨jN rfl,?_⟩⟩
  show jbt (jao Φ) [.raw (.ref o.p),.val (.str "turn"),.val (.str word)] W
  unfold jbt
  refine ⟨by decide,tF (by decide +kernel) ⟨jN rfl,?_⟩⟩
  show jcp (jao Φ) [.raw (.ref o.p),.val (.str "turn"),.val (.str word)] W
  unfold jcp
  refine ⟨by decide,tF (by decide +kernel) ⟨jN rfl,?_⟩⟩
  show jfS (jao Φ) [.raw (.ref o.p),.val (.str "turn"),.val (.str word)] W
  unfold jfS
  refine ⟨o,ho,rfl,hpq,tF (by rw [decide_eq_true (jgX hg)]; rfl) ?_⟩
  show jfI (jao Φ) [.raw (.ref o.p),.val (.str "turn"),.val (.str word)] W
  unfold jfI
  exact ⟨o,ho,rfl,hpq,d,hg,h⟩
theorem jkY (T:Txt P w K mg t):FnOk P w K mg base jS 4 t.a_meaning t.d_meaning ["self","kind","word"] (spW K (zc t) 3 jb1):=by
 have sc:=jev
 refine jiL (mo:=jeL) (k:=3) T.D_meaning.F jev (fun cdv A outer s H E hr=>⟨jnX,(jJ (jH (jaK (jal (jey (hu3 hr)) (ja (pv 1)) jV (j3 _))
 (jq (jr (jn (jcx T) jbU (hr.mono (by decide)) T.D_numbers_of (jc (ja (pv 2)) (jc jd jg)))))
 jau))
 (jJ (jH (jaK (jal (jey (hu3 hr)) (ja (pv 1)) jV (j3 _))
 (jq (jr (jn (jcx T) jbU (hr.mono (by decide)) T.D_numbers_of (jc (ja (pv 2)) (jc jd jg)))))
 jau))
 (jJ (jH (jaK (jal (jey (hu3 hr)) (ja (pv 1)) jV (j3 _))
 (jq (jr (jn (jkc T) jhF (hr.mono (by decide)) T.D_new_name (jc (ja (pv 2)) jg))))
 jau))
 (jJ (jde (jff (jbi hr) (ja (pv 2)) (jd0 (pv 0) T.cl T.na rfl))
 (jad (jH jb2))
 jdA)
 (jad (jjw (jd2 (jbi hr) (jd0 (pv 0) T.cl T.na rfl) (ja (pv 2)) (fun _ _=>rfl)))))))),jr5⟩)
def jji:List Sl->Wd->Prop:=fun as W=>∃ (o:Ob) (word:Str),as = [.raw (.ref o.p),.val (.str "turn"),.val (.str word)]∧o ∈ W∧o.p ≠ o.q∧word ∉ o.ks
def ji3:R4 :=
 (joR (jcs (dT (jf jfA (jb 1) (dC (.str "quad")))))
 (fun _ _ _=>False)
 (joR (jcs (dT (jf jfA (jb 1) (dC (.str "point")))))
 (fun _ _ _=>False)
 (joR (jcs (dT (jf jfA (jb 1) (dC (.str "new")))))
 (fun _ _ _=>False)
 (joR (jph (jb 2) (jkC 0) true)
 (jwc (fun ρ=>(je (dC (.str "no turn stands by this name")) jm) ρ fun ds=>ds.length ≤ sizeLine))
 (fun _ _ _=>False)))))
theorem jsf:∀ (as:List Sl) (W:Wd),as.length = 3->jji as W->ji3 (fun W'=>W' = W) (ja8 3 as) W:=by
 rintro as W hl ⟨o,word,rfl,ho,hpq,hn⟩
 unfold ji3
 refine ⟨by decide,tF (by decide +kernel) ?_⟩
 refine ⟨by decide,tF (by decide +kernel) ?_⟩
 refine ⟨by decide,tF (by decide +kernel) ?_⟩
 refine ⟨o,ho,rfl,hpq,tT (by rw [decide_eq_false hn]; rfl) ?_⟩
 exact ⟨j8 1 rfl (by decide),rfl⟩
theorem jsa (T:Txt P w K mg t):FnOk P w K mg base (CXC P w) 4 t.a_meaning t.d_meaning ["self","kind","word"] (jkv K (zc t) 3 t.x_NoName jji):=by
 have sc:=jev
 refine jo1 (k:=3) T.D_meaning.F jev (fun cdv A outer s H E hr hR hP hH=>⟨ji3,(jkW (jbs (jal (jey (hu3 hr)) (ja (pv 1)) jV (j3 _)))
 (jhD (jad (jH (jr (jn (jcx T) jbU (hr.mono (by decide)) T.D_numbers_of (jc (ja (pv 2)) (jc jd jg)))))))
 (jkW (jbs (jal (jey (hu3 hr)) (ja (pv 1)) jV (j3 _)))
 (jhD (jad (jH (jr (jn (jcx T) jbU (hr.mono (by decide)) T.D_numbers_of (jc (ja (pv 2)) (jc jd jg)))))))
 (jkW (jbs (jal (jey (hu3 hr)) (ja (pv 1)) jV (j3 _)))
 (jhD (jad (jH (jr (jn (jkc T) jhF (hr.mono (by decide)) T.D_new_name (jc (ja (pv 2)) jg))))))
 (jkW (jff (jbi hr) (ja (pv 2)) (jd0 (pv 0) T.cl T.na rfl))
 (jrU (jvf (jtp rfl rfl T.m_NoName T.xe_NoName (jc jV jg) hR)))
 (jhD (jad (jjw (jd2 (jbi hr) (jd0 (pv 0) T.cl T.na rfl) (ja (pv 2)) (fun _ _=>rfl))))))))),jsf⟩)
def jm4 (o:Ob):List Str->List Str->List D->Prop
 | [],[],[]=>True
 | k :: ks,w :: ws,d :: ds=>Mng o k w d∧jm4 o ks ws ds
 | _,_,_=>False
theorem jhe {o:Ob}:∀ {ws:List Str} {ms:List D},jm4 o [] ws ms->ws = []∧ms = []
 | [],[],_=>⟨rfl,rfl⟩
theorem jcJ {o:Ob} {k:Str} {ks:List Str}:∀ {ws:List Str} {ms:List D},jm4 o (k :: ks) ws ms->∃ w ws' d ms',ws = w :: ws'∧ms = d :: ms'∧Mng o k w d∧jm4 o ks ws' ms'
 | w :: ws',d :: ms',h=>⟨w,ws',d,ms',rfl,rfl,h.1,h.2⟩
def jex:jdy:=fun as W Φ=>∃ (o:Ob) (w:Str) (ws kd:List Str) (ms:List D),as = [.raw (.ref o.p),.val (.lst ((w :: ws).map .str))]∧o ∈ W∧o.p ≠ o.q∧jZ ks_ROWS ja3 w = some (.tup (kd.map .str))∧kd.length ≤ 3∧jm4 o kd ws ms∧Φ (.lst ms) W
theorem jhT:jej jex:=fun as W Φ Ψ mo ⟨o,k,w,d,m,a,b,c,e,f,g,h⟩=>⟨o,k,w,d,m,a,b,c,e,f,g,mo _ _ h⟩
def jeQ:S4 :=
 (jsv (jv4 1 (iR1 (je (dB jf3 (je (jb 2) jm)) jm)) (gN 0) (jdR 1 3 jb1 (jbn (jaG (jf js (jb 3) (jb 0))) (jbn (jaG (jf js (jb 2) (jf zA (jb 0) (dC (.int 1))))) jbK)))))
abbrev jll:S4 :=
 (jas (jah (jz 2 (joz ks_ROWS ja3 (jf js (jb 1) (dC (.int 0))))))
 jeQ)
theorem jqN:∀ (as:List Sl) (W:Wd) (Φ:D->Wd->Prop),as.length = 2->jex as W Φ->jll (jao Φ) (ja8 3 as) W:=by
 rintro as W Φ hl ⟨o,w,ws,kd,ms,rfl,ho,hpq,hk,hl3,hm,h⟩
 refine jaC (d:=.str w) (jc0 ..) ?_
 refine ⟨_,hk,jN rfl,?_⟩
 show jeQ (jao Φ) [.raw (.ref o.p),.val (.lst ((w :: ws).map .str)),.val (.tup (kd.map .str))] W
 unfold jeQ
 have fits:∀ {n:Nat},n ≤ 100->n < sizeLine:=fun h=>Nat.lt_of_le_of_lt h (by decide)
 have elt:∀ (j:Nat) (acc:List D) (k x:Str) (d:D) (jR:List D),(kd[j]? = some k)->ws[j]? = some x->Mng o k x d->acc.length ≤ 100 ->
   jez (gN 0) (jdR 1 3 jb1 (jbn (jaG (jf js (jb 3) (jb 0))) (jbn (jaG (jf js (jb 2) (jf zA (jb 0) (dC (.int 1))))) jbK))) [.un,.raw (.ref o.p),.val (.lst ((w :: ws).map .str)),.val (.tup (kd.map .str))] jR (acc ++ [d]) W (fun d W'=>jao Φ (.rt d W')) ->
   jez (gN 0) (jdR 1 3 jb1 (jbn (jaG (jf js (jb 3) (jb 0))) (jbn (jaG (jf js (jb 2) (jf zA (jb 0) (dC (.int 1))))) jbK))) [.un,.raw (.ref o.p),.val (.lst ((w :: ws).map .str)),.val (.tup (kd.map .str))] (.int (j:Int) :: jR) acc W (fun d W'=>jao Φ (.rt d W')):=fun j acc k x d jR e1 e2 hm ha hr=>by
  refine ⟨jN rfl,⟨o,ho,rfl,hpq⟩,?_⟩
  refine jaC (d:=.str k) (by rw [jg1,List.getElem?_map,e1]; rfl) ?_
  refine jaC (d:=.str x) (by rw [show ((j:Int) + 1) = ((j + 1:Nat):Int) from rfl,jg1]; show ((.str w :: ws.map .str:List D))[j + 1]? = _; rw [List.getElem?_cons_succ,List.getElem?_map,e2]; rfl) ?_
  exact ⟨rfl,o,k,x,d,rfl,ho,hpq,hm,fits ha,hr⟩
 have hnn:(kd.map D.str).length = kd.length:=List.length_map ..
 show -(2 ^ 62) ≤ (((kd.map D.str).length:Nat):Int)∧(((kd.map D.str).length:Nat):Int) < 2 ^ 62∧jez (gN 0) _ [.un,.raw (.ref o.p),.val (.lst ((w :: ws).map .str)),.val (.tup (kd.map .str))] (ups 0 (((kd.map D.str).length:Nat):Int).toNat) [] W (fun d W'=>jao Φ (.rt d W'))
 rw [hnn,Int.toNat_natCast]
 refine ⟨by omega,by omega,?_⟩
 rcases kd with _ | ⟨k1,_ | ⟨k2,_ | ⟨k3,_ | ⟨k4,r⟩⟩⟩⟩
 ·obtain ⟨rfl,rfl⟩:=jhe hm
  exact h
 ·obtain ⟨x1,ws,d1,ms,rfl,rfl,h1,hm⟩:=jcJ hm
  obtain ⟨rfl,rfl⟩:=jhe hm
  exact elt 0 [] k1 x1 d1 _ rfl rfl h1 (by decide) h
 ·obtain ⟨x1,ws,d1,ms,rfl,rfl,h1,hm⟩:=jcJ hm
  obtain ⟨x2,ws,d2,ms,rfl,rfl,h2,hm⟩:=jcJ hm
  obtain ⟨rfl,rfl⟩:=jhe hm
  exact elt 0 [] k1 x1 d1 _ rfl rfl h1 (by decide) (elt 1 [d1] k2 x2 d2 _ rfl rfl h2 (show 1 ≤ 100 by decide) h)
 ·obtain ⟨x1,ws,d1,ms,rfl,rfl,h1,hm⟩:=jcJ hm
  obtain ⟨x2,ws,d2,ms,rfl,rfl,h2,hm⟩:=jcJ hm
  obtain ⟨x3,ws,d3,ms,rfl,rfl,h3,hm⟩:=jcJ hm
  obtain ⟨rfl,rfl⟩:=jhe hm
  exact elt 0 [] k1 x1 d1 _ rfl rfl h1 (by decide) (elt 1 [d1] k2 x2 d2 _ rfl rfl h2 (show 1 ≤ 100 by decide) (elt 2 [d1,d2] k3 x3 d3 _ rfl rfl h3 (show 2 ≤ 100 by decide) h))
 ·simp only [List.length_cons] at hl3
  omega
theorem jqB (T:Txt P w K mg t):FnOk P w K mg base jS 5 t.a_meanings t.d_meanings ["self","words"] (spW K (zc t) 2 jex):=by
 have sc:=jdK
 refine jiL (mo:=jhT) (k:=4) T.D_meanings.F jdK (fun cdv A outer s H E hr=>⟨jll,(jJ (jH (jo (i:=2) sc.nd rfl (jl rfl) (jmH T.d_ROWS T.e_ROWS.r T.e_ROWS.d (ji (ja (pv 1)) jd (fun _ _=>rfl)) rfl T.m_ROWS (fun _ _=>rfl))))
 (jad (jjw (jwN (xs:=["place"]) (M:=["self","words","kinds"]) (n:=1) (by rfl) rfl rfl (jcY rfl T.z_range (jc (jan jes rfl T.z_len jbZ (jc (ja (pv 2)) jg)) jg)) (fun _ _ _ _=>(jam (i:=0) (by decide) (show List.Nodup (["place","self","words","kinds"]:List Str) by decide +kernel) rfl (by first | exact Or.inl rfl | exact Or.inr rfl))) (fun _ _ _ _=>(jg2 (i:=1) (ps:=["self","kind","word"]) rfl jeL (jbm (jaE (ji (ja (pv 3)) (ja (pv 0)) (fun _ _=>rfl))) (jbm (jaE (ji (ja (pv 2)) (jh jaa (ja (pv 0)) jd) (fun _ _=>rfl))) jbl)) (fun _ h=>jgK (pv 1) T.cl T.D_meaning.h (jkY T) (hr.mono (by decide)) T.D_meaning.b .nil jc5 h))))))),jqN⟩)
def jg3:List Sl->Wd->Prop:=fun as W=>∃ (o:Ob) (w x:Str) (ws kd:List Str),as = [.raw (.ref o.p),.val (.lst ((w :: x :: ws).map .str))]∧o ∈ W∧o.p ≠ o.q∧jZ ks_ROWS ja3 w = some (.tup ((("turn":Str) :: kd).map .str))∧kd.length ≤ 3∧x ∉ o.ks
def jg7:R4 :=
 (jl3 (jah (jz 2 (joz ks_ROWS ja3 (jf js (jb 1) (dC (.int 0))))))
 (jwa 1 (iR1 (je (dB jf3 (je (jb 2) jm)) jm)) (gN 0) (jdR 1 3 jb1 (jbn (jaG (jf js (jb 3) (jb 0))) (jbn (jaG (jf js (jb 2) (jf zA (jb 0) (dC (.int 1))))) jbK))) (jhm 1 3 jji (jbn (jaG (jf js (jb 3) (jb 0))) (jbn (jaG (jf js (jb 2) (jf zA (jb 0) (dC (.int 1))))) jbK)))))
theorem jqP:∀ (as:List Sl) (W:Wd),as.length = 2->jg3 as W->jg7 (fun W'=>W' = W) (ja8 3 as) W:=by
 rintro as W hl ⟨o,w,x,ws,kd,rfl,ho,hpq,hk,hl3,hx⟩
 unfold jg7
 refine jaC (d:=.str w) (jc0 ..) ?_
 refine ⟨_,hk,jN rfl,?_⟩
 show -(2 ^ 62) ≤ ((((("turn":Str) :: kd).map D.str).length:Nat):Int)∧((((("turn":Str) :: kd).map D.str).length:Nat):Int) < 2 ^ 62∧jk9 (gN 0) _ _ [.un,.raw (.ref o.p),.val (.lst ((w :: x :: ws).map .str)),.val (.tup ((("turn":Str) :: kd).map .str))] (ups 0 (((((("turn":Str) :: kd).map D.str).length:Nat):Int)).toNat) 0 W _
 rw [List.length_map,List.length_cons,Int.toNat_natCast]
 refine ⟨by omega,by omega,?_⟩
 obtain ⟨rs,hrs⟩:∃ r,ups 0 (kd.length + 1) = .int 0 :: r:=⟨_,by unfold ups; rw [List.range_succ_eq_map]; rfl⟩
 rw [hrs]
 refine ⟨jN rfl,.inl ⟨⟨o,ho,rfl,hpq⟩,?_⟩⟩
 refine jaC (d:=.str "turn") (jc0 ..) ?_
 refine jaC (d:=.str x) (jsg ..) ?_
 exact ⟨rfl,⟨o,x,rfl,ho,hpq,hx⟩,rfl⟩
theorem jqE (T:Txt P w K mg t):FnOk P w K mg base (CXC P w) 5 t.a_meanings t.d_meanings ["self","words"] (jkv K (zc t) 2 t.x_NoName jg3):=by
 have sc:=jdK
 refine jo1 (k:=4) T.D_meanings.F jdK (fun cdv A outer s H E hr hR hP hH=>⟨jg7,(jkB (jH (jo (i:=2) sc.nd rfl (jl rfl) (jmH T.d_ROWS T.e_ROWS.r T.e_ROWS.d (ji (ja (pv 1)) jd (fun _ _=>rfl)) rfl T.m_ROWS (fun _ _=>rfl))))
 (jrU (jxG (jtX hH rfl rfl (xs:=["place"]) (M:=["self","words","kinds"]) (n:=1) (by rfl) rfl rfl (jcY rfl T.z_range (jc (jan jes rfl T.z_len jbZ (jc (ja (pv 2)) jg)) jg)) (fun _ _ _ _=>(jam (i:=0) (by decide) (show List.Nodup (["place","self","words","kinds"]:List Str) by decide +kernel) rfl (by first | exact Or.inl rfl | exact Or.inr rfl))) (fun _ _ _ _=>(jg2 (i:=1) (ps:=["self","kind","word"]) rfl jeL (jbm (jaE (ji (ja (pv 3)) (ja (pv 0)) (fun _ _=>rfl))) (jbm (jaE (ji (ja (pv 2)) (jh jaa (ja (pv 0)) jd) (fun _ _=>rfl))) jbl)) (fun _ h=>jgK (pv 1) T.cl T.D_meaning.h (jkY T) (hr.mono (by decide)) T.D_meaning.b .nil jc5 h))) (fun _ _ _ _=>(jnk (i:=1) (ps:=["self","kind","word"]) jw3 rfl (pv 1) T.cl T.D_meaning.h (jsa T) (hr.mono (by decide)) T.D_meaning.b (jbm (jaE (ji (ja (pv 3)) (ja (pv 0)) (fun _ _=>rfl))) (jbm (jaE (ji (ja (pv 2)) (jh jaa (ja (pv 0)) jd) (fun _ _=>rfl))) jbl)))))))),jqP⟩)
def jcZ:jK:=fun ds Φ=>∃ (z w:Str) (ws:List Str) (kd:List D),ds = [.str z]∧z.length ≤ 10000∧Txt.split z " " = w :: ws∧jZ ks_ROWS ja3 w = some (.tup kd)∧kd.length = ws.length∧Φ (.lst ((w :: ws).map .str))
theorem jhY:jO jcZ:=fun ds Φ Ψ mo h0=>by
 obtain ⟨z,w,ws,kd,a,b,c,d,e,h⟩:=h0
 exact ⟨z,w,ws,kd,a,b,c,d,e,mo _ h⟩
def jqj:S3 :=
 (jE (jb 1))
def jeE:S3 :=
 (jB (sIf (bOr (dT (jpA ks_ROWS true (jf js (jb 1) (dC (.int 0))))) (dT (jf dNe (dB jf3 (je (jb 1) jm)) (jf zA (dB jf3 (je (joz ks_ROWS ja3 (jf js (jb 1) (dC (.int 0)))) jm)) (dC (.int 1))))))
 jdV
 ja2)
 jqj)
def jeZ:S3 :=
 (jB (jz 1 (dF (joQ (jb 0) (dC (.str " ")))))
 jeE)
abbrev jkX:S3 :=
 (jB (sIf (jqc (dT (jyO jv7 (jb 0))))
 jdV
 ja2)
 jeZ)
theorem jqD:∀ (ds:List D) (Φ:D->Prop),ds.length = 1->jcZ ds Φ->jkX (jA Φ) (jv 2 ds):=by
 rintro ds Φ hl ⟨z,w,ws,kd,rfl,hz,hs,hk,hn,h⟩
 have mem:w ∈ ks_ROWS:=of_decide_eq_true (by rw [← jdN (us:=ja3) rfl,hk]; rfl)
 refine tF rfl ?_
 show jeZ (jA Φ) [.val (.str z),.un]
 unfold jeZ
 refine ⟨Nat.le_trans (show _ ≤ 10002 by omega) (by decide),rfl,?_⟩
 rw [hs]
 show jeE (jA Φ) [.val (.str z),.val (.lst ((w :: ws).map .str))]
 unfold jeE
 refine jaC (d:=.str w) (jc0 ..) ?_
 refine tF (by rw [decide_eq_true mem]; rfl) ?_
 refine jaC (d:=.str w) (jc0 ..) ?_
 refine ⟨.tup kd,hk,?_⟩
 refine tF ?_ h
 rw [List.length_map,List.length_cons,hn]
 simp
theorem jjS (T:Txt P w K mg t):FnOk P w K mg base jS 1 t.a_words_of t.d_words_of ["row"] (j2 K 1 jcZ):=by
 have sc:=jj0
 refine jM (k:=0) T.D_words_of.F jj0 (fun cdv A outer s H E hr=>⟨jkX,(jk (jaK (jlB (jeY (jtS jyd rfl T.z_isinstance joj rfl T.z_str ji2 (ja (pv 0)))))
 (jq jb2)
 jau)
 (jk (jo (i:=1) sc.nd rfl (jl rfl) (jaw (jpt (ja (pv 0)) jV)))
 (jk (jaK (PWB.pb (jwe (juk T.d_ROWS (ji (ja (pv 1)) jd (fun _ _=>rfl)) rfl T.m_ROWS) (jtl (jal jh8 (jan jes rfl T.z_len jbZ (jc (ja (pv 1)) jg)) (jh jaa (jan jes rfl T.z_len jbZ (jc (jmH T.d_ROWS T.e_ROWS.r T.e_ROWS.d (ji (ja (pv 1)) jd (fun _ _=>rfl)) rfl T.m_ROWS (fun _ _=>rfl)) jg)) jd) (j3 _)))))
 (jq jb2)
 jau)
 (jq (jr (ja (pv 1))))))),jqD⟩)
def jaU:jK:=fun ds Φ=>∃ ns:List Int,ds = [.tup (ns.map .int)]∧ns.length ≤ 4∧(∀ n ∈ ns,Bd 1900 n)∧Φ (.str (jaf ns))
theorem jbx:jO jaU:=fun ds Φ Ψ mo h0=>by
 obtain ⟨ns,a,b,c,h⟩:=h0
 exact ⟨ns,a,b,c,mo _ h⟩
abbrev jgo:S3 :=
 (jE (dMt jom (dC (.str ",")) (dF (jbq 1 (iLT (jb 0)) (gN 0) (fun _ Φ=>Φ true) (dB jm5 (je (jb 0) jm))))))
theorem jfm:∀ (ds:List D) (Φ:D->Prop),ds.length = 1->jaU ds Φ->jgo (jA Φ) (jv 1 ds):=by
 rintro ds Φ hl ⟨ns,rfl,hn,hb,h⟩
 refine jtW hn hb ⟨ns.map jaA,rfl,?_,h⟩
 have:=jnI ns hb
 rw [List.length_map,show (",":Str).length = 1 from rfl]
 omega
theorem jc7 (T:Txt P w K mg t):FnOk P w K mg base jS 1 t.a_numbers_told t.d_numbers_told ["numbers"] (j2 K 1 jaU):=by
 have sc:=jfc
 refine jM (k:=0) T.D_numbers_told.F jfc (fun cdv A outer s H E hr=>⟨jgo,(jq (jr (jh7 PySem.F.slot_str_join PySem.F.type_str_join jp8 jV (jaw (jaQ (xs:=["number"]) (M:=["numbers"]) (n:=1) (by rfl) rfl rfl (jaR (ja (pv 0))) (fun _ _ _ _=>(jam (i:=0) (by decide) (show List.Nodup (["number","numbers"]:List Str) by decide +kernel) rfl (by first | exact Or.inl rfl | exact Or.inr rfl))) (fun _ _ _ _=>jaS) (fun _ _ _ _=>(jaJ jox rfl T.z_str ji2 (jc (ja (pv 0)) jg)))))))),jfm⟩)
def jaI:jK:=fun ds Φ=>∃ a b:Int,ds = [.int a,.int b]∧Φ (.int (Int.gcd a b:Int))
theorem jbR:jO jaI:=fun ds Φ Ψ mo h0=>by
 obtain ⟨a,b,e,h⟩:=h0
 exact ⟨a,b,e,mo _ h⟩
def jgq:S3 :=
 (jz 1 (jb 2))
def jgf:S3 :=
 (jB (jz 0 (jb 1))
 jgq)
abbrev jh4:S3 :=
 (jB (jz 2 (jf zR (jb 0) (jb 1)))
 jgf)
def jiw:S3 :=
 (jE (dB jqa (je (jb 0) jm)))
abbrev jeV:S3 :=
 (jB (jgc (dT (jf dNe (jb 1) (dC (.int 0))))
 jh4)
 jiw)
theorem jjF:∀ (ds:List D) (Φ:D->Prop),ds.length = 2->jaI ds Φ->jeV (jA Φ) (jv 3 ds):=by
 rintro ds Φ hl ⟨a,b,rfl,h⟩
 refine jfe (fun ρ=>∃ (x y:Int) (s:Sl),ρ = [.val (.int x),.val (.int y),s]∧Int.gcd x y = Int.gcd a b) (fun ρ=>match ρ with | [_,.val (.int y),_]=>y.natAbs | _=>0) ⟨a,b,.un,rfl,rfl⟩ ?_
 rintro ρ ⟨x,y,s,rfl,e⟩
 refine tst (fun hc=>?_) (fun hc=>?_)
 ·have hy:y ≠ 0:=by intro z; subst z; simp at hc
  refine ⟨hy,_,?_,rfl,y,x.fmod y,_,rfl,by rw [jkF,e]⟩
  show (x.fmod y).natAbs < y.natAbs
  exact jeA hy
 ·have hy:y = 0:=by simpa using hc
  subst hy
  have e2:(Int.gcd a b:Int) = x.natAbs:=by rw [← e]; simp
  rw [e2] at h
  exact h
theorem jci (T:Txt P w K mg t):FnOk P w K mg base jS 1 t.a_divisor_of_two t.d_divisor_of_two ["one","other"] (j2 K 2 jaI):=by
 have sc:=jei
 refine jM (k:=0) T.D_divisor_of_two.F jei (fun cdv A outer s H E hr=>⟨jeV,(jk (jfj PassesOwn.never (jal jh8 (ja (pv 1)) jd (j3 _))
 (jk (jo (i:=2) sc.nd rfl (jl rfl) (jh jb7 (ja (pv 0)) (ja (pv 1))))
 (jk (jo (i:=0) sc.nd rfl (jl rfl) (ja (pv 1)))
 (jq (jo (i:=1) sc.nd rfl (jl rfl) (ja (pv 2)))))))
 (jq (jr (jan js1 rfl T.z_abs joL (jc (ja (pv 0)) jg))))),jjF⟩)
def jb3:jK:=fun ds Φ=>∃ ms:List Int,(ds = [.lst (ms.map .int)] ∨ ds = [.tup (ms.map .int)])∧Φ (.int (jt ms))
theorem jdc:jO jb3:=fun ds Φ Ψ mo h0=>by
 obtain ⟨ms,e,h⟩:=h0
 exact ⟨ms,e,mo _ h⟩
theorem jeU {Φ:D->Prop} {ms:List Int} {d0:D} (h:Φ (.int (jt ms))):∀ (qs:List Int) (g:Int) (s:Sl),qs.foldl (fun g x=>(Int.gcd g x:Int)) g = jt ms ->
  FOR (gN 2) (jz 1 (jx 2 jaI (je (jb 1) (je (jb 2) jm)))) (qs.map D.int) (joq (jE (jb 1)) (jA Φ)) [.val d0,.val (.int g),s]
 | [],g,s,e=>by
  show Φ (.int g)
  have e:g = jt ms:=e
  rw [e]; exact h
 | q :: qs,g,s,e=>⟨rfl,g,q,rfl,jeU h qs (Int.gcd g q) _ e⟩
abbrev joM:S3 :=
 (jz 1 (jx 2 jaI (je (jb 1) (je (jb 2) jm))))
def jq5:S3 :=
 (jE (jb 1))
def jqK:S3 :=
 (jB (jsu (iLT (jb 0)) (gN 2)
 joM)
 jq5)
abbrev jnF:S3 :=
 (jB (jz 1 (dC (.int 0)))
 jqK)
theorem jrY:∀ (ds:List D) (Φ:D->Prop),ds.length = 1->jb3 ds Φ->jnF (jA Φ) (jv 3 ds):=by
 rintro ds Φ hl ⟨ms,rfl | rfl,h⟩
 ·exact jeU h ms 0 .un rfl
 ·exact jeU h ms 0 .un rfl
theorem jer (T:Txt P w K mg t):FnOk P w K mg base jS 2 t.a_divisor t.d_divisor ["numbers"] (j2 K 1 jb3):=by
 have sc:=jli
 refine jM (k:=1) T.D_divisor.F jli (fun cdv A outer s H E hr=>⟨jnF,(jk (jo (i:=1) sc.nd rfl (jl rfl) jd)
 (jk (jmy PassesOwn.never rfl (jaR (ja (pv 0))) (jaW (i:=2) sc.nd rfl (jl rfl))
 (jq (jo (i:=1) sc.nd rfl (jl rfl) (jn (jci T) jbR (hr.mono (by decide)) T.D_divisor_of_two (jc (ja (pv 1)) (jc (ja (pv 2)) jg))))))
 (jq (jr (ja (pv 1)))))),jrY⟩)
def jba:jK:=fun ds Φ=>∃ q:Q4,ds = [qd q]∧Φ (.bl (low q))
theorem jfb:jO jba:=fun ds Φ Ψ mo h0=>by
 obtain ⟨q,a,h⟩:=h0
 exact ⟨q,a,mo _ h⟩
abbrev jcX:S3 :=
 (jE (jf jyU (jb 0) (jaL (je (dC (.int 0)) (je (dC (.int 0)) (je (dC (.int 0)) (je (dC (.int 0)) jm)))))))
theorem jgH:∀ (ds:List D) (Φ:D->Prop),ds.length = 1->jba ds Φ->jcX (jA Φ) (jv 1 ds):=by
 rintro ds Φ hl ⟨q,rfl,h⟩
 exact ⟨j8 4 rfl (by decide),ql q,[0,0,0,0],rfl,rfl,h⟩
theorem jge (T:Txt P w K mg t):FnOk P w K mg base jS 1 t.a_leads_below_nought t.d_leads_below_nought ["quad"] (j2 K 1 jba):=by
 have sc:=jcN
 refine jM (k:=0) T.D_leads_below_nought.F jcN (fun cdv A outer s H E hr=>⟨jcX,(jq (jr (jlf (jAg (hu3 hr)) (ja (pv 0)) (jaj (jc jd (jc jd (jc jd (jc jd jg))))) (j3 _)))),jgH⟩)
def jbp:jK:=fun ds Φ=>∃ (ms:List Int) (n:Int) (k:Nat),ds = [.tup (ms.map .int),.int n]∧ms.length ≤ 100∧n ≠ 0∧k ≤ 9000∧Bd k n∧Φ (.tup ((ms.map (·.fdiv n)).map .int))
theorem jbN:jO jbp:=fun ds Φ Ψ mo h0=>by
 obtain ⟨ms,n,k,a,b,c,d,e,h⟩:=h0
 exact ⟨ms,n,k,a,b,c,d,e,mo _ h⟩
theorem jnu {Φ:List D->Prop} {n:Int} {k:Nat} {d0:D} (hn:n ≠ 0) (hk:k ≤ 9000) (bn:Bd k n):∀ (ms:List Int) (acc:List D),acc.length + ms.length ≤ 1000->Φ (acc ++ (ms.map (·.fdiv n)).map .int) ->
  je9 (gN 0) (fun _ Φ=>Φ true) (jf zD (jb 0) (jb 2)) [.un,.val d0,.val (.int n)] (ms.map .int) acc Φ
 | [],acc,_,h=>by rw [List.map_nil,List.map_nil,List.append_nil] at h; exact h
 | m :: ms,acc,hl,h=>by
  refine ⟨jeu hn bn hk,jdX (by simp only [List.length_cons] at hl; omega),?_⟩
  refine jnu hn hk bn ms (acc ++ [.int (m.fdiv n)]) (by simp only [List.length_cons,List.length_append,List.length_nil] at hl ⊢; omega) ?_
  rw [List.append_assoc,List.singleton_append]
  exact h
abbrev jl5:S3 :=
 (jE (dB jcT (je (dF (jbq 1 (iLT (jb 0)) (gN 0) (fun _ Φ=>Φ true) (jf zD (jb 0) (jb 2)))) jm)))
theorem jqW:∀ (ds:List D) (Φ:D->Prop),ds.length = 2->jbp ds Φ->jl5 (jA Φ) (jv 2 ds):=by
 rintro ds Φ hl ⟨ms,n,k,rfl,hm,hn,hk,bn,h⟩
 exact jnu hn hk bn ms [] (by simp only [List.length_nil]; omega) h
theorem jcu (T:Txt P w K mg t):FnOk P w K mg base jS 1 t.a_row_over t.d_row_over ["row","n"] (j2 K 2 jbp):=by
 have sc:=jjK
 refine jM (k:=0) T.D_row_over.F jjK (fun cdv A outer s H E hr=>⟨jl5,(jq (jr (jaJ jcO rfl T.z_tuple jbY (jc (jaw (jaQ (xs:=["number"]) (M:=["row","n"]) (n:=1) (by rfl) rfl rfl (jaR (ja (pv 0))) (fun _ _ _ _=>(jam (i:=0) (by decide) (show List.Nodup (["number","row","n"]:List Str) by decide +kernel) rfl (by first | exact Or.inl rfl | exact Or.inr rfl))) (fun _ _ _ _=>jaS) (fun _ _ _ _=>(jh jbA (ja (pv 0)) (ja (pv 2)))))) jg)))),jqW⟩)
def jjp:jK:=fun ds Φ=>∃ (q:Q4) (k:Nat),ds = [qd q]∧k ≤ 9000∧Bq k q∧q ≠ q0∧Φ (qd (jI q))
theorem jr7:jO jjp:=fun ds Φ Ψ mo h0=>by
 obtain ⟨q,k,a,b,c,d,h⟩:=h0
 exact ⟨q,k,a,b,c,d,mo _ h⟩
def jnR:S3 :=
 (jE (jx 2 jbp (je (jb 0) (je (jb 1) jm))))
def jnJ:S3 :=
 (jB (sIf (dT (jx 1 jba (je (jb 0) jm)))
 (jz 1 (dU jck (jb 1)))
 ja2)
 jnR)
def jnL:S3 :=
 (jB (sIf (dT (jf dEq (jb 1) (dC (.int 0))))
 jdV
 ja2)
 jnJ)
abbrev jmq:S3 :=
 (jB (jz 1 (jx 1 jb3 (je (jb 0) jm)))
 jnL)
theorem jvc:∀ (ds:List D) (Φ:D->Prop),ds.length = 1->jjp ds Φ->jmq (jA Φ) (jv 2 ds):=by
 rintro ds Φ hl ⟨q,k,rfl,hk,bq,h0,h⟩
 have gz:jt (ql q) ≠ 0:=fun z=>h0 (jgn z)
 try unfold jmq; try unfold jnL; try unfold jnJ; try unfold jnR
 refine ⟨rfl,ql q,.inr rfl,tF (decide_eq_false gz) ?_⟩
 refine ⟨rfl,q,rfl,tst (fun hc=>?_) (fun hc=>?_)⟩
 ·have e:shr q = -jt (ql q):=by unfold shr; rw [if_pos hc]
  have hn:=jc8 h0
  have hb:=jt0 bq
  have h:Φ (.tup (((ql q).map (·.fdiv (shr q))).map .int)):=h
  rw [e] at hn hb h
  exact ⟨rfl,ql q,-jt (ql q),k,rfl,(show 4 ≤ 100 by decide),hn,hk,hb,h⟩
 ·have e:shr q = jt (ql q):=by unfold shr; rw [if_neg (by rw [hc]; decide)]
  have hn:=jc8 h0
  have hb:=jt0 bq
  have h:Φ (.tup (((ql q).map (·.fdiv (shr q))).map .int)):=h
  rw [e] at hn hb h
  exact ⟨rfl,ql q,jt (ql q),k,rfl,(show 4 ≤ 100 by decide),hn,hk,hb,h⟩
theorem jvy (T:Txt P w K mg t):FnOk P w K mg base jS 3 t.a_plain t.d_plain ["quad"] (j2 K 1 jjp):=by
 have sc:=jpM
 refine jM (k:=2) T.D_plain.F jpM (fun cdv A outer s H E hr=>⟨jmq,(jk (jo (i:=1) sc.nd rfl (jl rfl) (jn (jer T) jdc (hr.mono (by decide)) T.D_divisor (jc (ja (pv 0)) jg)))
 (jk (jaK (jal jis (ja (pv 1)) jd (j3 _))
 (jq jb2)
 jau)
 (jk (jaK (jeY (jn (jge T) jfb (hr.mono (by decide)) T.D_leads_below_nought (jc (ja (pv 0)) jg)))
 (jq (jo (i:=1) sc.nd rfl (jl rfl) (jbM (ja (pv 1)))))
 jau)
 (jq (jr (jn (jcu T) jbN (hr.mono (by decide)) T.D_row_over (jc (ja (pv 0)) (jc (ja (pv 1)) jg)))))))),jvc⟩)
def jbh:jK:=fun ds Φ=>∃ t:T9,ds = [tb t]∧Φ (.lst [qd (m1 t),qd (m2 t),qd (m3 t),qd (m4 t)])
theorem jf0:jO jbh:=fun ds Φ Ψ mo h0=>by
 obtain ⟨t,a,h⟩:=h0
 exact ⟨t,a,mo _ h⟩
def jco:S3 :=
 (jE (dF (jpR (je (jaL (je (jf zA (jf zA (jf zA (jb 2) (jb 3)) (jb 4)) (jb 5)) (je (jb 6) (je (jb 7) (je (jb 8) jm))))) (je (jaL (je (jb 6) (je (jf zS (jf zS (jf zA (jb 2) (jb 3)) (jb 4)) (jb 5)) (je (jb 9) (je (jb 10) jm))))) (je (jaL (je (jb 7) (je (jb 9) (je (jf zS (jf zA (jf zS (jb 2) (jb 3)) (jb 4)) (jb 5)) (je (jb 11) jm))))) (je (jaL (je (jb 8) (je (jb 10) (je (jb 11) (je (jf zA (jf zS (jf zS (jb 2) (jb 3)) (jb 4)) (jb 5)) jm))))) jm)))))))
def jfY:S3 :=
 (jB (jz 11 (jf zA (jf js (jf js (jb 1) (dC (.int 2))) (dC (.int 1))) (jf js (jf js (jb 1) (dC (.int 1))) (dC (.int 2)))))
 jco)
def jgi:S3 :=
 (jB (jz 10 (jf zA (jf js (jf js (jb 1) (dC (.int 0))) (dC (.int 2))) (jf js (jf js (jb 1) (dC (.int 2))) (dC (.int 0)))))
 jfY)
def jcH:S3 :=
 (jB (jz 9 (jf zA (jf js (jf js (jb 1) (dC (.int 1))) (dC (.int 0))) (jf js (jf js (jb 1) (dC (.int 0))) (dC (.int 1)))))
 jgi)
def jgT:S3 :=
 (jB (jz 8 (jf zS (jf js (jf js (jb 1) (dC (.int 1))) (dC (.int 0))) (jf js (jf js (jb 1) (dC (.int 0))) (dC (.int 1)))))
 jcH)
def jf7:S3 :=
 (jB (jz 7 (jf zS (jf js (jf js (jb 1) (dC (.int 0))) (dC (.int 2))) (jf js (jf js (jb 1) (dC (.int 2))) (dC (.int 0)))))
 jgT)
def jcQ:S3 :=
 (jB (jz 6 (jf zS (jf js (jf js (jb 1) (dC (.int 2))) (dC (.int 1))) (jf js (jf js (jb 1) (dC (.int 1))) (dC (.int 2)))))
 jf7)
def jgV:S3 :=
 (jB (jz 5 (jf js (jf js (jb 1) (dC (.int 2))) (dC (.int 2))))
 jcQ)
def jgR:S3 :=
 (jB (jz 4 (jf js (jf js (jb 1) (dC (.int 1))) (dC (.int 1))))
 jgV)
def jcP:S3 :=
 (jB (jz 3 (jf js (jf js (jb 1) (dC (.int 0))) (dC (.int 0))))
 jgR)
def jgM:S3 :=
 (jB (jz 2 (jf js (jb 0) (dC (.int 1))))
 jcP)
abbrev jdh:S3 :=
 (jB (jz 1 (jf js (jb 0) (dC (.int 0))))
 jgM)
theorem jhf:∀ (ds:List D) (Φ:D->Prop),ds.length = 1->jbh ds Φ->jdh (jA Φ) (jv 12 ds):=by
 rintro ds Φ hl ⟨t,rfl,h⟩
 show jcP (jA Φ) [.val (tb t),.val (tr t),.val (.int t.n),.un,.un,.un,.un,.un,.un,.un,.un,.un]
 show jcQ (jA Φ) [.val (tb t),.val (tr t),.val (.int t.n),.val (.int t.p.x),.val (.int t.q.y),.val (.int t.r.z),.un,.un,.un,.un,.un,.un]
 show jcH (jA Φ) [.val (tb t),.val (tr t),.val (.int t.n),.val (.int t.p.x),.val (.int t.q.y),.val (.int t.r.z),.val (.int (t.r.y - t.q.z)),.val (.int (t.p.z - t.r.x)),.val (.int (t.q.x - t.p.y)),.un,.un,.un]
 show jco (jA Φ) [.val (tb t),.val (tr t),.val (.int t.n),.val (.int t.p.x),.val (.int t.q.y),.val (.int t.r.z),.val (.int (t.r.y - t.q.z)),.val (.int (t.p.z - t.r.x)),.val (.int (t.q.x - t.p.y)),.val (.int (t.q.x + t.p.y)),.val (.int (t.p.z + t.r.x)),.val (.int (t.r.y + t.q.z))]
 exact ⟨j8 4 rfl (by decide),j8 4 rfl (by decide),j8 4 rfl (by decide),j8 4 rfl (by decide),j8 4 rfl (by decide),h⟩
theorem jhu (T:Txt P w K mg t):FnOk P w K mg base jS 1 t.a_multiples_of_quad t.d_multiples_of_quad ["turn"] (j2 K 1 jbh):=by
 have sc:=jdg
 refine jM (k:=0) T.D_multiples_of_quad.F jdg (fun cdv A outer s H E hr=>⟨jdh,(jk (jo (i:=1) sc.nd rfl (jl rfl) (ji (ja (pv 0)) jd (fun _ _=>rfl)))
 (jk (jo (i:=2) sc.nd rfl (jl rfl) (ji (ja (pv 0)) jd (fun _ _=>rfl)))
 (jk (jo (i:=3) sc.nd rfl (jl rfl) (ji (ji (ja (pv 1)) jd (fun _ _=>rfl)) jd (fun _ _=>rfl)))
 (jk (jo (i:=4) sc.nd rfl (jl rfl) (ji (ji (ja (pv 1)) jd (fun _ _=>rfl)) jd (fun _ _=>rfl)))
 (jk (jo (i:=5) sc.nd rfl (jl rfl) (ji (ji (ja (pv 1)) jd (fun _ _=>rfl)) jd (fun _ _=>rfl)))
 (jk (jo (i:=6) sc.nd rfl (jl rfl) (jh jai (ji (ji (ja (pv 1)) jd (fun _ _=>rfl)) jd (fun _ _=>rfl)) (ji (ji (ja (pv 1)) jd (fun _ _=>rfl)) jd (fun _ _=>rfl))))
 (jk (jo (i:=7) sc.nd rfl (jl rfl) (jh jai (ji (ji (ja (pv 1)) jd (fun _ _=>rfl)) jd (fun _ _=>rfl)) (ji (ji (ja (pv 1)) jd (fun _ _=>rfl)) jd (fun _ _=>rfl))))
 (jk (jo (i:=8) sc.nd rfl (jl rfl) (jh jai (ji (ji (ja (pv 1)) jd (fun _ _=>rfl)) jd (fun _ _=>rfl)) (ji (ji (ja (pv 1)) jd (fun _ _=>rfl)) jd (fun _ _=>rfl))))
 (jk (jo (i:=9) sc.nd rfl (jl rfl) (jh jaa (ji (ji (ja (pv 1)) jd (fun _ _=>rfl)) jd (fun _ _=>rfl)) (ji (ji (ja (pv 1)) jd (fun _ _=>rfl)) jd (fun _ _=>rfl))))
 (jk (jo (i:=10) sc.nd rfl (jl rfl) (jh jaa (ji (ji (ja (pv 1)) jd (fun _ _=>rfl)) jd (fun _ _=>rfl)) (ji (ji (ja (pv 1)) jd (fun _ _=>rfl)) jd (fun _ _=>rfl))))
 (jk (jo (i:=11) sc.nd rfl (jl rfl) (jh jaa (ji (ji (ja (pv 1)) jd (fun _ _=>rfl)) jd (fun _ _=>rfl)) (ji (ji (ja (pv 1)) jd (fun _ _=>rfl)) jd (fun _ _=>rfl))))
 (jq (jr (jaw (jlL (jc (jaj (jc (jh jaa (jh jaa (jh jaa (ja (pv 2)) (ja (pv 3))) (ja (pv 4))) (ja (pv 5))) (jc (ja (pv 6)) (jc (ja (pv 7)) (jc (ja (pv 8)) jg))))) (jc (jaj (jc (ja (pv 6)) (jc (jh jai (jh jai (jh jaa (ja (pv 2)) (ja (pv 3))) (ja (pv 4))) (ja (pv 5))) (jc (ja (pv 9)) (jc (ja (pv 10)) jg))))) (jc (jaj (jc (ja (pv 7)) (jc (ja (pv 9)) (jc (jh jai (jh jaa (jh jai (ja (pv 2)) (ja (pv 3))) (ja (pv 4))) (ja (pv 5))) (jc (ja (pv 11)) jg))))) (jc (jaj (jc (ja (pv 8)) (jc (ja (pv 10)) (jc (ja (pv 11)) (jc (jh jaa (jh jai (jh jai (ja (pv 2)) (ja (pv 3))) (ja (pv 4))) (ja (pv 5))) jg))))) jg))))))))))))))))))),jhf⟩)
def jv0 (p q:P3):Int:=p.x * q.x + p.y * q.y + p.z * q.z
def ju9 (p q:Q4):Int:=p.a * q.a + p.b * q.b + p.c * q.c + p.d * q.d
def jcv:jK:=fun ds Φ=>(∃ (p q:P3) (k:Nat),ds = [pt p,pt q]∧k ≤ 60000000∧Bp k p∧Bp k q∧Φ (.int (jv0 p q))) ∨ (∃ (p q:Q4) (k:Nat),ds = [qd p,qd q]∧k ≤ 60000000∧Bq k p∧Bq k q∧Φ (.int (ju9 p q)))
theorem jgs:jO jcv:=fun ds Φ Ψ mo h=>by
 rcases h with ⟨p,q,k,a,b,c,d,h⟩ | ⟨p,q,k,a,b,c,d,h⟩
 ·exact .inl ⟨p,q,k,a,b,c,d,mo _ h⟩
 ·exact .inr ⟨p,q,k,a,b,c,d,mo _ h⟩
abbrev jj6:S3 :=
 (jE (dB juM (je (dF (jbq 1 (iR1 (je (dB jf3 (je (jb 0) jm)) jm)) (gN 0) (fun _ Φ=>Φ true) (jf zM (jf js (jb 1) (jb 0)) (jf js (jb 2) (jb 0))))) jm)))
theorem jpC:∀ (ds:List D) (Φ:D->Prop),ds.length = 2->jcv ds Φ->jj6 (jA Φ) (jv 2 ds):=by
 rintro ds Φ hl (⟨p,q,k,rfl,hk,hp,hq,h⟩ | ⟨p,q,k,rfl,hk,hp,hq,h⟩)
 ·have mk:∀ {x y:Int},Bd k x->Bd k y->IntMulOk x y:=fun hx hy=>jce hx hy (by omega)
  have e:[p.x * q.x,p.y * q.y,p.z * q.z].sum = jv0 p q:=by simp only [List.sum_cons,List.sum_nil,jv0]; omega
  refine ⟨show (-(2 ^ 62):Int) ≤ 3 by decide,show (3:Int) < 2 ^ 62 by decide,mk hp.x hq.x,jY 0 rfl (by decide),mk hp.y hq.y,jY 1 rfl (by decide),mk hp.z hq.z,jY 2 rfl (by decide),[p.x * q.x,p.y * q.y,p.z * q.z],rfl,?_⟩
  rw [e]; exact h
 ·have mk:∀ {x y:Int},Bd k x->Bd k y->IntMulOk x y:=fun hx hy=>jce hx hy (by omega)
  have e:[p.a * q.a,p.b * q.b,p.c * q.c,p.d * q.d].sum = ju9 p q:=by simp only [List.sum_cons,List.sum_nil,ju9]; omega
  refine ⟨show (-(2 ^ 62):Int) ≤ 4 by decide,show (4:Int) < 2 ^ 62 by decide,mk hp.a hq.a,jY 0 rfl (by decide),mk hp.b hq.b,jY 1 rfl (by decide),mk hp.c hq.c,jY 2 rfl (by decide),mk hp.d hq.d,jY 3 rfl (by decide),[p.a * q.a,p.b * q.b,p.c * q.c,p.d * q.d],rfl,?_⟩
  rw [e]; exact h
theorem ji1 (T:Txt P w K mg t):FnOk P w K mg base jS 1 t.a_row_times t.d_row_times ["one","other"] (j2 K 2 jcv):=by
 have sc:=jje
 refine jM (k:=0) T.D_row_times.F jje (fun cdv A outer s H E hr=>⟨jj6,(jq (jr (jan (jwF rfl) rfl T.z_sum jt8 (jc (jaw (jaQ (xs:=["place"]) (M:=["one","other"]) (n:=1) (by rfl) rfl rfl (jcY rfl T.z_range (jc (jan jes rfl T.z_len jbZ (jc (ja (pv 0)) jg)) jg)) (fun _ _ _ _=>(jam (i:=0) (by decide) (show List.Nodup (["place","one","other"]:List Str) by decide +kernel) rfl (by first | exact Or.inl rfl | exact Or.inr rfl))) (fun _ _ _ _=>jaS) (fun _ _ _ _=>(jh jw (ji (ja (pv 1)) (ja (pv 0)) (fun _ _=>rfl)) (ji (ja (pv 2)) (ja (pv 0)) (fun _ _=>rfl)))))) jg)))),jpC⟩)
def ji6:jK:=fun ds Φ=>∃ (q:Q4) (k:Nat),ds = [qd q]∧k ≤ 60000000∧Bq k q∧Φ (.int (jac q))
theorem jn0:jO ji6:=fun ds Φ Ψ mo h0=>by
 obtain ⟨q,k,a,b,c,h⟩:=h0
 exact ⟨q,k,a,b,c,mo _ h⟩
abbrev jtw:S3 :=
 (jE (jx 2 jcv (je (jb 0) (je (jb 0) jm))))
theorem jxA:∀ (ds:List D) (Φ:D->Prop),ds.length = 1->ji6 ds Φ->jtw (jA Φ) (jv 1 ds):=by
 rintro ds Φ hl ⟨q,k,rfl,hk,hq,h⟩
 exact ⟨rfl,.inr ⟨q,q,k,rfl,hk,hq,hq,h⟩⟩
theorem jrm (T:Txt P w K mg t):FnOk P w K mg base jS 2 t.a_size t.d_size ["quad"] (j2 K 1 ji6):=by
 have sc:=jrP
 refine jM (k:=1) T.D_size.F jrP (fun cdv A outer s H E hr=>⟨jtw,(jq (jr (jn (ji1 T) jgs (hr.mono (by decide)) T.D_row_times (jc (ja (pv 0)) (jc (ja (pv 0)) jg))))),jxA⟩)
def jcM:jK:=fun ds Φ=>∃ (t:T9) (q:Q4) (k:Nat),ds = [tb t]∧t = jD q∧q ≠ q0∧k ≤ 4000∧Bt k t∧Φ (qd (jI q))
theorem jeD:jO jcM:=fun ds Φ Ψ mo h0=>by
 obtain ⟨t,q,k,a,b,c,d,e,h⟩:=h0
 exact ⟨t,q,k,a,b,c,d,e,mo _ h⟩
abbrev jnD:S3 :=
 (jE (jx 1 jjp (je (jwg ji6 (jx 1 jbh (je (jb 0) jm))) jm)))
theorem jsn:∀ (ds:List D) (Φ:D->Prop),ds.length = 1->jcM ds Φ->jnD (jA Φ) (jv 1 ds):=by
 rintro ds Φ hl ⟨t,q,k,rfl,rfl,h0,hk,bt,h⟩
 obtain ⟨b1,b2,b3,b4⟩:=jA3 bt
 obtain ⟨g,hg,e1,e2,e3,e4⟩:=jwr h0
 have best:=fun m=>jud (m:=m) h0
 refine ⟨rfl,jD q,rfl,?_⟩
 generalize m1 (jD q) = m1 at *
 generalize m2 (jD q) = m2 at *
 generalize m3 (jD q) = m3 at *
 generalize m4 (jD q) = m4 at *
 refine ⟨[jac m1,jac m2,jac m3,jac m4],List.cons_ne_nil _ _,rfl,fun i d n hd hn=>?_,fun i d n hd hn hx=>⟨rfl,?_⟩⟩
 ·rcases i with _ | _ | _ | _ | i
  ·obtain rfl:=Option.some.inj hd; obtain rfl:=Option.some.inj hn; exact ⟨m1,k + 3,rfl,by omega,b1,rfl⟩
  ·obtain rfl:=Option.some.inj hd; obtain rfl:=Option.some.inj hn; exact ⟨m2,k + 3,rfl,by omega,b2,rfl⟩
  ·obtain rfl:=Option.some.inj hd; obtain rfl:=Option.some.inj hn; exact ⟨m3,k + 3,rfl,by omega,b3,rfl⟩
  ·obtain rfl:=Option.some.inj hd; obtain rfl:=Option.some.inj hn; exact ⟨m4,k + 3,rfl,by omega,b4,rfl⟩
  ·cases hd
 ·have x1:=hx (jac m1) (by simp); have x2:=hx (jac m2) (by simp); have x3:=hx (jac m3) (by simp); have x4:=hx (jac m4) (by simp)
  rcases i with _ | _ | _ | _ | i
  ·obtain rfl:=Option.some.inj hd; obtain rfl:=Option.some.inj hn
   have ne:=best m1 x1 x2 x3 x4
   refine ⟨m1,k + 3,rfl,by omega,b1,ne,?_⟩
   rw [jet hg e1 ne h0]; exact h
  ·obtain rfl:=Option.some.inj hd; obtain rfl:=Option.some.inj hn
   have ne:=best m2 x1 x2 x3 x4
   refine ⟨m2,k + 3,rfl,by omega,b2,ne,?_⟩
   rw [jet hg e2 ne h0]; exact h
  ·obtain rfl:=Option.some.inj hd; obtain rfl:=Option.some.inj hn
   have ne:=best m3 x1 x2 x3 x4
   refine ⟨m3,k + 3,rfl,by omega,b3,ne,?_⟩
   rw [jet hg e3 ne h0]; exact h
  ·obtain rfl:=Option.some.inj hd; obtain rfl:=Option.some.inj hn
   have ne:=best m4 x1 x2 x3 x4
   refine ⟨m4,k + 3,rfl,by omega,b4,ne,?_⟩
   rw [jet hg e4 ne h0]; exact h
  ·cases hd
theorem jhl (T:Txt P w K mg t):FnOk P w K mg base jS 4 t.a_quad_of t.d_quad_of ["turn"] (j2 K 1 jcM):=by
 have sc:=jlk
 refine jM (k:=3) T.D_quad_of.F jlk (fun cdv A outer s H E hr=>⟨jnD,(jq (jr (jn (jvy T) jr7 (hr.mono (by decide)) T.D_plain (jc (jw7 (jrm T) jn0 (hr.mono (by decide)) T.D_size.b rfl rfl T.z_max juv rfl T.D_size.m (jn (jhu T) jf0 (hr.mono (by decide)) T.D_multiples_of_quad (jc (ja (pv 0)) jg))) jg)))),jsn⟩)
def jdO:jK:=fun ds Φ=>∃ (q:Q4) (k:Nat),ds = [.lst [tb (jD q)]]∧q ≠ q0∧k ≤ 1500∧Bq k q∧Φ (.str (jaf (ql (jI q))))
theorem jgL:jO jdO:=fun ds Φ Ψ mo h0=>by
 obtain ⟨q,k,a,b,c,d,h⟩:=h0
 exact ⟨q,k,a,b,c,d,mo _ h⟩
abbrev jka:S3 :=
 (jE (jx 1 jaU (je (jx 1 jcM (je (jf js (jb 0) (dC (.int 0))) jm)) jm)))
theorem jqr:∀ (ds:List D) (Φ:D->Prop),ds.length = 1->jdO ds Φ->jka (jA Φ) (jv 1 ds):=by
 rintro ds Φ hl ⟨q,k,rfl,h0,hk,bq,h⟩
 refine ⟨rfl,jD q,q,2 * k + 3,rfl,rfl,h0,by omega,jks h0 bq,?_⟩
 exact ⟨rfl,ql (jI q),rfl,Nat.le_refl 4,jpy ((jdx bq h0).mono (by omega)),h⟩
theorem jpV (T:Txt P w K mg t):FnOk P w K mg base jS 5 t.a_told_quad t.d_told_quad ["told"] (j2 K 1 jdO):=by
 have sc:=jie
 refine jM (k:=4) T.D_told_quad.F jie (fun cdv A outer s H E hr=>⟨jka,(jq (jr (jn (jc7 T) jbx (hr.mono (by decide)) T.D_numbers_told (jc (jn (jhl T) jeD (hr.mono (by decide)) T.D_quad_of (jc (ji (ja (pv 0)) jd (fun _ _=>rfl)) jg)) jg)))),jqr⟩)
def jcz:jK:=fun ds Φ=>∃ (t:T9),ds = [.lst [tb t]]∧Bd 1900 t.n∧Φ (.str (jaA t.n))
theorem je1:jO jcz:=fun ds Φ Ψ mo h0=>by
 obtain ⟨t,a,b,h⟩:=h0
 exact ⟨t,a,b,mo _ h⟩
abbrev jhR:S3 :=
 (jE (dB jm5 (je (jf js (jf js (jb 0) (dC (.int 0))) (dC (.int 1))) jm)))
theorem jmv:∀ (ds:List D) (Φ:D->Prop),ds.length = 1->jcz ds Φ->jhR (jA Φ) (jv 1 ds):=by
 rintro ds Φ hl ⟨t,rfl,hb,h⟩
 exact ⟨juz hb,h⟩
theorem jmu (T:Txt P w K mg t):FnOk P w K mg base jS 1 t.a_told_bottom t.d_told_bottom ["told"] (j2 K 1 jcz):=by
 have sc:=jgz
 refine jM (k:=0) T.D_told_bottom.F jgz (fun cdv A outer s H E hr=>⟨jhR,(jq (jr (jaJ jox rfl T.z_str ji2 (jc (ji (ji (ja (pv 0)) jd (fun _ _=>rfl)) jd (fun _ _=>rfl)) jg)))),jmv⟩)
def jdY:jK:=fun ds Φ=>(∃ (p q:P3) (t u:Int) (k:Nat),ds = [pt p,.int t,pt q,.int u]∧k ≤ 60000000∧Bp k p∧Bp k q∧Bd k t∧Bd k u∧Φ (pt (jP t p u q))) ∨
 (∃ (p q:Q4) (t u:Int) (k:Nat),ds = [qd p,.int t,qd q,.int u]∧k ≤ 60000000∧Bq k p∧Bq k q∧Bd k t∧Bd k u∧Φ (qd (jx0 t p u q)))
theorem jiC:jO jdY:=fun ds Φ Ψ mo h=>by
 rcases h with ⟨p,q,t,u,k,a,b,c,d,e,f,h⟩ | ⟨p,q,t,u,k,a,b,c,d,e,f,h⟩
 ·exact .inl ⟨p,q,t,u,k,a,b,c,d,e,f,mo _ h⟩
 ·exact .inr ⟨p,q,t,u,k,a,b,c,d,e,f,mo _ h⟩
abbrev jnG:S3 :=
 (jE (dB jcT (je (dF (jbq 1 (iR1 (je (dB jf3 (je (jb 0) jm)) jm)) (gN 0) (fun _ Φ=>Φ true) (jf zA (jf zM (jb 2) (jf js (jb 1) (jb 0))) (jf zM (jb 4) (jf js (jb 3) (jb 0)))))) jm)))
theorem jsc:∀ (ds:List D) (Φ:D->Prop),ds.length = 4->jdY ds Φ->jnG (jA Φ) (jv 4 ds):=by
 rintro ds Φ hl (⟨p,q,t,u,k,rfl,hk,hp,hq,ht,hu,h⟩ | ⟨p,q,t,u,k,rfl,hk,hp,hq,ht,hu,h⟩)
 ·have mk:∀ {x y:Int},Bd k x->Bd k y->IntMulOk x y:=fun hx hy=>jce hx hy (by omega)
  exact ⟨show (-(2 ^ 62):Int) ≤ 3 by decide,show (3:Int) < 2 ^ 62 by decide,mk ht hp.x,mk hu hq.x,jY 0 rfl (by decide),mk ht hp.y,mk hu hq.y,jY 1 rfl (by decide),mk ht hp.z,mk hu hq.z,jY 2 rfl (by decide),h⟩
 ·have mk:∀ {x y:Int},Bd k x->Bd k y->IntMulOk x y:=fun hx hy=>jce hx hy (by omega)
  exact ⟨show (-(2 ^ 62):Int) ≤ 4 by decide,show (4:Int) < 2 ^ 62 by decide,mk ht hp.a,mk hu hq.a,jY 0 rfl (by decide),mk ht hp.b,mk hu hq.b,jY 1 rfl (by decide),mk ht hp.c,mk hu hq.c,jY 2 rfl (by decide),mk ht hp.d,mk hu hq.d,jY 3 rfl (by decide),h⟩
theorem jk3 (T:Txt P w K mg t):FnOk P w K mg base jS 1 t.a_row_mix t.d_row_mix ["one","times","other","times_too"] (j2 K 4 jdY):=by
 have sc:=jlF
 refine jM (k:=0) T.D_row_mix.F jlF (fun cdv A outer s H E hr=>⟨jnG,(jq (jr (jaJ jcO rfl T.z_tuple jbY (jc (jaw (jaQ (xs:=["place"]) (M:=["one","times","other","times_too"]) (n:=1) (by rfl) rfl rfl (jcY rfl T.z_range (jc (jan jes rfl T.z_len jbZ (jc (ja (pv 0)) jg)) jg)) (fun _ _ _ _=>(jam (i:=0) (by decide) (show List.Nodup (["place","one","times","other","times_too"]:List Str) by decide +kernel) rfl (by first | exact Or.inl rfl | exact Or.inr rfl))) (fun _ _ _ _=>jaS) (fun _ _ _ _=>(jh jaa (jh jw (ja (pv 2)) (ji (ja (pv 1)) (ja (pv 0)) (fun _ _=>rfl))) (jh jw (ja (pv 4)) (ji (ja (pv 3)) (ja (pv 0)) (fun _ _=>rfl))))))) jg)))),jsc⟩)
def jep:jK:=fun ds Φ=>(∃ (p q:P3) (t:Int) (k:Nat),ds = [pt p,pt q,.int t]∧1 ≤ k∧k ≤ 60000000∧Bp k p∧Bp k q∧Bd k t∧Φ (pt (jP 1 p (-t) q))) ∨
 (∃ (p q:Q4) (t:Int) (k:Nat),ds = [qd p,qd q,.int t]∧1 ≤ k∧k ≤ 60000000∧Bq k p∧Bq k q∧Bd k t∧Φ (qd (jx0 1 p (-t) q)))
theorem jok:jO jep:=fun ds Φ Ψ mo h=>by
 rcases h with ⟨p,q,t,k,a,b,c,d,e,f,h⟩ | ⟨p,q,t,k,a,b,c,d,e,f,h⟩
 ·exact .inl ⟨p,q,t,k,a,b,c,d,e,f,mo _ h⟩
 ·exact .inr ⟨p,q,t,k,a,b,c,d,e,f,mo _ h⟩
theorem bd1 {k:Nat} (h:1 ≤ k):Bd k 1:=(show Bd 1 1 from jeW (by decide)).mono h
abbrev jlQ:S3 :=
 (jE (jx 4 jdY (je (jb 0) (je (dC (.int 1)) (je (jb 1) (je (dU jck (jb 2)) jm))))))
theorem jq2:∀ (ds:List D) (Φ:D->Prop),ds.length = 3->jep ds Φ->jlQ (jA Φ) (jv 3 ds):=by
 rintro ds Φ hl (⟨p,q,t,k,rfl,h1,hk,hp,hq,ht,h⟩ | ⟨p,q,t,k,rfl,h1,hk,hp,hq,ht,h⟩)
 ·exact ⟨rfl,.inl ⟨p,q,1,-t,k,rfl,hk,hp,hq,bd1 h1,ht.neg,h⟩⟩
 ·exact ⟨rfl,.inr ⟨p,q,1,-t,k,rfl,hk,hp,hq,bd1 h1,ht.neg,h⟩⟩
theorem jqZ (T:Txt P w K mg t):FnOk P w K mg base jS 2 t.a_row_less t.d_row_less ["row","taken","times"] (j2 K 3 jep):=by
 have sc:=jjO
 refine jM (k:=1) T.D_row_less.F jjO (fun cdv A outer s H E hr=>⟨jlQ,(jq (jr (jn (jk3 T) jiC (hr.mono (by decide)) T.D_row_mix (jc (ja (pv 0)) (jc jd (jc (ja (pv 1)) (jc (jbM (ja (pv 2))) jg))))))),jq2⟩)
def jdS:jK:=fun ds Φ=>∃ (x y:Int),ds = [.int x,.int y]∧Bd 4000 x∧Bd 4000 y∧∀ a b:Int,a * x + b * y = (Int.gcd x y:Int)->Bd 4010 a->Bd 4010 b->Φ (.tup [.int (Int.gcd x y:Int),.int a,.int b])
theorem jiF:jO jdS:=fun ds Φ Ψ mo h0=>by
 obtain ⟨x,y,a,b,c,h⟩:=h0
 exact ⟨x,y,a,b,c,fun s t h1 h2 h3=>mo _ (h s t h1 h2 h3)⟩
structure MkI (x y r' a' b' r a b:Int):Prop where
 e':a' * x + b' * y = r'
 e:a * x + b * y = r
 g:Int.gcd r' r = Int.gcd x y
 br':Bd 4000 r'
 br:Bd 4000 r
 ba':Bd 4010 a'
 bb':Bd 4010 b'
 ba:Bd 4010 a
 bb:Bd 4010 b
 p:(a' = 1∧b' = 0∧a = 0∧b = 1∧r' = x∧r = y) ∨ (Pot (x.natAbs + 4 * y.natAbs) a' r' a r∧Pot (x.natAbs + 4 * y.natAbs) b' r' b r)
theorem jxH:(2:Nat) ^ 4003 = 8 * 2 ^ 4000:=by
 have:=Nat.pow_add 2 4000 3
 omega
theorem jx1 {x y c:Int} (hx:Bd 4000 x) (hy:Bd 4000 y) (h:(c.natAbs:Int) ≤ x.natAbs + 4 * y.natAbs):Bd 4010 c:=by
 have:Bd 4003 c:=by
  unfold Bd at *
  rw [jxH]
  generalize 2 ^ 4000 = m at *
  omega
 exact this.mono (by decide)
theorem jng {k:Nat} {r' r:Int} (h:Bd k r') (_:r ≠ 0):Bd (k + 1) (r'.fdiv r):=by
 unfold Bd at *
 have h1:=Int.natAbs_ediv_le_natAbs r' r
 rw [Int.fdiv_eq_ediv,Nat.pow_succ]
 generalize r' / r = q at *
 generalize 2 ^ k = m at *
 split <;> omega
theorem jxW {k:Nat} {r' r:Int} (h:Bd k r) (hr:r ≠ 0):Bd k (r'.fmod r):=Nat.lt_trans (jeA hr) h
theorem joO (a q b:Int):1 * a + -q * b = a - q * b:=by rw [Int.one_mul,Int.neg_mul,Int.sub_eq_add_neg]
theorem jrc (a r:Int):1 * a + -(a.fdiv r) * r = a.fmod r:=by rw [joO,jbH,Int.mul_comm r]
theorem MkI.step {x y r' a' b' r a b:Int} (hx:Bd 4000 x) (hy:Bd 4000 y) (m:MkI x y r' a' b' r a b) (hr:r ≠ 0):MkI x y r a b (1 * r' + -(r'.fdiv r) * r) (1 * a' + -(r'.fdiv r) * a) (1 * b' + -(r'.fdiv r) * b):=by
 have er:=jrc r' r
 have ea:=joO a' (r'.fdiv r) a
 have eb:=joO b' (r'.fdiv r) b
 have pp:Pot (x.natAbs + 4 * y.natAbs) a r (a' - r'.fdiv r * a) (r'.fmod r)∧Pot (x.natAbs + 4 * y.natAbs) b r (b' - r'.fdiv r * b) (r'.fmod r):=by
  rcases m.p with ⟨rfl,rfl,rfl,rfl,rfl,rfl⟩ | ⟨h1,h2⟩
  ·exact ⟨Pot.first hr (by decide) (by decide),Pot.first hr (by decide) (by decide)⟩
  ·exact ⟨h1.step hr,h2.step hr⟩
 rw [er,ea,eb]
 refine ⟨m.e,?_,?_,m.br,jxW m.br hr,m.ba,m.bb,jx1 hx hy (pp.1.a hr),jx1 hx hy (pp.2.a hr),.inr pp⟩
 ·rw [jbH,← m.e',← m.e]; grind
 ·rw [jkF,m.g]
def jmG:S3 :=
 (jz 3 (jb 4))
def jmj:S3 :=
 (jB (jz 2 (jb 3))
 jmG)
abbrev joZ:S3 :=
 (jB (jz 4 (jx 3 jep (je (jb 2) (je (jb 3) (je (jf zD (jf js (jb 2) (dC (.int 0))) (jf js (jb 3) (dC (.int 0)))) jm)))))
 jmj)
def jqC:S3 :=
 (jE (jb 2))
def jqH:S3 :=
 (jB (sIf (dT (jf (dI0 fun i j=>.bl (decide (i < j))) (jf js (jb 2) (dC (.int 0))) (dC (.int 0))))
 (jE (jaL (je (dU jck (jf js (jb 2) (dC (.int 0)))) (je (dU jck (jf js (jb 2) (dC (.int 1)))) (je (dU jck (jf js (jb 2) (dC (.int 2)))) jm)))))
 ja2)
 jqC)
def jq4:S3 :=
 (jB (jgc (dT (jf dNe (jf js (jb 3) (dC (.int 0))) (dC (.int 0))))
 joZ)
 jqH)
def jq7:S3 :=
 (jB (jz 3 (jaL (je (jb 1) (je (dC (.int 0)) (je (dC (.int 1)) jm)))))
 jq4)
abbrev jnz:S3 :=
 (jB (jz 2 (jaL (je (jb 0) (je (dC (.int 1)) (je (dC (.int 0)) jm)))))
 jq7)
theorem jsP:∀ (ds:List D) (Φ:D->Prop),ds.length = 2->jdS ds Φ->jnz (jA Φ) (jv 5 ds):=by
 rintro ds Φ hl ⟨x,y,rfl,hx,hy,h⟩
 refine ⟨j8 3 rfl (by decide),j8 3 rfl (by decide),?_⟩
 refine jfe (fun ρ=>∃ (r' a' b' r a b:Int) (s:Sl),ρ = [.val (.int x),.val (.int y),.val (pt ⟨r',a',b'⟩),.val (pt ⟨r,a,b⟩),s]∧MkI x y r' a' b' r a b)
  (fun ρ=>match ρ with | [_,_,_,.val (.tup (.int r :: _)),_]=>r.natAbs | _=>0) ?_ ?_
 ·exact ⟨x,1,0,y,0,1,.un,rfl,⟨by rw [Int.one_mul,Int.zero_mul,Int.add_zero],by rw [Int.zero_mul,Int.one_mul,Int.zero_add],rfl,hx,hy,jeW (by decide),jeW (by decide),jeW (by decide),jeW (by decide),.inl ⟨rfl,rfl,rfl,rfl,rfl,rfl⟩⟩⟩
 ·rintro ρ ⟨r',a',b',r,a,b,s,rfl,m⟩
  refine tst (fun hc=>?_) (fun hc=>?_)
  ·have hr:r ≠ 0:=by
    intro z; subst z; simp at hc
   have hq:=jng m.br' hr
   refine ⟨jeu hr m.br (by decide),rfl,.inl ⟨⟨r',a',b'⟩,⟨r,a,b⟩,r'.fdiv r,4010,rfl,by decide,by decide,⟨m.br'.mono (by decide),m.ba',m.bb'⟩,⟨m.br.mono (by decide),m.ba,m.bb⟩,hq.mono (by decide),?_⟩⟩
   refine ⟨_,?_,rfl,r,a,b,_,_,_,_,rfl,m.step hx hy hr⟩
   show (1 * r' + -(r'.fdiv r) * r).natAbs < r.natAbs
   rw [jrc]
   exact jeA hr
  ·have hr:r = 0:=by
    have:(!decide (r = 0)) = false:=hc
    simpa using this
   subst hr
   have hg:(Int.gcd x y:Int) = r'.natAbs:=by rw [← m.g]; simp
   refine tst (fun h0=>?_) (fun h0=>?_)
   ·have h0:r' < 0:=of_decide_eq_true h0
    refine ⟨j8 3 rfl (by decide),?_⟩
    have e:(Int.gcd x y:Int) = -r':=hg.trans (Int.ofNat_natAbs_of_nonpos (Int.le_of_lt h0))
    have:=h (-a') (-b') (by rw [e,← m.e']; grind) m.ba'.neg m.bb'.neg
    rw [e] at this
    exact this
   ·have h0:¬ r' < 0:=of_decide_eq_false h0
    have e:(Int.gcd x y:Int) = r':=hg.trans (Int.natAbs_of_nonneg (Int.not_lt.mp h0))
    have:=h a' b' (by rw [e,← m.e']) m.ba' m.bb'
    rw [e] at this
    exact this
theorem jlS (T:Txt P w K mg t):FnOk P w K mg base jS 3 t.a_makings t.d_makings ["one","other"] (j2 K 2 jdS):=by
 have sc:=jlX
 refine jM (k:=2) T.D_makings.F jlX (fun cdv A outer s H E hr=>⟨jnz,(jk (jo (i:=2) sc.nd rfl (jl rfl) (jaj (jc (ja (pv 0)) (jc jd (jc jd jg)))))
 (jk (jo (i:=3) sc.nd rfl (jl rfl) (jaj (jc (ja (pv 1)) (jc jd (jc jd jg)))))
 (jk (jfj PassesOwn.never (jal jh8 (ji (ja (pv 3)) jd (fun _ _=>rfl)) jd (j3 _))
 (jk (jo (i:=4) sc.nd rfl (jl rfl) (jn (jqZ T) jok (hr.mono (by decide)) T.D_row_less (jc (ja (pv 2)) (jc (ja (pv 3)) (jc (jh jbA (ji (ja (pv 2)) jd (fun _ _=>rfl)) (ji (ja (pv 3)) jd (fun _ _=>rfl))) jg)))))
 (jk (jo (i:=2) sc.nd rfl (jl rfl) (ja (pv 3)))
 (jq (jo (i:=3) sc.nd rfl (jl rfl) (ja (pv 4)))))))
 (jk (jaK (jal jvE (ji (ja (pv 2)) jd (fun _ _=>rfl)) jd (j3 _))
 (jq (jr (jaj (jc (jbM (ji (ja (pv 2)) jd (fun _ _=>rfl))) (jc (jbM (ji (ja (pv 2)) jd (fun _ _=>rfl))) (jc (jbM (ji (ja (pv 2)) jd (fun _ _=>rfl))) jg))))))
 jau)
 (jq (jr (ja (pv 2)))))))),jsP⟩)
def jc4:jK:=fun ds Φ=>∃ (w:P3) (m:Int) (k:Nat),ds = [.tup [pt w,.int m]]∧0 < m∧k ≤ 4000∧Bp k w∧Bd k m∧jt [w.x,w.y,w.z,m] = 1∧∀ s,DS w m s->Φ (stD s)
theorem jl6:jO jc4:=fun ds Φ Ψ mo h0=>by
 obtain ⟨w,m,k,a,b,c,d,e,f,h⟩:=h0
 exact ⟨w,m,k,a,b,c,d,e,f,fun s hs=>mo _ (h s hs)⟩
def jkT:S3 :=
 (jE (dF (jpR (je (jaL (je (jb 5) (je (jb 8) (je (jb 9) jm)))) (je (jaL (je (dC (.int 0)) (je (jb 6) (je (jb 10) jm)))) (je (jaL (je (dC (.int 0)) (je (dC (.int 0)) (je (jb 7) jm)))) jm))))))
def jgC:S3 :=
 (jB (jz 10 (jf zR (jf zM (dU jck (jf zD (jf zM (jf js (jb 1) (dC (.int 1))) (jb 6)) (jf js (jb 3) (dC (.int 0))))) (jf js (jb 3) (dC (.int 1)))) (jb 7)))
 jkT)
def jgI:S3 :=
 (jB (jz 9 (jf zR (jf zM (dU jck (jf zD (jf zA (jf zM (jf js (jb 1) (dC (.int 0))) (jb 5)) (jf zM (jf js (jb 1) (dC (.int 1))) (jb 8))) (jf js (jb 3) (dC (.int 0))))) (jf js (jb 3) (dC (.int 1)))) (jb 7)))
 jgC)
def jmk:S3 :=
 (jB (jz 8 (jf zR (jf zM (dU jck (jf js (jb 1) (dC (.int 0)))) (jf js (jb 4) (dC (.int 1)))) (jb 6)))
 jgI)
def jl9:S3 :=
 (jB (jz 7 (jf zD (jb 2) (jf js (jb 3) (dC (.int 0)))))
 jmk)
def jmD:S3 :=
 (jB (jz 6 (jf zD (jf js (jb 3) (dC (.int 0))) (jf js (jb 4) (dC (.int 0)))))
 jl9)
def jgU:S3 :=
 (jB (jz 5 (jf js (jb 4) (dC (.int 0))))
 jmD)
def jgj:S3 :=
 (jB (jz 4 (jx 2 jdS (je (jf js (jb 1) (dC (.int 1))) (je (jf js (jb 3) (dC (.int 0))) jm))))
 jgU)
def jni:S3 :=
 (jB (jz 3 (jx 2 jdS (je (jf js (jb 1) (dC (.int 2))) (je (jb 2) jm))))
 jgj)
def jmX:S3 :=
 (jB (jz 2 (jf js (jb 0) (dC (.int 1))))
 jni)
abbrev jiH:S3 :=
 (jB (jz 1 (jf js (jb 0) (dC (.int 0))))
 jmX)
theorem jn8:∀ (ds:List D) (Φ:D->Prop),ds.length = 1->jc4 ds Φ->jiH (jA Φ) (jv 11 ds):=by
 rintro ds Φ hl ⟨w,m,k,rfl,m0,hk,bw,bm,one,h⟩
 refine ⟨rfl,w.z,m,rfl,bw.z.mono hk,bm.mono hk,fun s t eg bs bt=>?_⟩
 have gz:(Int.gcd w.z m:Int) ∣ w.z:=Int.gcd_dvd_left ..
 have gm:(Int.gcd w.z m:Int) ∣ m:=Int.gcd_dvd_right ..
 have gpos:∀ {a b:Int},0 < b->0 < (Int.gcd a b:Int):=fun h=>Int.natCast_pos.mpr (Int.gcd_pos_of_ne_zero_right _ (Int.ne_of_gt h))
 have g0:0 < (Int.gcd w.z m:Int):=gpos m0
 show jgj (jA Φ) [.val (.tup [pt w,.int m]),.val (pt w),.val (.int m),.val (.tup [.int (Int.gcd w.z m:Int),.int s,.int t]),.un,.un,.un,.un,.un,.un,.un]
 have bg:Bd k (Int.gcd w.z m:Int):=Nat.lt_of_le_of_lt (jru m0 gm) bm
 generalize (Int.gcd w.z m:Int) = g at *
 refine ⟨rfl,w.y,g,rfl,bw.y.mono hk,bg.mono hk,fun u v eh bu bv=>?_⟩
 have hy:(Int.gcd w.y g:Int) ∣ w.y:=Int.gcd_dvd_left ..
 have hg:(Int.gcd w.y g:Int) ∣ g:=Int.gcd_dvd_right ..
 have h0:0 < (Int.gcd w.y g:Int):=gpos g0
 have bh:Bd k (Int.gcd w.y g:Int):=Nat.lt_of_le_of_lt (jru g0 hg) bg
 show jgU (jA Φ) [.val (.tup [pt w,.int m]),.val (pt w),.val (.int m),.val (.tup [.int g,.int s,.int t]),.val (.tup [.int (Int.gcd w.y g:Int),.int u,.int v]),.un,.un,.un,.un,.un,.un]
 generalize (Int.gcd w.y g:Int) = e at *
 have dsf:=jAc m0 one eg gz gm g0 eh hy hg h0
 obtain ⟨⟨_,d0,f0,b0,b1,_,_,_,_⟩,_⟩:=id dsf
 have gz0:g ≠ 0:=Int.ne_of_gt g0
 have ez0:e ≠ 0:=Int.ne_of_gt h0
 have dz:g.fdiv e ≠ 0:=Int.ne_of_gt d0
 have fz:m.fdiv g ≠ 0:=Int.ne_of_gt f0
 have k1:k + 1 ≤ 4001:=Nat.add_le_add_right hk 1
 have bd:Bd (k + 1) (g.fdiv e):=jng bg ez0
 have bb:Bd (k + 1) ((-w.x * u).fmod (g.fdiv e)):=Nat.lt_of_le_of_lt (jtQ b0 (Int.le_of_lt b1)) bd
 have kk:k + (k + 1) ≤ 134217728:=Nat.le_trans (Nat.add_le_add hk k1) (by decide)
 have b9:∀ {x:Int},Bd (2 * k + 3) x->Bd 4010 s->IntMulOk (-(x.fdiv g)) s:=fun hx hs=>jce ((jng hx gz0).neg) hs (Nat.le_trans (Nat.add_le_add_right (Nat.add_le_add_right (Nat.add_le_add_right (Nat.mul_le_mul_left 2 hk) 3) 1) 4010) (by decide))
 have m1:IntMulOk (-w.x) u:=jce bw.x.neg bu (Nat.le_trans (Nat.add_le_add_right hk 4010) (by decide))
 have m2:IntMulOk w.x e:=jce bw.x bh (Nat.le_trans (Nat.add_le_add hk hk) (by decide))
 have m3:IntMulOk w.y ((-w.x * u).fmod (g.fdiv e)):=jce bw.y bb kk
 have m4:IntMulOk w.y (g.fdiv e):=jce bw.y bd kk
 have kk2:k + (k + 1) = 2 * k + 1:=by rw [Nat.two_mul,Nat.add_assoc]
 have p4:Bd (2 * k + 3) (w.y * g.fdiv e):=(bw.y.mul bd).mono (Nat.le_trans (Nat.le_of_eq kk2) (Nat.le_add_right _ 2))
 have p3:Bd (2 * k + 3) (w.x * e + w.y * (-w.x * u).fmod (g.fdiv e)):=(((bw.x.mul bh).mono (show k + k ≤ 2 * k + 1 from Nat.le_trans (Nat.le_of_eq (Nat.two_mul k).symm) (Nat.le_succ _))).add ((bw.y.mul bb).mono (Nat.le_of_eq kk2))).mono (by rw [Nat.max_self]; exact Nat.le_succ _)
 have k9:k ≤ 9000:=Nat.le_trans hk (by decide)
 have cg:∀ x:Int,CD x g:=fun x=>jeu gz0 bg k9
 have ce:∀ x:Int,CD x e:=fun x=>jeu ez0 bh k9
 have n1:=b9 p3 bs
 have n2:=b9 p4 bs
 have hh:=h _ dsf
 refine ⟨ce _,cg _,m1,dz,?_⟩
 show jgI (jA Φ) [.val (.tup [pt w,.int m]),.val (pt w),.val (.int m),.val (.tup [.int g,.int s,.int t]),.val (.tup [.int e,.int u,.int v]),.val (.int e),.val (.int (g.fdiv e)),.val (.int (m.fdiv g)),.val (.int ((-w.x * u).fmod (g.fdiv e))),.un,.un]
 refine ⟨m2,m3,cg _,n1,fz,?_⟩
 show jgC (jA Φ) [.val (.tup [pt w,.int m]),.val (pt w),.val (.int m),.val (.tup [.int g,.int s,.int t]),.val (.tup [.int e,.int u,.int v]),.val (.int e),.val (.int (g.fdiv e)),.val (.int (m.fdiv g)),.val (.int ((-w.x * u).fmod (g.fdiv e))),.val (.int ((-((w.x * e + w.y * (-w.x * u).fmod (g.fdiv e)).fdiv g) * s).fmod (m.fdiv g))),.un]
 refine ⟨m4,cg _,n2,fz,?_⟩
 exact ⟨j8 3 rfl (by decide),j8 3 rfl (by decide),j8 3 rfl (by decide),j8 3 rfl (by decide),hh⟩
theorem jn4 (T:Txt P w K mg t):FnOk P w K mg base jS 4 t.a_dial_stair t.d_dial_stair ["dial"] (j2 K 1 jc4):=by
 have sc:=jhQ
 refine jM (k:=3) T.D_dial_stair.F jhQ (fun cdv A outer s H E hr=>⟨jiH,(jk (jo (i:=1) sc.nd rfl (jl rfl) (ji (ja (pv 0)) jd (fun _ _=>rfl)))
 (jk (jo (i:=2) sc.nd rfl (jl rfl) (ji (ja (pv 0)) jd (fun _ _=>rfl)))
 (jk (jo (i:=3) sc.nd rfl (jl rfl) (jn (jlS T) jiF (hr.mono (by decide)) T.D_makings (jc (ji (ja (pv 1)) jd (fun _ _=>rfl)) (jc (ja (pv 2)) jg))))
 (jk (jo (i:=4) sc.nd rfl (jl rfl) (jn (jlS T) jiF (hr.mono (by decide)) T.D_makings (jc (ji (ja (pv 1)) jd (fun _ _=>rfl)) (jc (ji (ja (pv 3)) jd (fun _ _=>rfl)) jg))))
 (jk (jo (i:=5) sc.nd rfl (jl rfl) (ji (ja (pv 4)) jd (fun _ _=>rfl)))
 (jk (jo (i:=6) sc.nd rfl (jl rfl) (jh jbA (ji (ja (pv 3)) jd (fun _ _=>rfl)) (ji (ja (pv 4)) jd (fun _ _=>rfl))))
 (jk (jo (i:=7) sc.nd rfl (jl rfl) (jh jbA (ja (pv 2)) (ji (ja (pv 3)) jd (fun _ _=>rfl))))
 (jk (jo (i:=8) sc.nd rfl (jl rfl) (jh jb7 (jh jw (jbM (ji (ja (pv 1)) jd (fun _ _=>rfl))) (ji (ja (pv 4)) jd (fun _ _=>rfl))) (ja (pv 6))))
 (jk (jo (i:=9) sc.nd rfl (jl rfl) (jh jb7 (jh jw (jbM (jh jbA (jh jaa (jh jw (ji (ja (pv 1)) jd (fun _ _=>rfl)) (ja (pv 5))) (jh jw (ji (ja (pv 1)) jd (fun _ _=>rfl)) (ja (pv 8)))) (ji (ja (pv 3)) jd (fun _ _=>rfl)))) (ji (ja (pv 3)) jd (fun _ _=>rfl))) (ja (pv 7))))
 (jk (jo (i:=10) sc.nd rfl (jl rfl) (jh jb7 (jh jw (jbM (jh jbA (jh jw (ji (ja (pv 1)) jd (fun _ _=>rfl)) (ja (pv 6))) (ji (ja (pv 3)) jd (fun _ _=>rfl)))) (ji (ja (pv 3)) jd (fun _ _=>rfl))) (ja (pv 7))))
 (jq (jr (jaw (jlL (jc (jaj (jc (ja (pv 5)) (jc (ja (pv 8)) (jc (ja (pv 9)) jg)))) (jc (jaj (jc jd (jc (ja (pv 6)) (jc (ja (pv 10)) jg)))) (jc (jaj (jc jd (jc jd (jc (ja (pv 7)) jg)))) jg))))))))))))))))),jn8⟩)
def jdj:jK:=fun ds Φ=>∃ (t:T9) (i:Int),ds = [tr t,.int i]∧((i = 0∧Φ (pt (jQ t).p)) ∨ (i = 1∧Φ (pt (jQ t).q)) ∨ (i = 2∧Φ (pt (jQ t).r)))
theorem jfN:jO jdj:=fun ds Φ Ψ mo h0=>by
 obtain ⟨t,i,a,h⟩:=h0
 exact ⟨t,i,a,h.imp (fun z=>⟨z.1,mo _ z.2⟩) fun h=>h.imp (fun z=>⟨z.1,mo _ z.2⟩) fun z=>⟨z.1,mo _ z.2⟩⟩
abbrev jpw:S3 :=
 (jE (dB jcT (je (dF (jbq 1 (iLT (jb 0)) (gN 0) (fun _ Φ=>Φ true) (jf js (jb 0) (jb 2)))) jm)))
theorem jtn:∀ (ds:List D) (Φ:D->Prop),ds.length = 2->jdj ds Φ->jpw (jA Φ) (jv 2 ds):=by
 rintro ds Φ hl ⟨t,i,rfl,⟨rfl,h⟩ | ⟨rfl,h⟩ | ⟨rfl,h⟩⟩
 ·exact ⟨jY 0 rfl (by decide),jY 1 rfl (by decide),jY 2 rfl (by decide),h⟩
 ·exact ⟨jY 0 rfl (by decide),jY 1 rfl (by decide),jY 2 rfl (by decide),h⟩
 ·exact ⟨jY 0 rfl (by decide),jY 1 rfl (by decide),jY 2 rfl (by decide),h⟩
theorem jiD (T:Txt P w K mg t):FnOk P w K mg base jS 1 t.a_column t.d_column ["rows","place"] (j2 K 2 jdj):=by
 have sc:=jnV
 refine jM (k:=0) T.D_column.F jnV (fun cdv A outer s H E hr=>⟨jpw,(jq (jr (jaJ jcO rfl T.z_tuple jbY (jc (jaw (jaQ (xs:=["row"]) (M:=["rows","place"]) (n:=1) (by rfl) rfl rfl (jaR (ja (pv 0))) (fun _ _ _ _=>(jam (i:=0) (by decide) (show List.Nodup (["row","rows","place"]:List Str) by decide +kernel) rfl (by first | exact Or.inl rfl | exact Or.inr rfl))) (fun _ _ _ _=>jaS) (fun _ _ _ _=>(ji (ja (pv 0)) (ja (pv 2)) (fun _ _=>rfl))))) jg)))),jtn⟩)
def jeG:jK:=fun ds Φ=>∃ (t:T9),ds = [tb t]∧Φ (tb (jQ t))
theorem jfz:jO jeG:=fun ds Φ Ψ mo h0=>by
 obtain ⟨t,a,h⟩:=h0
 exact ⟨t,a,mo _ h⟩
def jvT:S3 :=
 (jE (jaL (je (jaL (je (jx 2 jdj (je (jb 1) (je (dC (.int 0)) jm))) (je (jx 2 jdj (je (jb 1) (je (dC (.int 1)) jm))) (je (jx 2 jdj (je (jb 1) (je (dC (.int 2)) jm))) jm)))) (je (jf js (jb 0) (dC (.int 1))) jm))))
abbrev jtk:S3 :=
 (jB (jz 1 (jf js (jb 0) (dC (.int 0))))
 jvT)
theorem jxk:∀ (ds:List D) (Φ:D->Prop),ds.length = 1->jeG ds Φ->jtk (jA Φ) (jv 2 ds):=by
 rintro ds Φ hl ⟨t,rfl,h⟩
 refine ⟨rfl,t,0,rfl,.inl ⟨rfl,?_⟩⟩
 refine ⟨rfl,t,1,rfl,.inr (.inl ⟨rfl,?_⟩)⟩
 refine ⟨rfl,t,2,rfl,.inr (.inr ⟨rfl,?_⟩)⟩
 exact ⟨j8 3 rfl (by decide),j8 2 rfl (by decide),h⟩
theorem jjv (T:Txt P w K mg t):FnOk P w K mg base jS 2 t.a_back t.d_back ["turn"] (j2 K 1 jeG):=by
 have sc:=jrX
 refine jM (k:=1) T.D_back.F jrX (fun cdv A outer s H E hr=>⟨jtk,(jk (jo (i:=1) sc.nd rfl (jl rfl) (ji (ja (pv 0)) jd (fun _ _=>rfl)))
 (jq (jr (jaj (jc (jaj (jc (jn (jiD T) jfN (hr.mono (by decide)) T.D_column (jc (ja (pv 1)) (jc jd jg))) (jc (jn (jiD T) jfN (hr.mono (by decide)) T.D_column (jc (ja (pv 1)) (jc jd jg))) (jc (jn (jiD T) jfN (hr.mono (by decide)) T.D_column (jc (ja (pv 1)) (jc jd jg))) jg)))) (jc (ji (ja (pv 0)) jd (fun _ _=>rfl)) jg)))))),jxk⟩)
def jcd:jK:=fun ds Φ=>∃ (n g:Int) (k:Nat),ds = [.int n,.int g]∧0 < n∧k ≤ 9000∧Bd k n∧∀ c,PW n g c->Φ (.int c)
theorem jjG:jO jcd:=fun ds Φ Ψ mo h0=>by
 obtain ⟨n,g,k,a,b,c,d,h⟩:=h0
 exact ⟨n,g,k,a,b,c,d,fun c hc=>mo _ (h c hc)⟩
theorem jhX {a b:Int} (h:0 < b) (d:a ∣ b):a.natAbs ≤ b.natAbs:=Nat.le_of_dvd (by omega) (Int.natAbs_dvd_natAbs.mpr d)
def jh3:S3 :=
 (jz 3 (jx 2 jaI (je (jb 2) (je (jb 3) jm))))
abbrev jjE:S3 :=
 (jB (jz 2 (jf zD (jb 2) (jb 3)))
 jh3)
def jkS:S3 :=
 (jE (jb 2))
def jeO:S3 :=
 (jB (jgc (dT (jf dNe (jb 3) (dC (.int 1))))
 jjE)
 jkS)
def jkq:S3 :=
 (jB (jz 3 (jx 2 jaI (je (jb 0) (je (jb 1) jm))))
 jeO)
abbrev jgy:S3 :=
 (jB (jz 2 (jb 0))
 jkq)
theorem jk5:∀ (ds:List D) (Φ:D->Prop),ds.length = 2->jcd ds Φ->jgy (jA Φ) (jv 4 ds):=by
 rintro ds Φ hl ⟨n,g,k,rfl,n0,hk,bn,h⟩
 refine ⟨rfl,n,g,rfl,?_⟩
 show jeO (jA Φ) [.val (.int n),.val (.int g),.val (.int n),.val (.int (Int.gcd n g:Int))]
 refine jfe (fun ρ=>∃ (r s:Int),ρ = [.val (.int n),.val (.int g),.val (.int r),.val (.int s)]∧0 < r∧r ∣ n∧s ∣ r∧s ∣ g∧0 ≤ s∧(∀ d,d ∣ r->d ∣ g->d ∣ s)∧(∀ d,d ∣ n->Cop d g->d ∣ r)) (fun ρ=>match ρ with | [_,_,.val (.int r),_]=>r.natAbs | _=>0) ⟨n,Int.gcd n g,rfl,n0,Int.dvd_refl n,Int.gcd_dvd_left ..,Int.gcd_dvd_right ..,Int.natCast_nonneg _,fun d a b=>Int.dvd_coe_gcd a b,fun d a _=>a⟩ ?_
 rintro ρ ⟨r,s,rfl,r0,rn,sr,sg,s0,com,all⟩
 refine tst (fun hc=>?_) (fun hc=>?_)
 ·have s1:s ≠ 1:=by intro z; subst z; simp at hc
  have sz:s ≠ 0:=fun z=>by subst z; have:=Int.zero_dvd.mp sr; omega
  have er:s * r.fdiv s = r:=Int.mul_fdiv_cancel' sr
  have bs:Bd k s:=Nat.lt_of_le_of_lt (Nat.le_trans (jhX r0 sr) (jhX n0 rn)) bn
  have q0:0 < r.fdiv s:=by
   rcases Int.lt_or_le 0 (r.fdiv s) with z | z
   ·exact z
   ·have:=Int.mul_nonpos_of_nonneg_of_nonpos s0 z
    omega
  have qr:r.fdiv s ∣ r:=⟨s,by rw [Int.mul_comm]; exact er.symm⟩
  refine ⟨jeu sz bs hk,?_⟩
  refine ⟨rfl,r.fdiv s,s,rfl,_,?_,rfl,r.fdiv s,Int.gcd (r.fdiv s) s,rfl,q0,Int.dvd_trans qr rn,Int.gcd_dvd_left ..,Int.dvd_trans (Int.gcd_dvd_right ..) sg,Int.natCast_nonneg _,fun d a b=>Int.dvd_coe_gcd a (com d (Int.dvd_trans a qr) b),fun d a b=>?_⟩
  ·show (r.fdiv s).natAbs < r.natAbs
   have:2 * r.fdiv s ≤ s * r.fdiv s:=Int.mul_le_mul_of_nonneg_right (by omega) (by omega)
   omega
  ·have:=all d a b
   rw [← er] at this
   exact Cop.mul (fun e h1 h2=>b e h1 (Int.dvd_trans h2 sg)) this
 ·have s1:s = 1:=by simpa using hc
  subst s1
  exact h r ⟨r0,rn,fun d a b=>com d a b,all⟩
theorem jlu (T:Txt P w K mg t):FnOk P w K mg base jS 2 t.a_part_without t.d_part_without ["n","other"] (j2 K 2 jcd):=by
 have sc:=jfo
 refine jM (k:=1) T.D_part_without.F jfo (fun cdv A outer s H E hr=>⟨jgy,(jk (jo (i:=2) sc.nd rfl (jl rfl) (ja (pv 0)))
 (jk (jo (i:=3) sc.nd rfl (jl rfl) (jn (jci T) jbR (hr.mono (by decide)) T.D_divisor_of_two (jc (ja (pv 0)) (jc (ja (pv 1)) jg))))
 (jk (jfj PassesOwn.never (jal jh8 (ja (pv 3)) jd (j3 _))
 (jk (jo (i:=2) sc.nd rfl (jl rfl) (jh jbA (ja (pv 2)) (ja (pv 3))))
 (jq (jo (i:=3) sc.nd rfl (jl rfl) (jn (jci T) jbR (hr.mono (by decide)) T.D_divisor_of_two (jc (ja (pv 2)) (jc (ja (pv 3)) jg)))))))
 (jq (jr (ja (pv 2))))))),jk5⟩)
def jfw:jK:=fun ds Φ=>∃ (t:T9) (k:Nat),ds = [tb t]∧jcr t∧jcr (jQ t)∧k ≤ 4000∧Bt k t∧∀ w:P3,jf8 t w->0 ≤ w.x->w.x < t.n->0 ≤ w.y->w.y < t.n->0 ≤ w.z->w.z < t.n->Φ (.tup [pt w,.int t.n])
theorem jpm:jO jfw:=fun ds Φ Ψ mo h0=>by
 obtain ⟨t,k,a,b,c,d,e,h⟩:=h0
 exact ⟨t,k,a,b,c,d,e,fun w h1 h2 h3 h4 h5 h6 h7=>mo _ (h w h1 h2 h3 h4 h5 h6 h7)⟩
theorem juo {j k:Nat} {w r:P3} {c:Int} (hj:2 * k ≤ j) (bw:Bp j w) (bc:Bd k c) (br:Bp k r):Bp (j + 1) (jP 1 w c r):=by
 have f:∀ {x y:Int},Bd j x->Bd k y->Bd (j + 1) (1 * x + c * y):=fun hx hy=>by
  rw [Int.one_mul]
  exact (hx.add ((bc.mul hy).mono (show k + k ≤ j by omega))).mono (by omega)
 exact ⟨f bw.x br.x,f bw.y br.y,f bw.z br.z⟩
abbrev ji9:S3 :=
 (jz 2 (jx 4 jdY (je (jb 2) (je (dC (.int 1)) (je (jb 3) (je (jx 2 jcd (je (jb 1) (je (jx 1 jb3 (je (jb 2) jm)) jm))) jm))))))
def jf4:S3 :=
 (jE (jaL (je (dB jcT (je (dF (jbq 1 (iLT (jb 2)) (gN 0) (fun _ Φ=>Φ true) (jf zR (jb 0) (jb 2)))) jm)) (je (jb 1) jm))))
def jqG:S3 :=
 (jB (jsu (iLT (jf js (jx 1 jeG (je (jb 0) jm)) (dC (.int 0)))) (gN 3)
 ji9)
 jf4)
def jqF:S3 :=
 (jB (jz 2 (jaL (je (dC (.int 0)) (je (dC (.int 0)) (je (dC (.int 0)) jm)))))
 jqG)
abbrev jn2:S3 :=
 (jB (jz 1 (jf js (jb 0) (dC (.int 1))))
 jqF)
theorem jsX:∀ (ds:List D) (Φ:D->Prop),ds.length = 1->jfw ds Φ->jn2 (jA Φ) (jv 4 ds):=by
 rintro ds Φ hl ⟨t,k,rfl,ht,ht',hk,bt,h⟩
 have n1:=ht.n
 have n0:0 < t.n:=n1
 have k1:k ≤ 2 * k + 1:=Nat.le_trans (Nat.le_mul_of_pos_left k (by decide)) (Nat.le_succ _)
 have k2:k ≤ 2 * k + 2:=Nat.le_trans k1 (Nat.le_succ _)
 have o1:1 ≤ 2 * k + 1:=Nat.le_add_left 1 _
 have o2:1 ≤ 2 * k + 2:=Nat.le_trans (by decide) (Nat.le_add_left 2 _)
 have g1:2 * k + 1 ≤ 60000000:=Nat.le_trans (Nat.add_le_add_right (Nat.mul_le_mul_left 2 hk) 1) (by decide)
 have g2:2 * k + 2 ≤ 60000000:=Nat.le_trans (Nat.add_le_add_right (Nat.mul_le_mul_left 2 hk) 2) (by decide)
 have k9:k ≤ 9000:=Nat.le_trans hk (by decide)
 have bu:=jtY bt
 refine ⟨j8 3 rfl (by decide),rfl,t,rfl,?_⟩
 show FOR (gN 3) ji9 [pt (jQ t).p,pt (jQ t).q,pt (jQ t).r] (joq jf4 (jA Φ)) [.val (tb t),.val (.int t.n),.val (pt z3),.un]
 have cb:∀ {g c:Int},PW t.n g c->Bd k c:=fun hc=>Nat.lt_of_le_of_lt (Nat.le_of_dvd (Int.natAbs_pos.mpr (Int.ne_of_gt n0)) (Int.natAbs_dvd_natAbs.mpr hc.dvd)) bt.n
 have bz:Bp (2 * k) z3:=by
  have:Bd (2 * k) 0:=by unfold Bd; exact Nat.pow_pos (by decide)
  exact ⟨this,this,this⟩
 have b1:∀ {j:Nat},1 ≤ j->Bd j (1:Int):=fun {j} hj=>by
  have:Bd 1 (1:Int):=jeW (by decide)
  exact this.mono hj
 refine jkh ⟨rfl,[z3.x,z3.y,z3.z],.inr rfl,rfl,t.n,_,k,rfl,n0,k9,bt.n,fun a ha=>⟨rfl,.inl ⟨z3,(jQ t).p,1,a,2 * k + 1,rfl,g1,bz.mono (Nat.le_succ _),bu.p.mono k1,b1 o1,(cb ha).mono k1,?_⟩⟩⟩
 have w1:=juo (Nat.le_refl _) bz (cb ha) bu.p
 refine jkh ⟨rfl,[(jP 1 z3 a (jQ t).p).x,(jP 1 z3 a (jQ t).p).y,(jP 1 z3 a (jQ t).p).z],.inr rfl,rfl,t.n,_,k,rfl,n0,k9,bt.n,fun b hb=>⟨rfl,.inl ⟨jP 1 z3 a (jQ t).p,(jQ t).q,1,b,2 * k + 1,rfl,g1,w1,bu.q.mono k1,b1 o1,(cb hb).mono k1,?_⟩⟩⟩
 have w2:=juo (Nat.le_succ _) w1 (cb hb) bu.q
 refine jkh ⟨rfl,[(jP 1 (jP 1 z3 a (jQ t).p) b (jQ t).q).x,(jP 1 (jP 1 z3 a (jQ t).p) b (jQ t).q).y,(jP 1 (jP 1 z3 a (jQ t).p) b (jQ t).q).z],.inr rfl,rfl,t.n,_,k,rfl,n0,k9,bt.n,fun c hc=>⟨rfl,.inl ⟨jP 1 (jP 1 z3 a (jQ t).p) b (jQ t).q,(jQ t).r,1,c,2 * k + 2,rfl,g2,w2,bu.r.mono k2,b1 o2,(cb hc).mono k2,?_⟩⟩⟩
 refine jxU ?_
 have dl:=jvw (jvA ht ht' ha hb hc)
 show jf4 (jA Φ) [.val (tb t),.val (.int t.n),.val (pt (jP 1 (jP 1 (jP 1 z3 a (jQ t).p) b (jQ t).q) c (jQ t).r)),.val (pt (jQ t).r)]
 generalize jP 1 (jP 1 (jP 1 z3 a (jQ t).p) b (jQ t).q) c (jQ t).r = w at *
 have m0:t.n ≠ 0:=Int.ne_of_gt n0
 refine ⟨m0,jY 0 rfl (by decide),m0,jY 1 rfl (by decide),m0,jY 2 rfl (by decide),j8 2 rfl (by decide),?_⟩
 exact h (jma w t.n) dl (Int.fmod_nonneg_of_pos _ n0) (Int.fmod_lt_of_pos _ n0) (Int.fmod_nonneg_of_pos _ n0) (Int.fmod_lt_of_pos _ n0) (Int.fmod_nonneg_of_pos _ n0) (Int.fmod_lt_of_pos _ n0)
theorem jr4 (T:Txt P w K mg t):FnOk P w K mg base jS 3 t.a_dial_of t.d_dial_of ["turn"] (j2 K 1 jfw):=by
 have sc:=jlU
 refine jM (k:=2) T.D_dial_of.F jlU (fun cdv A outer s H E hr=>⟨jn2,(jk (jo (i:=1) sc.nd rfl (jl rfl) (ji (ja (pv 0)) jd (fun _ _=>rfl)))
 (jk (jo (i:=2) sc.nd rfl (jl rfl) (jaj (jc jd (jc jd (jc jd jg)))))
 (jk (jmy PassesOwn.never rfl (jaR (ji (jn (jjv T) jfz (hr.mono (by decide)) T.D_back (jc (ja (pv 0)) jg)) jd (fun _ _=>rfl))) (jaW (i:=3) sc.nd rfl (jl rfl))
 (jq (jo (i:=2) sc.nd rfl (jl rfl) (jn (jk3 T) jiC (hr.mono (by decide)) T.D_row_mix (jc (ja (pv 2)) (jc jd (jc (ja (pv 3)) (jc (jn (jlu T) jjG (hr.mono (by decide)) T.D_part_without (jc (ja (pv 1)) (jc (jn (jer T) jdc (hr.mono (by decide)) T.D_divisor (jc (ja (pv 2)) jg)) jg))) jg))))))))
 (jq (jr (jaj (jc (jaJ jcO rfl T.z_tuple jbY (jc (jaw (jaQ (xs:=["number"]) (M:=["turn","bottom","w","row"]) (n:=1) (by rfl) rfl rfl (jaR (ja (pv 2))) (fun _ _ _ _=>(jam (i:=0) (by decide) (show List.Nodup (["number","turn","bottom","w","row"]:List Str) by decide +kernel) rfl (by first | exact Or.inl rfl | exact Or.inr rfl))) (fun _ _ _ _=>jaS) (fun _ _ _ _=>(jh jb7 (ja (pv 0)) (ja (pv 2)))))) jg)) (jc (ja (pv 1)) jg)))))))),jsX⟩)
def jcb:jK:=fun ds Φ=>∃ (t:T9) (k:Nat),ds = [tb t]∧jcr t∧jcr (jQ t)∧k ≤ 4000∧Bt k t∧∀ w s,jf8 t w->Bp k w->DS w t.n s->Φ (stD s)
theorem jjH:jO jcb:=fun ds Φ Ψ mo h0=>by
 obtain ⟨t,k,a,b,c,d,e,h⟩:=h0
 exact ⟨t,k,a,b,c,d,e,fun w s h1 h2 h3=>mo _ (h w s h1 h2 h3)⟩
abbrev jgD:S3 :=
 (jE (jx 1 jc4 (je (jx 1 jfw (je (jb 0) jm)) jm)))
theorem jlG:∀ (ds:List D) (Φ:D->Prop),ds.length = 1->jcb ds Φ->jgD (jA Φ) (jv 1 ds):=by
 rintro ds Φ hl ⟨t,k,rfl,ht,ht',hk,bt,h⟩
 have n1:=ht.n
 refine ⟨rfl,t,k,rfl,ht,ht',hk,bt,fun w dl x0 x1 y0 y1 z0 z1=>?_⟩
 have lt:∀ {x:Int},0 ≤ x->x < t.n->Bd k x:=fun h0 h1=>Nat.lt_trans (by omega) bt.n
 have bw:Bp k w:=⟨lt x0 x1,lt y0 y1,lt z0 z1⟩
 exact ⟨rfl,w,t.n,k,rfl,by omega,hk,bw,bt.n,dl.one,fun s hs=>h w s dl bw hs⟩
theorem jlt (T:Txt P w K mg t):FnOk P w K mg base jS 5 t.a_shared_stair t.d_shared_stair ["turn"] (j2 K 1 jcb):=by
 have sc:=jfv
 refine jM (k:=4) T.D_shared_stair.F jfv (fun cdv A outer s H E hr=>⟨jgD,(jq (jr (jn (jn4 T) jl6 (hr.mono (by decide)) T.D_dial_stair (jc (jn (jr4 T) jpm (hr.mono (by decide)) T.D_dial_of (jc (ja (pv 0)) jg)) jg)))),jlG⟩)
def jyf (s:S6):Str:=Txt.join " " [jaf [s.a,s.b,s.c],jaf [0,s.d,s.e],jaf [0,0,s.f]]
def jcV:jK:=fun ds Φ=>∃ (t:T9) (k:Nat),ds = [.lst [tb t]]∧jcr t∧jcr (jQ t)∧k ≤ 1900∧Bt k t∧∀ w s,jf8 t w->Bp k w->DS w t.n s->Φ (.str (jyf s))
theorem jfr:jO jcV:=fun ds Φ Ψ mo h0=>by
 obtain ⟨t,k,a,b,c,d,e,h⟩:=h0
 exact ⟨t,k,a,b,c,d,e,fun w s h1 h2 h3=>mo _ (h w s h1 h2 h3)⟩
abbrev jh9:S3 :=
 (jE (dMt jom (dC (.str " ")) (dF (jbq 1 (iLT (jx 1 jcb (je (jf js (jb 0) (dC (.int 0))) jm))) (gN 0) (fun _ Φ=>Φ true) (jx 1 jaU (je (jb 0) jm))))))
theorem joa:∀ (ds:List D) (Φ:D->Prop),ds.length = 1->jcV ds Φ->jh9 (jA Φ) (jv 1 ds):=by
 rintro ds Φ hl ⟨t,k,rfl,it,it2,hk,bt,h⟩
 refine ⟨rfl,t,k,rfl,it,it2,by omega,bt,fun w s iw bw hs=>?_⟩
 obtain ⟨b1,b2,b3⟩:=jz7 hs.st hs.vol bt.n
 have all:∀ p:P3,Bp k p->∀ n ∈ [p.x,p.y,p.z],Bd 1900 n:=fun p bp n hn=>by
  simp only [List.mem_cons,List.not_mem_nil,or_false] at hn
  rcases hn with rfl | rfl | rfl
  ·exact bp.x.mono hk
  ·exact bp.y.mono hk
  ·exact bp.z.mono hk
 refine ⟨rfl,[s.a,s.b,s.c],rfl,(show 3 ≤ 4 by decide),all _ b1,jY 0 rfl (by decide),?_⟩
 refine ⟨rfl,[0,s.d,s.e],rfl,(show 3 ≤ 4 by decide),all _ b2,jY 1 rfl (by decide),?_⟩
 refine ⟨rfl,[0,0,s.f],rfl,(show 3 ≤ 4 by decide),all _ b3,jY 2 rfl (by decide),?_⟩
 refine ⟨[jaf [s.a,s.b,s.c],jaf [0,s.d,s.e],jaf [0,0,s.f]],rfl,?_,h w s iw bw hs⟩
 have l1:=jij _ (all _ b1)
 have l2:=jij _ (all _ b2)
 have l3:=jij _ (all _ b3)
 have l1:(jaf [s.a,s.b,s.c]).length ≤ 602 * 3:=l1
 have l2:(jaf [0,s.d,s.e]).length ≤ 602 * 3:=l2
 have l3:(jaf [0,0,s.f]).length ≤ 602 * 3:=l3
 simp only [List.map_cons,List.map_nil,List.sum_cons,List.sum_nil,List.length_cons,List.length_nil]
 rw [show (" ":Str).length = 1 from rfl]
 omega
theorem jn3 (T:Txt P w K mg t):FnOk P w K mg base jS 6 t.a_told_stair t.d_told_stair ["told"] (j2 K 1 jcV):=by
 have sc:=jhM
 refine jM (k:=5) T.D_told_stair.F jhM (fun cdv A outer s H E hr=>⟨jh9,(jq (jr (jh7 PySem.F.slot_str_join PySem.F.type_str_join jp8 jV (jaw (jaQ (xs:=["point"]) (M:=["told"]) (n:=1) (by rfl) rfl rfl (jaR (jn (jlt T) jjH (hr.mono (by decide)) T.D_shared_stair (jc (ji (ja (pv 0)) jd (fun _ _=>rfl)) jg))) (fun _ _ _ _=>(jam (i:=0) (by decide) (show List.Nodup (["point","told"]:List Str) by decide +kernel) rfl (by first | exact Or.inl rfl | exact Or.inr rfl))) (fun _ _ _ _=>jaS) (fun _ _ _ _=>(jn (jc7 T) jbx (hr.mono (by decide)) T.D_numbers_told (jc (ja (pv 0)) jg)))))))),joa⟩)
def jgO:jK:=fun ds Φ=>∃ (t:T9) (p:P3) (k:Nat),ds = [tb t,pt p]∧t.n ≠ 0∧k ≤ 4000∧Bt k t∧Bp k p∧Φ (qd (jdo (ja4 t p)))
theorem jlP:jO jgO:=fun ds Φ Ψ mo h0=>by
 obtain ⟨t,p,k,a,b,c,d,e,h⟩:=h0
 exact ⟨t,p,k,a,b,c,d,e,mo _ h⟩
def jnv:S3 :=
 (jE (jx 2 jbp (je (jb 2) (je (jx 1 jb3 (je (jb 2) jm)) jm))))
abbrev jrW:S3 :=
 (jB (jz 2 (jf jjj (dB jcT (je (dF (jbq 1 (iLT (jf js (jb 0) (dC (.int 0)))) (gN 0) (fun _ Φ=>Φ true) (jx 2 jcv (je (jb 0) (je (jb 2) jm))))) jm)) (jaL (je (jf js (jb 0) (dC (.int 1))) jm))))
 jnv)
theorem jvQ:∀ (ds:List D) (Φ:D->Prop),ds.length = 2->jgO ds Φ->jrW (jA Φ) (jv 3 ds):=by
 rintro ds Φ hl ⟨t,p,k,rfl,h0,hk,bt,bp,h⟩
 have hk6:k ≤ 60000000:=by omega
 refine ⟨rfl,.inl ⟨t.p,p,k,rfl,hk6,bt.p,bp,jY 0 rfl (by decide),?_⟩⟩
 refine ⟨rfl,.inl ⟨t.q,p,k,rfl,hk6,bt.q,bp,jY 1 rfl (by decide),?_⟩⟩
 refine ⟨rfl,.inl ⟨t.r,p,k,rfl,hk6,bt.r,bp,jY 2 rfl (by decide),?_⟩⟩
 refine ⟨j8 1 rfl (by decide),j8 4 rfl (by decide),?_⟩
 show jnv (jA Φ) [.val (tb t),.val (pt p),.val (qd (ja4 t p))]
 have s0:=jrG (p:=p) h0
 have g0:jt (ql (ja4 t p)) ≠ 0:=fun z=>s0 (jgn z)
 exact ⟨rfl,ql (ja4 t p),.inr rfl,rfl,ql (ja4 t p),_,2 * k + 2,rfl,(show 4 ≤ 100 by decide),g0,by omega,jly (jra bt bp),h⟩
theorem jpP (T:Txt P w K mg t):FnOk P w K mg base jS 3 t.a_moved t.d_moved ["turn","point"] (j2 K 2 jgO):=by
 have sc:=jo3
 refine jM (k:=2) T.D_moved.F jo3 (fun cdv A outer s H E hr=>⟨jrW,(jk (jo (i:=2) sc.nd rfl (jl rfl) (jh jil (jaJ jcO rfl T.z_tuple jbY (jc (jaw (jaQ (xs:=["row"]) (M:=["turn","point","spot"]) (n:=1) (by rfl) rfl rfl (jaR (ji (ja (pv 0)) jd (fun _ _=>rfl))) (fun _ _ _ _=>(jam (i:=0) (by decide) (show List.Nodup (["row","turn","point","spot"]:List Str) by decide +kernel) rfl (by first | exact Or.inl rfl | exact Or.inr rfl))) (fun _ _ _ _=>jaS) (fun _ _ _ _=>(jn (ji1 T) jgs (hr.mono (by decide)) T.D_row_times (jc (ja (pv 0)) (jc (ja (pv 2)) jg)))))) jg)) (jaj (jc (ji (ja (pv 0)) jd (fun _ _=>rfl)) jg))))
 (jq (jr (jn (jcu T) jbN (hr.mono (by decide)) T.D_row_over (jc (ja (pv 2)) (jc (jn (jer T) jdc (hr.mono (by decide)) T.D_divisor (jc (ja (pv 2)) jg)) jg)))))),jvQ⟩)
def jdI:jK:=fun ds Φ=>∃ (t:T9) (p:P3) (k:Nat),ds = [.lst [tb t,pt p]]∧t.n ≠ 0∧k ≤ 900∧Bt k t∧Bp k p∧Φ (.str (jaf (ql (jdo (ja4 t p)))))
theorem jgg:jO jdI:=fun ds Φ Ψ mo h0=>by
 obtain ⟨t,p,k,a,b,c,d,e,h⟩:=h0
 exact ⟨t,p,k,a,b,c,d,e,mo _ h⟩
abbrev jjX:S3 :=
 (jE (jx 1 jaU (je (jx 2 jgO (je (jf js (jb 0) (dC (.int 0))) (je (jf js (jb 0) (dC (.int 1))) jm))) jm)))
theorem jpg:∀ (ds:List D) (Φ:D->Prop),ds.length = 1->jdI ds Φ->jjX (jA Φ) (jv 1 ds):=by
 rintro ds Φ hl ⟨t,p,k,rfl,n0,hk,bt,bp,h⟩
 refine ⟨rfl,t,p,k,rfl,n0,by omega,bt,bp,?_⟩
 exact ⟨rfl,ql (jdo (ja4 t p)),rfl,Nat.le_refl 4,jpy ((jxn (jrG n0) (jra bt bp)).mono (by omega)),h⟩
theorem jp0 (T:Txt P w K mg t):FnOk P w K mg base jS 4 t.a_told_spot t.d_told_spot ["told"] (j2 K 1 jdI):=by
 have sc:=jiM
 refine jM (k:=3) T.D_told_spot.F jiM (fun cdv A outer s H E hr=>⟨jjX,(jq (jr (jn (jc7 T) jbx (hr.mono (by decide)) T.D_numbers_told (jc (jn (jpP T) jlP (hr.mono (by decide)) T.D_moved (jc (ji (ja (pv 0)) jd (fun _ _=>rfl)) (jc (ji (ja (pv 0)) jd (fun _ _=>rfl)) jg))) jg)))),jpg⟩)
def jcq:jK:=fun ds Φ=>∃ b:Bool,ds = [.bl b]∧Φ (.str (if b = true then "yes" else "no"))
theorem jgA:jO jcq:=fun ds Φ Ψ mo h0=>by
 obtain ⟨b,a,h⟩:=h0
 exact ⟨b,a,mo _ h⟩
abbrev jj4:S3 :=
 (jE (dIf (dT (jb 0)) (dC (.str "yes")) (dC (.str "no"))))
theorem jqy:∀ (ds:List D) (Φ:D->Prop),ds.length = 1->jcq ds Φ->jj4 (jA Φ) (jv 1 ds):=by
 rintro ds Φ hl ⟨b,rfl,h⟩
 cases b
 ·exact tF rfl h
 ·exact tT rfl h
theorem jiJ (T:Txt P w K mg t):FnOk P w K mg base jS 1 t.a_yes_or_no t.d_yes_or_no ["truth"] (j2 K 1 jcq):=by
 have sc:=ji8
 refine jM (k:=0) T.D_yes_or_no.F ji8 (fun cdv A outer s H E hr=>⟨jj4,(jq (jr (jpY (jeY (ja (pv 0))) jV jV))),jqy⟩)
def jdE:jK:=fun ds Φ=>∃ (t:T9) (p:P3) (k:Nat),ds = [tb t,pt p]∧0 < t.n∧k ≤ 4000∧Bt k t∧Bp k p∧Φ (.bl (decide (Shr t p)))
theorem jnh:jO jdE:=fun ds Φ Ψ mo h0=>by
 obtain ⟨t,p,k,a,b,c,d,e,h⟩:=h0
 exact ⟨t,p,k,a,b,c,d,e,mo _ h⟩
abbrev jj9:S3 :=
 (jE (jf dEq (jf js (jx 2 jgO (je (jx 1 jeG (je (jb 0) jm)) (je (jb 1) jm))) (dC (.int 3))) (dC (.int 1))))
theorem jpu:∀ (ds:List D) (Φ:D->Prop),ds.length = 2->jdE ds Φ->jj9 (jA Φ) (jv 2 ds):=by
 rintro ds Φ hl ⟨t,p,k,rfl,n0,hk,bt,bp,h⟩
 refine ⟨rfl,t,rfl,rfl,jQ t,p,k,rfl,(show t.n ≠ 0 by omega),hk,jtY bt,bp,?_⟩
 show Φ (.bl (decide ((jdo (ja4 (jQ t) p)).d = 1)))
 rw [show decide ((jdo (ja4 (jQ t) p)).d = 1) = decide (Shr t p) from decide_eq_decide.mpr (juV (u:=jQ t) n0)]
 exact h
theorem jo2 (T:Txt P w K mg t):FnOk P w K mg base jS 4 t.a_is_shared t.d_is_shared ["turn","point"] (j2 K 2 jdE):=by
 have sc:=jiO
 refine jM (k:=3) T.D_is_shared.F jiO (fun cdv A outer s H E hr=>⟨jj9,(jq (jr (jlf jis (ji (jn (jpP T) jlP (hr.mono (by decide)) T.D_moved (jc (jn (jjv T) jfz (hr.mono (by decide)) T.D_back (jc (ja (pv 0)) jg)) (jc (ja (pv 1)) jg))) jd (fun _ _=>rfl)) jd (j3 _)))),jpu⟩)
def jcw:jK:=fun ds Φ=>∃ (t:T9) (p:P3) (k:Nat),ds = [.lst [tb t,pt p]]∧0 < t.n∧k ≤ 4000∧Bt k t∧Bp k p∧Φ (.str (if decide (Shr t p) = true then "yes" else "no"))
theorem je0:jO jcw:=fun ds Φ Ψ mo h0=>by
 obtain ⟨t,p,k,a,b,c,d,e,h⟩:=h0
 exact ⟨t,p,k,a,b,c,d,e,mo _ h⟩
abbrev jhO:S3 :=
 (jE (jx 1 jcq (je (jx 2 jdE (je (jf js (jb 0) (dC (.int 0))) (je (jf js (jb 0) (dC (.int 1))) jm))) jm)))
theorem jmU:∀ (ds:List D) (Φ:D->Prop),ds.length = 1->jcw ds Φ->jhO (jA Φ) (jv 1 ds):=by
 rintro ds Φ hl ⟨t,p,k,rfl,n0,hk,bt,bp,h⟩
 exact ⟨rfl,t,p,k,rfl,n0,hk,bt,bp,rfl,_,rfl,h⟩
theorem jmI (T:Txt P w K mg t):FnOk P w K mg base jS 5 t.a_told_shared t.d_told_shared ["told"] (j2 K 1 jcw):=by
 have sc:=jgF
 refine jM (k:=4) T.D_told_shared.F jgF (fun cdv A outer s H E hr=>⟨jhO,(jq (jr (jn (jiJ T) jgA (hr.mono (by decide)) T.D_yes_or_no (jc (jn (jo2 T) jnh (hr.mono (by decide)) T.D_is_shared (jc (ji (ja (pv 0)) jd (fun _ _=>rfl)) (jc (ji (ja (pv 0)) jd (fun _ _=>rfl)) jg))) jg)))),jmU⟩)
def jft:jK:=fun ds Φ=>∃ (q:Q4) (k:Nat),ds = [qd q]∧k ≤ 4000∧Bq k q∧Φ (tr (ja6 q))
theorem jpo:jO jft:=fun ds Φ Ψ mo h0=>by
 obtain ⟨q,k,a,b,c,h⟩:=h0
 exact ⟨q,k,a,b,c,mo _ h⟩
theorem jxq (q:Q4):D.tup [.tup [.int (q.a * q.a + q.b * q.b - q.c * q.c - q.d * q.d),.int (2 * q.b * q.c - 2 * q.a * q.d),.int (2 * q.b * q.d + 2 * q.a * q.c)],
  .tup [.int (2 * q.b * q.c + 2 * q.a * q.d),.int (q.a * q.a - q.b * q.b + q.c * q.c - q.d * q.d),.int (2 * q.c * q.d - 2 * q.a * q.b)],
  .tup [.int (2 * q.b * q.d - 2 * q.a * q.c),.int (2 * q.c * q.d + 2 * q.a * q.b),.int (q.a * q.a - q.b * q.b - q.c * q.c + q.d * q.d)]] = tr (ja6 q):=by
 have e1:2 * q.b * q.c - 2 * q.a * q.d = 2 * (q.b * q.c - q.a * q.d):=by grind
 have e2:2 * q.b * q.d + 2 * q.a * q.c = 2 * (q.b * q.d + q.a * q.c):=by grind
 have e3:2 * q.b * q.c + 2 * q.a * q.d = 2 * (q.b * q.c + q.a * q.d):=by grind
 have e4:2 * q.c * q.d - 2 * q.a * q.b = 2 * (q.c * q.d - q.a * q.b):=by grind
 have e5:2 * q.b * q.d - 2 * q.a * q.c = 2 * (q.b * q.d - q.a * q.c):=by grind
 have e6:2 * q.c * q.d + 2 * q.a * q.b = 2 * (q.c * q.d + q.a * q.b):=by grind
 rw [e1,e2,e3,e4,e5,e6]; rfl
def jjY:S3 :=
 (jE (jaL (je (jaL (je (jf zS (jf zS (jf zA (jf zM (jb 1) (jb 1)) (jf zM (jb 2) (jb 2))) (jf zM (jb 3) (jb 3))) (jf zM (jb 4) (jb 4))) (je (jf zS (jf zM (jf zM (dC (.int 2)) (jb 2)) (jb 3)) (jf zM (jf zM (dC (.int 2)) (jb 1)) (jb 4))) (je (jf zA (jf zM (jf zM (dC (.int 2)) (jb 2)) (jb 4)) (jf zM (jf zM (dC (.int 2)) (jb 1)) (jb 3))) jm)))) (je (jaL (je (jf zA (jf zM (jf zM (dC (.int 2)) (jb 2)) (jb 3)) (jf zM (jf zM (dC (.int 2)) (jb 1)) (jb 4))) (je (jf zS (jf zA (jf zS (jf zM (jb 1) (jb 1)) (jf zM (jb 2) (jb 2))) (jf zM (jb 3) (jb 3))) (jf zM (jb 4) (jb 4))) (je (jf zS (jf zM (jf zM (dC (.int 2)) (jb 3)) (jb 4)) (jf zM (jf zM (dC (.int 2)) (jb 1)) (jb 2))) jm)))) (je (jaL (je (jf zS (jf zM (jf zM (dC (.int 2)) (jb 2)) (jb 4)) (jf zM (jf zM (dC (.int 2)) (jb 1)) (jb 3))) (je (jf zA (jf zM (jf zM (dC (.int 2)) (jb 3)) (jb 4)) (jf zM (jf zM (dC (.int 2)) (jb 1)) (jb 2))) (je (jf zA (jf zS (jf zS (jf zM (jb 1) (jb 1)) (jf zM (jb 2) (jb 2))) (jf zM (jb 3) (jb 3))) (jf zM (jb 4) (jb 4))) jm)))) jm)))))
def jq6:S3 :=
 (jB (jz 4 (jf js (jb 0) (dC (.int 3))))
 jjY)
def jqQ:S3 :=
 (jB (jz 3 (jf js (jb 0) (dC (.int 2))))
 jq6)
def jqT:S3 :=
 (jB (jz 2 (jf js (jb 0) (dC (.int 1))))
 jqQ)
abbrev jnt:S3 :=
 (jB (jz 1 (jf js (jb 0) (dC (.int 0))))
 jqT)
theorem jr9:∀ (ds:List D) (Φ:D->Prop),ds.length = 1->jft ds Φ->jnt (jA Φ) (jv 5 ds):=by
 rintro ds Φ hl ⟨q,k,rfl,hk,bq,h⟩
 have mk:∀ {x y:Int},Bd k x->Bd k y->IntMulOk x y:=fun hx hy=>jce hx hy (by omega)
 have m2:∀ {x:Int},IntMulOk 2 x:=IntMulOk.of_left (by decide)
 have m3:∀ {x y:Int},Bd k x->Bd k y->IntMulOk (2 * x) y:=fun hx hy=>jce (jqw hx) hy (by omega)
 show jjY (jA Φ) [.val (qd q),.val (.int q.a),.val (.int q.b),.val (.int q.c),.val (.int q.d)]
 have aa:=mk bq.a bq.a; have bb:=mk bq.b bq.b; have cc:=mk bq.c bq.c; have dd:=mk bq.d bq.d
 have ab:=m3 bq.a bq.b; have ac:=m3 bq.a bq.c; have ad:=m3 bq.a bq.d; have bc:=m3 bq.b bq.c; have bd:=m3 bq.b bq.d; have cd:=m3 bq.c bq.d
 rw [← jxq] at h
 exact ⟨aa,bb,cc,dd,m2,bc,m2,ad,m2,bd,m2,ac,j8 3 rfl (by decide),m2,bc,m2,ad,aa,bb,cc,dd,m2,cd,m2,ab,j8 3 rfl (by decide),m2,bd,m2,ac,m2,cd,m2,ab,aa,bb,cc,dd,j8 3 rfl (by decide),j8 3 rfl (by decide),h⟩
theorem jsx (T:Txt P w K mg t):FnOk P w K mg base jS 1 t.a_rows_of t.d_rows_of ["quad"] (j2 K 1 jft):=by
 have sc:=jlR
 refine jM (k:=0) T.D_rows_of.F jlR (fun cdv A outer s H E hr=>⟨jnt,(jk (jo (i:=1) sc.nd rfl (jl rfl) (ji (ja (pv 0)) jd (fun _ _=>rfl)))
 (jk (jo (i:=2) sc.nd rfl (jl rfl) (ji (ja (pv 0)) jd (fun _ _=>rfl)))
 (jk (jo (i:=3) sc.nd rfl (jl rfl) (ji (ja (pv 0)) jd (fun _ _=>rfl)))
 (jk (jo (i:=4) sc.nd rfl (jl rfl) (ji (ja (pv 0)) jd (fun _ _=>rfl)))
 (jq (jr (jaj (jc (jaj (jc (jh jai (jh jai (jh jaa (jh jw (ja (pv 1)) (ja (pv 1))) (jh jw (ja (pv 2)) (ja (pv 2)))) (jh jw (ja (pv 3)) (ja (pv 3)))) (jh jw (ja (pv 4)) (ja (pv 4)))) (jc (jh jai (jh jw (jh jw jd (ja (pv 2))) (ja (pv 3))) (jh jw (jh jw jd (ja (pv 1))) (ja (pv 4)))) (jc (jh jaa (jh jw (jh jw jd (ja (pv 2))) (ja (pv 4))) (jh jw (jh jw jd (ja (pv 1))) (ja (pv 3)))) jg)))) (jc (jaj (jc (jh jaa (jh jw (jh jw jd (ja (pv 2))) (ja (pv 3))) (jh jw (jh jw jd (ja (pv 1))) (ja (pv 4)))) (jc (jh jai (jh jaa (jh jai (jh jw (ja (pv 1)) (ja (pv 1))) (jh jw (ja (pv 2)) (ja (pv 2)))) (jh jw (ja (pv 3)) (ja (pv 3)))) (jh jw (ja (pv 4)) (ja (pv 4)))) (jc (jh jai (jh jw (jh jw jd (ja (pv 3))) (ja (pv 4))) (jh jw (jh jw jd (ja (pv 1))) (ja (pv 2)))) jg)))) (jc (jaj (jc (jh jai (jh jw (jh jw jd (ja (pv 2))) (ja (pv 4))) (jh jw (jh jw jd (ja (pv 1))) (ja (pv 3)))) (jc (jh jaa (jh jw (jh jw jd (ja (pv 3))) (ja (pv 4))) (jh jw (jh jw jd (ja (pv 1))) (ja (pv 2)))) (jc (jh jaa (jh jai (jh jai (jh jw (ja (pv 1)) (ja (pv 1))) (jh jw (ja (pv 2)) (ja (pv 2)))) (jh jw (ja (pv 3)) (ja (pv 3)))) (jh jw (ja (pv 4)) (ja (pv 4)))) jg)))) jg)))))))))),jr9⟩)
def jbX:jK:=fun ds Φ=>∃ (t:T9),ds = [tr t,.int t.n]∧Φ (.int (jt (tl t)))
theorem jjg:jO jbX:=fun ds Φ Ψ mo h0=>by
 obtain ⟨t,a,h⟩:=h0
 exact ⟨t,a,mo _ h⟩
abbrev jfy:S3 :=
 (jE (jx 1 jb3 (je (jf jjj (jf jjj (jf jjj (jf js (jb 0) (dC (.int 0))) (jf js (jb 0) (dC (.int 1)))) (jf js (jb 0) (dC (.int 2)))) (jaL (je (jb 1) jm))) jm)))
theorem jkO:∀ (ds:List D) (Φ:D->Prop),ds.length = 2->jbX ds Φ->jfy (jA Φ) (jv 2 ds):=by
 rintro ds Φ hl ⟨t,rfl,h⟩
 exact ⟨j8 6 rfl (by decide),j8 9 rfl (by decide),j8 1 rfl (by decide),j8 10 rfl (by decide),rfl,tl t,.inr rfl,h⟩
theorem jkr (T:Txt P w K mg t):FnOk P w K mg base jS 3 t.a_table_divisor t.d_table_divisor ["rows","bottom"] (j2 K 2 jbX):=by
 have sc:=je4
 refine jM (k:=2) T.D_table_divisor.F je4 (fun cdv A outer s H E hr=>⟨jfy,(jq (jr (jn (jer T) jdc (hr.mono (by decide)) T.D_divisor (jc (jh jil (jh jil (jh jil (ji (ja (pv 0)) jd (fun _ _=>rfl)) (ji (ja (pv 0)) jd (fun _ _=>rfl))) (ji (ja (pv 0)) jd (fun _ _=>rfl))) (jaj (jc (ja (pv 1)) jg))) jg)))),jkO⟩)
def jdP:jK:=fun ds Φ=>∃ (q:Q4) (k:Nat),ds = [qd q]∧q ≠ q0∧k ≤ 4000∧Bq k q∧Φ (tb (jD q))
theorem jiS:jO jdP:=fun ds Φ Ψ mo h0=>by
 obtain ⟨q,k,a,b,c,d,h⟩:=h0
 exact ⟨q,k,a,b,c,d,mo _ h⟩
def jj5:S3 :=
 (jE (jaL (je (jaL (je (jx 2 jbp (je (jf js (jb 2) (dC (.int 0))) (je (jb 3) jm))) (je (jx 2 jbp (je (jf js (jb 2) (dC (.int 1))) (je (jb 3) jm))) (je (jx 2 jbp (je (jf js (jb 2) (dC (.int 2))) (je (jb 3) jm))) jm)))) (je (jf zD (jb 1) (jb 3)) jm))))
def jqJ:S3 :=
 (jB (jz 3 (jx 2 jbX (je (jb 2) (je (jb 1) jm))))
 jj5)
def jqI:S3 :=
 (jB (jz 2 (jx 1 jft (je (jb 0) jm)))
 jqJ)
def jfG:S3 :=
 (jB (sIf (dT (jf dEq (jb 1) (dC (.int 0))))
 jdV
 ja2)
 jqI)
abbrev jnq:S3 :=
 (jB (jz 1 (jx 1 ji6 (je (jb 0) jm)))
 jfG)
theorem jsl:∀ (ds:List D) (Φ:D->Prop),ds.length = 1->jdP ds Φ->jnq (jA Φ) (jv 4 ds):=by
 rintro ds Φ hl ⟨q,k,rfl,h0,hk,bq,h⟩
 have np:=jdW h0
 obtain ⟨gp,gb⟩:=jxR (by rw [jui]; omega) (jrA bq)
 have g0:jt (tl (ja6 q)) ≠ 0:=by omega
 refine ⟨rfl,q,k,rfl,by omega,bq,?_⟩
 show jfG (jA Φ) [.val (qd q),.val (.int (jac q)),.un,.un]
 unfold jfG
 refine tF (decide_eq_false (by omega)) ?_
 refine ⟨rfl,q,k,rfl,hk,bq,rfl,ja6 q,rfl,?_⟩
 show jj5 (jA Φ) [.val (qd q),.val (.int (jac q)),.val (tr (ja6 q)),.val (.int (jt (tl (ja6 q))))]
 have h:Φ (tb (juN (ja6 q) (jt (tl (ja6 q))))):=h
 have hk9:2 * k + 3 ≤ 9000:=by omega
 generalize jt (tl (ja6 q)) = g at *
 generalize hrw:ja6 q = t at *
 have tn:jac q = t.n:=by rw [← hrw]; rfl
 rw [tn]
 refine ⟨rfl,[t.p.x,t.p.y,t.p.z],g,2 * k + 3,rfl,(show 3 ≤ 100 by decide),g0,hk9,gb,?_⟩
 refine ⟨rfl,[t.q.x,t.q.y,t.q.z],g,2 * k + 3,rfl,(show 3 ≤ 100 by decide),g0,hk9,gb,?_⟩
 refine ⟨rfl,[t.r.x,t.r.y,t.r.z],g,2 * k + 3,rfl,(show 3 ≤ 100 by decide),g0,hk9,gb,?_⟩
 exact ⟨j8 3 rfl (by decide),jeu g0 gb hk9,j8 2 rfl (by decide),h⟩
theorem jlK (T:Txt P w K mg t):FnOk P w K mg base jS 4 t.a_turn_of t.d_turn_of ["quad"] (j2 K 1 jdP):=by
 have sc:=jk6
 refine jM (k:=3) T.D_turn_of.F jk6 (fun cdv A outer s H E hr=>⟨jnq,(jk (jo (i:=1) sc.nd rfl (jl rfl) (jn (jrm T) jn0 (hr.mono (by decide)) T.D_size (jc (ja (pv 0)) jg)))
 (jk (jaK (jal jis (ja (pv 1)) jd (j3 _))
 (jq jb2)
 jau)
 (jk (jo (i:=2) sc.nd rfl (jl rfl) (jn (jsx T) jpo (hr.mono (by decide)) T.D_rows_of (jc (ja (pv 0)) jg)))
 (jk (jo (i:=3) sc.nd rfl (jl rfl) (jn (jkr T) jjg (hr.mono (by decide)) T.D_table_divisor (jc (ja (pv 2)) (jc (ja (pv 1)) jg))))
 (jq (jr (jaj (jc (jaj (jc (jn (jcu T) jbN (hr.mono (by decide)) T.D_row_over (jc (ji (ja (pv 2)) jd (fun _ _=>rfl)) (jc (ja (pv 3)) jg))) (jc (jn (jcu T) jbN (hr.mono (by decide)) T.D_row_over (jc (ji (ja (pv 2)) jd (fun _ _=>rfl)) (jc (ja (pv 3)) jg))) (jc (jn (jcu T) jbN (hr.mono (by decide)) T.D_row_over (jc (ji (ja (pv 2)) jd (fun _ _=>rfl)) (jc (ja (pv 3)) jg))) jg)))) (jc (jh jbA (ja (pv 1)) (ja (pv 3))) jg))))))))),jsl⟩)
def jfl:jK:=fun ds Φ=>∃ (p q:Q4) (k:Nat),ds = [qd p,qd q]∧k ≤ 60000000∧Bq k p∧Bq k q∧Φ (qd (jbj p q))
theorem jpr:jO jfl:=fun ds Φ Ψ mo h0=>by
 obtain ⟨p,q,k,a,b,c,d,h⟩:=h0
 exact ⟨p,q,k,a,b,c,d,mo _ h⟩
abbrev jnO:S3 :=
 (jE (jaL (je (jf zS (jf zS (jf zS (jf zM (jf js (jb 0) (dC (.int 0))) (jf js (jb 1) (dC (.int 0)))) (jf zM (jf js (jb 0) (dC (.int 1))) (jf js (jb 1) (dC (.int 1))))) (jf zM (jf js (jb 0) (dC (.int 2))) (jf js (jb 1) (dC (.int 2))))) (jf zM (jf js (jb 0) (dC (.int 3))) (jf js (jb 1) (dC (.int 3))))) (je (jf zS (jf zA (jf zA (jf zM (jf js (jb 0) (dC (.int 0))) (jf js (jb 1) (dC (.int 1)))) (jf zM (jf js (jb 0) (dC (.int 1))) (jf js (jb 1) (dC (.int 0))))) (jf zM (jf js (jb 0) (dC (.int 2))) (jf js (jb 1) (dC (.int 3))))) (jf zM (jf js (jb 0) (dC (.int 3))) (jf js (jb 1) (dC (.int 2))))) (je (jf zA (jf zA (jf zS (jf zM (jf js (jb 0) (dC (.int 0))) (jf js (jb 1) (dC (.int 2)))) (jf zM (jf js (jb 0) (dC (.int 1))) (jf js (jb 1) (dC (.int 3))))) (jf zM (jf js (jb 0) (dC (.int 2))) (jf js (jb 1) (dC (.int 0))))) (jf zM (jf js (jb 0) (dC (.int 3))) (jf js (jb 1) (dC (.int 1))))) (je (jf zA (jf zS (jf zA (jf zM (jf js (jb 0) (dC (.int 0))) (jf js (jb 1) (dC (.int 3)))) (jf zM (jf js (jb 0) (dC (.int 1))) (jf js (jb 1) (dC (.int 2))))) (jf zM (jf js (jb 0) (dC (.int 2))) (jf js (jb 1) (dC (.int 1))))) (jf zM (jf js (jb 0) (dC (.int 3))) (jf js (jb 1) (dC (.int 0))))) jm))))))
theorem js0:∀ (ds:List D) (Φ:D->Prop),ds.length = 2->jfl ds Φ->jnO (jA Φ) (jv 2 ds):=by
 rintro ds Φ hl ⟨p,q,k,rfl,hk,hp,hq,h⟩
 have mk:∀ {x y:Int},Bd k x->Bd k y->IntMulOk x y:=fun hx hy=>jce hx hy (by omega)
 exact ⟨mk hp.a hq.a,mk hp.b hq.b,mk hp.c hq.c,mk hp.d hq.d,mk hp.a hq.b,mk hp.b hq.a,mk hp.c hq.d,mk hp.d hq.c,mk hp.a hq.c,mk hp.b hq.d,mk hp.c hq.a,mk hp.d hq.b,mk hp.a hq.d,mk hp.b hq.c,mk hp.c hq.b,mk hp.d hq.a,j8 4 rfl (by decide),h⟩
theorem jsk (T:Txt P w K mg t):FnOk P w K mg base jS 1 t.a_product t.d_product ["one","other"] (j2 K 2 jfl):=by
 have sc:=jlE
 refine jM (k:=0) T.D_product.F jlE (fun cdv A outer s H E hr=>⟨jnO,(jq (jr (jaj (jc (jh jai (jh jai (jh jai (jh jw (ji (ja (pv 0)) jd (fun _ _=>rfl)) (ji (ja (pv 1)) jd (fun _ _=>rfl))) (jh jw (ji (ja (pv 0)) jd (fun _ _=>rfl)) (ji (ja (pv 1)) jd (fun _ _=>rfl)))) (jh jw (ji (ja (pv 0)) jd (fun _ _=>rfl)) (ji (ja (pv 1)) jd (fun _ _=>rfl)))) (jh jw (ji (ja (pv 0)) jd (fun _ _=>rfl)) (ji (ja (pv 1)) jd (fun _ _=>rfl)))) (jc (jh jai (jh jaa (jh jaa (jh jw (ji (ja (pv 0)) jd (fun _ _=>rfl)) (ji (ja (pv 1)) jd (fun _ _=>rfl))) (jh jw (ji (ja (pv 0)) jd (fun _ _=>rfl)) (ji (ja (pv 1)) jd (fun _ _=>rfl)))) (jh jw (ji (ja (pv 0)) jd (fun _ _=>rfl)) (ji (ja (pv 1)) jd (fun _ _=>rfl)))) (jh jw (ji (ja (pv 0)) jd (fun _ _=>rfl)) (ji (ja (pv 1)) jd (fun _ _=>rfl)))) (jc (jh jaa (jh jaa (jh jai (jh jw (ji (ja (pv 0)) jd (fun _ _=>rfl)) (ji (ja (pv 1)) jd (fun _ _=>rfl))) (jh jw (ji (ja (pv 0)) jd (fun _ _=>rfl)) (ji (ja (pv 1)) jd (fun _ _=>rfl)))) (jh jw (ji (ja (pv 0)) jd (fun _ _=>rfl)) (ji (ja (pv 1)) jd (fun _ _=>rfl)))) (jh jw (ji (ja (pv 0)) jd (fun _ _=>rfl)) (ji (ja (pv 1)) jd (fun _ _=>rfl)))) (jc (jh jaa (jh jai (jh jaa (jh jw (ji (ja (pv 0)) jd (fun _ _=>rfl)) (ji (ja (pv 1)) jd (fun _ _=>rfl))) (jh jw (ji (ja (pv 0)) jd (fun _ _=>rfl)) (ji (ja (pv 1)) jd (fun _ _=>rfl)))) (jh jw (ji (ja (pv 0)) jd (fun _ _=>rfl)) (ji (ja (pv 1)) jd (fun _ _=>rfl)))) (jh jw (ji (ja (pv 0)) jd (fun _ _=>rfl)) (ji (ja (pv 1)) jd (fun _ _=>rfl)))) jg))))))),js0⟩)
def jgw:jK:=fun ds Φ=>∃ (t u:T9) (p q:Q4) (k:Nat),ds = [tb t,tb u]∧t = jD p∧u = jD q∧p ≠ q0∧q ≠ q0∧k ≤ 1990∧Bq k p∧Bq k q∧Φ (tb (jD (jbj p q)))
theorem jlw:jO jgw:=fun ds Φ Ψ mo h0=>by
 obtain ⟨t,u,p,q,k,a,b,c,d,e,f,g,i,h⟩:=h0
 exact ⟨t,u,p,q,k,a,b,c,d,e,f,g,i,mo _ h⟩
abbrev jri:S3 :=
 (jE (jx 1 jdP (je (jx 2 jfl (je (jx 1 jcM (je (jb 0) jm)) (je (jx 1 jcM (je (jb 1) jm)) jm))) jm)))
theorem jvI:∀ (ds:List D) (Φ:D->Prop),ds.length = 2->jgw ds Φ->jri (jA Φ) (jv 2 ds):=by
 rintro ds Φ hl ⟨t,u,p,q,k,rfl,rfl,rfl,hp,hq,hk,bp,bq,h⟩
 have pp:=jdx bp hp
 have pq:=jdx bq hq
 refine ⟨rfl,jD p,p,2 * k + 3,rfl,rfl,hp,by omega,jks hp bp,?_⟩
 refine ⟨rfl,jD q,q,2 * k + 3,rfl,rfl,hq,by omega,jks hq bq,?_⟩
 refine ⟨rfl,jI p,jI q,k,rfl,by omega,pp,pq,?_⟩
 refine ⟨rfl,jbj (jI p) (jI q),k + k + 3,rfl,jjo (jca hp).ne (jca hq).ne,by omega,pp.mul pq,?_⟩
 rw [ju8 hp hq]; exact h
theorem jqz (T:Txt P w K mg t):FnOk P w K mg base jS 5 t.a_after t.d_after ["one","other"] (j2 K 2 jgw):=by
 have sc:=jqh
 refine jM (k:=4) T.D_after.F jqh (fun cdv A outer s H E hr=>⟨jri,(jq (jr (jn (jlK T) jiS (hr.mono (by decide)) T.D_turn_of (jc (jn (jsk T) jpr (hr.mono (by decide)) T.D_product (jc (jn (jhl T) jeD (hr.mono (by decide)) T.D_quad_of (jc (ja (pv 0)) jg)) (jc (jn (jhl T) jeD (hr.mono (by decide)) T.D_quad_of (jc (ja (pv 1)) jg)) jg))) jg)))),jvI⟩)
def jcy:jK:=fun ds Φ=>∃ (p q:Q4) (k:Nat),ds = [tb (jD p),tb (jD q)]∧p ≠ q0∧q ≠ q0∧k ≤ 1500∧Bq k p∧Bq k q∧Φ (.bl (decide ((jD (jbj (jeM p) q)).n = 1)))
theorem jkQ:jO jcy:=fun ds Φ Ψ mo h0=>by
 obtain ⟨p,q,k,a,b,c,d,e,f,h⟩:=h0
 exact ⟨p,q,k,a,b,c,d,e,f,mo _ h⟩
abbrev jhV:S3 :=
 (jE (jf dEq (jf js (jx 2 jgw (je (jx 1 jeG (je (jb 0) jm)) (je (jb 1) jm))) (dC (.int 1))) (dC (.int 1))))
theorem jmB:∀ (ds:List D) (Φ:D->Prop),ds.length = 2->jcy ds Φ->jhV (jA Φ) (jv 2 ds):=by
 rintro ds Φ hl ⟨p,q,k,rfl,hp,hq,hk,bp,bq,h⟩
 refine ⟨rfl,jD p,rfl,?_⟩
 exact ⟨rfl,jQ (jD p),jD q,jeM p,q,k,rfl,jo4 p,rfl,jmS hp,hq,by omega,bp.bar,bq,h⟩
theorem jmd (T:Txt P w K mg t):FnOk P w K mg base jS 6 t.a_share_alike t.d_share_alike ["one","other"] (j2 K 2 jcy):=by
 have sc:=jgB
 refine jM (k:=5) T.D_share_alike.F jgB (fun cdv A outer s H E hr=>⟨jhV,(jq (jr (jlf jis (ji (jn (jqz T) jlw (hr.mono (by decide)) T.D_after (jc (jn (jjv T) jfz (hr.mono (by decide)) T.D_back (jc (ja (pv 0)) jg)) (jc (ja (pv 1)) jg))) jd (fun _ _=>rfl)) jd (j3 _)))),jmB⟩)
def jdJ:jK:=fun ds Φ=>∃ (p q:Q4) (k:Nat),ds = [.lst [tb (jD p),tb (jD q)]]∧p ≠ q0∧q ≠ q0∧k ≤ 1500∧Bq k p∧Bq k q∧Φ (.str (if decide ((jD (jbj (jeM p) q)).n = 1) = true then "yes" else "no"))
theorem jgu:jO jdJ:=fun ds Φ Ψ mo h0=>by
 obtain ⟨p,q,k,a,b,c,d,e,f,h⟩:=h0
 exact ⟨p,q,k,a,b,c,d,e,f,mo _ h⟩
abbrev jjI:S3 :=
 (jE (jx 1 jcq (je (jx 2 jcy (je (jf js (jb 0) (dC (.int 0))) (je (jf js (jb 0) (dC (.int 1))) jm))) jm)))
theorem jpB:∀ (ds:List D) (Φ:D->Prop),ds.length = 1->jdJ ds Φ->jjI (jA Φ) (jv 1 ds):=by
 rintro ds Φ hl ⟨p,q,k,rfl,hp,hq,hk,bp,bq,h⟩
 exact ⟨rfl,p,q,k,rfl,hp,hq,hk,bp,bq,rfl,_,rfl,h⟩
theorem jo9 (T:Txt P w K mg t):FnOk P w K mg base jS 7 t.a_told_same t.d_told_same ["told"] (j2 K 1 jdJ):=by
 have sc:=jip
 refine jM (k:=6) T.D_told_same.F jip (fun cdv A outer s H E hr=>⟨jjI,(jq (jr (jn (jiJ T) jgA (hr.mono (by decide)) T.D_yes_or_no (jc (jn (jmd T) jkQ (hr.mono (by decide)) T.D_share_alike (jc (ji (ja (pv 0)) jd (fun _ _=>rfl)) (jc (ji (ja (pv 0)) jd (fun _ _=>rfl)) jg))) jg)))),jpB⟩)
def jjz:jK:=fun ds Φ=>∃ (t:T9) (k:Nat),ds = [tb t]∧0 < t.n∧k ≤ 9000∧Bd k t.n∧((∃ s:Nat,s ≤ 4∧jcc t = ((s:Int) - 1) * t.n∧Φ (.int (jos s))) ∨ (¬ t.n ∣ jcc t∧Φ .non))
theorem jsE:jO jjz:=fun ds Φ Ψ mo h0=>by
 obtain ⟨t,k,a,b,c,d,h⟩:=h0
 exact ⟨t,k,a,b,c,d,h.imp (fun ⟨s,e,f,g⟩=>⟨s,e,f,mo _ g⟩) (fun ⟨e,f⟩=>⟨e,mo _ f⟩)⟩
def jnW:S3 :=
 (jE (jf js (dC jhn) (jf zA (jf zD (jb 1) (jf js (jb 0) (dC (.int 1)))) (dC (.int 1)))))
def jiK:S3 :=
 (jB (sIf (dT (jf dNe (jf zR (jb 1) (jf js (jb 0) (dC (.int 1)))) (dC (.int 0))))
 (jE (dC .non))
 ja2)
 jnW)
abbrev jrO:S3 :=
 (jB (jz 1 (dB juM (je (dF (jbq 1 (iR1 (je (dC (.int 3)) jm)) (gN 0) (fun _ Φ=>Φ true) (jf js (jf js (jf js (jb 1) (dC (.int 0))) (jb 0)) (jb 0)))) jm)))
 jiK)
theorem jvv:∀ (ds:List D) (Φ:D->Prop),ds.length = 1->jjz ds Φ->jrO (jA Φ) (jv 2 ds):=by
 rintro ds Φ hl ⟨t,k,rfl,n0,hk,bn,h⟩
 refine ⟨show (-(2 ^ 62):Int) ≤ 3 by decide,show (3:Int) < 2 ^ 62 by decide,?_⟩
 refine ⟨jY 0 rfl (by decide),jY 1 rfl (by decide),jY 2 rfl (by decide),[t.p.x,t.q.y,t.r.z],rfl,?_⟩
 have e:[t.p.x,t.q.y,t.r.z].sum = jcc t:=by simp only [List.sum_cons,List.sum_nil,jcc]; omega
 rw [e]
 show jiK (jA Φ) [.val (tb t),.val (.int (jcc t))]
 unfold jiK
 refine ⟨Int.ne_of_gt n0,tst (fun hc=>?_) (fun hc=>?_)⟩
 ·have hc:¬ (jcc t).fmod t.n = 0:=by
   have:(!decide ((jcc t).fmod t.n = 0)) = true:=hc
   simpa using this
  rcases h with ⟨s,_,e,_⟩ | ⟨_,h⟩
  ·exact absurd (by rw [e]; exact Int.mul_fmod_left _ _) hc
  ·exact h
 ·have hc:(jcc t).fmod t.n = 0:=by
   have:(!decide ((jcc t).fmod t.n = 0)) = false:=hc
   simpa using this
  rcases h with ⟨s,hs,e,h⟩ | ⟨h,_⟩
  ·unfold jnW
   refine ⟨jeu (Int.ne_of_gt n0) bn hk,?_⟩
   have e2:(jcc t).fdiv t.n + 1 = s:=by rw [e,Int.mul_fdiv_cancel _ (Int.ne_of_gt n0)]; omega
   show onS (atI _ ((jcc t).fdiv t.n + 1)) _
   rw [e2]
   have hs':s = 0 ∨ s = 1 ∨ s = 2 ∨ s = 3 ∨ s = 4:=by omega
   rcases hs' with rfl | rfl | rfl | rfl | rfl
   ·exact jaC (d:=D.int 2) rfl h
   ·exact jaC (d:=D.int 3) rfl h
   ·exact jaC (d:=D.int 4) rfl h
   ·exact jaC (d:=D.int 6) rfl h
   ·exact jaC (d:=D.int 1) rfl h
  ·exact absurd (Int.dvd_of_fmod_eq_zero hc) h
theorem jva (T:Txt P w K mg t):FnOk P w K mg base jS 1 t.a_order t.d_order ["turn"] (j2 K 1 jjz):=by
 have sc:=jo7
 refine jM (k:=0) T.D_order.F jo7 (fun cdv A outer s H E hr=>⟨jrO,(jk (jo (i:=1) sc.nd rfl (jl rfl) (jan (jwF rfl) rfl T.z_sum jt8 (jc (jaw (jaQ (xs:=["place"]) (M:=["turn","slant"]) (n:=1) (by rfl) rfl rfl (jcY rfl T.z_range (jc jd jg)) (fun _ _ _ _=>(jam (i:=0) (by decide) (show List.Nodup (["place","turn","slant"]:List Str) by decide +kernel) rfl (by first | exact Or.inl rfl | exact Or.inr rfl))) (fun _ _ _ _=>jaS) (fun _ _ _ _=>(ji (ji (ji (ja (pv 1)) jd (fun _ _=>rfl)) (ja (pv 0)) (fun _ _=>rfl)) (ja (pv 0)) (fun _ _=>rfl))))) jg)))
 (jk (jaK (jal jh8 (jh jb7 (ja (pv 1)) (ji (ja (pv 0)) jd (fun _ _=>rfl))) jd (j3 _))
 (jq (jr jtI))
 jau)
 (jq (jr (ji (jkK rfl T.m_ORDERS T.c_ORDERS) (jh jaa (jh jbA (ja (pv 1)) (ji (ja (pv 0)) jd (fun _ _=>rfl))) jd) (fun _ _=>rfl)))))),jvv⟩)
def jcS:jK:=fun ds Φ=>∃ (t:T9) (k:Nat),ds = [.lst [tb t]]∧0 < t.n∧k ≤ 9000∧Bd k t.n∧((∃ s:Nat,s ≤ 4∧jcc t = ((s:Int) - 1) * t.n∧Φ (.str (jaA (jos s)))) ∨ (¬ t.n ∣ jcc t∧Φ (.str "never")))
theorem jfh:jO jcS:=fun ds Φ Ψ mo h0=>by
 obtain ⟨t,k,a,b,c,d,h⟩:=h0
 exact ⟨t,k,a,b,c,d,h.imp (fun ⟨s,e,f,g⟩=>⟨s,e,f,mo _ g⟩) (fun ⟨e,f⟩=>⟨e,mo _ f⟩)⟩
theorem jzo:∀ s:Nat,s ≤ 4->(jos s).natAbs.log2 < 1920
 | 0,_=>by decide
 | 1,_=>by decide
 | 2,_=>by decide
 | 3,_=>by decide
 | 4,_=>by decide
 | _ + 5,h=>absurd h (by omega)
def jmN:S3 :=
 (jE (dB jm5 (je (jb 1) jm)))
def jbz:S3 :=
 (jB (sIf (dT (jf jyz (jb 1) (dC .non)))
 (jE (dC (.str "never")))
 ja2)
 jmN)
abbrev jiq:S3 :=
 (jB (jz 1 (jx 1 jjz (je (jf js (jb 0) (dC (.int 0))) jm)))
 jbz)
theorem job:∀ (ds:List D) (Φ:D->Prop),ds.length = 1->jcS ds Φ->jiq (jA Φ) (jv 2 ds):=by
 rintro ds Φ hl ⟨t,k,rfl,n0,hk,bn,h⟩
 refine ⟨rfl,t,k,rfl,n0,hk,bn,?_⟩
 refine h.imp (fun ⟨s,e,f,g⟩=>⟨s,e,f,?_⟩) (fun ⟨e,f⟩=>⟨e,?_⟩)
 ·show jbz (jA Φ) [.val (.lst [tb t]),.val (.int (jos s))]
  unfold jbz
  refine tF rfl ?_
  exact ⟨jzo s e,g⟩
 ·show jbz (jA Φ) [.val (.lst [tb t]),.val .non]
  unfold jbz
  exact tT rfl f
theorem jof (T:Txt P w K mg t):FnOk P w K mg base jS 2 t.a_told_order t.d_told_order ["told"] (j2 K 1 jcS):=by
 have sc:=jhK
 refine jM (k:=1) T.D_told_order.F jhK (fun cdv A outer s H E hr=>⟨jiq,(jk (jo (i:=1) sc.nd rfl (jl rfl) (jn (jva T) jsE (hr.mono (by decide)) T.D_order (jc (ji (ja (pv 0)) jd (fun _ _=>rfl)) jg)))
 (jk (jaK (jal jzI (ja (pv 1)) jtI (j3 _))
 (jq (jr jV))
 jau)
 (jq (jr (jaJ jox rfl T.z_str ji2 (jc (ja (pv 1)) jg)))))),job⟩)
def jb9:jK:=fun ds Φ=>∃ (x:D) (q:Q4) (k:Nat),ds = [.lst [x,qd q]]∧q ≠ q0∧k ≤ 4000∧Bq k q∧Φ (tb (jD q))
theorem jeh:jO jb9:=fun ds Φ Ψ mo h0=>by
 obtain ⟨x,q,k,a,b,c,d,h⟩:=h0
 exact ⟨x,q,k,a,b,c,d,mo _ h⟩
abbrev jgP:S3 :=
 (jE (jx 1 jdP (je (jf js (jb 0) (dC (.int 1))) jm)))
theorem jlD:∀ (ds:List D) (Φ:D->Prop),ds.length = 1->jb9 ds Φ->jgP (jA Φ) (jv 1 ds):=by
 rintro ds Φ hl ⟨x,q,k,rfl,h0,hk,bq,h⟩
 exact ⟨rfl,q,k,rfl,h0,hk,bq,h⟩
theorem jl7 (T:Txt P w K mg t):FnOk P w K mg base jS 5 t.a_made_of_quad t.d_made_of_quad ["told"] (j2 K 1 jb9):=by
 have sc:=jfg
 refine jM (k:=4) T.D_made_of_quad.F jfg (fun cdv A outer s H E hr=>⟨jgP,(jq (jr (jn (jlK T) jiS (hr.mono (by decide)) T.D_turn_of (jc (ji (ja (pv 0)) jd (fun _ _=>rfl)) jg)))),jlD⟩)
def jcB:jK:=fun ds Φ=>∃ (x:D) (p q:Q4) (k:Nat),ds = [.lst [x,tb (jD p),tb (jD q)]]∧p ≠ q0∧q ≠ q0∧k ≤ 1500∧Bq k p∧Bq k q∧Φ (tb (jD (jbj p q)))
theorem je2:jO jcB:=fun ds Φ Ψ mo h0=>by
 obtain ⟨x,p,q,k,a,b,c,d,e,f,h⟩:=h0
 exact ⟨x,p,q,k,a,b,c,d,e,f,mo _ h⟩
abbrev jh0:S3 :=
 (jE (jx 2 jgw (je (jf js (jb 0) (dC (.int 1))) (je (jf js (jb 0) (dC (.int 2))) jm))))
theorem jnc:∀ (ds:List D) (Φ:D->Prop),ds.length = 1->jcB ds Φ->jh0 (jA Φ) (jv 1 ds):=by
 rintro ds Φ hl ⟨x,p,q,k,rfl,hp,hq,hk,bp,bq,h⟩
 exact ⟨rfl,jD p,jD q,p,q,k,rfl,rfl,rfl,hp,hq,by omega,bp,bq,h⟩
theorem jmR (T:Txt P w K mg t):FnOk P w K mg base jS 6 t.a_made_of_two t.d_made_of_two ["told"] (j2 K 1 jcB):=by
 have sc:=jgh
 refine jM (k:=5) T.D_made_of_two.F jgh (fun cdv A outer s H E hr=>⟨jh0,(jq (jr (jn (jqz T) jlw (hr.mono (by decide)) T.D_after (jc (ji (ja (pv 0)) jd (fun _ _=>rfl)) (jc (ji (ja (pv 0)) jd (fun _ _=>rfl)) jg))))),jnc⟩)
def jdC:jK:=fun ds Φ=>∃ (x:D) (t:T9),ds = [.lst [x,tb t]]∧Φ (tb (jQ t))
theorem jgr:jO jdC:=fun ds Φ Ψ mo h0=>by
 obtain ⟨x,t,a,h⟩:=h0
 exact ⟨x,t,a,mo _ h⟩
abbrev jkg:S3 :=
 (jE (jx 1 jeG (je (jf js (jb 0) (dC (.int 1))) jm)))
theorem jqe:∀ (ds:List D) (Φ:D->Prop),ds.length = 1->jdC ds Φ->jkg (jA Φ) (jv 1 ds):=by
 rintro ds Φ hl ⟨x,t,rfl,h⟩
 exact ⟨rfl,t,rfl,h⟩
theorem joB (T:Txt P w K mg t):FnOk P w K mg base jS 3 t.a_made_back t.d_made_back ["told"] (j2 K 1 jdC):=by
 have sc:=jii
 refine jM (k:=2) T.D_made_back.F jii (fun cdv A outer s H E hr=>⟨jkg,(jq (jr (jn (jjv T) jfz (hr.mono (by decide)) T.D_back (jc (ji (ja (pv 0)) jd (fun _ _=>rfl)) jg)))),jqe⟩)
abbrev jfu:List jK:=[jb9,jcB,jdC]
theorem jlh:∀ C ∈ jfu,jO C:=(List.forall_mem_cons.mpr ⟨jeh,(List.forall_mem_cons.mpr ⟨je2,(List.forall_mem_cons.mpr ⟨jgr,(fun _ h=>by cases h)⟩)⟩)⟩)
abbrev jcR:List jK:=[jdO,jcz,jcV,jdI,jcw,jdJ,jcS]
theorem jq1:∀ C ∈ jcR,jO C:=(List.forall_mem_cons.mpr ⟨jgL,(List.forall_mem_cons.mpr ⟨je1,(List.forall_mem_cons.mpr ⟨jfr,(List.forall_mem_cons.mpr ⟨jgg,(List.forall_mem_cons.mpr ⟨je0,(List.forall_mem_cons.mpr ⟨jgu,(List.forall_mem_cons.mpr ⟨jfh,(fun _ h=>by cases h)⟩)⟩)⟩)⟩)⟩)⟩)⟩)
def jcC:jdy:=fun as W Φ=>∃ (o:Ob) (z w:Str) (ws kd:List Str) (ms:List D),as = [.raw (.ref o.p),.val (.str z)]∧o ∈ W∧o.p ≠ o.q∧z.length ≤ 10000∧Txt.split z " " = w :: ws∧jZ ks_ROWS ja3 w = some (.tup (kd.map .str))∧kd.length = ws.length∧kd.length ≤ 3∧jm4 o kd ws ms ∧
 ((∃ C,jZ ks_TELLERS jcR w = some C∧C [.lst ms] fun d=>Φ d W) ∨
   (w ∉ ks_TELLERS∧∃ C n,jZ ks_MAKERS jfu w = some C∧ws[0]? = some n∧o.ks.length < sizeLine∧C [.lst ms] fun d=>NoL d∧Φ (.str "ok") (ja7 W (o.put n d))) ∨
   (w ∉ ks_TELLERS∧w ∉ ks_MAKERS∧∃ n c,ws[0]? = some n∧jZ o.ks o.ds n = some c∧Φ (.str "ok") (ja7 W (o.drop n))))
theorem jhk {α:Type} {x:Str} {d:α}:∀ {ks:List Str} {ds:List α},jZ ks ds x = some d->d ∈ ds
 | [],_,e=>by cases e
 | _ :: _,[],e=>by cases e
 | k :: ks,c :: ds,e=>by
  unfold jZ at e
  split at e
  ·cases e; exact List.mem_cons_self
  ·exact List.mem_cons_of_mem _ (jhk e)
theorem jkz:jej jcC:=fun as W Φ Ψ mo ⟨o,z,w,ws,kd,ms,a,b,c,d,e,f,g,h,i,j⟩=>by
 refine ⟨o,z,w,ws,kd,ms,a,b,c,d,e,f,g,h,i,?_⟩
 rcases j with ⟨C,hC,j⟩ | ⟨hn,C,n,hC,h0,hs,j⟩ | ⟨hn,hn2,n,c,h0,hg,j⟩
 ·exact .inl ⟨C,hC,jq1 C (jhk hC) _ _ _ (fun d hd=>mo _ _ hd) j⟩
 ·exact .inr (.inl ⟨hn,C,n,hC,h0,hs,jlh C (jhk hC) _ _ _ (fun d hd=>⟨hd.1,mo _ _ hd.2⟩) j⟩)
 ·exact .inr (.inr ⟨hn,hn2,n,c,h0,hg,mo _ _ j⟩)
def jgx:S4 :=
 (jah (jE (dC (.str "ok"))))
def jgG:S4 :=
 (jas (wIf (jcs (dT (jpA ks_MAKERS false (jb 3))))
 (jgZ (jkC 0) (jf js (jb 2) (dC (.int 1))) (jaG (joG ks_MAKERS jfu (jb 3) (jb 4))))
 (jsm (jvm (jkC 0) (jf js (jb 2) (dC (.int 1))))))
 jgx)
def jmp:S4 :=
 (jas (jah (sIf (dT (jpA ks_TELLERS false (jb 3)))
 (jE (joG ks_TELLERS jcR (jb 3) (jb 4)))
 ja2))
 jgG)
def jmf:S4 :=
 (jas (jpd 4 (jdR 0 2 jex (jbn (jaG (jb 2)) jbK)))
 jmp)
def jmQ:S4 :=
 (jas (jah (jz 3 (jf js (jb 2) (dC (.int 0)))))
 jmf)
abbrev jwu:S4 :=
 (jas (jah (jz 2 (jx 1 jcZ (je (jb 1) jm))))
 jmQ)
theorem jzk:∀ (as:List Sl) (W:Wd) (Φ:D->Wd->Prop),as.length = 2->jcC as W Φ->jwu (jao Φ) (ja8 5 as) W:=by
 rintro as W Φ hl ⟨o,z,w,ws,kd,ms,rfl,ho,hpq,hz,hs,hk,hkl,hk3,hm,h⟩
 refine ⟨rfl,z,w,ws,kd.map .str,rfl,hz,hs,hk,by rw [List.length_map]; exact hkl,jN rfl,?_⟩
 show jmQ (jao Φ) [.raw (.ref o.p),.val (.str z),.val (.lst ((w :: ws).map .str)),.un,.un] W
 unfold jmQ
 refine jaC (d:=.str w) (jc0 ..) ?_
 refine ⟨jN rfl,?_⟩
 show jmf (jao Φ) [.raw (.ref o.p),.val (.str z),.val (.lst ((w :: ws).map .str)),.val (.str w),.un] W
 unfold jmf
 refine ⟨⟨o,ho,rfl,hpq⟩,rfl,o,w,ws,kd,ms,rfl,ho,hpq,hk,hk3,hm,?_⟩
 show jmp (jao Φ) [.raw (.ref o.p),.val (.str z),.val (.lst ((w :: ws).map .str)),.val (.str w),.val (.lst ms)] W
 unfold jmp
 rcases h with ⟨C,hC,h⟩ | ⟨hn,C,n,hC,h0,hsz,h⟩ | ⟨hn,hn2,n,c,h0,hg,h⟩
 ·exact tT (by rw [decide_eq_true (jgX hC)]; rfl) ⟨C,hC,h⟩
 ·refine tF (by rw [decide_eq_false hn]; rfl) ⟨jN rfl,?_⟩
  show jgG (jao Φ) [.raw (.ref o.p),.val (.str z),.val (.lst ((w :: ws).map .str)),.val (.str w),.val (.lst ms)] W
  unfold jgG
  refine tT (by rw [decide_eq_true (jgX hC)]; rfl) ⟨C,hC,jlh C (jhk hC) _ _ _ (fun d hd=>?_) h⟩
  refine ⟨o,ho,rfl,hpq,?_⟩
  refine jaC (d:=.str n) (by rw [jsg]; show (ws.map D.str)[0]? = _; rw [List.getElem?_map,h0]; rfl) ?_
  refine ⟨hd.1,hsz,?_⟩
  show jgx (jao Φ) _ _
  unfold jgx
  exact hd.2
 ·refine tF (by rw [decide_eq_false hn]; rfl) ⟨jN rfl,?_⟩
  show jgG (jao Φ) [.raw (.ref o.p),.val (.str z),.val (.lst ((w :: ws).map .str)),.val (.str w),.val (.lst ms)] W
  unfold jgG
  refine tF (by rw [decide_eq_false hn2]; rfl) ⟨o,ho,rfl,hpq,?_⟩
  refine jaC (d:=.str n) (by rw [jsg]; show (ws.map D.str)[0]? = _; rw [List.getElem?_map,h0]; rfl) ?_
  refine ⟨c,hg,?_⟩
  show jgx (jao Φ) _ _
  unfold jgx
  exact h
theorem jmm {g:G3} {tb:S4} {Φ:F4->Prop} (I:Nat->jL->Wd->Prop):∀ (xs:List D) (i:Nat) (ρ:jL) (W:Wd),I i ρ W->(∀ (j:Nat) d ρ W,xs[j]? = some d->I (i + j) ρ W->∀ Ψ:F4->Prop,(∀ ρ' W',I (i + j + 1) ρ' W'->Ψ (.nx ρ' W'))->g d ρ fun ρ1=>noDct ρ1∧tb Ψ ρ1 W)->(∀ ρ W,I (i + xs.length) ρ W->Φ (.nx ρ W))->jm1 g tb xs Φ ρ W
 | [],i,ρ,W,h,_,hf=>hf ρ W h
 | d :: xs,i,ρ,W,h,st,hf=>by
  refine st 0 d ρ W rfl h _ fun ρ' W' h'=>jmm I xs (i + 1) ρ' W' h' (fun j d ρ W e hI Ψ hΨ=>?_) fun ρ W hI=>hf ρ W ?_
  ·refine st (j + 1) d ρ W e (by rw [show i + (j + 1) = i + 1 + j by omega]; exact hI) Ψ fun ρ' W' h'=>hΨ ρ' W' (by rw [show i + 1 + j + 1 = i + (j + 1) + 1 by omega]; exact h')
  ·rw [show i + (d :: xs).length = i + 1 + xs.length by rw [List.length_cons]; omega]; exact hI
theorem jmL (d:D):ndS (.val d) = true:=rfl
theorem jrH (d:V):ndS (.raw d) = true:=rfl
theorem jxT (x:Str):jC (.str x) (.str x) = true:=by simp [jC]
theorem jbJ {n:Str} (h:jaF n = true):32 ∉ cp n:=fun z=>by
 unfold jaF at h
 simp only [Bool.and_eq_true] at h
 have:=List.all_eq_true.mp h.2 _ z
 exact absurd this (by decide +kernel)
theorem jaz {n:Str} (h:jaF n = true):n.length ≤ 8:=by
 unfold jaF at h
 simp only [Bool.and_eq_true] at h
 exact of_decide_eq_true h.1.2
theorem jmO (c:Nat):jcD c [] = []:=rfl
theorem jjD (c:Nat) (q:Str) (r:List Str):jcD c (q :: r) = c :: (cp q ++ jcD c r):=by
 show c :: cp (Str.join ⟨#[c]⟩ (q :: r)) = _
 rw [jbC]
theorem jkU {c e:Nat} (hc:e ≠ c):∀ l:List Str,(∀ p ∈ l,e ∉ cp p)->e ∉ jcD c l
 | [],_,z=>by cases z
 | p :: l,h,z=>by
  have z:e ∈ c :: (cp p ++ jcD c l):=by rw [jjD] at z; exact z
  rcases List.mem_cons.mp z with z | z
  ·exact hc z
  ·rcases List.mem_append.mp z with z | z
   ·exact h p List.mem_cons_self z
   ·exact jkU hc l (fun q hq=>h q (List.mem_cons_of_mem _ hq)) z
theorem jt1 {ns:List Int}:32 ∉ cp (jaf ns):=fun z=>by
 unfold jaf at z
 rw [jhh] at z
 cases ns with
 | nil=>exact absurd z (by decide +kernel)
 | cons n ns =>
  rw [List.map_cons,show (",":Str) = ⟨#[44]⟩ from rfl,jbC] at z
  rcases List.mem_append.mp z with z | z
  ·exact jkE (.inl (by decide)) z
  ·refine jkU (by decide) _ (fun p hp=>?_) z
   obtain ⟨m,_,rfl⟩:=List.mem_map.mp hp
   exact jkE (.inl (by decide))
theorem j1 (x y:Str):(x ++ y).length = x.length + y.length:=by
 rw [← ja1,jbL,List.length_append,ja1,ja1]
theorem jh6 {z:Str} {ps:List Str} (hne:ps ≠ []) (hf:∀ p ∈ ps,32 ∉ cp p) (e:cp z = cp (Str.join ⟨#[32]⟩ ps)):Txt.split z " " = ps:=by
 rw [jqm e]; exact jk1 32 hne hf
theorem jvX {a' a n:Str} (ha:cp a' = cp a ++ [32]) (fa:32 ∉ cp a) (fn:32 ∉ cp n):Txt.split (a' ++ n) " " = [a,n]:=by
 refine jh6 (fun e=>by cases e) (fun p hp=>?_) ?_
 ·simp only [List.mem_cons,List.not_mem_nil,or_false] at hp
  rcases hp with rfl | rfl
  ·exact fa
  ·exact fn
 ·rw [jbC,jbL,ha,List.append_assoc]
  simp only [jjD,jmO,List.append_assoc,List.append_nil,List.cons_append,List.nil_append]
theorem jzf {a' a n m:Str} (ha:cp a' = cp a ++ [32]) (fa:32 ∉ cp a) (fn:32 ∉ cp n) (fm:32 ∉ cp m):Txt.split (a' ++ n ++ " " ++ m) " " = [a,n,m]:=by
 refine jh6 (fun e=>by cases e) (fun p hp=>?_) ?_
 ·simp only [List.mem_cons,List.not_mem_nil,or_false] at hp
  rcases hp with rfl | rfl | rfl
  ·exact fa
  ·exact fn
  ·exact fm
 ·rw [jbC,jbL,jbL,jbL,ha]
  rw [show cp (" ":Str) = [32] from rfl]
  simp only [jjD,jmO,List.append_assoc,List.append_nil,List.cons_append,List.nil_append]
theorem jAW {a' a n m l:Str} (ha:cp a' = cp a ++ [32]) (fa:32 ∉ cp a) (fn:32 ∉ cp n) (fm:32 ∉ cp m) (fl:32 ∉ cp l):Txt.split (a' ++ n ++ " " ++ m ++ " " ++ l) " " = [a,n,m,l]:=by
 refine jh6 (fun e=>by cases e) (fun p hp=>?_) ?_
 ·simp only [List.mem_cons,List.not_mem_nil,or_false] at hp
  rcases hp with rfl | rfl | rfl | rfl
  ·exact fa
  ·exact fn
  ·exact fm
  ·exact fl
 ·rw [jbC,jbL,jbL,jbL,jbL,jbL,ha]
  rw [show cp (" ":Str) = [32] from rfl]
  simp only [jjD,jmO,List.append_assoc,List.append_nil,List.cons_append,List.nil_append]
theorem jsF (t:T9):NoL (tb t):=by simp only [tb,tr,pt,NoL,jaM,and_self]
theorem jso (q:Q4):NoL (qd q):=by simp only [qd,NoL,jaM,and_self]
theorem jjr {ns:List Str} {g:Str->D} {x:Str} (h:x ∈ ns):jZ ns (ns.map g) x = some (g x):=by
 induction ns with
 | nil=>cases h
 | cons n ns ih =>
  rw [List.map_cons]
  unfold jZ
  by_cases e:n = x
  ·rw [if_pos e,e]
  ·rw [if_neg e]
   rcases List.mem_cons.mp h with z | z
   ·exact absurd z.symm e
   ·exact ih z
def upS {α:Type} (g:Str->α) (x:Str) (v:α):Str->α:=fun m=>if m = x then v else g m
theorem jrF {ns:List Str} {g:Str->D} {x:Str} {v:D}:jcf ns (ns.map g) x v = (jbV ns x).map (upS g x v):=by
 unfold jcf jbV
 split
 ·rename_i h
  clear h
  induction ns with
  | nil=>rfl
  | cons n ns ih =>
   rw [List.map_cons,List.map_cons]
   unfold jdw
   rw [ih]
   rfl
 ·rename_i h
  rw [List.map_append]
  congr 1
  ·refine List.map_congr_left fun n hn=>?_
   unfold upS
   rw [if_neg (fun e:n = x=>h (by rw [← e]; exact hn))]
  ·unfold upS
   rw [List.map_cons,if_pos rfl,List.map_nil]
theorem jt6 {α β:Type} (f:α->β) (g:Str->α) (x:Str) (v:α):upS (fun n=>f (g n)) x (f v) = fun n=>f (upS g x v n):=by
 funext m
 unfold upS
 split <;> rfl
section
variable {W:Wd} {Φ:D->Wd->Prop} {o:Ob}
theorem jAd {w' w n:Str} {d:D} {C:jK} (ho:o ∈ W) (hpq:o.p ≠ o.q) (ha:cp w' = cp w ++ [32]) (hl:w'.length ≤ 10) (fa:32 ∉ cp w) (hw:jZ ks_ROWS ja3 w = some (.tup [.str "turn"])) (hC:jZ ks_TELLERS jcR w = some C)
  (hn:jaF n = true) (hg:jZ o.ks o.ds n = some d) (h:C [.lst [d]] fun d=>Φ d W):jcC [.raw (.ref o.p),.val (.str (w' ++ n))] W Φ :=
 ⟨o,_,w,[n],["turn"],[d],rfl,ho,hpq,by rw [j1]; have:=jaz hn; omega,jvX ha fa (jbJ hn),hw,rfl,by decide,⟨.inr (.inr (.inr ⟨rfl,hg⟩)),trivial⟩,.inl ⟨C,hC,h⟩⟩
theorem jvJ {n:Str} {q:Q4} {k:Nat} (ho:o ∈ W) (hpq:o.p ≠ o.q) (hn:jaF n = true) (hg:jZ o.ks o.ds n = some (tb (jD q))) (h0:q ≠ q0) (hk:k ≤ 1500) (bq:Bq k q) (h:Φ (.str (jaf (ql (jI q)))) W) :
  jcC [.raw (.ref o.p),.val (.str ("quad " ++ n))] W Φ:=jAd (w:="quad") ho hpq rfl (by decide) (by decide +kernel) rfl rfl hn hg ⟨q,k,rfl,h0,hk,bq,h⟩
theorem juQ {n:Str} {q:Q4} (ho:o ∈ W) (hpq:o.p ≠ o.q) (hn:jaF n = true) (h0:q ≠ q0) (hb:∀ i ∈ ql q,i.natAbs < 10 ^ 60) (hs:o.ks.length < sizeLine) (h:Φ (.str "ok") (ja7 W (o.put n (tb (jD q))))) :
  jcC [.raw (.ref o.p),.val (.str ("turn " ++ n ++ " " ++ jaf (ql q)))] W Φ:=by
 have l1:=jaz hn
 have l2:=jku hb
 have l2:(jaf (ql q)).length ≤ 62 * 4:=l2
 have e60:(10:Nat) ^ 60 ≤ 2 ^ 200:=by decide
 have bq:Bq 200 q:=⟨Nat.lt_of_lt_of_le (hb _ (by simp [ql])) e60,Nat.lt_of_lt_of_le (hb _ (by simp [ql])) e60,Nat.lt_of_lt_of_le (hb _ (by simp [ql])) e60,Nat.lt_of_lt_of_le (hb _ (by simp [ql])) e60⟩
 refine ⟨o,_,"turn",[n,jaf (ql q)],["new","quad"],[.str n,qd q],rfl,ho,hpq,?_,jzf rfl (by decide +kernel) (jbJ hn) jt1,rfl,rfl,by decide,⟨.inr (.inr (.inl ⟨rfl,hn,rfl⟩)),.inl ⟨rfl,ql q,rfl,rfl,hb,rfl⟩,trivial⟩,.inr (.inl ⟨by decide +kernel,_,n,rfl,rfl,hs,.str n,q,200,rfl,h0,by decide,bq,jsF _,h⟩)⟩
 rw [j1,j1,j1,show ("turn ":Str).length = 5 from rfl,show (" ":Str).length = 1 from rfl]
 omega
theorem jvk {n a:Str} {t:T9} (ho:o ∈ W) (hpq:o.p ≠ o.q) (hn:jaF n = true) (ha:jaF a = true) (hg:jZ o.ks o.ds a = some (tb t)) (hs:o.ks.length < sizeLine) (h:Φ (.str "ok") (ja7 W (o.put n (tb (jQ t))))) :
  jcC [.raw (.ref o.p),.val (.str ("back " ++ n ++ " " ++ a))] W Φ:=by
 have l1:=jaz hn
 have l2:=jaz ha
 refine ⟨o,_,"back",[n,a],["new","turn"],[.str n,tb t],rfl,ho,hpq,?_,jzf rfl (by decide +kernel) (jbJ hn) (jbJ ha),rfl,rfl,by decide,⟨.inr (.inr (.inl ⟨rfl,hn,rfl⟩)),.inr (.inr (.inr ⟨rfl,hg⟩)),trivial⟩,.inr (.inl ⟨by decide +kernel,_,n,rfl,rfl,hs,.str n,t,rfl,jsF _,h⟩)⟩
 rw [j1,j1,j1,show ("back ":Str).length = 5 from rfl,show (" ":Str).length = 1 from rfl]
 omega
theorem jtc {n a b:Str} {p q:Q4} {k:Nat} (ho:o ∈ W) (hpq:o.p ≠ o.q) (hn:jaF n = true) (ha:jaF a = true) (hb:jaF b = true) (hg:jZ o.ks o.ds a = some (tb (jD p))) (hg':jZ o.ks o.ds b = some (tb (jD q))) (hp:p ≠ q0) (hq:q ≠ q0) (hk:k ≤ 1500) (bp:Bq k p) (bq:Bq k q) (hs:o.ks.length < sizeLine)
  (h:Φ (.str "ok") (ja7 W (o.put n (tb (jD (jbj p q)))))):jcC [.raw (.ref o.p),.val (.str ("after " ++ n ++ " " ++ a ++ " " ++ b))] W Φ:=by
 have l1:=jaz hn
 have l2:=jaz ha
 have l3:=jaz hb
 refine ⟨o,_,"after",[n,a,b],["new","turn","turn"],[.str n,tb (jD p),tb (jD q)],rfl,ho,hpq,?_,jAW rfl (by decide +kernel) (jbJ hn) (jbJ ha) (jbJ hb),rfl,rfl,by decide,⟨.inr (.inr (.inl ⟨rfl,hn,rfl⟩)),.inr (.inr (.inr ⟨rfl,hg⟩)),.inr (.inr (.inr ⟨rfl,hg'⟩)),trivial⟩,.inr (.inl ⟨by decide +kernel,_,n,rfl,rfl,hs,.str n,p,q,k,rfl,hp,hq,hk,bp,bq,jsF _,h⟩)⟩
 rw [j1,j1,j1,j1,j1,show ("after ":Str).length = 6 from rfl,show (" ":Str).length = 1 from rfl]
 omega
theorem ju3 {n:Str} {d:D} (ho:o ∈ W) (hpq:o.p ≠ o.q) (hn:jaF n = true) (hg:jZ o.ks o.ds n = some d) (h:Φ (.str "ok") (ja7 W (o.drop n))):jcC [.raw (.ref o.p),.val (.str ("drop " ++ n))] W Φ:=by
 have l1:=jaz hn
 refine ⟨o,_,"drop",[n],["turn"],[d],rfl,ho,hpq,?_,jvX rfl (by decide +kernel) (jbJ hn),rfl,rfl,by decide,⟨.inr (.inr (.inr ⟨rfl,hg⟩)),trivial⟩,.inr (.inr ⟨by decide +kernel,by decide +kernel,n,d,rfl,hg,h⟩)⟩
 rw [j1,show ("drop ":Str).length = 5 from rfl]
 omega
end
theorem jjP {X:Cx} {t:Ad} (T:Txt X.prog X.w X.K X.mg t):Fns X 7 [.ref t.a_told_quad,.ref t.a_told_bottom,.ref t.a_told_stair,.ref t.a_told_spot,.ref t.a_told_shared,.ref t.a_told_same,.ref t.a_told_order] jcR :=
 (jbu (jpV T) (by decide) rfl jgL T.D_told_quad.F.kp T.D_told_quad.b
 (jbu (jmu T) (by decide) rfl je1 T.D_told_bottom.F.kp T.D_told_bottom.b
 (jbu (jn3 T) (by decide) rfl jfr T.D_told_stair.F.kp T.D_told_stair.b
 (jbu (jp0 T) (by decide) rfl jgg T.D_told_spot.F.kp T.D_told_spot.b
 (jbu (jmI T) (by decide) rfl je0 T.D_told_shared.F.kp T.D_told_shared.b
 (jbu (jo9 T) (by decide) rfl jgu T.D_told_same.F.kp T.D_told_same.b
 (jbu (jof T) (by decide) rfl jfh T.D_told_order.F.kp T.D_told_order.b
 jrJ)))))))
theorem jlA {X:Cx} {t:Ad} (T:Txt X.prog X.w X.K X.mg t):Fns X 6 [.ref t.a_made_of_quad,.ref t.a_made_of_two,.ref t.a_made_back] jfu :=
 (jbu (jl7 T) (by decide) rfl jeh T.D_made_of_quad.F.kp T.D_made_of_quad.b
 (jbu (jmR T) (by decide) rfl je2 T.D_made_of_two.F.kp T.D_made_of_two.b
 (jbu (joB T) (by decide) rfl jgr T.D_made_back.F.kp T.D_made_back.b
 jrJ)))
theorem jtm (T:Txt P w K mg t):FnOk P w K mg base jS 8 t.a_say t.d_say ["self","row"] (spW K (zc t) 2 jcC):=by
 have sc:=jkZ
 refine jiL (mo:=jkz) (k:=7) T.D_say.F jkZ (fun cdv A outer s H E hr=>⟨jwu,(jJ (jH (jo (i:=2) sc.nd rfl (jl rfl) (jn (jjS T) jhY (hr.mono (by decide)) T.D_words_of (jc (ja (pv 1)) jg))))
 (jJ (jH (jo (i:=3) sc.nd rfl (jl rfl) (ji (ja (pv 2)) jd (fun _ _=>rfl))))
 (jJ (jnb (i:=4) sc.nd rfl (jl rfl) (jg2 (i:=0) (ps:=["self","words"]) rfl jhT (jbm (jaE (ja (pv 2))) jbl) (fun _ h=>jgK (pv 0) T.cl T.D_meanings.h (jqB T) (hr.mono (by decide)) T.D_meanings.b .nil jc5 h)))
 (jJ (jH (jaK (jl4 T.d_TELLERS (ja (pv 3)) rfl T.m_TELLERS)
 (jq (jr (jhq T.d_TELLERS T.w_TELLERS (jjP T) (hr.mono (by decide)) (ja (pv 3)) (ja (pv 4)) rfl T.m_TELLERS (fun _ _=>rfl))))
 jau))
 (jJ (jde (jbs (jl4 T.d_MAKERS (ja (pv 3)) rfl T.m_MAKERS))
 (jad (jeH (jbi hr) (jd0 (pv 0) T.cl T.na rfl) (ji (ja (pv 2)) jd (fun _ _=>rfl)) (jaE (jhq T.d_MAKERS T.w_MAKERS (jlA T) (hr.mono (by decide)) (ja (pv 3)) (ja (pv 4)) rfl T.m_MAKERS (fun _ _=>rfl)))))
 (jad (jko (jpG (jd0 (pv 0) T.cl T.na rfl) (ji (ja (pv 2)) jd (fun _ _=>rfl)) ⟨rfl,rfl,rfl,rfl⟩))))
 (jad (jH (jr jV)))))))),jzk⟩)
def joy:List Sl->Wd->Prop:=fun as W=>∃ (o:Ob) (z w x:Str) (ws kd:List Str),as = [.raw (.ref o.p),.val (.str z)]∧o ∈ W∧o.p ≠ o.q∧z.length ≤ 10000∧Txt.split z " " = w :: x :: ws∧jZ ks_ROWS ja3 w = some (.tup ((("turn":Str) :: kd).map .str))∧kd.length = ws.length∧kd.length ≤ 3∧x ∉ o.ks
def jsG:R4 :=
 (jl3 (jah (jz 2 (jx 1 jcZ (je (jb 1) jm))))
 (jl3 (jah (jz 3 (jf js (jb 2) (dC (.int 0)))))
 (jhm 0 2 jg3 (jbn (jaG (jb 2)) jbK))))
theorem jy4:∀ (as:List Sl) (W:Wd),as.length = 2->joy as W->jsG (fun W'=>W' = W) (ja8 5 as) W:=by
 rintro as W hl ⟨o,z,w,x,ws,kd,rfl,ho,hpq,hz,hs,hk,hkl,hk3,hx⟩
 unfold jsG
 refine ⟨rfl,z,w,x :: ws,(("turn":Str) :: kd).map .str,rfl,hz,hs,hk,by rw [List.length_map,List.length_cons,List.length_cons,hkl],jN rfl,?_⟩
 refine jaC (d:=.str w) (jc0 ..) ?_
 refine ⟨jN rfl,⟨o,ho,rfl,hpq⟩,rfl,⟨o,w,x,ws,kd,rfl,ho,hpq,hk,hk3,hx⟩,rfl⟩
theorem jyh {W:Wd} {o:Ob} {w' w n:Str} (ho:o ∈ W) (hpq:o.p ≠ o.q) (ha:cp w' = cp w ++ [32]) (hl:w'.length ≤ 10) (fa:32 ∉ cp w) (hw:jZ ks_ROWS ja3 w = some (.tup [.str "turn"])) (hn:jaF n = true) (hx:n ∉ o.ks):joy [.raw (.ref o.p),.val (.str (w' ++ n))] W :=
 ⟨o,_,w,n,[],[],rfl,ho,hpq,by rw [j1]; have:=jaz hn; omega,jvX ha fa (jbJ hn),hw,rfl,by decide,hx⟩
theorem jx5 (T:Txt P w K mg t):FnOk P w K mg base (CXC P w) 8 t.a_say t.d_say ["self","row"] (jkv K (zc t) 2 t.x_NoName joy):=by
 have sc:=jkZ
 refine jo1 (k:=7) T.D_say.F jkZ (fun cdv A outer s H E hr hR hP hH=>⟨jsG,(jkB (jH (jo (i:=2) sc.nd rfl (jl rfl) (jn (jjS T) jhY (hr.mono (by decide)) T.D_words_of (jc (ja (pv 1)) jg))))
 (jkB (jH (jo (i:=3) sc.nd rfl (jl rfl) (ji (ja (pv 2)) jd (fun _ _=>rfl))))
 (juJ (jxL (i:=4) sc.nd rfl (jl rfl) (jnk (i:=0) (ps:=["self","words"]) hP rfl (pv 0) T.cl T.D_meanings.h (jqE T) (hr.mono (by decide)) T.D_meanings.b (jbm (jaE (ja (pv 2))) jbl)))
 (jJ (jH (jaK (jl4 T.d_TELLERS (ja (pv 3)) rfl T.m_TELLERS)
 (jq (jr (jhq T.d_TELLERS T.w_TELLERS (jjP T) (hr.mono (by decide)) (ja (pv 3)) (ja (pv 4)) rfl T.m_TELLERS (fun _ _=>rfl))))
 jau))
 (jJ (jde (jbs (jl4 T.d_MAKERS (ja (pv 3)) rfl T.m_MAKERS))
 (jad (jeH (jbi hr) (jd0 (pv 0) T.cl T.na rfl) (ji (ja (pv 2)) jd (fun _ _=>rfl)) (jaE (jhq T.d_MAKERS T.w_MAKERS (jlA T) (hr.mono (by decide)) (ja (pv 3)) (ja (pv 4)) rfl T.m_MAKERS (fun _ _=>rfl)))))
 (jad (jko (jpG (jd0 (pv 0) T.cl T.na rfl) (ji (ja (pv 2)) jd (fun _ _=>rfl)) ⟨rfl,rfl,rfl,rfl⟩))))
 (jad (jH (jr jV)))))))),jy4⟩)
def jbP:jK:=jaU
theorem jgl:jO jbP:=jbx
abbrev jj7:S3 :=
 (jE (dMt jom (dC (.str ",")) (dF (jbq 1 (iLT (jb 0)) (gN 0) (fun _ Φ=>Φ true) (dB jm5 (je (jb 0) jm))))))
theorem joY:∀ (ds:List D) (Φ:D->Prop),ds.length = 1->jbP ds Φ->jj7 (jA Φ) (jv 1 ds):=by
 exact jfm
theorem ji4 (T:Txt P w K mg t):FnOk P w K mg base jS 1 t.a_law_spelt t.d_law_spelt ["numbers"] (j2 K 1 jbP):=by
 have sc:=jiZ
 refine jM (k:=0) T.D_law_spelt.F jiZ (fun cdv A outer s H E hr=>⟨jj7,(jq (jr (jh7 PySem.F.slot_str_join PySem.F.type_str_join jp8 jV (jaw (jaQ (xs:=["one"]) (M:=["numbers"]) (n:=1) (by rfl) rfl rfl (jaR (ja (pv 0))) (fun _ _ _ _=>(jam (i:=0) (by decide) (show List.Nodup (["one","numbers"]:List Str) by decide +kernel) rfl (by first | exact Or.inl rfl | exact Or.inr rfl))) (fun _ _ _ _=>jaS) (fun _ _ _ _=>(jaJ jox rfl T.z_str ji2 (jc (ja (pv 0)) jg)))))))),joY⟩)
def jbB:jdy:=fun as W Φ=>∃ (q p r:Addr) (s:St2) (N:Nat),as = [.raw (.ref p),.raw (.ref r)]∧p ≠ q∧hob r s ∈ W∧dob q p s ∈ W∧Gd N s∧Φ (.bl true) W
theorem jbT:jej jbB:=fun as W Φ Ψ mo ⟨q,p,r,s,N,h1,h2,h3,h4,h5,h⟩=>⟨q,p,r,s,N,h1,h2,h3,h4,h5,mo _ _ h⟩
def ja9:S4 :=
 (wIf (joX (mT (jo6 jfA (jaG (jb 4)) (mIn (jb 2) (jbS 1)))) (jsd (jcs (jqc (dT (jb 4)))) (mT (jo6 jvB (jaG (jb 3)) (jlV 1 jbP (jgt (jhc (jbS 1) (jb 2)) jlY))))))
 (jah (jE (dC (.bl false))))
 jfi)
def jcj:S4 :=
 (jas (jzB (jpd 3 (jdR 0 2 jcC (jbn (jaG (jf jaX (dC (.str "quad ")) (jb 2))) jbK))) (jhm 0 2 joy (jbn (jaG (jf jaX (dC (.str "quad ")) (jb 2))) jbK)) (jah (jz 4 (dC (.bl true)))))
 ja9)
def jch:S4 :=
 (jas (jah (jz 4 (dC (.bl false))))
 jcj)
abbrev jk7:S4 :=
 (jas (jah (jz 3 (dC (.str ""))))
 jch)
def jdB:S4 :=
 (jah (jE (dC (.bl true))))
abbrev jiA:S4 :=
 (jas (jvb (iLT (dF (jpR (je (dC (.str "turn")) (je (dC (.str "a")) (je (dC (.str "ab")) jm)))))) (gN 2)
 jk7)
 jdB)
theorem joe:∀ (as:List Sl) (W:Wd) (Φ:D->Wd->Prop),as.length = 2->jbB as W Φ->jiA (jao Φ) (ja8 5 as) W:=by
 rintro as W Φ hl ⟨q,p,r,s,N,rfl,hne,hu,ho,hg,h⟩
 have fits:∀ {n:Nat},n ≤ 100->n ≤ sizeLine:=fun h=>Nat.le_trans h (by decide)
 refine ⟨j8 3 rfl (by decide),?_⟩
 refine jmm (fun _ ρ W'=>W' = W∧∃ x2 x3 x4:Sl,(ndS x2 && ndS x3 && ndS x4) = true∧ρ = [.raw (.ref p),.raw (.ref r),x2,x3,x4]) _ 0 _ W ⟨rfl,.un,.un,.un,rfl,rfl⟩ ?_ ?_
 ·rintro j d ρ W' ed ⟨rfl,x2,x3,x4,hnd,rfl⟩ Ψ hΨ
  obtain ⟨n,rfl,hn3⟩:∃ n,d = .str n∧n ∈ nm3:=by
   rcases j with _ | _ | _ | j
   ·exact ⟨"turn",by cases ed; rfl,by simp [nm3]⟩
   ·exact ⟨"a",by cases ed; rfl,by simp [nm3]⟩
   ·exact ⟨"ab",by cases ed; rfl,by simp [nm3]⟩
   ·cases ed
  have nn:=jbO hn3
  have ln:=jaz nn
  simp only [Bool.and_eq_true] at hnd
  refine ⟨jN (by simp only [List.set_cons_zero,List.set_cons_succ,List.all_cons,List.all_nil,jmL,jrH,hnd,Bool.and_self]),?_⟩
  refine ⟨jN (by simp only [List.set_cons_zero,List.set_cons_succ,List.all_cons,List.all_nil,jmL,jrH,hnd,Bool.and_self]),?_⟩
  show jch Ψ [.raw (.ref p),.raw (.ref r),.val (.str n),.val (.str ""),x4] W'
  unfold jch
  refine ⟨jN rfl,?_⟩
  show jcj Ψ [.raw (.ref p),.raw (.ref r),.val (.str n),.val (.str ""),.val (.bl false)] W'
  unfold jcj
  by_cases hk:n ∈ s.1
  ·obtain ⟨_,f0,fb,fp⟩:=hg.n n hk
   refine .inl ⟨⟨_,ho,rfl,hne⟩,fits (show 5 + n.length ≤ 100 by omega),rfl,jvJ ho hne nn (jjr (g:=fun n=>tb (jD (s.2 n))) hk) f0 (by decide) fb ?_⟩
   show ja9 Ψ [.raw (.ref p),.raw (.ref r),.val (.str n),.val (.str (jaf (ql (jI (s.2 n))))),.val (.bl false)] W'
   unfold ja9
   rw [fp]
   refine ⟨hob r s,hu,rfl,rfl,js6 _,?_⟩
   refine tF (by rw [juj]; show (false == decide (n ∈ s.1)) = false; rw [decide_eq_true hk]; rfl) ?_
   refine tT rfl ?_
   refine ⟨hob r s,hu,rfl,rfl,_,jjr (g:=fun n=>qd (s.2 n)) hk,rfl,ql (s.2 n),rfl,(show 4 ≤ 4 by decide),fun i hi=>(jpy fb i hi).mono (by decide),jgQ,?_⟩
   refine tF (by rw [jxT]; rfl) ?_
   exact hΨ _ _ ⟨rfl,_,_,_,rfl,rfl⟩
  ·refine .inr ⟨⟨_,ho,rfl,hne⟩,fits (show 5 + n.length ≤ 100 by omega),rfl,jyh (w:="quad") ho hne rfl (by decide) (by decide +kernel) rfl nn hk,jN rfl,?_⟩
   show ja9 Ψ [.raw (.ref p),.raw (.ref r),.val (.str n),.val (.str ""),.val (.bl true)] W'
   unfold ja9
   refine ⟨hob r s,hu,rfl,rfl,js6 _,?_⟩
   refine tF (by rw [juj]; show (true == decide (n ∈ s.1)) = false; rw [decide_eq_false hk]; rfl) ?_
   refine tF rfl ?_
   refine tF rfl ?_
   exact hΨ _ _ ⟨rfl,_,_,_,rfl,rfl⟩
 ·rintro ρ W' ⟨rfl,x2,x3,x4,hnd,rfl⟩
  show jdB (jao Φ) _ _
  unfold jdB
  exact h
theorem jeb (T:Txt P w K mg t):FnOk P w K mg base jS 9 t.a_law_looked t.d_law_looked ["desk","held"] (spW K (zc t) 2 jbB):=by
 have sc:=jhL
 refine jiL (mo:=jbT) (k:=8) T.D_law_looked.F jhL (fun cdv A outer s H E hr=>⟨jiA,(jJ (jrD PassesOwn.never rfl (jaR (jaw (jlL (jc jV (jc jV (jc jV jg)))))) (jaW (i:=2) sc.nd rfl (jl rfl))
 (jJ (jH (jo (i:=3) sc.nd rfl (jl rfl) jV))
 (jJ (jH (jo (i:=4) sc.nd rfl (jl rfl) jhj))
 (jJ (jwS (i:=0) (ps:=["self","row"]) (fun _ _ z=>z) rfl rfl rfl (jnb (i:=3) sc.nd rfl (jl rfl) (jg2 (i:=0) (ps:=["self","row"]) rfl jkz (jbm (jaE (jh jbo jV (ja (pv 2)))) jbl) (fun _ h=>jgK (pv 0) T.cl T.D_say.h (jtm T) (hr.mono (by decide)) T.D_say.b .nil jc5 h))) (pv 0) T.cl T.D_say.h (jx5 T) (hr.mono (by decide)) T.D_say.b (jbm (jaE (jh jbo jV (ja (pv 2)))) jbl) rfl T.m_NoName (jzx T.xmb_NoName) T.xty_NoName T.xmb_NoName T.xs_NoName_NoName (fun _ _=>(jad (jH (jo (i:=4) sc.nd rfl (jl rfl) jhj)))) (fun I h=>jyI rfl I h))
 (jad (jde (PWM.pmb (jld (jpN (jey (hu3 hr)) (jaE (ja (pv 4))) (jzV (jbi hr) (ja (pv 2)) (jby (pv 1))) (j3 _)) (jmi (PWM.pmb (jrp (jbs (jlB (jeY (ja (pv 4))))) (jqu (jpN (jv8 (hu3 hr)) (jaE (ja (pv 3))) (jkA (ji4 T) jgl (hr.mono (by decide)) rfl T.D_law_spelt.m T.D_law_spelt.F.kp T.D_law_spelt.b (jeJ (jd2 (jbi hr) (jby (pv 1)) (ja (pv 2)) (fun _ _=>rfl)) jjq)) (j3 _))))))))
 (jad (jH (jr jhj)))
 jdA))))))
 (jad (jH (jr jhj)))),joe⟩)
def jcE:jK:=fun ds Φ=>∃ ms:List Int,(ds = [.lst (ms.map .int)] ∨ ds = [.tup (ms.map .int)])∧Φ (.int (jt ms))
theorem jky:jO jcE:=fun ds Φ Ψ mo h0=>by
 obtain ⟨ms,e,h⟩:=h0
 exact ⟨ms,e,mo _ h⟩
theorem jcF {Φ:D->Prop} {ms:List Int} {d0:D} {tb:S3} (h:Φ (.int (jt ms)))
  (ht:∀ (k:(F3->Prop)->jL->Prop) (Ψ:F3->Prop) (g q:Int) (s u:Sl),0 ≤ g->(∀ s s' u,k Ψ [.val d0,.val (.int (Int.gcd g q:Int)),s,s',u])->tb (jop k Ψ) [.val d0,.val (.int g),.val (.int q),s,u]) :
  ∀ (qs:List Int) (g:Int) (s s' u:Sl),0 ≤ g->qs.foldl (fun g x=>(Int.gcd g x:Int)) g = jt ms ->
  FOR (gN 2) tb (qs.map D.int) (joq (jE (jb 1)) (jA Φ)) [.val d0,.val (.int g),s,s',u]
 | [],g,s,s',u,_,e=>by
  show Φ (.int g)
  have e:g = jt ms:=e
  rw [e]; exact h
 | q :: qs,g,s,s',u,g0,e=>ht _ _ g q s' u g0 fun s s' u=>jcF h ht qs _ s s' u (Int.natCast_nonneg _) e
def jiP:S3 :=
 (jz 3 (jb 4))
def jiy:S3 :=
 (jB (jz 1 (jb 3))
 jiP)
abbrev jkH:S3 :=
 (jB (jz 4 (jf zR (jb 1) (jb 3)))
 jiy)
def jdZ:S3 :=
 (jgc (dT (jf dNe (jb 3) (dC (.int 0))))
 jkH)
abbrev jkL:S3 :=
 (jB (jz 3 (dB jqa (je (jb 2) jm)))
 jdZ)
def jlb:S3 :=
 (jE (jb 1))
def jlM:S3 :=
 (jB (jsu (iLT (jb 0)) (gN 2)
 jkL)
 jlb)
abbrev jh2:S3 :=
 (jB (jz 1 (dC (.int 0)))
 jlM)
theorem jnj:∀ (ds:List D) (Φ:D->Prop),ds.length = 1->jcE ds Φ->jh2 (jA Φ) (jv 5 ds):=by
 have turn:∀ (d0:D) (k:(F3->Prop)->jL->Prop) (Ψ:F3->Prop) (g q:Int) (s u:Sl),0 ≤ g->(∀ s s' u,k Ψ [.val d0,.val (.int (Int.gcd g q:Int)),s,s',u])->jB (jz 3 (dB jqa (je (jb 2) jm))) jdZ (jop k Ψ) [.val d0,.val (.int g),.val (.int q),s,u]:=by
  intro d0 k Ψ g q s u g0 hk
  refine jfe (fun ρ=>∃ (x y:Int) (u:Sl),ρ = [.val d0,.val (.int x),.val (.int q),.val (.int y),u]∧0 ≤ x∧0 ≤ y∧Int.gcd x y = Int.gcd g q) (fun ρ=>match ρ with | [_,_,_,.val (.int y),_]=>y.natAbs | _=>0) ⟨g,q.natAbs,u,rfl,g0,by omega,by simp [Int.gcd]⟩ ?_
  rintro ρ ⟨x,y,u,rfl,hx,hy,e⟩
  refine tst (fun hc=>?_) (fun hc=>?_)
  ·have hy1:y ≠ 0:=by intro z; subst z; simp at hc
   have hy0:0 < y:=by omega
   refine ⟨hy1,_,?_,rfl,y,x.fmod y,_,rfl,hy,Int.fmod_nonneg_of_pos x hy0,by rw [jkF,e]⟩
   show (x.fmod y).natAbs < y.natAbs
   exact jeA hy1
  ·have hy1:y = 0:=by simpa using hc
   subst hy1
   have e2:(Int.gcd g q:Int) = x:=by rw [← e]; simp; omega
   have:=hk (.val (.int q)) (.val (.int 0)) u
   rw [e2] at this
   exact this
 rintro ds Φ hl ⟨ms,rfl | rfl,h⟩
 ·exact jcF h (turn _) ms 0 .un .un .un (Int.le_refl 0) rfl
 ·exact jcF h (turn _) ms 0 .un .un .un (Int.le_refl 0) rfl
theorem jmc (T:Txt P w K mg t):FnOk P w K mg base jS 1 t.a_law_divisor t.d_law_divisor ["numbers"] (j2 K 1 jcE):=by
 have sc:=jgm
 refine jM (k:=0) T.D_law_divisor.F jgm (fun cdv A outer s H E hr=>⟨jh2,(jk (jo (i:=1) sc.nd rfl (jl rfl) jd)
 (jk (jmy PassesOwn.never rfl (jaR (ja (pv 0))) (jaW (i:=2) sc.nd rfl (jl rfl))
 (jk (jo (i:=3) sc.nd rfl (jl rfl) (jan js1 rfl T.z_abs joL (jc (ja (pv 2)) jg)))
 (jq (jfj PassesOwn.never (jal jh8 (ja (pv 3)) jd (j3 _))
 (jk (jo (i:=4) sc.nd rfl (jl rfl) (jh jb7 (ja (pv 1)) (ja (pv 3))))
 (jk (jo (i:=1) sc.nd rfl (jl rfl) (ja (pv 3)))
 (jq (jo (i:=3) sc.nd rfl (jl rfl) (ja (pv 4))))))))))
 (jq (jr (ja (pv 1)))))),jnj⟩)
def jbd:jK:=fun ds Φ=>∃ (q:Q4) (k:Nat),ds = [qd q]∧q ≠ q0∧k ≤ 4000∧Bq k q∧Φ (qd (jI q))
theorem jdk:jO jbd:=fun ds Φ Ψ mo h0=>by
 obtain ⟨q,k,a,b,c,d,h⟩:=h0
 exact ⟨q,k,a,b,c,d,mo _ h⟩
def jhE:S3 :=
 (jE (dB jcT (je (dF (jbq 1 (iLT (jb 0)) (gN 0) (fun _ Φ=>Φ true) (jf zD (jb 0) (jb 2)))) jm)))
def jd6:S3 :=
 (jB (sIf (dT (jf (dI0 fun i j=>.bl (decide (i < j))) (jf js (dF (jbq 1 (iLT (jb 0)) (gN 0) (dT (jf dNe (jb 0) (dC (.int 0)))) (jb 0))) (dC (.int 0))) (dC (.int 0))))
 (jz 1 (dU jck (jb 1)))
 ja2)
 jhE)
abbrev jj2:S3 :=
 (jB (jz 1 (jx 1 jcE (je (jb 0) jm)))
 jd6)
theorem jpE:∀ (ds:List D) (Φ:D->Prop),ds.length = 1->jbd ds Φ->jj2 (jA Φ) (jv 2 ds):=by
 rintro ds Φ hl ⟨q,k,rfl,h0,hk,bq,h⟩
 have g0:jt (ql q) ≠ 0:=fun z=>h0 (jgn z)
 have bg:=jly bq
 refine ⟨rfl,ql q,.inr rfl,?_⟩
 show jd6 (jA Φ) [.val (qd q),.val (.int (jt (ql q)))]
 have fin:∀ b:Int,b = shr q->jhE (jA Φ) [.val (qd q),.val (.int b)]:=by
  intro b hb
  have b0:b ≠ 0:=by
   rw [hb]; unfold shr; split <;> omega
  have bb:Bd k b:=by
   rw [hb]; unfold shr; split
   ·exact bg.neg
   ·exact bg
  have cd:∀ x:Int,CD x b:=fun x=>jeu b0 bb (by omega)
  refine ⟨cd _,jY 0 rfl (by decide),cd _,jY 1 rfl (by decide),cd _,jY 2 rfl (by decide),cd _,jY 3 rfl (by decide),?_⟩
  rw [hb]; exact h
 unfold jd6
 refine jiT (ql q) [] (show 0 + 4 ≤ 100 by decide) ?_
 refine jaC (js8 h0) ?_
 refine tst (fun hc=>?_) (fun hc=>?_)
 ·have hc:decide (jbb q < 0) = true:=hc
  refine fin _ ?_
  unfold shr; rw [jeN,if_pos hc]
 ·have hc:decide (jbb q < 0) = false:=hc
  refine fin _ ?_
  unfold shr; rw [jeN,hc]; rfl
theorem je5 (T:Txt P w K mg t):FnOk P w K mg base jS 2 t.a_law_plain t.d_law_plain ["quad"] (j2 K 1 jbd):=by
 have sc:=jit
 refine jM (k:=1) T.D_law_plain.F jit (fun cdv A outer s H E hr=>⟨jj2,(jk (jo (i:=1) sc.nd rfl (jl rfl) (jn (jmc T) jky (hr.mono (by decide)) T.D_law_divisor (jc (ja (pv 0)) jg)))
 (jk (jaK (jal jvE (ji (jaw (jaQ (xs:=["one"]) (M:=["quad","by"]) (n:=1) (by rfl) rfl rfl (jaR (ja (pv 0))) (fun _ _ _ _=>(jam (i:=0) (by decide) (show List.Nodup (["one","quad","by"]:List Str) by decide +kernel) rfl (by first | exact Or.inl rfl | exact Or.inr rfl))) (fun _ _ _ _=>(jxJ (jal jh8 (ja (pv 0)) jd (j3 _)))) (fun _ _ _ _=>(ja (pv 0))))) jd (fun _ _=>rfl)) jd (j3 _))
 (jq (jo (i:=1) sc.nd rfl (jl rfl) (jbM (ja (pv 1)))))
 jau)
 (jq (jr (jaJ jcO rfl T.z_tuple jbY (jc (jaw (jaQ (xs:=["one"]) (M:=["quad","by"]) (n:=1) (by rfl) rfl rfl (jaR (ja (pv 0))) (fun _ _ _ _=>(jam (i:=0) (by decide) (show List.Nodup (["one","quad","by"]:List Str) by decide +kernel) rfl (by first | exact Or.inl rfl | exact Or.inr rfl))) (fun _ _ _ _=>jaS) (fun _ _ _ _=>(jh jbA (ja (pv 0)) (ja (pv 2)))))) jg)))))),jpE⟩)
def jdD:jK:=fun ds Φ=>∃ (p q:Q4) (k:Nat),ds = [qd p,qd q]∧k ≤ 4000∧Bq k p∧Bq k q∧Φ (qd (jbj p q))
theorem jmW:jO jdD:=fun ds Φ Ψ mo h0=>by
 obtain ⟨p,q,k,a,b,c,d,h⟩:=h0
 exact ⟨p,q,k,a,b,c,d,mo _ h⟩
def jn6:S3 :=
 (jE (jaL (je (jb 10) (je (jb 11) (je (jb 12) (je (jf zA (jf zS (jf zA (jf zM (jb 2) (jb 9)) (jf zM (jb 3) (jb 8))) (jf zM (jb 4) (jb 7))) (jf zM (jb 5) (jb 6))) jm))))))
def jog:S3 :=
 (jB (jz 12 (jf zA (jf zA (jf zS (jf zM (jb 2) (jb 8)) (jf zM (jb 3) (jb 9))) (jf zM (jb 4) (jb 6))) (jf zM (jb 5) (jb 7))))
 jn6)
def jhW:S3 :=
 (jB (jz 11 (jf zS (jf zA (jf zA (jf zM (jb 2) (jb 7)) (jf zM (jb 3) (jb 6))) (jf zM (jb 4) (jb 9))) (jf zM (jb 5) (jb 8))))
 jog)
def jhS:S3 :=
 (jB (jz 10 (jf zS (jf zS (jf zS (jf zM (jb 2) (jb 6)) (jf zM (jb 3) (jb 7))) (jf zM (jb 4) (jb 8))) (jf zM (jb 5) (jb 9))))
 jhW)
def jhG:S3 :=
 (jB (jvH (jb 1) (js2 4 (jc9 (gN 6) (jc9 (gN 7) (jc9 (gN 8) (jc9 (gN 9) jsr))))))
 jhS)
abbrev jkd:S3 :=
 (jB (jvH (jb 0) (js2 4 (jc9 (gN 2) (jc9 (gN 3) (jc9 (gN 4) (jc9 (gN 5) jsr))))))
 jhG)
theorem jp3:∀ (ds:List D) (Φ:D->Prop),ds.length = 2->jdD ds Φ->jkd (jA Φ) (jv 13 ds):=by
 rintro ds Φ hl ⟨p,q,k,rfl,hk,hp,hq,h⟩
 have mk:∀ {x y:Int},Bd k x->Bd k y->IntMulOk x y:=fun hx hy=>jce hx hy (by omega)
 refine ⟨rfl,?_⟩
 show jhG (jA Φ) [.val (qd p),.val (qd q),.val (.int p.a),.val (.int p.b),.val (.int p.c),.val (.int p.d),.un,.un,.un,.un,.un,.un,.un]
 refine ⟨rfl,?_⟩
 show jhS (jA Φ) [.val (qd p),.val (qd q),.val (.int p.a),.val (.int p.b),.val (.int p.c),.val (.int p.d),.val (.int q.a),.val (.int q.b),.val (.int q.c),.val (.int q.d),.un,.un,.un]
 refine ⟨mk hp.a hq.a,mk hp.b hq.b,mk hp.c hq.c,mk hp.d hq.d,?_⟩
 show jhW (jA Φ) [.val (qd p),.val (qd q),.val (.int p.a),.val (.int p.b),.val (.int p.c),.val (.int p.d),.val (.int q.a),.val (.int q.b),.val (.int q.c),.val (.int q.d),.val (.int (jbj p q).a),.un,.un]
 refine ⟨mk hp.a hq.b,mk hp.b hq.a,mk hp.c hq.d,mk hp.d hq.c,?_⟩
 refine ⟨mk hp.a hq.c,mk hp.b hq.d,mk hp.c hq.a,mk hp.d hq.b,?_⟩
 exact ⟨mk hp.a hq.d,mk hp.b hq.c,mk hp.c hq.b,mk hp.d hq.a,j8 4 rfl (by decide),h⟩
theorem jqo (T:Txt P w K mg t):FnOk P w K mg base jS 1 t.a_law_times t.d_law_times ["one","other"] (j2 K 2 jdD):=by
 have sc:=jic
 refine jM (k:=0) T.D_law_times.F jic (fun cdv A outer s H E hr=>⟨jkd,(jk (jrL (ja (pv 0)) (jrK rfl (jbD (jaW (i:=2) sc.nd rfl (jl rfl)) (jbD (jaW (i:=3) sc.nd rfl (jl rfl)) (jbD (jaW (i:=4) sc.nd rfl (jl rfl)) (jbD (jaW (i:=5) sc.nd rfl (jl rfl)) jp9))))))
 (jk (jrL (ja (pv 1)) (jrK rfl (jbD (jaW (i:=6) sc.nd rfl (jl rfl)) (jbD (jaW (i:=7) sc.nd rfl (jl rfl)) (jbD (jaW (i:=8) sc.nd rfl (jl rfl)) (jbD (jaW (i:=9) sc.nd rfl (jl rfl)) jp9))))))
 (jk (jo (i:=10) sc.nd rfl (jl rfl) (jh jai (jh jai (jh jai (jh jw (ja (pv 2)) (ja (pv 6))) (jh jw (ja (pv 3)) (ja (pv 7)))) (jh jw (ja (pv 4)) (ja (pv 8)))) (jh jw (ja (pv 5)) (ja (pv 9)))))
 (jk (jo (i:=11) sc.nd rfl (jl rfl) (jh jai (jh jaa (jh jaa (jh jw (ja (pv 2)) (ja (pv 7))) (jh jw (ja (pv 3)) (ja (pv 6)))) (jh jw (ja (pv 4)) (ja (pv 9)))) (jh jw (ja (pv 5)) (ja (pv 8)))))
 (jk (jo (i:=12) sc.nd rfl (jl rfl) (jh jaa (jh jaa (jh jai (jh jw (ja (pv 2)) (ja (pv 8))) (jh jw (ja (pv 3)) (ja (pv 9)))) (jh jw (ja (pv 4)) (ja (pv 6)))) (jh jw (ja (pv 5)) (ja (pv 7)))))
 (jq (jr (jaj (jc (ja (pv 10)) (jc (ja (pv 11)) (jc (ja (pv 12)) (jc (jh jaa (jh jai (jh jaa (jh jw (ja (pv 2)) (ja (pv 9))) (jh jw (ja (pv 3)) (ja (pv 8)))) (jh jw (ja (pv 4)) (ja (pv 7)))) (jh jw (ja (pv 5)) (ja (pv 6)))) jg)))))))))))),jp3⟩)
def jem:jK:=fun ds Φ=>∃ (c m:Int),ds = [.int c,.int m]∧0 ≤ m∧∀ z,-m ≤ z->z ≤ m->Φ (.int z)
theorem jod:jO jem:=fun ds Φ Ψ mo h0=>by
 obtain ⟨c,m,a,b,h⟩:=h0
 exact ⟨c,m,a,b,fun z h1 h2=>mo _ (h z h1 h2)⟩
def joT:S3 :=
 (jE (jb 2))
def jpF:S3 :=
 (jB (sIf (dT (jf (dI0 fun i j=>.bl (decide (j < i))) (jb 2) (jb 1)))
 (jE (jf zS (jb 2) (jf zA (jf zM (dC (.int 2)) (jb 1)) (dC (.int 1)))))
 ja2)
 joT)
abbrev jlj:S3 :=
 (jB (jz 2 (jf zR (jb 0) (jf zA (jf zM (dC (.int 2)) (jb 1)) (dC (.int 1)))))
 jpF)
theorem jqA:∀ (ds:List D) (Φ:D->Prop),ds.length = 2->jem ds Φ->jlj (jA Φ) (jv 3 ds):=by
 rintro ds Φ hl ⟨c,m,rfl,h0,h⟩
 have h1:=Int.emod_nonneg c (show 2 * m + 1 ≠ 0 by omega)
 have h2:=Int.emod_lt_of_pos c (show 0 < 2 * m + 1 by omega)
 have e:c.fmod (2 * m + 1) = c % (2 * m + 1):=juG (by omega)
 refine ⟨IntMulOk.of_left (by decide),(show 2 * m + 1 ≠ 0 by omega),tst (fun hc=>⟨IntMulOk.of_left (by decide),?_⟩) (fun hc=>?_)⟩
 ·have hc:m < c.fmod (2 * m + 1):=of_decide_eq_true hc
  exact h _ (show -m ≤ c.fmod (2 * m + 1) - (2 * m + 1) by omega) (show c.fmod (2 * m + 1) - (2 * m + 1) ≤ m by omega)
 ·have hc:¬ m < c.fmod (2 * m + 1):=of_decide_eq_false hc
  exact h _ (show -m ≤ c.fmod (2 * m + 1) by omega) (show c.fmod (2 * m + 1) ≤ m by omega)
theorem jq0 (T:Txt P w K mg t):FnOk P w K mg base jS 1 t.a_law_near t.d_law_near ["cell","most"] (j2 K 2 jem):=by
 have sc:=jjJ
 refine jM (k:=0) T.D_law_near.F jjJ (fun cdv A outer s H E hr=>⟨jlj,(jk (jo (i:=2) sc.nd rfl (jl rfl) (jh jb7 (ja (pv 0)) (jh jaa (jh jw jd (ja (pv 1))) jd)))
 (jk (jaK (jal jzl (ja (pv 2)) (ja (pv 1)) (j3 _))
 (jq (jr (jh jai (ja (pv 2)) (jh jaa (jh jw jd (ja (pv 1))) jd))))
 jau)
 (jq (jr (ja (pv 2)))))),jqA⟩)
def jp5 (s:St2) (n:Str) (v:Q4):St2:=(jbV s.1 n,upS s.2 n v)
def jlZ (s:St2) (n:Str):St2:=(jct s.1 n,s.2)
def jb4:jdy:=fun as W Φ=>∃ (cs:List Int) (r:Addr) (s:St2) (N:Nat),as = [.val (.lst (cs.map .int)),.raw (.ref r)]∧cs.length = 4∧hob r s ∈ W∧Gd N s∧N ≤ 1000 ∧
 (∀ n v,n ∈ nm3->v ≠ q0->(∀ i ∈ ql v,i.natAbs ≤ 10 ^ 9)->Φ (.str ("turn " ++ n ++ " " ++ jaf (ql v))) (ja7 W ((hob r s).put n (qd (jI v))))) ∧
 (∀ a,a ∈ s.1->Φ (.str ("drop " ++ a)) (ja7 W ((hob r s).drop a))) ∧
 (∀ n a,n ∈ nm3->a ∈ s.1->Φ (.str ("back " ++ n ++ " " ++ a)) (ja7 W ((hob r s).put n (qd (jI (jeM (s.2 a))))))) ∧
 (∀ n a,n ∈ s.1->a ∈ s.1->Bq 133 (s.2 n)->Bq 133 (s.2 a)->Φ (.str ("after " ++ n ++ " " ++ n ++ " " ++ a)) (ja7 W ((hob r s).put n (qd (jI (jbj (s.2 n) (s.2 a)))))))
theorem jiE:jej jb4:=fun as W Φ Ψ mo ⟨cs,r,s,N,h1,h2,h3,h4,h5,h6,h7,h8,h9⟩=>⟨cs,r,s,N,h1,h2,h3,h4,h5,fun n v a b c=>mo _ _ (h6 n v a b c),fun a b=>mo _ _ (h7 a b),fun n a b c=>mo _ _ (h8 n a b c),fun n a b c d e=>mo _ _ (h9 n a b c d e)⟩
theorem jwj (i:Int):∃ n ∈ nm3,atI (nm3.map D.str) (i.fmod 3) = some (.str n):=by
 have h0:=Int.fmod_nonneg_of_pos i (show (0:Int) < 3 by decide)
 have h1:=Int.fmod_lt_of_pos i (show (0:Int) < 3 by decide)
 obtain ⟨j,hj⟩:∃ j:Nat,i.fmod 3 = (j:Int):=⟨(i.fmod 3).toNat,by omega⟩
 have hl:j < nm3.length:=by show j < 3; omega
 refine ⟨nm3[j],List.getElem_mem hl,?_⟩
 rw [hj,jg1,List.getElem?_map,List.getElem?_eq_getElem hl]
 rfl
def je8:S4 :=
 (jah (jE (jf jaX (jf jaX (jf jaX (jf jaX (jf jaX (dC (.str "after ")) (jb 4)) (dC (.str " "))) (jb 4)) (dC (.str " "))) (jb 5))))
def jcU:S4 :=
 (jas (jgZ (jbS 1) (jb 4) (jlV 1 jbd (jgt (jlV 2 jdD (jgt (jhc (jbS 1) (jb 4)) (jgt (jhc (jbS 1) (jb 5)) jlY))) jlY)))
 je8)
def jfD:S4 :=
 (jas (wIf (joX (jcs (dT (jf dEq (jb 7) (dC (.int 2))))) (joX (jph (jb 4) (jbS 1) true) (mT (mOp (dI0 fun i j=>.bl (decide (j < i))) (mB jwx (jgt (jul 1 (iT4 (jo6 jjj (jhc (jbS 1) (jb 5)) (jhc (jbS 1) (jb 4)))) (gN 0) (jaG (dB jqa (je (jb 0) jm)))) jlY)) (jf (dI jpn fun i j=>.int (i ^ j.toNat)) (dC (.int 10)) (dC (.int 40)))))))
 (jas (jpd 8 (jhc (jbS 1) (jb 5)))
 (jas (jgZ (jbS 1) (jb 4) (jaG (jx 1 jbd (je (jaL (je (jf js (jb 8) (dC (.int 0))) (je (dU jck (jf js (jb 8) (dC (.int 1)))) (je (dU jck (jf js (jb 8) (dC (.int 2)))) (je (dU jck (jf js (jb 8) (dC (.int 3)))) jm))))) jm))))
 (jah (jE (jf jaX (jf jaX (jf jaX (dC (.str "back ")) (jb 4)) (dC (.str " "))) (jb 5))))))
 jfi)
 jcU)
def jdM:S4 :=
 (jas (wIf (jcs (dT (jf dEq (jb 7) (dC (.int 1)))))
 (jas (jsm (jvm (jbS 1) (jb 5)))
 (jah (jE (jf jaX (dC (.str "drop ")) (jb 5)))))
 jfi)
 jfD)
def jfR:S4 :=
 (jas (wIf (joX (jph (jb 5) (jbS 1) true) (jcs (dT (jf dEq (jb 7) (dC (.int 0))))))
 (jas (jgZ (jbS 1) (jb 4) (jaG (jx 1 jbd (je (jb 6) jm))))
 (jah (jE (jf jaX (jf jaX (jf jaX (dC (.str "turn ")) (jb 4)) (dC (.str " "))) (jx 1 jbP (je (jb 6) jm))))))
 jfi)
 jdM)
def jfU:S4 :=
 (jas (jah (jz 7 (jf zR (jf js (jb 0) (dC (.int 1))) (dC (.int 4)))))
 jfR)
def jfT:S4 :=
 (jas (jah (sIf (dT (jf jfA (jb 6) (jaL (je (dC (.int 0)) (je (dC (.int 0)) (je (dC (.int 0)) (je (dC (.int 0)) jm)))))))
 (jz 6 (jaL (je (dC (.int 0)) (je (dC (.int 1)) (je (dC (.int 0)) (je (dC (.int 0)) jm))))))
 ja2))
 jfU)
def jf5:S4 :=
 (jas (jah (jz 6 (dB jcT (je (dF (jbq 1 (iLT (jb 0)) (gN 0) (fun _ Φ=>Φ true) (jx 2 jem (je (jf zD (jb 0) (dC (.int 3))) (je (jf (dI jpn fun i j=>.int (i ^ j.toNat)) (dC (.int 10)) (dC (.int 9))) jm))))) jm))))
 jfT)
def jfM:S4 :=
 (jas (jah (jz 5 (jf js (jb 2) (jf zR (jf zD (jb 3) (dC (.int 6))) (dC (.int 3))))))
 jf5)
def jfV:S4 :=
 (jas (jah (jz 4 (jf js (jb 2) (jf zR (jf zD (jb 3) (dC (.int 2))) (dC (.int 3))))))
 jfM)
def jf2:S4 :=
 (jas (jah (jz 3 (jf js (jb 0) (dC (.int 0)))))
 jfV)
abbrev jns:S4 :=
 (jas (jah (jz 2 (dF (jpR (je (dC (.str "a")) (je (dC (.str "ab")) (je (dC (.str "turn")) jm)))))))
 jf2)
theorem jss:∀ (as:List Sl) (W:Wd) (Φ:D->Wd->Prop),as.length = 2->jb4 as W Φ->jns (jao Φ) (ja8 9 as) W:=by
 rintro as W Φ hl ⟨cs,r,s,N,rfl,h4,hu,hg,hN,hT,hD,hB,hA⟩
 obtain ⟨c0,c1,c2,c3,rfl⟩:∃ a b c d,cs = [a,b,c,d]:=by
  match cs,h4 with
  | [a,b,c,d],_=>exact ⟨a,b,c,d,rfl⟩
 have gt:∀ {x:Str},x ∈ s.1->jZ (hob r s).ks (hob r s).ds x = some (qd (s.2 x)):=fun hx=>jjr (g:=fun n=>qd (s.2 n)) hx
 have fits:∀ {n:Nat},n ≤ 1000->n ≤ sizeLine:=fun h=>Nat.le_trans h (by decide)
 have us:(hob r s).ks.length < sizeLine:=Nat.lt_of_le_of_lt (Nat.le_trans hg.l hN) (by decide)
 have n3:(3:Int) ≠ 0:=by decide
 have n4:(4:Int) ≠ 0:=by decide
 obtain ⟨n,hn,en⟩:=jwj (c0.fdiv 2)
 obtain ⟨a,ha3,ea⟩:=jwj (c0.fdiv 6)
 have ln:=jaz (jbO hn)
 have la:=jaz (jbO ha3)
 refine ⟨j8 3 rfl (by decide),jN rfl,?_⟩
 show jf2 (jao Φ) [.val (.lst [.int c0,.int c1,.int c2,.int c3]),.raw (.ref r),.val (.lst (nm3.map .str)),.un,.un,.un,.un,.un,.un] W
 unfold jf2
 refine ⟨jN rfl,?_⟩
 show jfV (jao Φ) [.val (.lst [.int c0,.int c1,.int c2,.int c3]),.raw (.ref r),.val (.lst (nm3.map .str)),.val (.int c0),.un,.un,.un,.un,.un] W
 unfold jfV
 refine ⟨jf6 (by decide),n3,jaC en ?_⟩
 refine ⟨jN rfl,?_⟩
 show jfM (jao Φ) [.val (.lst [.int c0,.int c1,.int c2,.int c3]),.raw (.ref r),.val (.lst (nm3.map .str)),.val (.int c0),.val (.str n),.un,.un,.un,.un] W
 unfold jfM
 refine ⟨jf6 (by decide),n3,jaC ea ?_⟩
 refine ⟨jN rfl,?_⟩
 show jf5 (jao Φ) [.val (.lst [.int c0,.int c1,.int c2,.int c3]),.raw (.ref r),.val (.lst (nm3.map .str)),.val (.int c0),.val (.str n),.val (.str a),.un,.un,.un] W
 have go:∀ v:Q4,v ≠ q0->(∀ i ∈ ql v,i.natAbs ≤ 10 ^ 9)->jfU (jao Φ) [.val (.lst [.int c0,.int c1,.int c2,.int c3]),.raw (.ref r),.val (.lst (nm3.map .str)),.val (.int c0),.val (.str n),.val (.str a),.val (qd v),.un,.un] W:=fun v v0 hv=>by
  unfold jfU
  refine ⟨n4,jN rfl,?_⟩
  show jfR (jao Φ) [.val (.lst [.int c0,.int c1,.int c2,.int c3]),.raw (.ref r),.val (.lst (nm3.map .str)),.val (.int c0),.val (.str n),.val (.str a),.val (qd v),.val (.int (c1.fmod 4)),.un] W
  generalize c1.fmod 4 = way
  have e60:(10:Nat) ^ 9 < 10 ^ 60:=by decide
  have e200:(10:Nat) ^ 9 < 2 ^ 30:=by decide
  have e19:(10:Nat) ^ 9 < 2 ^ 1900:=by decide +kernel
  have bv:Bq 30 v:=⟨Nat.lt_of_le_of_lt (hv _ (by simp [ql])) e200,Nat.lt_of_le_of_lt (hv _ (by simp [ql])) e200,Nat.lt_of_le_of_lt (hv _ (by simp [ql])) e200,Nat.lt_of_le_of_lt (hv _ (by simp [ql])) e200⟩
  have l2:(jaf (ql v)).length ≤ 62 * 4:=jku fun i hi=>Nat.lt_of_le_of_lt (hv i hi) e60
  have turn:(jas (jgZ (jbS 1) (jb 4) (jaG (jx 1 jbd (je (jb 6) jm))))
    (jah (jE (jf jaX (jf jaX (jf jaX (dC (.str "turn ")) (jb 4)) (dC (.str " "))) (jx 1 jbP (je (jb 6) jm)))))) (jon jdM (jao Φ)) [.val (.lst [.int c0,.int c1,.int c2,.int c3]),.raw (.ref r),.val (.lst (nm3.map .str)),.val (.int c0),.val (.str n),.val (.str a),.val (qd v),.val (.int way),.un] W:=by
   refine ⟨rfl,v,30,rfl,v0,by decide,bv,hob r s,hu,rfl,rfl,jso _,us,?_⟩
   refine ⟨fits (show 5 + n.length ≤ 1000 by omega),fits (show ("turn " ++ n).length + 1 ≤ 1000 by rw [j1]; show 5 + n.length + 1 ≤ 1000; omega),rfl,ql v,rfl,(show 4 ≤ 4 by decide),fun i hi=>Nat.lt_of_le_of_lt (hv i hi) e19,?_⟩
   exact ⟨fits (show ("turn " ++ n ++ " ").length + (jaf (ql v)).length ≤ 1000 by rw [j1,j1]; show 5 + n.length + 1 + _ ≤ 1000; omega),hT n v hn v0 hv⟩
  unfold jfR
  refine ⟨hob r s,hu,rfl,rfl,?_⟩
  refine tst (fun _=>turn) fun hin=>?_
  have ha:a ∈ s.1:=by
   by_cases z:a ∈ s.1
   ·exact z
   ·have hin:(true ^^ decide (a ∈ s.1)) = false:=hin
    rw [decide_eq_false z] at hin
    cases hin
  refine tst (fun _=>turn) fun _=>?_
  show jdM (jao Φ) [.val (.lst [.int c0,.int c1,.int c2,.int c3]),.raw (.ref r),.val (.lst (nm3.map .str)),.val (.int c0),.val (.str n),.val (.str a),.val (qd v),.val (.int way),.un] W
  unfold jdM
  refine tst (fun _=>⟨hob r s,hu,rfl,rfl,qd (s.2 a),gt ha,fits (show 5 + a.length ≤ 1000 by omega),hD a ha⟩) fun _=>?_
  show jfD (jao Φ) [.val (.lst [.int c0,.int c1,.int c2,.int c3]),.raw (.ref r),.val (.lst (nm3.map .str)),.val (.int c0),.val (.str n),.val (.str a),.val (qd v),.val (.int way),.un] W
  obtain ⟨_,fa,fab,_⟩:=hg.n a ha
  have back:(jas (jpd 8 (jhc (jbS 1) (jb 5)))
    (jas (jgZ (jbS 1) (jb 4) (jaG (jx 1 jbd (je (jaL (je (jf js (jb 8) (dC (.int 0))) (je (dU jck (jf js (jb 8) (dC (.int 1)))) (je (dU jck (jf js (jb 8) (dC (.int 2)))) (je (dU jck (jf js (jb 8) (dC (.int 3)))) jm))))) jm))))
    (jah (jE (jf jaX (jf jaX (jf jaX (dC (.str "back ")) (jb 4)) (dC (.str " "))) (jb 5)))))) (jon jcU (jao Φ)) [.val (.lst [.int c0,.int c1,.int c2,.int c3]),.raw (.ref r),.val (.lst (nm3.map .str)),.val (.int c0),.val (.str n),.val (.str a),.val (qd v),.val (.int way),.un] W:=by
   refine ⟨hob r s,hu,rfl,rfl,qd (s.2 a),gt ha,?_⟩
   refine ⟨j8 4 rfl (by decide),rfl,jeM (s.2 a),270,rfl,jmS fa,by decide,fab.bar,hob r s,hu,rfl,rfl,jso _,us,?_⟩
   exact ⟨fits (show 5 + n.length ≤ 1000 by omega),fits (show ("back " ++ n).length + 1 ≤ 1000 by rw [j1]; show 5 + n.length + 1 ≤ 1000; omega),fits (show ("back " ++ n ++ " ").length + a.length ≤ 1000 by rw [j1,j1]; show 5 + n.length + 1 + a.length ≤ 1000; omega),hB n a hn ha⟩
  unfold jfD
  refine tst (fun _=>back) fun _=>?_
  refine ⟨hob r s,hu,rfl,rfl,tst (fun _=>back) fun hin=>?_⟩
  have hnk:n ∈ s.1:=by
   by_cases z:n ∈ s.1
   ·exact z
   ·have hin:(true ^^ decide (n ∈ s.1)) = false:=hin
    rw [decide_eq_false z] at hin
    cases hin
  obtain ⟨_,fn,fnb,_⟩:=hg.n n hnk
  refine ⟨hob r s,hu,rfl,rfl,qd (s.2 a),gt ha,hob r s,hu,rfl,rfl,qd (s.2 n),gt hnk,j8 8 rfl (by decide),?_⟩
  refine jk0 (fun d=>match d with | .int i=>.int (i.natAbs:Int) | d=>d) (fun d=>jN rfl) ((ql (s.2 a) ++ ql (s.2 n)).map .int) _ (by simp [ql]) (fun d hd Ψ' pΨ=>?_) ?_
  ·obtain ⟨i,hi,rfl⟩:=List.mem_map.mp hd
   exact pΨ
  refine ⟨(ql (s.2 a) ++ ql (s.2 n)).map fun i=>(i.natAbs:Int),?_,(by simp [ql]),fun m hm1 hm2=>?_⟩
  ·rw [List.nil_append,List.map_map,List.map_map]; rfl
  refine ⟨jiG (by decide),tst (fun _=>back) fun hc=>?_⟩
  have hle:¬ (10 ^ 40:Int) < m:=of_decide_eq_false hc
  have e40:(10:Nat) ^ 40 < 2 ^ 133:=by decide
  have small:∀ x:Q4,(∀ i ∈ ql x,i ∈ ql (s.2 a) ++ ql (s.2 n))->Bq 133 x:=fun x hx=>by
   have b:∀ i ∈ ql x,Bd 133 i:=fun i hi=>by
    have:=hm2 _ (List.mem_map.mpr ⟨i,hx i hi,rfl⟩)
    exact Nat.lt_of_le_of_lt (show i.natAbs ≤ 10 ^ 40 by omega) e40
   exact ⟨b _ (by simp [ql]),b _ (by simp [ql]),b _ (by simp [ql]),b _ (by simp [ql])⟩
  have ba:=small (s.2 a) fun i hi=>List.mem_append_left _ hi
  have bn:=small (s.2 n) fun i hi=>List.mem_append_right _ hi
  show jcU (jao Φ) [.val (.lst [.int c0,.int c1,.int c2,.int c3]),.raw (.ref r),.val (.lst (nm3.map .str)),.val (.int c0),.val (.str n),.val (.str a),.val (qd v),.val (.int way),.un] W
  unfold jcU
  refine ⟨hob r s,hu,rfl,rfl,qd (s.2 n),gt hnk,hob r s,hu,rfl,rfl,qd (s.2 a),gt ha,rfl,s.2 n,s.2 a,133,rfl,by decide,bn,ba,?_⟩
  refine ⟨rfl,jbj (s.2 n) (s.2 a),269,rfl,jjo fn fa,by decide,bn.mul ba,hob r s,hu,rfl,rfl,jso _,us,?_⟩
  show je8 (jao Φ) [.val (.lst [.int c0,.int c1,.int c2,.int c3]),.raw (.ref r),.val (.lst (nm3.map .str)),.val (.int c0),.val (.str n),.val (.str a),.val (qd v),.val (.int way),.un] _
  unfold je8
  refine ⟨fits (show 6 + n.length ≤ 1000 by omega),fits (show ("after " ++ n).length + 1 ≤ 1000 by rw [j1]; show 6 + n.length + 1 ≤ 1000; omega),fits (show ("after " ++ n ++ " ").length + n.length ≤ 1000 by rw [j1,j1]; show 6 + n.length + 1 + n.length ≤ 1000; omega),
   fits (show ("after " ++ n ++ " " ++ n).length + 1 ≤ 1000 by rw [j1,j1,j1]; show 6 + n.length + 1 + n.length + 1 ≤ 1000; omega),fits (show ("after " ++ n ++ " " ++ n ++ " ").length + a.length ≤ 1000 by rw [j1,j1,j1,j1]; show 6 + n.length + 1 + n.length + 1 + a.length ≤ 1000; omega),?_⟩
  exact hA n a hnk ha bn ba
 unfold jf5
 refine ⟨jf6 (by decide),jiG (by decide),rfl,_,10 ^ 9,rfl,by decide,fun a a1 a2=>⟨jY 0 rfl (by decide),?_⟩⟩
 refine ⟨jf6 (by decide),jiG (by decide),rfl,_,10 ^ 9,rfl,by decide,fun b b1 b2=>⟨jY 1 rfl (by decide),?_⟩⟩
 refine ⟨jf6 (by decide),jiG (by decide),rfl,_,10 ^ 9,rfl,by decide,fun c c1 c2=>⟨jY 2 rfl (by decide),?_⟩⟩
 refine ⟨jf6 (by decide),jiG (by decide),rfl,_,10 ^ 9,rfl,by decide,fun e e1 e2=>⟨jY 3 rfl (by decide),?_⟩⟩
 refine ⟨jN rfl,?_⟩
 show jfT (jao Φ) [.val (.lst [.int c0,.int _,.int _,.int _]),.raw (.ref r),.val (.lst (nm3.map .str)),.val (.int c0),.val (.str n),.val (.str _),.val (qd ⟨a,b,c,e⟩),.un,.un] W
 unfold jfT
 refine ⟨j8 4 rfl (by decide),show (1:Nat) ≤ 100 by decide,?_⟩
 refine tst (fun hc=>?_) (fun hc=>?_)
 ·refine ⟨j8 4 rfl (by decide),jN rfl,?_⟩
  exact go ⟨0,1,0,0⟩ (by intro z; cases z) fun i hi=>by
   simp only [ql,List.mem_cons,List.not_mem_nil,or_false] at hi
   rcases hi with rfl | rfl | rfl | rfl <;> decide
 ·refine ⟨jN rfl,?_⟩
  refine go ⟨a,b,c,e⟩ (fun z=>?_) fun i hi=>?_
  ·cases z
   exact absurd hc (by decide)
  ·simp only [ql,List.mem_cons,List.not_mem_nil,or_false] at hi
   rcases hi with rfl | rfl | rfl | rfl <;> omega
theorem jsJ (T:Txt P w K mg t):FnOk P w K mg base jS 3 t.a_law_row t.d_law_row ["cells","held"] (spW K (zc t) 2 jb4):=by
 have sc:=jkV
 refine jiL (mo:=jiE) (k:=2) T.D_law_row.F jkV (fun cdv A outer s H E hr=>⟨jns,(jJ (jH (jo (i:=2) sc.nd rfl (jl rfl) (jaw (jlL (jc jV (jc jV (jc jV jg)))))))
 (jJ (jH (jo (i:=3) sc.nd rfl (jl rfl) (ji (ja (pv 0)) jd (fun _ _=>rfl))))
 (jJ (jH (jo (i:=4) sc.nd rfl (jl rfl) (ji (ja (pv 2)) (jh jb7 (jh jbA (ja (pv 3)) jd) jd) (fun _ _=>rfl))))
 (jJ (jH (jo (i:=5) sc.nd rfl (jl rfl) (ji (ja (pv 2)) (jh jb7 (jh jbA (ja (pv 3)) jd) jd) (fun _ _=>rfl))))
 (jJ (jH (jo (i:=6) sc.nd rfl (jl rfl) (jaJ jcO rfl T.z_tuple jbY (jc (jaw (jaQ (xs:=["one"]) (M:=["cells","held","names","cell","name","other","quad","way","old"]) (n:=1) (by rfl) rfl rfl (jaR (ja (pv 0))) (fun _ _ _ _=>(jam (i:=0) (by decide) (show List.Nodup (["one","cells","held","names","cell","name","other","quad","way","old"]:List Str) by decide +kernel) rfl (by first | exact Or.inl rfl | exact Or.inr rfl))) (fun _ _ _ _=>jaS) (fun _ _ _ _=>(jn (jq0 T) jod (hr.mono (by decide)) T.D_law_near (jc (jh jbA (ja (pv 0)) jd) (jc (jh jwi jd jd) jg)))))) jg))))
 (jJ (jH (jaK (jal (jey (hu3 hr)) (ja (pv 6)) (jaj (jc jd (jc jd (jc jd (jc jd jg))))) (j3 _))
 (jq (jo (i:=6) sc.nd rfl (jl rfl) (jaj (jc jd (jc jd (jc jd (jc jd jg)))))))
 jau))
 (jJ (jH (jo (i:=7) sc.nd rfl (jl rfl) (jh jb7 (ji (ja (pv 0)) jd (fun _ _=>rfl)) jd)))
 (jJ (jde (PWM.pmb (jld (jff (jbi hr) (ja (pv 5)) (jby (pv 1))) (jmi (jbs (jal jis (ja (pv 7)) jd (j3 _))))))
 (jJ (jeH (jbi hr) (jby (pv 1)) (ja (pv 4)) (jaE (jn (je5 T) jdk (hr.mono (by decide)) T.D_law_plain (jc (ja (pv 6)) jg))))
 (jad (jH (jr (jh jbo (jh jbo (jh jbo jV (ja (pv 4))) jV) (jn (ji4 T) jgl (hr.mono (by decide)) T.D_law_spelt (jc (ja (pv 6)) jg)))))))
 jdA)
 (jJ (jde (jbs (jal jis (ja (pv 7)) jd (j3 _)))
 (jJ (jko (jpG (jby (pv 1)) (ja (pv 5)) ⟨rfl,rfl,rfl,rfl⟩))
 (jad (jH (jr (jh jbo jV (ja (pv 5)))))))
 jdA)
 (jJ (jde (PWM.pmb (jld (jbs (jal jis (ja (pv 7)) jd (j3 _))) (jld (jff (jbi hr) (ja (pv 4)) (jby (pv 1))) (jmi (jrt jzl (juE (jyp rfl) rfl T.z_max juv (jeJ (jvn (xs:=["one"]) (M:=["cells","held","names","cell","name","other","quad","way","old"]) (n:=1) (by rfl) rfl rfl (jxK (jyR jil (jd2 (jbi hr) (jby (pv 1)) (ja (pv 5)) (fun _ _=>rfl)) (jd2 (jbi hr) (jby (pv 1)) (ja (pv 4)) (fun _ _=>rfl)))) (fun _ _ _ _=>(jam (i:=0) (by decide) (show List.Nodup (["one","cells","held","names","cell","name","other","quad","way","old"]:List Str) by decide +kernel) rfl (by first | exact Or.inl rfl | exact Or.inr rfl))) (fun _ _ _ _=>(jaE (jan js1 rfl T.z_abs joL (jc (ja (pv 0)) jg))))) jjq)) (jh jwi jd jd) (j3 _))))))
 (jJ (jnb (i:=8) sc.nd rfl (jl rfl) (jd2 (jbi hr) (jby (pv 1)) (ja (pv 5)) (fun _ _=>rfl)))
 (jJ (jeH (jbi hr) (jby (pv 1)) (ja (pv 4)) (jaE (jn (je5 T) jdk (hr.mono (by decide)) T.D_law_plain (jc (jaj (jc (ji (ja (pv 8)) jd (fun _ _=>rfl)) (jc (jbM (ji (ja (pv 8)) jd (fun _ _=>rfl))) (jc (jbM (ji (ja (pv 8)) jd (fun _ _=>rfl))) (jc (jbM (ji (ja (pv 8)) jd (fun _ _=>rfl))) jg))))) jg))))
 (jad (jH (jr (jh jbo (jh jbo (jh jbo jV (ja (pv 4))) jV) (ja (pv 5))))))))
 jdA)
 (jJ (jeH (jbi hr) (jby (pv 1)) (ja (pv 4)) (jkA (je5 T) jdk (hr.mono (by decide)) rfl T.D_law_plain.m T.D_law_plain.F.kp T.D_law_plain.b (jeJ (jkA (jqo T) jmW (hr.mono (by decide)) rfl T.D_law_times.m T.D_law_times.F.kp T.D_law_times.b (jeJ (jd2 (jbi hr) (jby (pv 1)) (ja (pv 4)) (fun _ _=>rfl)) (jeJ (jd2 (jbi hr) (jby (pv 1)) (ja (pv 5)) (fun _ _=>rfl)) jjq))) jjq)))
 (jad (jH (jr (jh jbo (jh jbo (jh jbo (jh jbo (jh jbo jV (ja (pv 4))) jV) (ja (pv 4))) jV) (ja (pv 5))))))))))))))))),jss⟩)
def jcA:jK:=fun ds Φ=>∃ (ns:List Int) (k:Nat),ds = [.lst (ns.map .int),.int k]∧Φ (.int (ns.getD k 0))
theorem jkI:jO jcA:=fun ds Φ Ψ m h0=>by
 obtain ⟨ns,k,a,h⟩:=h0
 exact ⟨ns,k,a,m _ h⟩
def jl2:S3 :=
 (jE (dC (.int 0)))
abbrev jhZ:S3 :=
 (jB (sIf (dT (jf (dI0 fun i j=>.bl (decide (i < j))) (jb 1) (dB jf3 (je (jb 0) jm))))
 (jE (jf js (jb 0) (jb 1)))
 ja2)
 jl2)
theorem jm8:∀ (ds:List D) (Φ:D->Prop),ds.length = 2->jcA ds Φ->jhZ (jA Φ) (jv 2 ds):=by
 rintro ds Φ hl ⟨ns,k,rfl,h⟩
 rw [List.getD_eq_getElem?_getD] at h
 refine tst (fun hc=>?_) (fun hc=>?_)
 ·have hk:k < ns.length:=by
   have:=of_decide_eq_true hc
   rw [List.length_map] at this
   omega
  rw [List.getElem?_eq_getElem hk] at h
  refine jaC (d:=D.int ns[k]) ?_ ?_
  ·rw [jg1,List.getElem?_map,List.getElem?_eq_getElem hk]; rfl
  ·exact h
 ·have hk:¬ k < ns.length:=by
   have:=of_decide_eq_false hc
   rw [List.length_map] at this
   omega
  rw [List.getElem?_eq_none (by omega)] at h
  exact h
theorem jl8 (T:Txt P w K mg t):FnOk P w K mg base jS 1 t.a_law_cell_at t.d_law_cell_at ["script","k"] (j2 K 2 jcA):=by
 have sc:=jgE
 refine jM (k:=0) T.D_law_cell_at.F jgE (fun cdv A outer s H E hr=>⟨jhZ,(jk (jaK (jal jvE (ja (pv 1)) (jan jes rfl T.z_len jbZ (jc (ja (pv 0)) jg)) (j3 _))
 (jq (jr (ji (ja (pv 0)) (ja (pv 1)) (fun _ _=>rfl))))
 jau)
 (jq (jr jd))),jm8⟩)
abbrev jwK:jK:=joK
theorem jmx {r:Addr} {s:St2} {n:Str} {v:Q4}:(hob r s).put n (qd v) = hob r (jp5 s n v):=by
 unfold hob Ob.put jp5
 simp only
 rw [jrF,jt6 (fun v=>qd v)]
theorem jmE {q p:Addr} {s:St2} {n:Str} {v:Q4}:(dob q p s).put n (tb (jD v)) = dob q p (jp5 s n v):=by
 unfold dob Ob.put jp5
 simp only
 rw [jrF,jt6 (fun v=>tb (jD v))]
theorem jkn {g:Str->D} {x:Str}:∀ ns:List Str,jaZ ns (ns.map g) x = (jct ns x).map g
 | []=>rfl
 | n :: ns=>by
  have ih:=jkn (g:=g) (x:=x) ns
  unfold jct at ih ⊢
  rw [List.map_cons,List.filter_cons]
  unfold jaZ
  by_cases e:n = x
  ·subst e
   simp only [if_true,ne_eq,not_true_eq_false,decide_false,Bool.false_eq_true,if_false]
   exact ih
  ·simp only [e,if_false,ne_eq,not_false_eq_true,decide_true,if_true,List.map_cons,ih]
theorem jvL {r:Addr} {s:St2} {n:Str}:(hob r s).drop n = hob r (jlZ s n):=by
 unfold hob Ob.drop jlZ
 simp only
 rw [jkn]
theorem juP {q p:Addr} {s:St2} {n:Str}:(dob q p s).drop n = dob q p (jlZ s n):=by
 unfold dob Ob.drop jlZ
 simp only
 rw [jkn]
theorem jp1 {N:Nat} {s:St2} {n:Str} {v:Q4} (h:Gd N s) (hn:n ∈ nm3) (v0:v ≠ q0) (bv:Bq 270 v) (pv:jI v = v):Gd (N + 1) (jp5 s n v):=by
 refine ⟨?_,fun m hm=>?_⟩
 ·show (jbV s.1 n).length ≤ N + 1
  unfold jbV
  split
  ·exact Nat.le_succ_of_le h.l
  ·rw [List.length_append]; show s.1.length + 1 ≤ N + 1; have:=h.l; omega
 ·have hm:m ∈ jbV s.1 n:=hm
  show m ∈ nm3∧upS s.2 n v m ≠ q0∧Bq 270 (upS s.2 n v m)∧jI (upS s.2 n v m) = upS s.2 n v m
  unfold upS
  by_cases e:m = n
  ·rw [if_pos e]; exact ⟨e ▸ hn,v0,bv,pv⟩
  ·rw [if_neg e]
   unfold jbV at hm
   split at hm
   ·exact h.n m hm
   ·rcases List.mem_append.mp hm with z | z
    ·exact h.n m z
    ·exact absurd (List.mem_singleton.mp z) e
theorem jwR {N:Nat} {s:St2} {n:Str} (h:Gd N s):Gd (N + 1) (jlZ s n):=by
 refine ⟨Nat.le_trans (List.length_filter_le _ _) (Nat.le_succ_of_le h.l),fun m hm=>?_⟩
 have hm:m ∈ jct s.1 n:=hm
 unfold jct at hm
 exact h.n m (List.mem_filter.mp hm).1
theorem jwH {N:Nat} {s:St2} (h:Gd N s):Gd (N + 1) s:=⟨Nat.le_succ_of_le h.l,h.n⟩
theorem jfJ {v:Q4} (h:v ≠ q0):jI (jI v) = jI v:=by
 have e:qsc 1 (jI v) = jI v:=by unfold qsc; simp only [Int.one_mul]
 conv=>lhs; rw [← e]
 exact jiI (by decide) (jca h)
theorem jrs {W:Wd} {q p r:Addr} {s:St2} {N:Nat} {cs:List Int} {Φ:D->Wd->Prop} (hne:p ≠ q) (hqr:q ≠ r) (hu:hob r s ∈ W) (ho:dob q p s ∈ W) (hg:Gd N s) (hN:N ≤ 900) (hc:cs.length = 4) (h:∀ s',Gd (N + 1) s'->Φ (.str "ok") (ja7 (ja7 W (hob r s')) (dob q p s'))) :
  jb4 [.val (.lst (cs.map .int)),.raw (.ref r)] W fun d W'=>2 = 2∧jcC [.raw (.ref p),.val d] W' Φ:=by
 have ho':∀ s',dob q p s ∈ ja7 W (hob r s'):=fun s'=>List.mem_map.mpr ⟨dob q p s,ho,if_neg fun z=>hqr z⟩
 have sz:(dob q p s).ks.length < sizeLine:=Nat.lt_of_le_of_lt (Nat.le_trans hg.l hN) (by decide)
 have gt:∀ {x:Str},x ∈ s.1->jZ (dob q p s).ks (dob q p s).ds x = some (tb (jD (s.2 x))):=fun hx=>jjr (g:=fun n=>tb (jD (s.2 n))) hx
 have e60:(10:Nat) ^ 9 < 10 ^ 60:=by decide
 have e200:(10:Nat) ^ 9 < 2 ^ 270:=by decide
 refine ⟨cs,r,s,N,rfl,hc,hu,hg,by omega,fun n v hn v0 hv=>⟨rfl,?_⟩,fun a ha=>⟨rfl,?_⟩,fun n a hn ha=>⟨rfl,?_⟩,fun n a hn ha bn ba=>⟨rfl,?_⟩⟩
 ·have bv:Bq 270 v:=⟨Nat.lt_of_le_of_lt (hv _ (by simp [ql])) e200,Nat.lt_of_le_of_lt (hv _ (by simp [ql])) e200,Nat.lt_of_le_of_lt (hv _ (by simp [ql])) e200,Nat.lt_of_le_of_lt (hv _ (by simp [ql])) e200⟩
  rw [jmx]
  refine juQ (ho' _) hne (jbO hn) v0 (fun i hi=>Nat.lt_of_le_of_lt (hv i hi) e60) sz ?_
  rw [← joD v0,jmE]
  exact h _ (jp1 hg hn (jpq v0) (jdx bv v0) (jfJ v0))
 ·rw [jvL]
  refine ju3 (ho' _) hne (jbO (hg.n a ha).1) (gt ha) ?_
  rw [juP]
  exact h _ (jwR hg)
 ·obtain ⟨na,f0,fb,_⟩:=hg.n a ha
  have m0:=jmS f0
  rw [jmx]
  refine jvk (ho' _) hne (jbO hn) (jbO na) (gt ha) sz ?_
  rw [jo4,← joD m0,jmE]
  exact h _ (jp1 hg hn (jpq m0) (jdx fb.bar m0) (jfJ m0))
 ·obtain ⟨na,f0,_,_⟩:=hg.n a ha
  obtain ⟨nn,g0,_,_⟩:=hg.n n hn
  have m0:=jjo g0 f0
  rw [jmx]
  refine jtc (ho' _) hne (jbO nn) (jbO nn) (jbO na) (gt hn) (gt ha) g0 f0 (by decide) bn ba sz ?_
  rw [← joD m0,jmE]
  exact h _ (jp1 hg nn (jpq m0) ((jdx (bn.mul ba) m0).mono (by decide)) (jfJ m0))
def W4 (r1 r2 q1 p1 q2 p2:Addr) (s1 s2:St2):Wd:=[hob r2 s2,hob r1 s1,dob q2 p2 s2,dob q1 p1 s1]
structure juL (r1 r2 q1 q2:Addr):Prop where
 a:r1 ≠ r2
 b:q1 ≠ q2
 c:q1 ≠ r1
 d:q1 ≠ r2
 e:q2 ≠ r1
 f:q2 ≠ r2
section
variable {r1 r2 q1 p1 q2 p2:Addr} {s1 s2 s':St2}
theorem jAK (h:juL r1 r2 q1 q2):ja7 (ja7 (W4 r1 r2 q1 p1 q2 p2 s1 s2) (hob r1 s')) (dob q1 p1 s') = W4 r1 r2 q1 p1 q2 p2 s' s2:=by
 have x1:=h.a; have x2:=h.b; have x3:=h.c; have x4:=h.d; have x5:=h.e; have x6:=h.f
 simp [ja7,W4,hob,dob,x1,x2,x3,x4,x5,x6,x1.symm,x2.symm,x3.symm,x4.symm,x5.symm,x6.symm]
theorem jAI (h:juL r1 r2 q1 q2):ja7 (ja7 (W4 r1 r2 q1 p1 q2 p2 s1 s2) (hob r2 s')) (dob q2 p2 s') = W4 r1 r2 q1 p1 q2 p2 s1 s':=by
 have x1:=h.a; have x2:=h.b; have x3:=h.c; have x4:=h.d; have x5:=h.e; have x6:=h.f
 simp [ja7,W4,hob,dob,x1,x2,x3,x4,x5,x6,x1.symm,x2.symm,x3.symm,x4.symm,x5.symm,x6.symm]
theorem jsR:hob r2 s2 ∈ W4 r1 r2 q1 p1 q2 p2 s1 s2:=List.mem_cons_self
theorem jsH:hob r1 s1 ∈ W4 r1 r2 q1 p1 q2 p2 s1 s2:=List.mem_cons_of_mem _ List.mem_cons_self
theorem joo:dob q2 p2 s2 ∈ W4 r1 r2 q1 p1 q2 p2 s1 s2:=List.mem_cons_of_mem _ (List.mem_cons_of_mem _ List.mem_cons_self)
theorem jot:dob q1 p1 s1 ∈ W4 r1 r2 q1 p1 q2 p2 s1 s2:=List.mem_cons_of_mem _ (List.mem_cons_of_mem _ (List.mem_cons_of_mem _ List.mem_cons_self))
end
theorem jAS (ms:List Int) {i:Nat} (h:i + 4 ≤ ms.length):∃ cs:List Int,cs.length = 4∧D3.jhA (ms.map D.int) (some (i:Int)) (some ((i:Int) + 4)) = cs.map D.int:=by
 have e:(i:Int) + 4 = ((i + 4:Nat):Int):=by omega
 rw [e,jv3]
 refine ⟨_,?_,rfl⟩
 unfold D3.jhA
 rw [jwk,jwk,List.length_take,List.length_drop]
 omega
theorem jxv (d:List V):ndS (.row d) = true:=rfl
def jdd:S4 :=
 (wIf (jsd (jcs (dT (jf dEq (jf zR (jx 2 jcA (je (jb 0) (je (dC (.int 3)) jm))) (dC (.int 3))) (dC (.int 1))))) (jwn (mT (jix 2 jbB (jiz (vIx 1 (jf zS (dC (.int 1)) (jb 4))) (jiz (vIx 2 (jf zS (dC (.int 1)) (jb 4))) jbK))))))
 (jah (jE (dC (.bl false))))
 jfi)
def jew:S4 :=
 (jas (wIf (mT (mOp jvB (jt7 (vIx 1 (jb 4)) 2 jcC (jbn (jix 2 jb4 (jbn (jaG (dF (fSl (jb 0) (jou (jb 3)) (jou (jf zA (jb 3) (dC (.int 4))))))) (jiz (vIx 2 (jb 4)) jbK))) jbK)) (dC (.str "ok"))))
 (jah (jE (dC (.bl false))))
 jfi)
 jdd)
abbrev joE:S4 :=
 (jas (jah (jz 4 (jf zR (jf js (jb 0) (jb 3)) (dC (.int 2)))))
 jew)
def jjB:S4 :=
 (jsv (jyF (jix 2 jbB (jiz (vIx 1 (dC (.int 0))) (jiz (vIx 2 (dC (.int 0))) jbK))) (jix 2 jbB (jiz (vIx 1 (dC (.int 1))) (jiz (vIx 2 (dC (.int 1))) jbK)))))
def jmF:S4 :=
 (jas (jvb (iR3 (je (dC (.int 0)) (je (jf zS (dB jx4 (je (dB jf3 (je (jb 0) jm)) (je (dC (.int 60)) jm))) (dC (.int 3))) (je (dC (.int 4)) jm)))) (gN 3)
 joE)
 jjB)
def jm7:S4 :=
 (jr0 (fun p q=>p = q) 2
 jmF)
abbrev jwD:S4 :=
 (jr0 (fun p q=>p ≠ q) 1
 jm7)
theorem jzy:∀ (ds:List D) (Φ:D->Prop),ds.length = 1->jwK ds Φ->jwD (jkw Φ) (jv 5 ds) []:=by
 rintro ds Φ hl ⟨ns,rfl,h63,h⟩
 intro p1 q1 p2 q2 n1 n2 _ hq
 show jm7 (jbr (jbr (rtF (jkw Φ)))) [.val (.lst (ns.map .int)),.row [.ref p1,.ref p2],.un,.un,.un] [⟨q2,p2,[],[]⟩,⟨q1,p1,[],[]⟩]
 unfold jm7
 intro r1 r1' r2 r2' e1 e2 hr1 hr2
 subst e1 e2
 have dis:juL r1 r2 q1 q2:=by
  simp only [List.map_cons,List.map_nil,List.mem_cons,List.not_mem_nil,or_false,not_or] at hq hr1 hr2
  exact ⟨fun z=>hr2.1 z.symm,fun z=>hq z.symm,fun z=>hr1.2 z.symm,fun z=>hr2.2.2 z.symm,fun z=>hr1.1 z.symm,fun z=>hr2.2.1 z.symm⟩
 show jmF (jbr (jbr (rtF (jbr (jbr (rtF (jkw Φ))))))) [.val (.lst (ns.map .int)),.row [.ref p1,.ref p2],.row [.ref r1,.ref r2],.un,.un] (W4 r1 r2 q1 p1 q2 p2 ([],fun _=>q0) ([],fun _=>q0))
 have fin:∀ s1 s2,(jbr (jbr (rtF (jbr (jbr (rtF (jkw Φ))))))) (.rt (.bl true) (W4 r1 r2 q1 p1 q2 p2 s1 s2)):=fun s1 s2=>⟨_,_,rfl,_,_,rfl,_,_,rfl,_,_,rfl,h⟩
 generalize (jbr (jbr (rtF (jbr (jbr (rtF (jkw Φ))))))) = Θ at fin ⊢
 unfold jmF
 have hm:∀ z:Int,z = (if (60:Int) < ((ns.map D.int).length:Int) then (60:Int) else ((ns.map D.int).length:Int))->0 ≤ z∧z ≤ 60∧z ≤ ns.length:=by
  intro z hz; rw [List.length_map] at hz; split at hz <;> omega
 show (0 < (4:Int)∧(4:Int) < 1073741824∧Builtin.Range.small (0:Int) ((if (60:Int) < ((ns.map D.int).length:Int) then (60:Int) else ((ns.map D.int).length:Int)) - 3) 4 = true)∧jm1 (gN 3) joE (jkG 0 4 (rsz 0 ((if (60:Int) < ((ns.map D.int).length:Int) then (60:Int) else ((ns.map D.int).length:Int)) - 3) 4)) (jon jjB Θ) _ _
 generalize hz:(if (60:Int) < ((ns.map D.int).length:Int) then (60:Int) else ((ns.map D.int).length:Int)) = z
 obtain ⟨z0,z1,z2⟩:=hm z hz.symm
 refine ⟨⟨by decide,by decide,jxt (by decide) (by decide) (by decide) (by decide) (by omega) (by omega)⟩,?_⟩
 have hr:rsz 0 (z - 3) 4 ≤ 15:=by rw [jrC (by decide)]; split <;> omega
 have g0:Gd 0 ([],fun _=>q0):=⟨Nat.le_refl _,fun n hn=>by cases hn⟩
 refine jmm (fun i ρ W=>∃ (s1 s2:St2) (x3 x4:Sl),W = W4 r1 r2 q1 p1 q2 p2 s1 s2∧Gd i s1∧Gd i s2∧(ndS x3 && ndS x4) = true∧ρ = [.val (.lst (ns.map .int)),.row [.ref p1,.ref p2],.row [.ref r1,.ref r2],x3,x4]) _ 0 _ _ ⟨_,_,.un,.un,rfl,g0,g0,rfl,rfl⟩ ?_ ?_
 ·rintro j d ρ W ed ⟨s1,s2,x3,x4,rfl,g1,g2,hnd,rfl⟩ Ψ hΨ
  rw [Nat.zero_add] at g1 g2 hΨ
  have hj:j ≤ 900:=by
   have:=(List.getElem?_eq_some_iff.mp ed).1
   rw [jdF] at this
   omega
  obtain ⟨i,hi,rfl⟩:=juT (List.mem_of_getElem? ed)
  have hi4:i * 4 + 4 ≤ ns.length:=by
   rw [jrC (by decide)] at hi
   split at hi <;> omega
  have ei:(0:Int) + (i:Int) * 4 = ((i * 4:Nat):Int):=by omega
  rw [ei]
  simp only [Bool.and_eq_true] at hnd
  refine ⟨jN (by simp only [List.set_cons_zero,List.set_cons_succ,List.all_cons,List.all_nil,jmL,jxv,hnd,Bool.and_self]),?_⟩
  have hk:i * 4 < ns.length:=by omega
  have n2':(2:Int) ≠ 0:=by decide
  have n3:(3:Int) ≠ 0:=by decide
  show onS (atI (ns.map D.int) ((i * 4:Nat):Int)) _
  refine jaC (d:=D.int ns[i * 4]) (by rw [jg1,List.getElem?_map,List.getElem?_eq_getElem hk]; rfl) ?_
  refine ⟨n2',jN rfl,?_⟩
  show jew Ψ [.val (.lst (ns.map .int)),.row [.ref p1,.ref p2],.row [.ref r1,.ref r2],.val (.int ((i * 4:Nat):Int)),.val (.int (ns[i * 4].fmod 2))] (W4 r1 r2 q1 p1 q2 p2 s1 s2)
  obtain ⟨cs,hc4,ec⟩:=jAS ns hi4
  have f0:=Int.fmod_nonneg_of_pos (ns[i * 4]) (show (0:Int) < 2 by decide)
  have f1:=Int.fmod_lt_of_pos (ns[i * 4]) (show (0:Int) < 2 by decide)
  have hw:(ns[i * 4]).fmod 2 = 0 ∨ (ns[i * 4]).fmod 2 = 1:=by omega
  rcases hw with e | e
  ·rw [e]
   have tail:∀ s1 s2,Gd (j + 1) s1->Gd (j + 1) s2->jdd Ψ [.val (.lst (ns.map .int)),.row [.ref p1,.ref p2],.row [.ref r1,.ref r2],.val (.int ((i * 4:Nat):Int)),.val (.int 0)] (W4 r1 r2 q1 p1 q2 p2 s1 s2):=fun s1 s2 g1 g2=>by
    unfold jdd
    have done:Ψ (.nx [.val (.lst (ns.map .int)),.row [.ref p1,.ref p2],.row [.ref r1,.ref r2],.val (.int ((i * 4:Nat):Int)),.val (.int 0)] (W4 r1 r2 q1 p1 q2 p2 s1 s2)):=hΨ _ _ ⟨_,_,_,_,rfl,g1,g2,rfl,rfl⟩
    refine ⟨rfl,ns,3,rfl,n3,tst (fun _=>?_) fun _=>tF rfl done⟩
    exact ⟨rfl,q2,p2,r2,s2,j + 1,rfl,n2,jsR,joo,g2,tF rfl done⟩
   unfold jew
   refine ⟨⟨dob q1 p1 s1,jot,rfl,n1⟩,?_⟩
   show _∧jb4 [.val (.lst (D3.jhA (ns.map D.int) (some ((i * 4:Nat):Int)) (some (((i * 4:Nat):Int) + 4)))),.raw (.ref r1)] (W4 r1 r2 q1 p1 q2 p2 s1 s2) _
   rw [ec]
   refine ⟨rfl,jrs n1 dis.c jsH jot g1 hj hc4 fun s' g'=>?_⟩
   rw [jAK dis]
   refine ⟨jgQ,tF (by decide +kernel) ?_⟩
   exact tail s' s2 g' (jwH g2)
  ·rw [e]
   have tail:∀ s1 s2,Gd (j + 1) s1->Gd (j + 1) s2->jdd Ψ [.val (.lst (ns.map .int)),.row [.ref p1,.ref p2],.row [.ref r1,.ref r2],.val (.int ((i * 4:Nat):Int)),.val (.int 1)] (W4 r1 r2 q1 p1 q2 p2 s1 s2):=fun s1 s2 g1 g2=>by
    unfold jdd
    have done:Ψ (.nx [.val (.lst (ns.map .int)),.row [.ref p1,.ref p2],.row [.ref r1,.ref r2],.val (.int ((i * 4:Nat):Int)),.val (.int 1)] (W4 r1 r2 q1 p1 q2 p2 s1 s2)):=hΨ _ _ ⟨_,_,_,_,rfl,g1,g2,rfl,rfl⟩
    refine ⟨rfl,ns,3,rfl,n3,tst (fun _=>?_) fun _=>tF rfl done⟩
    exact ⟨rfl,q1,p1,r1,s1,j + 1,rfl,n1,jsH,jot,g1,tF rfl done⟩
   unfold jew
   refine ⟨⟨dob q2 p2 s2,joo,rfl,n2⟩,?_⟩
   show _∧jb4 [.val (.lst (D3.jhA (ns.map D.int) (some ((i * 4:Nat):Int)) (some (((i * 4:Nat):Int) + 4)))),.raw (.ref r2)] (W4 r1 r2 q1 p1 q2 p2 s1 s2) _
   rw [ec]
   refine ⟨rfl,jrs n2 dis.f jsR joo g2 hj hc4 fun s' g'=>?_⟩
   rw [jAI dis]
   refine ⟨jgQ,tF (by decide +kernel) ?_⟩
   exact tail s1 s' (jwH g1) g'
 ·rintro ρ W ⟨s1,s2,x3,x4,rfl,g1,g2,hnd,rfl⟩
  show jjB Θ [.val (.lst (ns.map .int)),.row [.ref p1,.ref p2],.row [.ref r1,.ref r2],x3,x4] (W4 r1 r2 q1 p1 q2 p2 s1 s2)
  unfold jjB
  exact ⟨rfl,q1,p1,r1,s1,_,rfl,n1,jsH,jot,g1,tT rfl ⟨rfl,q2,p2,r2,s2,_,rfl,n2,jsR,joo,g2,fin s1 s2⟩⟩
theorem jzj (T:Txt P w K mg t):FnOk P w K mg base jS 10 t.a_law t.d_law ["script"] (j2 K 1 jwK):=by
 have sc:=juw
 refine jyE (Z:=zc t) (k:=9) T.D_law.F juw (fun cdv A outer s H E hr=>⟨jwD,(joW (i:=1) sc.nd rfl (jl rfl) (jrT (jqg T.mkc (jrg T) (hr.mono (by decide)) rfl T.m_Desk T.D_init.b .nil jc5)) (jrT (jqg T.mkc (jrg T) (hr.mono (by decide)) rfl T.m_Desk T.D_init.b .nil jc5))
 (joW (i:=2) sc.nd rfl (jl rfl) jrN jrN
 (jJ (jrD PassesOwn.never rfl (jsA rfl T.z_range (jc jd (jc (jh jai (jan (jzW rfl) rfl T.z_min jyJ (jc (jan jes rfl T.z_len jbZ (jc (ja (pv 0)) jg)) (jc jd jg))) jd) (jc jd jg)))) (jaW (i:=3) sc.nd rfl (jl rfl))
 (jJ (jH (jo (i:=4) sc.nd rfl (jl rfl) (jh jb7 (ji (ja (pv 0)) (ja (pv 3)) (fun _ _=>rfl)) jd)))
 (jJ (jde (jrt (jv8 (hu3 hr)) (jvY (ps:=["self","row"]) rfl jkz (jfx (pv 1) (ja (pv 4)) (fun _ _=>rfl)) (jbm (jho (jsJ T) jiE (hr.mono (by decide)) rfl T.D_law_row.m T.D_law_row.F.kp T.D_law_row.b (jbm (jaE (jaw (jvd (ja (pv 0)) (jkN (ja (pv 3))) (jkN (jh jaa (ja (pv 3)) jd))))) (jeK (jfx (pv 2) (ja (pv 4)) (fun _ _=>rfl)) jbl))) jbl) (fun _ _ ho h=>jgK ho T.cl T.D_say.h (jtm T) (hr.mono (by decide)) T.D_say.b .nil jc5 h)) jV (j3 _))
 (jad (jH (jr jhj)))
 jdA)
 (jad (jde (PWM.pmb (jrp (jbs (jal jis (jh jb7 (jn (jl8 T) jkI (hr.mono (by decide)) T.D_law_cell_at (jc (ja (pv 0)) (jc jd jg))) jd) jd (j3 _))) (jqu (jxo (jxc (jho (jeb T) jbT (hr.mono (by decide)) rfl T.D_law_looked.m T.D_law_looked.F.kp T.D_law_looked.b (jeK (jfx (pv 1) (jh jai jd (ja (pv 4))) (fun _ _=>rfl)) (jeK (jfx (pv 2) (jh jai jd (ja (pv 4))) (fun _ _=>rfl)) jbl))))))))
 (jad (jH (jr jhj)))
 jdA)))))
 (jad (jjw (jzC (jho (jeb T) jbT (hr.mono (by decide)) rfl T.D_law_looked.m T.D_law_looked.F.kp T.D_law_looked.b (jeK (jfx (pv 1) jd (fun _ _=>rfl)) (jeK (jfx (pv 2) jd (fun _ _=>rfl)) jbl))) (jzn (jho (jeb T) jbT (hr.mono (by decide)) rfl T.D_law_looked.m T.D_law_looked.F.kp T.D_law_looked.b (jeK (jfx (pv 1) jd (fun _ _=>rfl)) (jeK (jfx (pv 2) jd (fun _ _=>rfl)) jbl)))))))))),jzy⟩)
theorem jzp {l:PySem.W.OpenLaw} {fa:Addr} (hfa:mg "law" = some (.ref fa)) (T:Txt l.prog w K mg t):∃ fd:FuncData,(∀ (s:Shared) (v:Value),BindsTo s fd ⟨[v],[]⟩ [("script",v)])∧∀ base:Heap,K.In base->base.Ns mainGlobals mg->FnOk l.prog w K mg base jS 10 fa fd ["script"] (j2 K 1 joK):=by
 have e:=hfa.symm.trans T.D_law.m
 cases e
 refine ⟨_,fun s v=>?_,fun base _ _=>jzj T⟩
 obtain ⟨oc,od,kV,doc,pm,an,cdv,ct,osl,e,lk,hcd⟩:=T.D_law.F.ex
 rw [e]; exact .of_eq rfl
theorem jub {f:Addr} {od:Option Addr} {n:Nat} {sl:Array (Option Value)} {t0 t1 t2 t3 t4:Tok} (l:K.lookup f = some ⟨.type "tuple",od,.seq #[.int 2 t0,.int 3 t1,.int 4 t2,.int 6 t3,.int 1 t4] n,sl⟩):jea K jhn (.ref f) (.ref f):=jxr (ns:=[2,3,4,6,1]) l (show 5 ≤ sizeLine by decide) (jeR (jeR (jeR (jeR (jeR ja5)))))
theorem jty {a f0 f1 f2:Addr} {n:Nat} {t0 t1 t2:Tok} (hl:K.lookup a = some ⟨.type "dict",none,.dict (jhw w [("turn",t0,.ref f0),("after",t1,.ref f1),("back",t2,.ref f2)]).toArray n,#[]⟩) (hs:(a == sysModules) = false):CDct P w K a ks_MAKERS [.ref f0,.ref f1,.ref f2]:=jmC [("turn",t0,.ref f0),("after",t1,.ref f1),("back",t2,.ref f2)] hl hs (show ks_MAKERS.Nodup by decide +kernel)
theorem jw4 {a f0 f1 f2 f3 f4 f5 f6 f7 f8 f9 f10:Addr} {n:Nat} {t0 t1 t2 t3 t4 t5 t6 t7 t8 t9 t10:Tok} (hl:K.lookup a = some ⟨.type "dict",none,.dict (jhw w [("turn",t0,.ref f0),("after",t1,.ref f1),("back",t2,.ref f2),("drop",t3,.ref f3),("quad",t4,.ref f4),("bottom",t5,.ref f5),("stair",t6,.ref f6),("move",t7,.ref f7),("shared",t8,.ref f8),("same",t9,.ref f9),("order",t10,.ref f10)]).toArray n,#[]⟩) (hs:(a == sysModules) = false):CDct P w K a ks_ROWS [.ref f0,.ref f1,.ref f2,.ref f3,.ref f4,.ref f5,.ref f6,.ref f7,.ref f8,.ref f9,.ref f10]:=jmC [("turn",t0,.ref f0),("after",t1,.ref f1),("back",t2,.ref f2),("drop",t3,.ref f3),("quad",t4,.ref f4),("bottom",t5,.ref f5),("stair",t6,.ref f6),("move",t7,.ref f7),("shared",t8,.ref f8),("same",t9,.ref f9),("order",t10,.ref f10)] hl hs (show ks_ROWS.Nodup by decide +kernel)
theorem jxf {f0 f1 f2 f3 f4 f5 f6 f7 f8 f9 f10:Addr} {d0:Option Addr} {n0:Nat} {s0:Array (Option Value)} {u0_0 u0_1:Tok} (l0:K.lookup f0 = some ⟨.type "tuple",d0,.seq #[.str "new" u0_0,.str "quad" u0_1] n0,s0⟩)
    {d1:Option Addr} {n1:Nat} {s1:Array (Option Value)} {u1_0 u1_1 u1_2:Tok} (l1:K.lookup f1 = some ⟨.type "tuple",d1,.seq #[.str "new" u1_0,.str "turn" u1_1,.str "turn" u1_2] n1,s1⟩)
    {d2:Option Addr} {n2:Nat} {s2:Array (Option Value)} {u2_0 u2_1:Tok} (l2:K.lookup f2 = some ⟨.type "tuple",d2,.seq #[.str "new" u2_0,.str "turn" u2_1] n2,s2⟩)
    {d3:Option Addr} {n3:Nat} {s3:Array (Option Value)} {u3_0:Tok} (l3:K.lookup f3 = some ⟨.type "tuple",d3,.seq #[.str "turn" u3_0] n3,s3⟩)
    {d4:Option Addr} {n4:Nat} {s4:Array (Option Value)} {u4_0:Tok} (l4:K.lookup f4 = some ⟨.type "tuple",d4,.seq #[.str "turn" u4_0] n4,s4⟩)
    {d5:Option Addr} {n5:Nat} {s5:Array (Option Value)} {u5_0:Tok} (l5:K.lookup f5 = some ⟨.type "tuple",d5,.seq #[.str "turn" u5_0] n5,s5⟩)
    {d6:Option Addr} {n6:Nat} {s6:Array (Option Value)} {u6_0:Tok} (l6:K.lookup f6 = some ⟨.type "tuple",d6,.seq #[.str "turn" u6_0] n6,s6⟩)
    {d7:Option Addr} {n7:Nat} {s7:Array (Option Value)} {u7_0 u7_1:Tok} (l7:K.lookup f7 = some ⟨.type "tuple",d7,.seq #[.str "turn" u7_0,.str "point" u7_1] n7,s7⟩)
    {d8:Option Addr} {n8:Nat} {s8:Array (Option Value)} {u8_0 u8_1:Tok} (l8:K.lookup f8 = some ⟨.type "tuple",d8,.seq #[.str "turn" u8_0,.str "point" u8_1] n8,s8⟩)
    {d9:Option Addr} {n9:Nat} {s9:Array (Option Value)} {u9_0 u9_1:Tok} (l9:K.lookup f9 = some ⟨.type "tuple",d9,.seq #[.str "turn" u9_0,.str "turn" u9_1] n9,s9⟩)
    {d10:Option Addr} {n10:Nat} {s10:Array (Option Value)} {u10_0:Tok} (l10:K.lookup f10 = some ⟨.type "tuple",d10,.seq #[.str "turn" u10_0] n10,s10⟩)
   :jjm K ja3 [.ref f0,.ref f1,.ref f2,.ref f3,.ref f4,.ref f5,.ref f6,.ref f7,.ref f8,.ref f9,.ref f10] [.ref f0,.ref f1,.ref f2,.ref f3,.ref f4,.ref f5,.ref f6,.ref f7,.ref f8,.ref f9,.ref f10]:=(ja0 (jbf (ns:=["new","quad"]) l0 (show 2 ≤ sizeLine by decide) (jar (jar ja5))) (ja0 (jbf (ns:=["new","turn","turn"]) l1 (show 3 ≤ sizeLine by decide) (jar (jar (jar ja5)))) (ja0 (jbf (ns:=["new","turn"]) l2 (show 2 ≤ sizeLine by decide) (jar (jar ja5))) (ja0 (jbf (ns:=["turn"]) l3 (show 1 ≤ sizeLine by decide) (jar ja5)) (ja0 (jbf (ns:=["turn"]) l4 (show 1 ≤ sizeLine by decide) (jar ja5)) (ja0 (jbf (ns:=["turn"]) l5 (show 1 ≤ sizeLine by decide) (jar ja5)) (ja0 (jbf (ns:=["turn"]) l6 (show 1 ≤ sizeLine by decide) (jar ja5)) (ja0 (jbf (ns:=["turn","point"]) l7 (show 2 ≤ sizeLine by decide) (jar (jar ja5))) (ja0 (jbf (ns:=["turn","point"]) l8 (show 2 ≤ sizeLine by decide) (jar (jar ja5))) (ja0 (jbf (ns:=["turn","turn"]) l9 (show 2 ≤ sizeLine by decide) (jar (jar ja5))) (ja0 (jbf (ns:=["turn"]) l10 (show 1 ≤ sizeLine by decide) (jar ja5)) juK)))))))))))
theorem jr8 {a f0 f1 f2 f3 f4 f5 f6:Addr} {n:Nat} {t0 t1 t2 t3 t4 t5 t6:Tok} (hl:K.lookup a = some ⟨.type "dict",none,.dict (jhw w [("quad",t0,.ref f0),("bottom",t1,.ref f1),("stair",t2,.ref f2),("move",t3,.ref f3),("shared",t4,.ref f4),("same",t5,.ref f5),("order",t6,.ref f6)]).toArray n,#[]⟩) (hs:(a == sysModules) = false):CDct P w K a ks_TELLERS [.ref f0,.ref f1,.ref f2,.ref f3,.ref f4,.ref f5,.ref f6]:=jmC [("quad",t0,.ref f0),("bottom",t1,.ref f1),("stair",t2,.ref f2),("move",t3,.ref f3),("shared",t4,.ref f4),("same",t5,.ref f5),("order",t6,.ref f6)] hl hs (show ks_TELLERS.Nodup by decide +kernel)
theorem tmk {v0 v2 v4 v6 v8 v10 v12 v14 v16 v18 v20 v22 v24 v26 v28 v30 v32 v34 v36 v38 v40 v42 v44 v46 v48 v50 v52 v54 v56 v58 v60 v62 v64 v66 v68 v70 v72 v74 v76 v78 v80 v82 v84 v86 v88 v90 v92 v94 v96 v98 v100 v102 v104 v106 v108 v110 v112 v114 v122 v123 v124 v125 v128:Addr} {v1 v3 v5 v7 v9 v11 v13 v15 v17 v19 v21 v23 v25 v27 v29 v31 v33 v35 v37 v39 v41 v43 v45 v47 v49 v51 v53 v55 v57 v59 v61 v63 v65 v67 v69 v71 v73 v75 v77 v79 v81 v83 v85 v87 v89 v91 v93 v95 v97 v99 v101 v103 v105 v107 v109 v111 v113 v115:FuncData} {v116 v118 v120:V} {v117 v119 v121:Value} {v126:List V} {v127:List Value}
  (h0:jek K v123 "__init__" "Desk.__init__" jpk v0 v1 ["self"])
  (h1:jp K mg "has_only" jhv v2 v3 ["word","signs"])
  (h2:jp K mg "is_number" jfE v4 v5 ["word"])
  (h3:jp K mg "numbers_of" jeS v6 v7 ["word","often"])
  (h4:jp K mg "is_name" ji7 v8 v9 ["word"])
  (h5:jp K mg "new_name" jg4 v10 v11 ["word"])
  (h6:jek K v123 "meaning" "Desk.meaning" jjb v12 v13 ["self","kind","word"])
  (h7:jek K v123 "meanings" "Desk.meanings" jgW v14 v15 ["self","words"])
  (h8:jp K mg "words_of" jhr v16 v17 ["row"])
  (h9:jp K mg "numbers_told" jdq v18 v19 ["numbers"])
  (h10:jp K mg "divisor_of_two" jcG v20 v21 ["one","other"])
  (h11:jp K mg "divisor" ji0 v22 v23 ["numbers"])
  (h12:jp K mg "leads_below_nought" jbG v24 v25 ["quad"])
  (h13:jp K mg "row_over" jg0 v26 v27 ["row","n"])
  (h14:jp K mg "plain" jm6 v28 v29 ["quad"])
  (h15:jp K mg "multiples_of_quad" jbQ v30 v31 ["turn"])
  (h16:jp K mg "row_times" jfL v32 v33 ["one","other"])
  (h17:jp K mg "size" joA v34 v35 ["quad"])
  (h18:jp K mg "quad_of" jig v36 v37 ["turn"])
  (h19:jp K mg "told_quad" jfW v38 v39 ["told"])
  (h20:jp K mg "told_bottom" jee v40 v41 ["told"])
  (h21:jp K mg "row_mix" jiU v42 v43 ["one","times","other","times_too"])
  (h22:jp K mg "row_less" jg9 v44 v45 ["row","taken","times"])
  (h23:jp K mg "makings" jjh v46 v47 ["one","other"])
  (h24:jp K mg "dial_stair" jeF v48 v49 ["dial"])
  (h25:jp K mg "column" jkJ v50 v51 ["rows","place"])
  (h26:jp K mg "back" jp6 v52 v53 ["turn"])
  (h27:jp K mg "part_without" jdr v54 v55 ["n","other"])
  (h28:jp K mg "dial_of" jiV v56 v57 ["turn"])
  (h29:jp K mg "shared_stair" jdp v58 v59 ["turn"])
  (h30:jp K mg "told_stair" jeI v60 v61 ["told"])
  (h31:jp K mg "moved" jmn v62 v63 ["turn","point"])
  (h32:jp K mg "told_spot" jfO v64 v65 ["told"])
  (h33:jp K mg "yes_or_no" jfC v66 v67 ["truth"])
  (h34:jp K mg "is_shared" jfB v68 v69 ["turn","point"])
  (h35:jp K mg "told_shared" jd4 v70 v71 ["told"])
  (h36:jp K mg "rows_of" jiv v72 v73 ["quad"])
  (h37:jp K mg "table_divisor" jc2 v74 v75 ["rows","bottom"])
  (h38:jp K mg "turn_of" jja v76 v77 ["quad"])
  (h39:jp K mg "product" jiY v78 v79 ["one","other"])
  (h40:jp K mg "after" jna v80 v81 ["one","other"])
  (h41:jp K mg "share_alike" jec v82 v83 ["one","other"])
  (h42:jp K mg "told_same" jfQ v84 v85 ["told"])
  (h43:jp K mg "order" jmK v86 v87 ["turn"])
  (h44:jp K mg "told_order" jfa v88 v89 ["told"])
  (h45:jp K mg "made_of_quad" jdl v90 v91 ["told"])
  (h46:jp K mg "made_of_two" jeg v92 v93 ["told"])
  (h47:jp K mg "made_back" jfX v94 v95 ["told"])
  (h48:jek K v123 "say" "Desk.say" jsT v96 v97 ["self","row"])
  (h49:jp K mg "_law_spelt" jfZ v98 v99 ["numbers"])
  (h50:jp K mg "_law_looked" jeT v100 v101 ["desk","held"])
  (h51:jp K mg "_law_divisor" jd5 v102 v103 ["numbers"])
  (h52:jp K mg "_law_plain" jfP v104 v105 ["quad"])
  (h53:jp K mg "_law_times" jfH v106 v107 ["one","other"])
  (h54:jp K mg "_law_near" jhy v108 v109 ["cell","most"])
  (h55:jp K mg "_law_row" jif v110 v111 ["cells","held"])
  (h56:jp K mg "_law_cell_at" jd8 v112 v113 ["script","k"])
  (h57:jp K mg "law" jsC v114 v115 ["script"])
  (h58:mg "abs" = none)
  (h59:mg "all" = none)
  (h60:mg "int" = none)
  (h61:mg "isinstance" = none)
  (h62:mg "len" = none)
  (h63:mg "max" = none)
  (h64:mg "min" = none)
  (h65:mg "range" = none)
  (h66:mg "str" = none)
  (h67:mg "sum" = none)
  (h68:mg "tuple" = none)
  (h69:mg "FIGURES" = some v117)
  (h70:jea K jid v116 v117)
  (h71:mg "LETTERS" = some v119)
  (h72:jea K jjf v118 v119)
  (h73:mg "ORDERS" = some v121)
  (h74:jea K jhn v120 v121)
  (h75:mg "NoName" = some (.ref v122))
  (h76:PySem.W.excIn K v122 bmV "ValueError.__new__" = true)
  (h77:PySem.W.mroIn K v122 (.type "BaseException") = some true)
  (h78:PySem.W.mroIn K v122 (.ref v122) = some true)
  (h79:PySem.W.typeIn K (.ref v122) = some (.type "type"))
  (h80:mg "Desk" = some (.ref v123))
  (h81:Cls K v123)
  (h82:NoAttr K v123 "turns")
  (h83:Mk K v123 v0)
  (h84:mg "MAKERS" = some (.ref v124))
  (h85:CDct P w K v124 ks_MAKERS [.ref v90,.ref v92,.ref v94])
  (h86:Vals [.ref v90,.ref v92,.ref v94] [.ref v90,.ref v92,.ref v94])
  (h87:mg "ROWS" = some (.ref v125))
  (h88:CDct P w K v125 ks_ROWS v127)
  (h89:jjm K ja3 v126 v127)
  (h90:mg "TELLERS" = some (.ref v128))
  (h91:CDct P w K v128 ks_TELLERS [.ref v38,.ref v40,.ref v60,.ref v64,.ref v70,.ref v84,.ref v88])
  (h92:Vals [.ref v38,.ref v40,.ref v60,.ref v64,.ref v70,.ref v84,.ref v88] [.ref v38,.ref v40,.ref v60,.ref v64,.ref v70,.ref v84,.ref v88])
 :Txt P w K mg ⟨v0,v1,v2,v3,v4,v5,v6,v7,v8,v9,v10,v11,v12,v13,v14,v15,v16,v17,v18,v19,v20,v21,v22,v23,v24,v25,v26,v27,v28,v29,v30,v31,v32,v33,v34,v35,v36,v37,v38,v39,v40,v41,v42,v43,v44,v45,v46,v47,v48,v49,v50,v51,v52,v53,v54,v55,v56,v57,v58,v59,v60,v61,v62,v63,v64,v65,v66,v67,v68,v69,v70,v71,v72,v73,v74,v75,v76,v77,v78,v79,v80,v81,v82,v83,v84,v85,v86,v87,v88,v89,v90,v91,v92,v93,v94,v95,v96,v97,v98,v99,v100,v101,v102,v103,v104,v105,v106,v107,v108,v109,v110,v111,v112,v113,v114,v115,v116,v117,v118,v119,v120,v121,v122,v123,v124,v125,v126,v127,v128⟩:=⟨h0,h1,h2,h3,h4,h5,h6,h7,h8,h9,h10,h11,h12,h13,h14,h15,h16,h17,h18,h19,h20,h21,h22,h23,h24,h25,h26,h27,h28,h29,h30,h31,h32,h33,h34,h35,h36,h37,h38,h39,h40,h41,h42,h43,h44,h45,h46,h47,h48,h49,h50,h51,h52,h53,h54,h55,h56,h57,h58,h59,h60,h61,h62,h63,h64,h65,h66,h67,h68,h69,h70,h71,h72,h73,h74,h75,h76,h77,h78,h79,h80,h81,h82,h83,h84,h85,h86,h87,h88,h89,h90,h91,h92⟩
end My
open PySem PySem.W PyProof.Rows D3 L2
set_option maxRecDepth 100000 in
set_option maxHeartbeats 0 in
def PySem.W.Fast.tw9505566028569840613:Unit:=()
def PySem.W.Fast.tw14310698158690265086:Unit:=()
def PySem.W.Fast.tw11491939273675608230:Unit:=()
def PySem.W.Fast.tw6327433699742738691:Unit:=()
def PySem.W.Fast.tw16040676733548187799:Unit:=()
def PySem.W.Fast.tw16389109617104015378:Unit:=()
def PySem.W.Fast.tw10761285923971431158:Unit:=()
def PySem.W.Fast.tw17209632110693696015:Unit:=()
def PySem.W.Fast.tw16550346805060828323:Unit:=()
def PySem.W.Fast.tw12988041017734879228:Unit:=()
def PySem.W.Fast.tw10499042704291114319:Unit:=()
def PySem.W.Fast.tw13567117311516325437:Unit:=()
def PySem.W.Fast.tw2737640746249606413:Unit:=()
def PySem.W.Fast.tw16806252344616155636:Unit:=()
def PySem.W.Fast.tw5602019396714642794:Unit:=()
def PySem.W.Fast.tw6777408451939643141:Unit:=()
def PySem.W.Fast.tw13159119763148563355:Unit:=()
def PySem.W.Fast.tw6082216073828119362:Unit:=()
def PySem.W.Fast.tw11171812094899101708:Unit:=()
def PySem.W.Fast.tw9175208043289146835:Unit:=()
def PySem.W.Fast.tw5686861503895524564:Unit:=()
def PySem.W.Fast.tw14920473771228640202:Unit:=()
def PySem.W.Fast.tw15739481996352131623:Unit:=()
def PySem.W.Fast.tw8369116000028588109:Unit:=()
def PySem.W.Fast.tw13448286563353917959:Unit:=()
def PySem.W.Fast.tw6024530742173362691:Unit:=()
def PySem.W.Fast.tw12351444970164746164:Unit:=()
def PySem.W.Fast.tw17052812552325069370:Unit:=()
def PySem.W.Fast.tw1422697178363091410:Unit:=()
def PySem.W.Fast.tw12367778512398390654:Unit:=()
def PySem.W.Fast.tw16630604643494222311:Unit:=()
def PySem.W.Fast.tw13267489587972012817:Unit:=()
def PySem.W.Fast.tw305985612521482675:Unit:=()
def PySem.W.Fast.tw7505401815676014642:Unit:=()
def PySem.W.Fast.tw5600277111898216302:Unit:=()
def PySem.W.Fast.tw17126930217480690484:Unit:=()
def PySem.W.Fast.tw10988709236906481057:Unit:=()
def PySem.W.Fast.tw5720487262802921927:Unit:=()
def PySem.W.Fast.tw4621194258642143928:Unit:=()
def PySem.W.Fast.tw11795188881684847288:Unit:=()
theorem PySem.Challenge.cw_turngrid_k55_two_desks_holds : PySem.Challenge.rw_turngrid_k55_two_desks.Holds := by
 w_on; o_law; k_head; (case hw=>w_witness2)
 k_fill
 refine D3.jAJ (l:=PySem.Challenge.rw_turngrid_k55_two_desks) (k:=10) rfl rfl ⟨rfl,by decide,by decide⟩ (fun w h Y=>PySem.W.kIn_of Y) ?F
 case F =>
  intro w mg fa h KX G hmg
  refine' My.jzp hmg (My.tmk (jow ?a0 ?i0 ?l0 ?c0 ?k0 fun _ _ _ _ _ _ us hl=>len_1 us hl fun _=>rfl)
   (jaO KX G ?a1 ?l1 ?c1 ?k1 fun _ _ _ _ _ _ _ _=>rfl)
   (j4 KX G ?a2 ?l2 ?c2 ?k2 fun _ _ _ _ _ _ _=>rfl)
   (jaO KX G ?a3 ?l3 ?c3 ?k3 fun _ _ _ _ _ _ _ _=>rfl)
   (j4 KX G ?a4 ?l4 ?c4 ?k4 fun _ _ _ _ _ _ _=>rfl)
   (j4 KX G ?a5 ?l5 ?c5 ?k5 fun _ _ _ _ _ _ _=>rfl)
   (jow ?a6 ?i6 ?l6 ?c6 ?k6 fun _ _ _ _ _ _ us hl=>len_3 us hl fun _ _ _=>rfl)
   (jow ?a7 ?i7 ?l7 ?c7 ?k7 fun _ _ _ _ _ _ us hl=>len_2 us hl fun _ _=>rfl)
   (j4 KX G ?a8 ?l8 ?c8 ?k8 fun _ _ _ _ _ _ _=>rfl)
   (j4 KX G ?a9 ?l9 ?c9 ?k9 fun _ _ _ _ _ _ _=>rfl)
   (jaO KX G ?a10 ?l10 ?c10 ?k10 fun _ _ _ _ _ _ _ _=>rfl)
   (j4 KX G ?a11 ?l11 ?c11 ?k11 fun _ _ _ _ _ _ _=>rfl)
   (j4 KX G ?a12 ?l12 ?c12 ?k12 fun _ _ _ _ _ _ _=>rfl)
   (jaO KX G ?a13 ?l13 ?c13 ?k13 fun _ _ _ _ _ _ _ _=>rfl)
   (j4 KX G ?a14 ?l14 ?c14 ?k14 fun _ _ _ _ _ _ _=>rfl)
   (j4 KX G ?a15 ?l15 ?c15 ?k15 fun _ _ _ _ _ _ _=>rfl)
   (jaO KX G ?a16 ?l16 ?c16 ?k16 fun _ _ _ _ _ _ _ _=>rfl)
   (j4 KX G ?a17 ?l17 ?c17 ?k17 fun _ _ _ _ _ _ _=>rfl)
   (j4 KX G ?a18 ?l18 ?c18 ?k18 fun _ _ _ _ _ _ _=>rfl)
   (j4 KX G ?a19 ?l19 ?c19 ?k19 fun _ _ _ _ _ _ _=>rfl)
   (j4 KX G ?a20 ?l20 ?c20 ?k20 fun _ _ _ _ _ _ _=>rfl)
   (jzc KX G ?a21 ?l21 ?c21 ?k21 fun _ _ _ _ _ _ us hl=>len_4 us hl fun _ _ _ _=>rfl)
   (jyC KX G ?a22 ?l22 ?c22 ?k22 fun _ _ _ _ _ _ _ _ _=>rfl)
   (jaO KX G ?a23 ?l23 ?c23 ?k23 fun _ _ _ _ _ _ _ _=>rfl)
   (j4 KX G ?a24 ?l24 ?c24 ?k24 fun _ _ _ _ _ _ _=>rfl)
   (jaO KX G ?a25 ?l25 ?c25 ?k25 fun _ _ _ _ _ _ _ _=>rfl)
   (j4 KX G ?a26 ?l26 ?c26 ?k26 fun _ _ _ _ _ _ _=>rfl)
   (jaO KX G ?a27 ?l27 ?c27 ?k27 fun _ _ _ _ _ _ _ _=>rfl)
   (j4 KX G ?a28 ?l28 ?c28 ?k28 fun _ _ _ _ _ _ _=>rfl)
   (j4 KX G ?a29 ?l29 ?c29 ?k29 fun _ _ _ _ _ _ _=>rfl)
   (j4 KX G ?a30 ?l30 ?c30 ?k30 fun _ _ _ _ _ _ _=>rfl)
   (jaO KX G ?a31 ?l31 ?c31 ?k31 fun _ _ _ _ _ _ _ _=>rfl)
   (j4 KX G ?a32 ?l32 ?c32 ?k32 fun _ _ _ _ _ _ _=>rfl)
   (j4 KX G ?a33 ?l33 ?c33 ?k33 fun _ _ _ _ _ _ _=>rfl)
   (jaO KX G ?a34 ?l34 ?c34 ?k34 fun _ _ _ _ _ _ _ _=>rfl)
   (j4 KX G ?a35 ?l35 ?c35 ?k35 fun _ _ _ _ _ _ _=>rfl)
   (j4 KX G ?a36 ?l36 ?c36 ?k36 fun _ _ _ _ _ _ _=>rfl)
   (jaO KX G ?a37 ?l37 ?c37 ?k37 fun _ _ _ _ _ _ _ _=>rfl)
   (j4 KX G ?a38 ?l38 ?c38 ?k38 fun _ _ _ _ _ _ _=>rfl)
   (jaO KX G ?a39 ?l39 ?c39 ?k39 fun _ _ _ _ _ _ _ _=>rfl)
   (jaO KX G ?a40 ?l40 ?c40 ?k40 fun _ _ _ _ _ _ _ _=>rfl)
   (jaO KX G ?a41 ?l41 ?c41 ?k41 fun _ _ _ _ _ _ _ _=>rfl)
   (j4 KX G ?a42 ?l42 ?c42 ?k42 fun _ _ _ _ _ _ _=>rfl)
   (j4 KX G ?a43 ?l43 ?c43 ?k43 fun _ _ _ _ _ _ _=>rfl)
   (j4 KX G ?a44 ?l44 ?c44 ?k44 fun _ _ _ _ _ _ _=>rfl)
   (j4 KX G ?a45 ?l45 ?c45 ?k45 fun _ _ _ _ _ _ _=>rfl)
   (j4 KX G ?a46 ?l46 ?c46 ?k46 fun _ _ _ _ _ _ _=>rfl)
   (j4 KX G ?a47 ?l47 ?c47 ?k47 fun _ _ _ _ _ _ _=>rfl)
   (jow ?a48 ?i48 ?l48 ?c48 ?k48 fun _ _ _ _ _ _ us hl=>len_2 us hl fun _ _=>rfl)
   (j4 KX G ?a49 ?l49 ?c49 ?k49 fun _ _ _ _ _ _ _=>rfl)
   (jaO KX G ?a50 ?l50 ?c50 ?k50 fun _ _ _ _ _ _ _ _=>rfl)
   (j4 KX G ?a51 ?l51 ?c51 ?k51 fun _ _ _ _ _ _ _=>rfl)
   (j4 KX G ?a52 ?l52 ?c52 ?k52 fun _ _ _ _ _ _ _=>rfl)
   (jaO KX G ?a53 ?l53 ?c53 ?k53 fun _ _ _ _ _ _ _ _=>rfl)
   (jaO KX G ?a54 ?l54 ?c54 ?k54 fun _ _ _ _ _ _ _ _=>rfl)
   (jaO KX G ?a55 ?l55 ?c55 ?k55 fun _ _ _ _ _ _ _ _=>rfl)
   (jaO KX G ?a56 ?l56 ?c56 ?k56 fun _ _ _ _ _ _ _ _=>rfl)
   (j4 KX G ?a57 ?l57 ?c57 ?k57 fun _ _ _ _ _ _ _=>rfl)
   (PySem.W.mg_none_of KX G ?z_abs)
   (PySem.W.mg_none_of KX G ?z_all)
   (PySem.W.mg_none_of KX G ?z_int)
   (PySem.W.mg_none_of KX G ?z_isinstance)
   (PySem.W.mg_none_of KX G ?z_len)
   (PySem.W.mg_none_of KX G ?z_max)
   (PySem.W.mg_none_of KX G ?z_min)
   (PySem.W.mg_none_of KX G ?z_range)
   (PySem.W.mg_none_of KX G ?z_str)
   (PySem.W.mg_none_of KX G ?z_sum)
   (PySem.W.mg_none_of KX G ?z_tuple)
   (mgS (u:="0123456789") KX G ?a_FIGURES)
   jrb
   (mgS (u:="abcdefghijklmnopqrstuvwxyz") KX G ?a_LETTERS)
   jrb
   (mgR KX G ?a_ORDERS)
   (My.jub ?l_ORDERS)
   (mgR KX G ?a_NoName)
   ?xe_NoName
   ?xmb_NoName
   ?xs_NoName_NoName
   ?xty_NoName
   (mgR KX G ?aC)
   (L2.Cls.mk ?pg ?hdi ?po ?sa)
   (jzr ?nA)
   (L2.Mk.mk ?mk ?ini ?ifn ?kc)
   (mgR KX G ?a_MAKERS)
   (My.jty ?l_MAKERS ?y_MAKERS)
   (.cons rfl (.cons rfl (.cons rfl .nil)))
   (mgR KX G ?a_ROWS)
   (My.jw4 ?l_ROWS ?y_ROWS)
   (My.jxf ?l_ROWS0 ?l_ROWS1 ?l_ROWS2 ?l_ROWS3 ?l_ROWS4 ?l_ROWS5 ?l_ROWS6 ?l_ROWS7 ?l_ROWS8 ?l_ROWS9 ?l_ROWS10)
   (mgR KX G ?a_TELLERS)
   (My.jr8 ?l_TELLERS ?y_TELLERS)
   (.cons rfl (.cons rfl (.cons rfl (.cons rfl (.cons rfl (.cons rfl (.cons rfl .nil))))))))
  case aC=>k_is
  case pg=>k_is
  case hdi=>k_is
  case po=>k_is
  case sa=>k_is
  case mk=>k_is
  case kc=>k_is
  case nA=>k_is
  case a0=>k_is
  case i0=>k_is
  case l0=>k_is
  case c0=>k_is
  case k0=>k_is
  case a1=>k_is
  case l1=>k_is
  case c1=>k_is
  case k1=>k_is
  case a2=>k_is
  case l2=>k_is
  case c2=>k_is
  case k2=>k_is
  case a3=>k_is
  case l3=>k_is
  case c3=>k_is
  case k3=>k_is
  case a4=>k_is
  case l4=>k_is
  case c4=>k_is
  case k4=>k_is
  case a5=>k_is
  case l5=>k_is
  case c5=>k_is
  case k5=>k_is
  case a6=>k_is
  case i6=>k_is
  case l6=>k_is
  case c6=>k_is
  case k6=>k_is
  case a7=>k_is
  case i7=>k_is
  case l7=>k_is
  case c7=>k_is
  case k7=>k_is
  case a8=>k_is
  case l8=>k_is
  case c8=>k_is
  case k8=>k_is
  case a9=>k_is
  case l9=>k_is
  case c9=>k_is
  case k9=>k_is
  case a10=>k_is
  case l10=>k_is
  case c10=>k_is
  case k10=>k_is
  case a11=>k_is
  case l11=>k_is
  case c11=>k_is
  case k11=>k_is
  case a12=>k_is
  case l12=>k_is
  case c12=>k_is
  case k12=>k_is
  case a13=>k_is
  case l13=>k_is
  case c13=>k_is
  case k13=>k_is
  case a14=>k_is
  case l14=>k_is
  case c14=>k_is
  case k14=>k_is
  case a15=>k_is
  case l15=>k_is
  case c15=>k_is
  case k15=>k_is
  case a16=>k_is
  case l16=>k_is
  case c16=>k_is
  case k16=>k_is
  case a17=>k_is
  case l17=>k_is
  case c17=>k_is
  case k17=>k_is
  case a18=>k_is
  case l18=>k_is
  case c18=>k_is
  case k18=>k_is
  case a19=>k_is
  case l19=>k_is
  case c19=>k_is
  case k19=>k_is
  case a20=>k_is
  case l20=>k_is
  case c20=>k_is
  case k20=>k_is
  case a21=>k_is
  case l21=>k_is
  case c21=>k_is
  case k21=>k_is
  case a22=>k_is
  case l22=>k_is
  case c22=>k_is
  case k22=>k_is
  case a23=>k_is
  case l23=>k_is
  case c23=>k_is
  case k23=>k_is
  case a24=>k_is
  case l24=>k_is
  case c24=>k_is
  case k24=>k_is
  case a25=>k_is
  case l25=>k_is
  case c25=>k_is
  case k25=>k_is
  case a26=>k_is
  case l26=>k_is
  case c26=>k_is
  case k26=>k_is
  case a27=>k_is
  case l27=>k_is
  case c27=>k_is
  case k27=>k_is
  case a28=>k_is
  case l28=>k_is
  case c28=>k_is
  case k28=>k_is
  case a29=>k_is
  case l29=>k_is
  case c29=>k_is
  case k29=>k_is
  case a30=>k_is
  case l30=>k_is
  case c30=>k_is
  case k30=>k_is
  case a31=>k_is
  case l31=>k_is
  case c31=>k_is
  case k31=>k_is
  case a32=>k_is
  case l32=>k_is
  case c32=>k_is
  case k32=>k_is
  case a33=>k_is
  case l33=>k_is
  case c33=>k_is
  case k33=>k_is
  case a34=>k_is
  case l34=>k_is
  case c34=>k_is
  case k34=>k_is
  case a35=>k_is
  case l35=>k_is
  case c35=>k_is
  case k35=>k_is
  case a36=>k_is
  case l36=>k_is
  case c36=>k_is
  case k36=>k_is
  case a37=>k_is
  case l37=>k_is
  case c37=>k_is
  case k37=>k_is
  case a38=>k_is
  case l38=>k_is
  case c38=>k_is
  case k38=>k_is
  case a39=>k_is
  case l39=>k_is
  case c39=>k_is
  case k39=>k_is
  case a40=>k_is
  case l40=>k_is
  case c40=>k_is
  case k40=>k_is
  case a41=>k_is
  case l41=>k_is
  case c41=>k_is
  case k41=>k_is
  case a42=>k_is
  case l42=>k_is
  case c42=>k_is
  case k42=>k_is
  case a43=>k_is
  case l43=>k_is
  case c43=>k_is
  case k43=>k_is
  case a44=>k_is
  case l44=>k_is
  case c44=>k_is
  case k44=>k_is
  case a45=>k_is
  case l45=>k_is
  case c45=>k_is
  case k45=>k_is
  case a46=>k_is
  case l46=>k_is
  case c46=>k_is
  case k46=>k_is
  case a47=>k_is
  case l47=>k_is
  case c47=>k_is
  case k47=>k_is
  case a48=>k_is
  case i48=>k_is
  case l48=>k_is
  case c48=>k_is
  case k48=>k_is
  case a49=>k_is
  case l49=>k_is
  case c49=>k_is
  case k49=>k_is
  case a50=>k_is
  case l50=>k_is
  case c50=>k_is
  case k50=>k_is
  case a51=>k_is
  case l51=>k_is
  case c51=>k_is
  case k51=>k_is
  case a52=>k_is
  case l52=>k_is
  case c52=>k_is
  case k52=>k_is
  case a53=>k_is
  case l53=>k_is
  case c53=>k_is
  case k53=>k_is
  case a54=>k_is
  case l54=>k_is
  case c54=>k_is
  case k54=>k_is
  case a55=>k_is
  case l55=>k_is
  case c55=>k_is
  case k55=>k_is
  case a56=>k_is
  case l56=>k_is
  case c56=>k_is
  case k56=>k_is
  case a57=>k_is
  case l57=>k_is
  case c57=>k_is
  case k57=>k_is
  case z_abs=>k_is
  case z_all=>k_is
  case z_int=>k_is
  case z_isinstance=>k_is
  case z_len=>k_is
  case z_max=>k_is
  case z_min=>k_is
  case z_range=>k_is
  case z_str=>k_is
  case z_sum=>k_is
  case z_tuple=>k_is
  case a_FIGURES=>k_is
  case a_LETTERS=>k_is
  case a_ORDERS=>k_is
  case l_ORDERS=>k_is
  case a_NoName=>k_is
  (case xe_NoName=>k_exc)
  case xmb_NoName=>k_is
  case xs_NoName_NoName=>k_is
  case xty_NoName=>k_is
  case a_MAKERS=>k_is
  case l_MAKERS=>k_is
  (case y_MAKERS=>rfl)
  case a_ROWS=>k_is
  case l_ROWS=>k_is
  (case y_ROWS=>rfl)
  case l_ROWS0=>k_is
  case l_ROWS1=>k_is
  case l_ROWS2=>k_is
  case l_ROWS3=>k_is
  case l_ROWS4=>k_is
  case l_ROWS5=>k_is
  case l_ROWS6=>k_is
  case l_ROWS7=>k_is
  case l_ROWS8=>k_is
  case l_ROWS9=>k_is
  case l_ROWS10=>k_is
  case a_TELLERS=>k_is
  case l_TELLERS=>k_is
  (case y_TELLERS=>rfl)
  case ini=>k_is
  case ifn=>k_is
