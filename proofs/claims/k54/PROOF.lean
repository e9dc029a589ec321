import PyProof.Rows.All
import Wide.All
import OpenK.AllK
import Wide.FinOn
import Lean
import PyProof.EqAt
import PyProof.EqKinds
import PyProof.TupleCall
import PyProof.NeKinds
import KE.KRevIter
import KE.KDictSum
import KE.KIntText
import PySem.Challenge.RW_turngrid_k54_desk_refuses
set_option Elab.async false
set_option linter.all false
set_option maxRecDepth 100000
set_option Elab.async false
set_option linter.all false
set_option maxRecDepth 100000
noncomputable section
namespace L2
open PySem PySem.Spec PyProof.Rows
abbrev Key:=Sum Int Str
def jly:Key->Value->Bool
 | .inl k,v=>Value.isInt k v
 | .inr x,v=>Value.isStrOf x v
def jCf (w:World):Key->Int
 | .inl k=>hashInt k
 | .inr x=>hashStr w x
theorem jbj:∀{k:Key} {v:Value},jly k v=true->(∃i t,k=Sum.inl i∧v=Value.int i t)∨(∃x t,k=Sum.inr x∧v=Value.str x t)
 | .inl i,v,h=>by
  obtain⟨t,e⟩:=Value.isInt_shape (k:=i) (v:=v) h
  exact .inl ⟨i,t,rfl,e⟩
 | .inr x,v,h=>by
  obtain⟨t,e⟩:=Value.isStrOf_shape (x:=x) (v:=v) h
  exact .inr ⟨x,t,rfl,e⟩
theorem jvy (i:Int)(t:Tok):jly (.inl i) (.int i t)=true:=by simp [jly,Value.isInt]
theorem jj5 (x:Str)(t:Tok):jly (.inr x) (.str x t)=true:=by simp [jly,Value.isStrOf]
theorem jAo (a b:Int):decide ((Sum.inl a:Key)=Sum.inl b)=(a == b):=by
 by_cases e:a=b
 ·subst e; simp
 ·have h:¬(Sum.inl a:Key)=Sum.inl b:=fun q=>e (Sum.inl.inj q)
  rw [decide_eq_false h]
  exact(beq_eq_false_iff_ne.mpr e).symm
theorem jAW (a b:Str):decide ((Sum.inr a:Key)=Sum.inr b)=decide (a=b):=by
 by_cases e:a=b
 ·subst e; simp
 ·have h:¬(Sum.inr a:Key)=Sum.inr b:=fun q=>e (Sum.inr.inj q)
  rw [decide_eq_false h,decide_eq_false e]
theorem jzA (a:Int)(b:Str):decide ((Sum.inl a:Key)=Sum.inr b)=false:=decide_eq_false (fun q=>by cases q)
theorem jAi (a:Str)(b:Int):decide ((Sum.inr a:Key)=Sum.inl b)=false:=decide_eq_false (fun q=>by cases q)
def jaN (prog:Program)(w:World):PySem.KeyKind prog w Key where
 is:=jly
 hash:=jCf w
 inj:=fun v a b ha hb=>by
  rcases jbj ha with⟨i,t,rfl,rfl⟩ | ⟨x,t,rfl,rfl⟩
  ·rcases jbj hb with⟨j,u,rfl,e⟩ | ⟨y,u,rfl,e⟩
   ·injection e with e1 _; rw [e1]
   ·exact by cases e
  ·rcases jbj hb with⟨j,u,rfl,e⟩ | ⟨y,u,rfl,e⟩
   ·exact by cases e
   ·injection e with e1 _; rw [e1]
 byValue:=fun k v h=>by
  rcases jbj h with⟨i,t,rfl,rfl⟩ | ⟨x,t,rfl,rfl⟩ <;> rfl
 pyHash:=fun hv h=>by
  rcases jbj hv with⟨i,t,rfl,rfl⟩ | ⟨x,t,rfl,rfl⟩
  ·exact wpAny_pyHash_int h
  ·exact wpAny_pyHash_str h
 eqBool:=fun hu hv h=>by
  rcases jbj hu with⟨i,t,rfl,rfl⟩ | ⟨x,t,rfl,rfl⟩
  ·rcases jbj hv with⟨j,u,rfl,rfl⟩ | ⟨y,u,rfl,rfl⟩
   ·rw [jAo] at h; exact wpAny_eqBool_int h
   ·rw [jzA] at h; exact SeqAt.EqAt.int_str i t y u _ _ _ _ h
  ·rcases jbj hv with⟨j,u,rfl,rfl⟩ | ⟨y,u,rfl,rfl⟩
   ·rw [jAi] at h; exact SeqAt.EqAt.str_int x t j u _ _ _ _ h
   ·rw [jAW] at h; exact wpAny_eqBool_str h
 «strs»:=fun k x t v h=>by
  rcases jbj h with⟨i,u,rfl,e⟩ | ⟨y,u,rfl,e⟩
  ·exact by cases e
  ·injection e with e1 _
   subst e1
   cases v <;> rfl
theorem jsz (prog:Program)(w:World)(i:Int)(t:Tok):(jaN prog w).is (.inl i) (.int i t)=true:=jvy i t
theorem jsL (prog:Program)(w:World)(x:Str)(t:Tok):(jaN prog w).is (.inr x) (.str x t)=true:=jj5 x t
end L2
namespace L2
open PySem PySem.Spec PyProof.Rows
inductive V where
 | non | bl (b:Bool) | int (i:Int) | str (x:Str) | byt (b:Array UInt8) | flt (b:UInt64) | ref (a:Addr) | ty (n:String)
 deriving DecidableEq
def RelV:V->Value->Prop
 | .non,u=>u=Value.none
 | .bl b,u=>u=Value.bool b
 | .int i,u=>∃t,u=Value.int i t
 | .str x,u=>∃t,u=Value.str x t
 | .byt b,u=>∃t,u=Value.bytes b t
 | .flt b,u=>∃t,u=Value.float b t
 | .ref a,u=>u=Value.ref a
 | .ty n,u=>u=Value.type n
abbrev Vals:List V->List Value->Prop:=Paired RelV
theorem Vals.length {xs:List V}{us:List Value}(r:Vals xs us):xs.length=us.length:=Paired.length r
theorem Vals.get:∀{xs:List V} {us:List Value} {i:Nat} {x:V},Vals xs us->xs[i]?=some x->∃u,us[i]?=some u∧RelV x u
 | _,_,_,_,.nil,e=>by simp at e
 | _,_,0,_,.cons r _,e=>by simp at e; subst e; exact⟨_,rfl,r⟩
 | _,_,i+1,x,.cons _ t,e=>by
  obtain⟨u,h1,h2⟩:=Vals.get (i:=i) (x:=x) t (by simpa using e)
  exact⟨u,by simpa using h1,h2⟩
theorem Vals.append:∀{xs ys:List V} {us ws:List Value},Vals xs us->Vals ys ws->Vals (xs++ys) (us++ws)
 | _,_,_,_,.nil,s=>s
 | _,_,_,_,.cons r t,s=>.cons r (Vals.append t s)
def RelO:Option V->Option Value->Prop
 | some v,some u=>RelV v u
 | none,none=>True
 | _,_=>False
def KV {κ:Type}:List (κ×V)->List (κ×Value)->Prop:=Paired fun (p:κ×V) (q:κ×Value)=>p.1=q.1∧RelV p.2 q.2
def kV:Key->V
 | .inl i=>.int i
 | .inr x=>.str x
inductive HO where
 /-- a list -/
 | lst (xs:List V)
 /-- a tuple (never changes) -/
 | tup (xs:List V)
 /-- a dict whose keys are ints and texts; one whose keys are tuples of ints and texts (the empty one is both) -/
 | dK (kvs:List (Key×V)) | dT (kvs:List (List Key×V))
 /-- a set of ints: its members, its size -/
 | set (S:Int->Bool) (n:Nat)
 /-- an instance of the class at C, its dict at dx, its attributes -/
 | ins (C dx:Addr) (fs:List (Str×V))
 /-- the dict of the instance at x -/
 | own (x:Addr)
 /-- the dict of an exception -/
 | xd (fs:List (Str×V))
 /-- a bound method, f of x -/
 | met (f x:Addr)
 /-- a range object lo, lo + 1, .. below hi -/
 | rng (lo hi:Int)
 /-- a thing that is known to the object (the script; a dict while a loop walks it): read, never written while it is so -/
 | frz (o:Obj) (u:HO)
 /-- a code object's table -/
 | tbl (ps:Array Value)
 /-- any other thing, by what is true of its one object (a def of one's own: SetO a S n := HO.ext fun h => ..) -/
 | ext (φ:Heap->Prop)
abbrev Hp:=Addr->Option HO
def j1 (H:Hp)(a:Addr)(o:HO):Hp:=fun b=>if b=a then some o else H b
theorem jaA {H:Hp}{a:Addr}{o:HO}:j1 H a o a=some o:=by unfold j1; rw [if_pos rfl]
theorem jO {H:Hp}{a b:Addr}{o:HO}(h:b≠a):j1 H a o b=H b:=by unfold j1; rw [if_neg h]
theorem jiE {H:Hp}{a b:Addr}{o u:HO}(h:H a=some o)(h':H b=some u)(d:o≠u):a≠b:=by
 intro e; subst e; rw [h] at h'; exact d (Option.some.inj h')
theorem jaM {H:Hp}{a b:Addr}{o:HO}(h:H a=some o)(h':H b=none):a≠b:=by
 intro e; subst e; rw [h] at h'; cases h'
section
variable (P:Program)(w:World)
def ObjOk (H:Hp)(h:Heap)(a:Addr):HO->Prop
 | .lst xs=>xs.length≤sizeLine∧∃(its:List Value) (n:Nat),Vals xs its∧h.get? a=some { cls:=.type "list",data:=.seq its.toArray n }
 | .tup xs=>xs.length≤sizeLine∧∃its:List Value,Vals xs its∧IsTup h a its.toArray
 | .dK kvs=>kvs.length≤sizeLine∧(a == sysModules)=false∧∃vs,KV kvs vs∧h.DictOf (jaN P w) a vs
 | .dT kvs=>kvs.length≤sizeLine∧(a == sysModules)=false∧∃xs:List (List Key×Addr×Value),
   Paired (fun (p:List Key×V) (q:List Key×Addr×Value)=>p.1=q.1∧H q.2.1=some (.tup (p.1.map kV))∧RelV p.2 q.2.2) kvs xs ∧
   ∃o es ep,h.get? a=some o∧o.ExactDict∧o.data=.dict es ep∧es.toList=xs.map (entryOfKey (tupleKind (jaN P w)))∧(xs.map (·.1)).Nodup
 | .set S n=>h.SetOf (intKind P w) a S n
 | .ins C dx fs=>H dx=some (.own a)∧fs.length≤1000∧dx≠a∧h.get? a=some (PySem.W.instObj C dx) ∧
   ∃mA,h.Ns1 dx mA∧(∀f,RelO (fs.lookup f) (mA f))∧PySem.Within mA (fs.map (·.1))
 | .own _=>∃o,h.get? a=some o
 | .xd fs=>∃mA,h.Ns1 a mA∧∀f,RelO (fs.lookup f) (mA f)
 | .rng lo hi=>∃t u v,h.get? a=some { cls:=.type "range",data:=.fields #[.int lo t,.int hi u,.int 1 v] }
 | .frz o u=>h.get? a=some o∧ObjOk H h a u
 | .tbl ps=>h.get? a=some { cls:=.none,data:=.fields ps }
 | .met f x=>h.get? a=some (PySem.W.methodObj (.ref f) (.ref x))
 | .ext φ=>φ h∧(∃o,h.get? a=some o)∧∀h1 h2:Heap,φ h1->(∀o,h1.get? a=some o->h2.get? a=some o)->φ h2
def HOk (H:Hp)(h:Heap):Prop:=∀a o,H a=some o->ObjOk P w H h a o
end
section
variable {P:Program}{w:World}{H H':Hp}{h h':Heap}{a:Addr}{o:HO}
theorem ObjOk.lt (x:ObjOk P w H h a o):a<h.objs.size:=by
 cases o with
 | lst xs=>obtain⟨_,_,_,_,e⟩:=x; exact Heap.lt_size e
 | tup xs=>obtain⟨_,_,_,p⟩:=x; exact p.lt
 | dK kvs=>obtain⟨_,_,_,_,o,_,_,e,_⟩:=x; exact Heap.lt_size e
 | dT kvs=>obtain⟨_,_,_,_,o,_,_,e,_⟩:=x; exact Heap.lt_size e
 | set S n=>obtain⟨o,_,_,_,e,_⟩:=x; exact Heap.lt_size e
 | ins C dx fs=>obtain⟨_,_,_,e,_⟩:=x; exact Heap.lt_size e
 | own y=>obtain⟨_,e⟩:=x; exact Heap.lt_size e
 | xd fs=>obtain⟨_,⟨_,_,_,e,_⟩,_⟩:=x; exact Heap.lt_size e
 | rng lo hi=>obtain⟨_,_,_,e⟩:=x; exact Heap.lt_size e
 | frz ob u=>obtain⟨e,_⟩:=x; exact Heap.lt_size e
 | tbl ps=>exact Heap.lt_size (show h.get? a=some _ from x)
 | met f y=>exact Heap.lt_size (show h.get? a=some _ from x)
 | ext φ=>obtain⟨_,⟨_,e⟩,_⟩:=x; exact Heap.lt_size e
theorem Paired.mapP {α β:Type}{F G:α->β->Prop}:∀{l₁:List α} {l₂:List β},Paired F l₁ l₂->(∀a b,F a b->G a b)->Paired G l₁ l₂
 | _,_,.nil,_=>.nil
 | _,_,.cons r t,f=>.cons (f _ _ r) (Paired.mapP t f)
theorem ObjOk.stay (x:ObjOk P w H h a o)(k:∀b u,(b=a∨H b=some (.own a))->h.get? b=some u->h'.get? b=some u)
  (ho:∀b,H b=some (.own a)->H' b=some (.own a)) (ht:∀b xs,H b=some (.tup xs)->H' b=some (.tup xs)):ObjOk P w H' h' a o:=by
 induction o with
 | lst xs=>obtain⟨z,its,n,r,e⟩:=x; exact⟨z,its,n,r,k _ _ (.inl rfl) e⟩
 | tup xs=>obtain⟨z,its,r,ob,e,c⟩:=x; exact⟨z,its,r,ob,k _ _ (.inl rfl) e,c⟩
 | dK kvs=>obtain⟨z,y,vs,r,ob,es,ep,e,c⟩:=x; exact⟨z,y,vs,r,ob,es,ep,k _ _ (.inl rfl) e,c⟩
 | dT kvs =>
  obtain⟨z,y,xs,r,ob,es,ep,e,c⟩:=x
  exact⟨z,y,xs,Paired.mapP r fun p q z=>⟨z.1,ht _ _ z.2.1,z.2.2⟩,ob,es,ep,k _ _ (.inl rfl) e,c⟩
 | set S n=>obtain⟨ob,es,ep,t,e,c⟩:=x; exact⟨ob,es,ep,t,k _ _ (.inl rfl) e,c⟩
 | ins C dx fs =>
  obtain⟨d,z,ne,e,mA,⟨od,es,ep,e2,c⟩,r⟩:=x
  exact⟨ho _ d,z,ne,k _ _ (.inl rfl) e,mA,⟨od,es,ep,k _ _ (.inr d) e2,c⟩,r⟩
 | own y=>obtain⟨ob,e⟩:=x; exact⟨ob,k _ _ (.inl rfl) e⟩
 | xd fs=>obtain⟨mA,⟨od,es,ep,e,c⟩,r⟩:=x; exact⟨mA,⟨od,es,ep,k _ _ (.inl rfl) e,c⟩,r⟩
 | rng lo hi=>obtain⟨t,u,v,e⟩:=x; exact⟨t,u,v,k _ _ (.inl rfl) e⟩
 | frz ob u ih=>obtain⟨e,q⟩:=x; exact⟨k _ _ (.inl rfl) e,ih q⟩
 | tbl ps =>
  have e:h.get? a=some { cls:=.none,data:=.fields ps }:=x
  show h'.get? a=some { cls:=.none,data:=.fields ps }
  exact k a _ (.inl rfl) e
 | met f y =>
  have e:h.get? a=some (PySem.W.methodObj (.ref f) (.ref y)):=x
  show h'.get? a=some (PySem.W.methodObj (.ref f) (.ref y))
  exact k a _ (.inl rfl) e
 | ext φ=>obtain⟨p,⟨o,e⟩,st⟩:=x; exact⟨st _ _ p fun o q=>k _ _ (.inl rfl) q,⟨o,k _ _ (.inl rfl) e⟩,st⟩
theorem HOk.lt (x:HOk P w H h)(e:H a=some o):a<h.objs.size:=(x a o e).lt
theorem HOk.fresh (x:HOk P w H h)(e:h.objs.size≤a):H a=none:=by
 cases q:H a with
 | none=>rfl
 | some u=>exact absurd (Nat.lt_of_lt_of_le (x.lt q) e) (Nat.lt_irrefl _)
theorem HOk.kept (x:HOk P w H h)(k:∀b u,h.get? b=some u->h'.get? b=some u):HOk P w H h':=fun a o e =>
 (x a o e).stay (fun b u _ q=>k b u q) (fun _ q=>q) fun _ _ q=>q
theorem HOk.laid (x:HOk P w H h)(k:∀b u,h.get? b=some u->h'.get? b=some u)(hp:h.objs.size≤a)(new:ObjOk P w (j1 H a o) h' a o):HOk P w (j1 H a o) h':=fun b u e=>by
 have hn:=x.fresh hp
 by_cases hb:b=a
 ·subst hb; rw [jaA] at e; cases e; exact new
 ·rw [jO hb] at e
  exact(x b u e).stay (fun c v _ q=>k c v q) (fun c q=>by rw [jO (jaM q hn)]; exact q) fun c xs q=>by rw [jO (jaM q hn)]; exact q
end
def Rd (H:Hp)(a:Addr)(u:HO):Prop:=H a=some u∨∃o,H a=some (.frz o u)
theorem Rd.of {H:Hp}{a:Addr}{u:HO}(h:H a=some u):Rd H a u:=.inl h
theorem Rd.ok {P:Program}{w:World}{H:Hp}{h:Heap}{a:Addr}{u:HO}(r:Rd H a u)(x:HOk P w H h):ObjOk P w H h a u:=by
 rcases r with r | ⟨o,r⟩
 ·exact x a u r
 ·obtain⟨_,q⟩:=x a _ r
  exact q
def Mut:Option HO->Prop
 | some (.lst _)=>True
 | some (.dK _)=>True
 | some (.dT _)=>True
 | some (.set _ _)=>True
 | some (.ins _ _ _)=>True
 | some (.ext _)=>True
 | _=>False
section
variable {P:Program}{w:World}{H:Hp}{h h':Heap}{x e:Addr}{o':HO}
theorem HOk.write (ok:HOk P w H h)(mu:Mut (H x))(he:e=x∨H e=some (.own x))(k:∀b u,b≠e->h.get? b=some u->h'.get? b=some u)(heo:∃u,h'.get? e=some u)
  (new:ObjOk P w (j1 H x o') h' x o'):HOk P w (j1 H x o') h':=fun b u q=>by
 have nown:∀c y,H c=some (.own y)->c≠x:=fun c y r z=>by subst z; rw [r] at mu; exact mu
 have ntup:∀c xs,H c=some (.tup xs)->c≠x:=fun c xs r z=>by subst z; rw [r] at mu; exact mu
 by_cases hb:b=x
 ·subst hb; rw [jaA] at q; cases q; exact new
 ·rw [jO hb] at q
  by_cases hbe:b=e
  ·have q':H b=some (.own x):=by
    rcases he with z | z
    ·exact absurd (hbe.trans z) hb
    ·rw [hbe]; exact z
   rw [q] at q'; cases q'
   obtain⟨v,hv⟩:=heo
   exact⟨v,by rw [hbe]; exact hv⟩
  ·refine(ok b u q).stay (fun c v hc r=>k c v ?_ r) (fun c r=>by rw [jO (nown c b r)]; exact r) fun c xs r=>by rw [jO (ntup c xs r)]; exact r
   rcases hc with rfl | hc
   ·exact hbe
   ·rintro rfl
    rcases he with z | z
    ·exact nown c b hc z
    ·rw [hc] at z; cases z; exact hb rfl
end
structure Un (fs ex:List Addr)(H H':Hp)(h h':Heap):Prop where
 keep:∀b o,h.get? b=some o->H b=none->b∉fs->b∉ex->h'.get? b=some o
 slot:∀b o,h.get? b=some o->H b=none->b∈fs->b∉ex->∃sl,h'.get? b=some { o with slots:=sl }
 free:∀b o,h.get? b=some o->H b=none->b∉ex->H' b=none
 there:∀b o,h.get? b=some o->b∉ex->∃o',h'.get? b=some o'
 tups:∀b xs,H b=some (.tup xs)->H' b=some (.tup xs)
 frzs:∀b o u,H b=some (.frz o u)->H' b=some (.frz o u)
 tbls:∀b ps,H b=some (.tbl ps)->∃more,H' b=some (.tbl (ps++more))
section
variable {fs fs' ex ex':List Addr}{H H1 H2:Hp}{h h1 h2 h':Heap}{a x e:Addr}{o:HO}
theorem Un.any (u:Un fs ex H H1 h h1){b:Addr}{ob:Obj}(q:h.get? b=some ob)(n:H b=none)(hx:b∉ex):∃sl,h1.get? b=some { ob with slots:=sl }:=by
 by_cases hb:b∈fs
 ·exact u.slot b ob q n hb hx
 ·exact⟨ob.slots,u.keep b ob q n hb hx⟩
theorem Un.kept (k:∀b u,h.get? b=some u->h'.get? b=some u):Un fs ex H H h h' :=
 ⟨fun b ob q _ _ _=>k b ob q,fun b ob q _ _ _=>⟨ob.slots,k b ob q⟩,fun _ _ _ n _=>n,fun b ob q _=>⟨ob,k b ob q⟩,fun _ _ q=>q,fun _ _ _ q=>q,fun _ ps q=>⟨#[],by rw [q]; simp⟩⟩
theorem Un.refl:Un fs ex H H h h:=Un.kept fun _ _ q=>q
theorem Un.laid (k:∀b u,h.get? b=some u->h'.get? b=some u)(hp:h.objs.size≤a)(hn:H a=none):Un fs ex H (j1 H a o) h h' where
 keep:=fun b u q _ _ _=>k b u q
 slot:=fun b u q _ _ _=>⟨u.slots,k b u q⟩
 free:=fun b u q n _=>by rw [jO (Nat.ne_of_lt (Nat.lt_of_lt_of_le (Heap.lt_size q) hp))]; exact n
 there:=fun b u q _=>⟨u,k b u q⟩
 tups:=fun b xs q=>by rw [jO (jaM q hn)]; exact q
 frzs:=fun b u xs q=>by rw [jO (jaM q hn)]; exact q
 tbls:=fun b ps q=>⟨#[],by rw [jO (jaM q hn),q]; simp⟩
theorem Un.write (mu:Mut (H x))(he:e=x∨H e=some (.own x))(k:∀b u,b≠e->h.get? b=some u->h'.get? b=some u)(heo:∃u,h'.get? e=some u):Un fs ex H (j1 H x o) h h':=by
 have hx:∀b,H b=none->b≠x:=fun b n z=>by subst z; rw [n] at mu; exact mu
 have hb:∀b,H b=none->b≠e:=fun b n z=>by
  subst z
  rcases he with r | r
  ·exact hx b n r
  ·rw [n] at r; cases r
 have hm:∀b u,H b=some u->¬Mut (some u)->b≠x:=fun b u q nm z=>by subst z; rw [q] at mu; exact nm mu
 refine⟨fun b u q n _ _=>k b u (hb b n) q,fun b u q n _ _=>⟨u.slots,k b u (hb b n) q⟩,fun b u q n _=>by rw [jO (hx b n)]; exact n,fun b u q _=>?_,
  fun b xs q=>by rw [jO (hm b _ q fun z=>z)]; exact q,fun b u xs q=>by rw [jO (hm b _ q fun z=>z)]; exact q,fun b ps q=>⟨#[],by rw [jO (hm b _ q fun z=>z),q]; simp⟩⟩
 by_cases hbe:b=e
 ·subst hbe; exact heo
 ·exact⟨u,k b u hbe q⟩
end
def trk (h:Heap)(H:Hp):List Addr:=(List.range h.objs.size).filter fun a=>(H a).isSome
def ji9 (h:Heap)(H:Hp):Heap:=PySem.W.hideAll h (trk h H)
theorem jvc (h:Heap)(H:Hp):(ji9 h H).objs.size=h.objs.size:=PySem.W.hideAll_size _ _
theorem jw3 {h:Heap}{H:Hp}{b:Addr}{o:Obj}(e:h.get? b=some o)(n:H b=none):(ji9 h H).get? b=some o :=
 PySem.W.hideAll_get _ e fun hm=>by
  have q:(H b).isSome=true:=(List.mem_filter.mp hm).2
  rw [n] at q; simp at q
theorem jyD {h:Heap}{H:Hp}{b:Addr}{o:Obj}(e:(ji9 h H).get? b=some o):h.get? b=some o∧H b=none:=by
 have e':h.get? b=some o:=PySem.W.of_hideAll (trk h H) e
 refine⟨e',?_⟩
 cases q:H b with
 | none=>rfl
 | some x =>
  have hm:b∈trk h H:=List.mem_filter.mpr ⟨List.mem_range.mpr (Heap.lt_size e'),by simp [q]⟩
  have z:(ji9 h H).get? b=none:=PySem.W.hideAll_none (trk h H) hm
  rw [z] at e; cases e
def jyB (g h:Heap)(L:Addr):List (Addr×Obj):=(List.range h.objs.size).filterMap fun a=>if a=L∨(g.get? a).isSome=true then none else (h.get? a).map fun o=>(a,o)
def jJ (g h:Heap)(L d:Addr):List (Addr×Obj):=(jyB g h L).filter fun p=>decide (p.1≠d)
end L2
namespace L2
open PySem PySem.Spec PyProof.Rows
structure Mod (K:PySem.W.Frag)(mg:Str->Option Value)(base:Heap):Prop where
 kin:K.In base
 glob:base.Ns mainGlobals mg
 blt:∃mb,base.Ns builtinsNs mb∧∀x:Str,x≠"__name__"->mb x=bootBuiltins x
 nolimit:base.NoLimit
structure Cx where
 prog:Program
 w:World
 K:PySem.W.Frag
 mg:Str->Option Value
 base:Heap
 A:Around
 N:List Str
 s₀:Shared
 H₀:Hp
 env:Env
 outer:List Env
 stack:List Env
 ex:List Addr
 fn:Str->Bool
 calm:Bool
 pn:List (Addr×Obj)
 xe:Value->Shared->Prop
def frs (l:List Env):List Addr:=l.filterMap (·.frame)
abbrev Cx.fs (X:Cx):List Addr:=frs X.outer
def Vis (sc:Scope)(x:Str):Prop:=sc.names.lookup x=some .local∨sc.names.lookup x=some .cell∨sc.names.lookup x=some .free
def Loc (sc:Scope)(x:Str):Prop:=sc.names.lookup x=some .local∨sc.names.lookup x=some .cell
def jB8 (env:Env)(h:Heap)(m:Str->Option Value)(x:Str)(u:Value):Prop :=
 (env.kindOf x=some .local∧m x=some u)∨((env.kindOf x=some .cell∨env.kindOf x=some .free)∧∃c,env.cells.lookup x=some c∧h.IsCell c (some u))
structure Cx.Ok (X:Cx):Prop where
 mod:Mod X.K X.mg X.base
 kind:X.env.scope.kind=.function
 glob:X.env.globals=mainGlobals
 blt:X.env.builtins=builtinsNs
 above:X.s₀.heap.objs.size≤X.env.locals
 inj:∀x y c,X.env.cells.lookup x=some c->X.env.cells.lookup y=some c->x=y
 has:∀x,(X.env.kindOf x=some .cell∨X.env.kindOf x=some .free)->∃c,X.env.cells.lookup x=some c
 cab:∀x c,X.fn x=true->X.env.cells.lookup x=some c->X.s₀.heap.objs.size≤c
 hd:X.calm=true->X.A.handled=none
 frames:X.A.frames=some X.stack
 stk:X.stack=X.outer∨(X.stack=X.env::X.outer∧X.env.frame=some X.env.locals)
 exf:∀b∈X.ex,b≠X.env.locals∧∀x c,X.env.cells.lookup x=some c->c≠b
 bs:∀b o,X.base.get? b=some o->X.s₀.heap.get? b=some o∧X.H₀ b=none
 bsz:X.base.objs.size≤X.s₀.heap.objs.size
 noex:∀b o,X.base.get? b=some o->b∉X.ex
 exfs:∀b∈X.ex,b∉X.fs
 funs:X.s₀.heap.FunFrames X.base X.outer
 frf:∀b∈X.fs,X.H₀ b=none
structure Inv (X:Cx)(pins:List (Addr×Obj))(σ:List (Option V))(H:Hp)(s:Shared):Prop where
 ok:X.Ok
 os:s.os=X.s₀.os
 bare:AllBare s.gens
 base:Un X.fs X.ex X.H₀ H X.s₀.heap s.heap
 loc:∃m,s.heap.Ns X.env.locals m∧∀(i:Nat) (x:Str) (v:V),X.N[i]?=some x->σ[i]?=some (some v)->Vis X.env.scope x->∃u,RelV v u∧jB8 X.env s.heap m x u
 cell:∀x c,X.env.cells.lookup x=some c->∃v,s.heap.IsCell c v
 free:H X.env.locals=none
 freeC:∀x c,X.env.cells.lookup x=some c->H c=none
 pin:∀p∈X.pn++pins,s.heap.get? p.1=some p.2∧H p.1=none∧p.1≠X.env.locals∧p.1∉X.fs∧∀v,p.2.data≠.cell v
 hok:HOk X.prog X.w H s.heap
 len:σ.length=X.N.length
section
variable {X:Cx}{pins:List (Addr×Obj)}{σ:List (Option V)}{H H':Hp}{s:Shared}{h':Heap}
theorem Cx.Ok.nofr (ok:X.Ok){b:Addr}{o:Obj}(e:X.base.get? b=some o):b∉X.fs:=fun hb=>by
 have:=(ok.funs.mem hb).1
 rw [e] at this; cases this
theorem Inv.bs (I:Inv X pins σ H s):∀b o,X.base.get? b=some o->s.heap.get? b=some o∧H b=none:=fun b o e =>
 ⟨I.base.keep b o (I.ok.bs b o e).1 (I.ok.bs b o e).2 (I.ok.nofr e) (I.ok.noex b o e),I.base.free b o (I.ok.bs b o e).1 (I.ok.bs b o e).2 (I.ok.noex b o e)⟩
theorem Inv.bk (I:Inv X pins σ H s):∀b o,X.base.get? b=some o->s.heap.get? b=some o:=fun b o e=>(I.bs b o e).1
theorem Inv.mod (I:Inv X pins σ H s):Mod X.K X.mg X.base:=I.ok.mod
theorem Inv.kIn (I:Inv X pins σ H s):X.K.In s.heap:=I.ok.mod.kin.keeps I.bk
theorem Inv.lt (I:Inv X pins σ H s):X.env.locals<s.heap.objs.size:=let ⟨_,hn,_⟩:=I.loc; hn.lt
theorem Inv.sz (I:Inv X pins σ H s):X.s₀.heap.objs.size≤s.heap.objs.size:=Nat.le_trans I.ok.above (Nat.le_of_lt I.lt)
theorem Inv.nofs (I:Inv X pins σ H s){a:Addr}(h:s.heap.objs.size≤a):a∉X.fs:=fun hb=>by
 obtain⟨_,o,ho,_⟩:=I.ok.funs.mem hb
 exact absurd (Nat.lt_of_lt_of_le (Heap.lt_size ho) (Nat.le_trans I.sz h)) (Nat.lt_irrefl _)
theorem Inv.cne (I:Inv X pins σ H s):∀x c,X.env.cells.lookup x=some c->c≠X.env.locals:=fun x c e z=>by
 obtain⟨v,o,ho,hd⟩:=I.cell x c e
 obtain⟨m,⟨o',es,ep,ho',hd',_⟩,_⟩:=I.loc
 rw [z,ho'] at ho; cases ho; rw [hd'] at hd; cases hd
theorem Inv.funs (I:Inv X pins σ H s):s.heap.FunFrames X.base X.outer:=by
 have all:∀(l:List Env),(∀b∈frs l,b∈X.fs)->X.s₀.heap.FunFrames X.base l->s.heap.FunFrames X.base l:=by
  intro l
  induction l with
  | nil=>intro _ _; trivial
  | cons env r ih =>
   intro hs hl
   obtain⟨hk,⟨L,o,hf,hn,ho,hd⟩,hr⟩:=hl
   have hL:L∈X.fs:=hs L (by unfold frs; rw [List.filterMap_cons,hf]; exact List.mem_cons_self)
   obtain⟨sl,e⟩:=I.base.slot L o ho (I.ok.frf L hL) hL fun z=>I.ok.exfs L z hL
   exact⟨hk,⟨L,_,hf,hn,e,hd⟩,ih (fun b hb=>hs b (by unfold frs; rw [List.filterMap_cons,hf]; exact List.mem_cons_of_mem _ hb)) hr⟩
 exact all X.outer (fun _ hb=>hb) I.ok.funs
theorem Inv.stack (I:Inv X pins σ H s):s.heap.FunFrames X.base X.stack:=by
 rcases I.ok.stk with e | ⟨e,hf⟩
 ·rw [e]; exact I.funs
 ·rw [e]
  obtain⟨m,hn,_⟩:=I.loc
  refine .cons (by rw [I.ok.kind]; decide) hf hn ?_ I.funs
  exact Heap.get?_none_of_le (Nat.le_trans I.ok.bsz I.ok.above)
theorem Inv.stkSub (I:Inv X pins σ H s):∀b∈frs X.stack,b∈X.env.locals::X.fs:=fun b hb=>by
 rcases I.ok.stk with e | ⟨e,hf⟩
 ·rw [e] at hb; exact List.mem_cons_of_mem _ hb
 ·rw [e] at hb
  unfold frs at hb
  rw [List.filterMap_cons,hf] at hb
  exact hb
theorem Inv.stkFree (I:Inv X pins σ H s):∀b∈frs X.stack,H b=none:=fun b hb=>by
 rcases List.mem_cons.mp (I.stkSub b hb) with e | hb
 ·rw [e]; exact I.free
 ·obtain⟨_,o,ho,_⟩:=I.ok.funs.mem hb
  exact I.base.free b o ho (I.ok.frf b hb) fun z=>I.ok.exfs b z hb
theorem Inv.step {g':Array GenState}{t':Nat}{d':Drawn}{ch:List Addr}(I:Inv X pins σ H s)
  (hch:∀b∈ch,(b∈X.ex∨X.s₀.heap.objs.size≤b)∧b≠X.env.locals∧(∀x c,X.env.cells.lookup x=some c->c≠b)∧∀p∈X.pn++pins,p.1≠b)
  (keep:∀b o,b≠X.env.locals->b∉X.fs->b∉ch->s.heap.get? b=some o->H b=none->h'.get? b=some o)
  (slot:∀b o,b≠X.env.locals->b∈X.fs->b∉ch->s.heap.get? b=some o->H b=none->∃sl,h'.get? b=some { o with slots:=sl }) (free:∀b o,b∉ch->s.heap.get? b=some o->H b=none->H' b=none)
  (there:∀b o,b∉ch->s.heap.get? b=some o->∃o',h'.get? b=some o')
  (tups:∀b xs,H b=some (.tup xs)->H' b=some (.tup xs)) (frzs:∀b o u,H b=some (.frz o u)->H' b=some (.frz o u)) (tbls:∀b ps,H b=some (.tbl ps)->∃more,H' b=some (.tbl (ps++more)))
  (ns:∀m,s.heap.Ns X.env.locals m->h'.Ns X.env.locals m) (hok:HOk X.prog X.w H' h') (hg:AllBare g') :
  Inv X pins σ H' { s with heap:=h',gens:=g',drawn:=d',toks:=t' }:=by
 have neL:∀b o,X.s₀.heap.get? b=some o->b≠X.env.locals:=fun b o e=>Nat.ne_of_lt (Nat.lt_of_lt_of_le (Heap.lt_size e) I.ok.above)
 have neC:∀b o,X.s₀.heap.get? b=some o->b∉X.ex->b∉ch:=fun b o e hx hb=>by
  rcases (hch b hb).1 with z | z
  ·exact hx z
  ·exact absurd (Nat.lt_of_lt_of_le (Heap.lt_size e) z) (Nat.lt_irrefl _)
 have cellK:∀x c,X.env.cells.lookup x=some c->∀v,s.heap.IsCell c v->h'.IsCell c v:=fun x c e v ⟨o,ho,hd⟩=>by
  have nch:c∉ch:=fun z=>(hch c z).2.2.1 x c e rfl
  by_cases hc:c∈X.fs
  ·obtain⟨sl,q⟩:=slot c o (I.cne x c e) hc nch ho (I.freeC x c e)
   exact⟨_,q,hd⟩
  ·exact⟨o,keep c o (I.cne x c e) hc nch ho (I.freeC x c e),hd⟩
 refine⟨I.ok,I.os,hg,⟨fun b o e n hb hx=>?_,fun b o e n hb hx=>?_,fun b o e n hx=>?_,fun b o e hx=>?_,fun b xs e=>tups b xs (I.base.tups b xs e),fun b o xs e=>frzs b o xs (I.base.frzs b o xs e),fun b ps e=>?_⟩,?_,fun x c e=>?_,?_,fun x c e=>?_,fun p hp=>?_,hok,I.len⟩
 ·exact keep b o (neL b o e) hb (neC b o e hx) (I.base.keep b o e n hb hx) (I.base.free b o e n hx)
 ·obtain⟨sl,e1⟩:=I.base.slot b o e n hb hx
  obtain⟨sl',e2⟩:=slot b _ (neL b o e) hb (neC b o e hx) e1 (I.base.free b o e n hx)
  exact⟨sl',e2⟩
 ·obtain⟨o',e1⟩:=I.base.there b o e hx
  exact free b o' (neC b o e hx) e1 (I.base.free b o e n hx)
 ·obtain⟨o',e1⟩:=I.base.there b o e hx
  exact there b o' (neC b o e hx) e1
 ·obtain⟨m1,e1⟩:=I.base.tbls b ps e
  obtain⟨m2,e2⟩:=tbls b _ e1
  exact⟨m1++m2,by rw [e2,Array.append_assoc]⟩
 ·obtain⟨m,hn,hl⟩:=I.loc
  refine⟨m,ns m hn,fun i x v e1 e2 e3=>?_⟩
  obtain⟨u,r,l⟩:=hl i x v e1 e2 e3
  refine⟨u,r,?_⟩
  rcases l with l | ⟨k,c,e,z⟩
  ·exact .inl l
  ·exact .inr ⟨k,c,e,cellK x c e _ z⟩
 ·obtain⟨v,z⟩:=I.cell x c e
  exact⟨v,cellK x c e v z⟩
 ·obtain⟨m,⟨o,_,_,ho,_⟩,_⟩:=I.loc
  exact free _ o (fun z=>(hch _ z).2.1 rfl) ho I.free
 ·obtain⟨v,o,ho,hd⟩:=I.cell x c e
  exact free c o (fun z=>(hch c z).2.2.1 x c e rfl) ho (I.freeC x c e)
 ·obtain⟨e,n,ne,nf,d⟩:=I.pin p hp
  have nch:p.1∉ch:=fun z=>(hch p.1 z).2.2.2 p hp rfl
  exact⟨keep p.1 p.2 ne nf nch e n,free p.1 p.2 nch e n,ne,nf,d⟩
theorem Inv.un {t':Nat}(I:Inv X pins σ H s)(u:Un X.fs [] H H' s.heap h')(hok:HOk X.prog X.w H' h'):Inv X pins σ H' { s with heap:=h',toks:=t' }:=by
 obtain⟨m,⟨o,es,ep,ho,r⟩,_⟩:=id I.loc
 obtain⟨sl,hL⟩:=u.any ho I.free (by simp)
 exact I.step (g':=s.gens) (d':=s.drawn) (ch:=[]) (fun _ z=>by cases z) (fun b o _ hb _ e n=>u.keep b o e n hb (by simp)) (fun b o _ hb _ e n=>u.slot b o e n hb (by simp)) (fun b o _ e n=>u.free b o e n (by simp)) (fun b o _ e=>u.there b o e (by simp)) u.tups u.frzs u.tbls (fun m' hm=>by
  obtain⟨o',es',ep',ho',r'⟩:=hm
  rw [ho] at ho'; cases ho'
  exact⟨_,es',ep',hL,r'⟩) hok I.bare
theorem Inv.call {g':Array GenState}{t':Nat}{d':Drawn}{ch:List Addr}(I:Inv X pins σ H s)(u:Un (frs X.stack) ch H H' s.heap h')(hok:HOk X.prog X.w H' h')(hg:AllBare g')
  (hch:∀b∈ch,(b∈X.ex∨X.s₀.heap.objs.size≤b)∧b≠X.env.locals∧(∀x c,X.env.cells.lookup x=some c->c≠b)∧∀p∈X.pn++pins,p.1≠b) :
  Inv X pins σ H' { s with heap:=h',gens:=g',drawn:=d',toks:=t' }:=by
 obtain⟨m,⟨o,es,ep,ho,r⟩,_⟩:=id I.loc
 obtain⟨sl,hL⟩:=u.any ho I.free fun z=>(hch _ z).2.1 rfl
 exact I.step (ch:=ch) hch (fun b o hL hb hc e n=>u.keep b o e n (fun z=>(List.mem_cons.mp (I.stkSub b z)).elim hL hb) hc) (fun b o _ _ hc e n=>u.any e n hc) (fun b o hc e n=>u.free b o e n hc) (fun b o hc e=>u.there b o e hc) u.tups u.frzs u.tbls (fun m' hm=>by
  obtain⟨o',es',ep',ho',r'⟩:=hm
  rw [ho] at ho'; cases ho'
  exact⟨_,es',ep',hL,r'⟩) hok hg
theorem Inv.turned {t':Nat}{it:Addr}(I:Inv X pins σ H s)(k:∀b o,b≠it->s.heap.get? b=some o->h'.get? b=some o)(hn:H it=none)(hL:it≠X.env.locals)
  (h1:it∈X.ex∨X.s₀.heap.objs.size≤it) (h2:∀x c,X.env.cells.lookup x=some c->c≠it) (h3:∀p∈X.pn++pins,p.1≠it):Inv X pins σ H { s with heap:=h',toks:=t' }:=by
 have nit:∀b u,H b=some u->b≠it:=fun b u e z=>by rw [z,hn] at e; cases e
 refine I.step (g':=s.gens) (d':=s.drawn) (ch:=[it]) (fun b hb=>?_) (fun b o _ _ hc e _=>k b o (fun z=>hc (by simp [z])) e) (fun b o _ _ hc e _=>⟨o.slots,k b o (fun z=>hc (by simp [z])) e⟩) (fun _ _ _ _ n=>n)
  (fun b o hc e=>⟨o,k b o (fun z=>hc (by simp [z])) e⟩) (fun _ _ e=>e) (fun _ _ _ e=>e) (fun b ps e=>⟨#[],by rw [e]; simp⟩) (fun m hm=>?_) (fun b u e=>?_) I.bare
 ·have e:b=it:=by simpa using hb
  subst e
  exact⟨h1,hL,h2,h3⟩
 ·obtain⟨o,es,ep,ho,r⟩:=hm
  exact⟨o,es,ep,k _ o (Ne.symm hL) ho,r⟩
 ·refine(I.hok b u e).stay (fun c v hc q=>k c v ?_ q) (fun _ q=>q) fun _ _ q=>q
  rcases hc with z | z
  ·rw [z]; exact nit b u e
  ·exact nit c _ z
theorem Inv.tok (I:Inv X pins σ H s)(t:Nat):Inv X pins σ H { s with toks:=t }:=I.un (h':=s.heap) (t':=t) Un.refl I.hok
theorem Inv.kept {t':Nat}(I:Inv X pins σ H s)(k:∀b u,s.heap.get? b=some u->h'.get? b=some u):Inv X pins σ H { s with heap:=h',toks:=t' }:=I.un (Un.kept k) (I.hok.kept k)
theorem Inv.laid {a:Addr}{o:HO}{t':Nat}(I:Inv X pins σ H s)(k:∀b u,s.heap.get? b=some u->h'.get? b=some u)(hp:s.heap.objs.size≤a)(new:ObjOk X.prog X.w (j1 H a o) h' a o) :
  Inv X pins σ (j1 H a o) { s with heap:=h',toks:=t' }:=I.un (Un.laid k hp (I.hok.fresh hp)) (I.hok.laid k hp new)
theorem Inv.write {x e:Addr}{o:HO}{t':Nat}(I:Inv X pins σ H s)(mu:Mut (H x))(he:e=x∨H e=some (.own x))(k:∀b u,b≠e->s.heap.get? b=some u->h'.get? b=some u)(heo:∃u,h'.get? e=some u)
  (new:ObjOk X.prog X.w (j1 H x o) h' x o):Inv X pins σ (j1 H x o) { s with heap:=h',toks:=t' }:=I.un (Un.write mu he k heo) (I.hok.write mu he k heo new)
theorem Inv.weak {σ':List (Option V)}(I:Inv X pins σ H s)(hl:σ'.length=σ.length)(w:∀(i:Nat) v,σ'[i]?=some (some v)->σ[i]?=some (some v)):Inv X pins σ' H s :=
 ⟨I.ok,I.os,I.bare,I.base,let ⟨m,hn,hl'⟩:=I.loc; ⟨m,hn,fun i x v e1 e2 e3=>hl' i x v e1 (w i v e2) e3⟩,I.cell,I.free,I.freeC,I.pin,I.hok,hl.trans I.len⟩
theorem Inv.pins_of {pins':List (Addr×Obj)}(I:Inv X pins σ H s)(h:∀p∈pins',s.heap.get? p.1=some p.2∧H p.1=none∧p.1≠X.env.locals∧p.1∉X.fs∧∀v,p.2.data≠.cell v):Inv X pins' σ H s :=
 ⟨I.ok,I.os,I.bare,I.base,I.loc,I.cell,I.free,I.freeC,fun p hp=>(List.mem_append.mp hp).elim (fun z=>I.pin p (List.mem_append_left _ z)) (h p),I.hok,I.len⟩
theorem jmL {N:List Str}(hN:N.Nodup){i j:Nat}{x:Str}(a:N[i]?=some x)(b:N[j]?=some x):i=j:=by
 obtain⟨h1,e1⟩:=List.getElem?_eq_some_iff.mp a
 obtain⟨h2,e2⟩:=List.getElem?_eq_some_iff.mp b
 exact(List.getElem_inj hN).mp (e1.trans e2.symm)
theorem jv4 {M:Model}{A:Around}{E:Value->Shared->Prop}{i:Nat}{x:Str}{v:V}{u:Value}{Q:Unit->Shared->Prop}(I:Inv X pins σ H s)(hN:X.N.Nodup)(hi:X.N[i]?=some x)(hx:Loc X.env.scope x)(r:RelV v u)
  (h:∀s',Inv X pins (σ.set i (some v)) H s'->(∃a,Heap.SameBut a s.heap s'.heap∧(a=X.env.locals∨X.env.cells.lookup x=some a))->Q () s') (hf:X.fn x=true∨X.env.scope.names.lookup x=some .local:=by first | exact .inl rfl | exact .inr rfl | assumption):wpAny M A (storeName X.env x u) Q E s:=by
 obtain⟨m,hn,hl⟩:=id I.loc
 have hcls:(X.env.scope.kind == .class||(X.env.scope.kind == .module&&X.env.locals != X.env.globals))=false:=by rw [I.ok.kind]; rfl
 have hiσ:i<σ.length:=by rw [I.len]; exact(List.getElem?_eq_some_iff.mp hi).1
 have cne:=I.cne
 have tracked:∀{a:Addr} {h':Heap},(∃o,s.heap.get? a=some o∧H a=none)->Heap.SameBut a s.heap h'->HOk X.prog X.w H h':=fun {a h'} ha hs b ob e=>by
  obtain⟨_,_,hfree⟩:=ha
  refine(I.hok b ob e).stay (fun c w' hc q=>(hs.2 c ?_).trans q) (fun _ q=>q) fun _ _ q=>q
  rintro rfl
  rcases hc with rfl | hc
  ·rw [hfree] at e; cases e
  ·rw [hfree] at hc; cases hc
 rcases hx with hk | hk
 ·refine wpAny_storeName_local hk hn (fun h' hn' hs=>?_) hcls
  obtain⟨oL,_,_,hoL,_⟩:=id hn
  refine h _ ⟨I.ok,I.os,I.bare,⟨fun b o e n hb hx=>?_,fun b o e n hb hx=>?_,I.base.free,fun b o e hx=>?_,I.base.tups,I.base.frzs,I.base.tbls⟩,⟨_,hn',fun j y v' e1 e2 e3=>?_⟩,fun y c e=>?_,I.free,I.freeC,fun p hp=>?_,tracked ⟨oL,hoL,I.free⟩ hs,by simpa using I.len⟩ ⟨_,hs,.inl rfl⟩
  ·exact(hs.2 b (Nat.ne_of_lt (Nat.lt_of_lt_of_le (Heap.lt_size e) I.ok.above))).trans (I.base.keep b o e n hb hx)
  ·obtain⟨sl,e1⟩:=I.base.slot b o e n hb hx
   exact⟨sl,(hs.2 b (Nat.ne_of_lt (Nat.lt_of_lt_of_le (Heap.lt_size e) I.ok.above))).trans e1⟩
  ·obtain⟨o',e1⟩:=I.base.there b o e hx
   exact⟨o',(hs.2 b (Nat.ne_of_lt (Nat.lt_of_lt_of_le (Heap.lt_size e) I.ok.above))).trans e1⟩
  ·by_cases hj:j=i
   ·subst hj
    rw [hi] at e1; cases e1
    rw [List.getElem?_set_self hiσ] at e2
    cases e2
    exact⟨u,r,.inl ⟨hk,by simp⟩⟩
   ·rw [List.getElem?_set_ne (Ne.symm hj)] at e2
    obtain⟨u',r',q⟩:=hl j y v' e1 e2 e3
    refine⟨u',r',?_⟩
    rcases q with⟨k,e⟩ | ⟨k,c,e,z⟩
    ·refine .inl ⟨k,?_⟩
     have:y≠x:=fun e=>hj (jmL hN e1 (e▸hi))
     simp [this,e]
    ·exact .inr ⟨k,c,e,z.sameBut hs (cne y c e)⟩
  ·obtain⟨w',z⟩:=I.cell y c e
   exact⟨w',z.sameBut hs (cne y c e)⟩
  ·obtain⟨e,n,ne,nf,d⟩:=I.pin p hp
   exact⟨(hs.2 p.1 ne).trans e,n,ne,nf,d⟩
 ·have hfn:X.fn x=true:=by
   rcases hf with z | z
   ·exact z
   ·rw [z] at hk; cases hk
  obtain⟨c,hc⟩:=I.ok.has x (.inl hk)
  obtain⟨w',z⟩:=I.cell x c hc
  refine wpAny_storeName_cell I.ok.kind hk hc z (fun h' hc' hs=>?_)
  obtain⟨oc,hoc,hocd⟩:=id z
  refine h { s with heap:=h' } ⟨I.ok,I.os,I.bare,⟨fun b o e n hb hx=>?_,fun b o e n hb hx=>?_,I.base.free,fun b o e hx=>?_,I.base.tups,I.base.frzs,I.base.tbls⟩,⟨m,hn.sameBut hs (Ne.symm (cne x c hc)),fun j y v' e1 e2 e3=>?_⟩,fun y c' e=>?_,I.free,I.freeC,fun p hp=>?_,tracked ⟨oc,hoc,I.freeC x c hc⟩ hs,by simpa using I.len⟩ ⟨c,hs,.inr hc⟩
  ·exact(hs.2 b (Nat.ne_of_lt (Nat.lt_of_lt_of_le (Heap.lt_size e) (I.ok.cab x c hfn hc)))).trans (I.base.keep b o e n hb hx)
  ·obtain⟨sl,e1⟩:=I.base.slot b o e n hb hx
   exact⟨sl,(hs.2 b (Nat.ne_of_lt (Nat.lt_of_lt_of_le (Heap.lt_size e) (I.ok.cab x c hfn hc)))).trans e1⟩
  ·obtain⟨o',e1⟩:=I.base.there b o e hx
   exact⟨o',(hs.2 b (Nat.ne_of_lt (Nat.lt_of_lt_of_le (Heap.lt_size e) (I.ok.cab x c hfn hc)))).trans e1⟩
  ·by_cases hj:j=i
   ·subst hj
    rw [hi] at e1; cases e1
    rw [List.getElem?_set_self hiσ] at e2
    cases e2
    exact⟨u,r,.inr ⟨.inl hk,c,hc,hc'⟩⟩
   ·rw [List.getElem?_set_ne (Ne.symm hj)] at e2
    obtain⟨u',r',q⟩:=hl j y v' e1 e2 e3
    refine⟨u',r',?_⟩
    rcases q with q | ⟨k,c',e,z'⟩
    ·exact .inl q
    ·refine .inr ⟨k,c',e,z'.sameBut hs ?_⟩
     rintro rfl
     exact hj (jmL hN e1 (I.ok.inj _ _ _ e hc▸hi))
  ·by_cases hcc:c'=c
   ·subst hcc; exact⟨_,hc'⟩
   ·obtain⟨w2,z2⟩:=I.cell y c' e
    exact⟨w2,z2.sameBut hs hcc⟩
  ·obtain⟨e,n,ne,nf,d⟩:=I.pin p hp
   refine⟨(hs.2 p.1 ?_).trans e,n,ne,nf,d⟩
   intro q
   rw [q,hoc] at e
   have q':oc=p.2:=Option.some.inj e
   exact d w' (by rw [←q']; exact hocd)
theorem jmH {M:Model}{A:Around}{E:Value->Shared->Prop}{i:Nat}{x:Str}{v:V}{u:Value}{Q:Unit->Shared->Prop}(I:Inv X pins σ H s)(hN:X.N.Nodup)(hi:X.N[i]?=some x)(hx:Loc X.env.scope x)(r:RelV v u)
  (h:∀s',Inv X pins (σ.set i (some v)) H s'->Q () s') (hf:X.fn x=true∨X.env.scope.names.lookup x=some .local:=by first | exact .inl rfl | exact .inr rfl | assumption):wpAny M A (storeName X.env x u) Q E s :=
 jv4 I hN hi hx r (fun s' I' _=>h s' I') hf
theorem Inv.call' {s':Shared}{ch:List Addr}(I:Inv X pins σ H s)(ho:s'.os=s.os)(u:Un (frs X.stack) ch H H' s.heap s'.heap)(hok:HOk X.prog X.w H' s'.heap)(hg:AllBare s'.gens)
  (hch:∀b∈ch,(b∈X.ex∨X.s₀.heap.objs.size≤b)∧b≠X.env.locals∧(∀x c,X.env.cells.lookup x=some c->c≠b)∧∀p∈X.pn++pins,p.1≠b):Inv X pins σ H' s':=by
 obtain⟨h',g',d',t',o'⟩:=s'
 have e:o'=s.os:=ho
 subst e
 exact I.call (g':=g') (t':=t') (d':=d') u hok hg hch
end
abbrev XK:=Value->Option Addr->Hp->Prop
abbrev St:=List (Option V)
abbrev VK:=V->Hp->Prop
abbrev TE:=St->Hp->VK->Prop
abbrev TT:=St->Hp->(Bool->Hp->Prop)->Prop
abbrev TA:=St->Hp->(List V->Hp->Prop)->Prop
structure jgs where
 nx:St->Hp->Prop
 rt:VK
 bk:St->Hp->Prop:=fun _ _=>False
 ct:St->Hp->Prop:=fun _ _=>False
abbrev TS:=jgs->St->Hp->Prop
def EP (X:Cx)(pins:List (Addr×Obj))(σ:St)(Q:VK)(u:Value)(s':Shared):Prop:=∃v H',Inv X pins σ H' s'∧RelV v u∧Q v H'
def TP (X:Cx)(pins:List (Addr×Obj))(σ:St)(Q:Bool->Hp->Prop)(b:Bool)(s':Shared):Prop:=∃H',Inv X pins σ H' s'∧Q b H'
def AP (X:Cx)(pins:List (Addr×Obj))(σ:St)(Q:List V->Hp->Prop)(us:List Value)(s':Shared):Prop:=∃vs H',Inv X pins σ H' s'∧Vals vs us∧Q vs H'
def SP (X:Cx)(pins:List (Addr×Obj))(D:jgs)(f:Flow)(s':Shared):Prop :=
 match f with
 | .next=>∃σ' H',Inv X pins σ' H' s'∧D.nx σ' H'
 | .brk=>∃σ' H',Inv X pins σ' H' s'∧D.bk σ' H'
 | .cont=>∃σ' H',Inv X pins σ' H' s'∧D.ct σ' H'
 | .ret u=>∃v σ' H',Inv X pins σ' H' s'∧RelV v u∧D.rt v H'
def PE (X:Cx)(e:Expr)(t:TE):Prop :=
 ∀(pins:List (Addr×Obj)) (s:Shared) (σ:St) (H:Hp) (Q:VK),Inv X pins σ H s->t σ H Q->wpAny (model X.prog X.w) X.A (eval e X.env) (EP X pins σ Q) X.xe s
def PT (X:Cx)(e:Expr)(t:TT):Prop :=
 ∀(pins:List (Addr×Obj)) (s:Shared) (σ:St) (H:Hp) (Q:Bool->Hp->Prop),Inv X pins σ H s->t σ H Q->wpAny (model X.prog X.w) X.A (isTrue e X.env (eval e X.env)) (TP X pins σ Q) X.xe s
def PW (X:Cx)(e:Expr)(t:TT):Prop :=
 ∀(whole:Sem Value) (pins:List (Addr×Obj)) (s:Shared) (σ:St) (H:Hp) (Q:Bool->Hp->Prop),Inv X pins σ H s->t σ H Q->wpAny (model X.prog X.w) X.A (isTrue e X.env whole) (TP X pins σ Q) X.xe s
theorem PW.pt {X:Cx}{e:Expr}{t:TT}(h:PW X e t):PT X e t:=h _
def PA (X:Cx)(es:List Expr)(t:TA):Prop :=
 ∀(pos:Pos) (pins:List (Addr×Obj)) (s:Shared) (σ:St) (H:Hp) (Q:List V->Hp->Prop),Inv X pins σ H s->t σ H Q->wpAny (model X.prog X.w) X.A (spliced (backTo pos (starEach es X.env))) (AP X pins σ Q) X.xe s
def PS (X:Cx)(st:Stmt)(t:TS):Prop :=
 ∀(pins:List (Addr×Obj)) (s:Shared) (σ:St) (H:Hp) (D:jgs),Inv X pins σ H s->t D σ H->wpAny (model X.prog X.w) X.A (exec st X.env) (SP X pins D) X.xe s
def PSs (X:Cx)(st:List Stmt)(t:TS):Prop :=
 ∀(pins:List (Addr×Obj)) (s:Shared) (σ:St) (H:Hp) (D:jgs),Inv X pins σ H s->t D σ H->wpAny (model X.prog X.w) X.A (execs st X.env) (SP X pins D) X.xe s
theorem jQ {α:Type}{t:Sem α}{Q Q':α->Shared->Prop}{M:Model}{A:Around}{E:Value->Shared->Prop}{s:Shared}(h:wpAny M A t Q E s)(hQ:∀a s,Q a s->Q' a s):wpAny M A t Q' E s:=wpAny_mono h hQ fun _ _ x=>x
end L2
namespace L2
open PySem PySem.Spec PyProof.Rows
section
variable {X:Cx}
def jgq (i:Nat):TE:=fun σ H Q=>∃v,σ[i]?=some (some v)∧Q v H
def tC (v:V):TE:=fun _ H Q=>Q v H
theorem jsj {i:Nat}{x:Str}{pos:Pos}(hN:X.N[i]?=some x)(hv:Vis X.env.scope x)(hd:(x == ("__debug__":Str))=false:=by decide)(hcd:(x == ("__classdict__":Str))=false:=by decide):PE X (.Name x pos) (jgq i):=by
 intro pins s σ H Q I h
 obtain⟨v,e,h⟩:=h
 obtain⟨m,hn,hl⟩:=I.loc
 obtain⟨u,r,l⟩:=hl i x v hN e hv
 have fin:EP X pins σ Q u s:=⟨v,H,I,r,h⟩
 rcases l with⟨hk,hm⟩ | ⟨hk,c,hc,hcell⟩
 ·exact wpAny_Name (wpAny_loadName_local I.ok.kind hk hn hm fin) hd
 ·rcases hk with hk | hk
  ·exact wpAny_Name (wpAny_loadName_cell I.ok.kind hk hc hcell fin) hd
  ·exact wpAny_Name (wpAny_loadName_free I.ok.kind hk hc hcell fin hcd) hd
theorem jAX {i j pos}:PE X (.Constant (.int i) j pos) (tC (.int i)):=fun _ _ _ H _ I h=>wpAny_Constant_int ⟨.int i,H,I.tok _,⟨_,rfl⟩,h⟩
theorem jBu {b j pos}:PE X (.Constant (.bool b) j pos) (tC (.bl b)):=fun _ _ _ H _ I h=>Constant_bool ⟨.bl b,H,I,rfl,h⟩
theorem jAG {j pos}:PE X (.Constant .none j pos) (tC .non):=fun _ _ _ H _ I h=>Constant_none ⟨.non,H,I,rfl,h⟩
theorem jAI {x j pos}:PE X (.Constant (.str x) j pos) (tC (.str x)):=fun _ _ _ H _ I h=>Calls.Constant_str ⟨.str x,H,I.tok _,⟨_,rfl⟩,h⟩
def Gl (X:Cx)(x:Str):Prop:=X.env.kindOf x=some .globalImplicit
theorem jdY {E:Value->Shared->Prop}{pins:List (Addr×Obj)}{s:Shared}{σ:St}{H:Hp}{x:Str}{u:Value}{pos:Pos}{Q:Value->Shared->Prop}(I:Inv X pins σ H s)(hg:Gl X x)(hm:X.mg x=some u)(h:Q u s)
  (hd:(x == ("__debug__":Str))=false:=by decide):wpAny (model X.prog X.w) X.A (eval (.Name x pos) X.env) Q E s :=
 Calls.Name_function_global I.ok.kind hg (Calls.loadGlobal_global (by rw [I.ok.glob]; exact I.mod.glob.keeps I.bk) hm h) hd
theorem jka {E:Value->Shared->Prop}{pins:List (Addr×Obj)}{s:Shared}{σ:St}{H:Hp}{x:Str}{u:Value}{pos:Pos}{Q:Value->Shared->Prop}(I:Inv X pins σ H s)(hg:Gl X x)(hm:X.mg x=none)(hv:bootBuiltins x=some u)(h:Q u s)
  (hn:x≠"__name__":=by decide) (hd:(x == ("__debug__":Str))=false:=by decide):wpAny (model X.prog X.w) X.A (eval (.Name x pos) X.env) Q E s:=by
 obtain⟨mb,h1,h2⟩:=I.mod.blt
 exact Calls.Name_function_global I.ok.kind hg (Calls.loadGlobal_builtin (by rw [I.ok.glob]; exact I.mod.glob.keeps I.bk) hm (by rw [I.ok.blt]; exact h1.keeps I.bk) ((h2 x hn).trans hv) h) hd
theorem jib {x:Str}{v:V}{u:Value}{pos:Pos}(hg:Gl X x)(hm:X.mg x=some u)(r:RelV v u)(hd:(x == ("__debug__":Str))=false:=by decide):PE X (.Name x pos) (tC v) :=
 fun _ _ _ H _ I h=>jdY I hg hm ⟨v,H,I,r,h⟩ hd
theorem js5 {x:Str}{v:V}{u:Value}{pos:Pos}(hg:Gl X x)(hm:X.mg x=none)(hv:bootBuiltins x=some u)(r:RelV v u)(hn:x≠"__name__":=by decide)(hd:(x == ("__debug__":Str))=false:=by decide):PE X (.Name x pos) (tC v) :=
 fun _ _ _ H _ I h=>jka I hg hm hv ⟨v,H,I,r,h⟩ hn hd
variable {a b:Expr}{ta tb:TE}{pos:Pos}
def PC (X:Cx)(op:CmpOp)(a b:Expr)(t:TE):Prop :=
 ∀(pins:List (Addr×Obj)) (s:Shared) (σ:St) (H:Hp) (Q:VK),Inv X pins σ H s->t σ H Q ->
  wpAny (model X.prog X.w) X.A (eval a X.env) (fun v s₁=>wpAny (model X.prog X.w) X.A (eval b X.env) (fun u s₂=>wpAny (model X.prog X.w) X.A (compareOp op v u) (EP X pins σ Q) X.xe s₂) X.xe s₁) X.xe s
theorem jri (b:Expr){op:CmpOp}(h:op≠.In)(h2:op≠.NotIn):behindInMarks op b=false:=by
 have e1:(op == CmpOp.In)=false:=by cases op <;> first | rfl | exact absurd rfl h
 have e2:(op == CmpOp.NotIn)=false:=by cases op <;> first | rfl | exact absurd rfl h2
 cases b <;> simp [behindInMarks,e1,e2]
def tB (t:TE):TT:=fun σ H Q=>t σ H fun x H1=>∃c,x=.bl c∧Q c H1
theorem jAb {op:CmpOp}{t:TE}(h:PC X op a b t)(h1:behindInMarks op b=false:=by first | exact jri _ (by decide) (by decide) | rfl):PT X (.Compare a [op] [b] pos) (tB t):=by
 intro pins s σ H Q I hw
 refine wpAny_isTrue_Compare1 (jQ (h pins s σ H _ I hw) fun v s1 h1=>jQ h1 fun u s2 h2=>jQ h2 fun c s3 qZ=>?_) h1
 obtain⟨x,H1,I1,r1,q1⟩:=qZ
 obtain⟨d,rfl,q⟩:=q1
 cases r1
 exact wpAny_truthy_bool ⟨H1,I1,q⟩
theorem jvY {e:Expr}{t:TE}(h:PE X e t)(he:∀whole,isTrue e X.env whole=(do let v ←whole; standAt e.pos; holding [v] (truthy v)):=by intro _; rfl):PT X e (tB t):=by
 intro pins s σ H Q I hw
 refine isTrue_plain (jQ (h pins s σ H _ I hw) fun v s1 qZ=>?_) (he _)
 obtain⟨x,H1,I1,r1,q1⟩:=qZ
 obtain⟨d,rfl,q⟩:=q1
 cases r1
 exact wpAny_truthy_bool ⟨H1,I1,q⟩
variable {tA tB':TT}{jJ:List Expr}
def jCp (t u:TT):TT:=fun σ H Q=>t σ H fun c H1=>if c=true then u σ H1 Q else Q false H1
def tOr (t u:TT):TT:=fun σ H Q=>t σ H fun c H1=>if c=true then Q true H1 else u σ H1 Q
def jCg (t:TT):TT:=fun σ H Q=>t σ H fun c H1=>Q (!c) H1
theorem jyI (ha:PT X a tA):PW X (.BoolOp .And [a] pos) tA:=by
 intro wh pins s σ H Q I h
 refine isTrue_and (jQ (ha pins s σ H Q I h) fun c s1 e=>?_)
 cases c with
 | true=>exact isTrue_and_nil e
 | false=>exact e
theorem jvd (ha:PT X a tA):PW X (.BoolOp .Or [a] pos) tA:=by
 intro wh pins s σ H Q I h
 refine isTrue_or (jQ (ha pins s σ H Q I h) fun c s1 e=>?_)
 cases c with
 | false=>exact isTrue_or_nil e
 | true=>exact e
theorem jzI (ha:PT X a tA)(hb:PW X (.BoolOp .And (b::jJ) pos) tB'):PW X (.BoolOp .And (a::b::jJ) pos) (jCp tA tB'):=by
 intro wh pins s σ H Q I h
 refine isTrue_and (jQ (ha pins s σ H _ I h) fun c s1 qZ=>?_)
 obtain⟨H1,I1,q1⟩:=qZ
 cases c with
 | true=>exact hb wh pins s1 σ H1 Q I1 q1
 | false=>exact⟨H1,I1,q1⟩
theorem jxR (ha:PT X a tA)(hb:PW X (.BoolOp .Or (b::jJ) pos) tB'):PW X (.BoolOp .Or (a::b::jJ) pos) (tOr tA tB'):=by
 intro wh pins s σ H Q I h
 refine isTrue_or (jQ (ha pins s σ H _ I h) fun c s1 qZ=>?_)
 obtain⟨H1,I1,q1⟩:=qZ
 cases c with
 | true=>exact⟨H1,I1,q1⟩
 | false=>exact hb wh pins s1 σ H1 Q I1 q1
theorem jBa (ha:PT X a tA):PT X (.UnaryOp .Not a pos) (jCg tA):=by
 intro pins s σ H Q I h
 exact isTrue_not (ha pins s σ H (fun c H1=>Q (!c) H1) I h)
def jBL (ta tb:TE):TE:=fun σ H Q=>ta σ H fun x H1=>∃c,x=.bl c∧if c=true then tb σ H1 Q else Q (.bl false) H1
def jBA (ta:TE):TE:=fun σ H Q=>ta σ H fun x H1=>∃c,x=.bl c∧Q (.bl (!c)) H1
theorem jvw {op}{t:TE}(h:PE X a t):PE X (.BoolOp op [a] pos) t:=fun pins s σ H Q I hw=>BoolOp_one (h pins s σ H Q I hw)
theorem juR (ha:PE X a ta)(hb:PE X (.BoolOp .And (b::jJ) pos) tb):PE X (.BoolOp .And (a::b::jJ) pos) (jBL ta tb):=by
 intro pins s σ H Q I h
 refine BoolOp_and (jQ (ha pins s σ H _ I h) fun v s1 qZ=>?_)
 obtain⟨x,H1,I1,r1,q1⟩:=qZ
 obtain⟨c,rfl,q1⟩:=q1
 cases r1
 refine wpAny_truthy_bool ?_
 cases c with
 | true=>exact hb pins s1 σ H1 Q I1 q1
 | false=>exact⟨.bl false,H1,I1,rfl,q1⟩
theorem jzV (ha:PE X a ta):PE X (.UnaryOp .Not a pos) (jBA ta):=by
 intro pins s σ H Q I h
 refine UnaryOp_ (jQ (ha pins s σ H _ I h) fun v s1 qZ=>?_)
 obtain⟨x,H1,I1,r1,q1⟩:=qZ
 obtain⟨c,rfl,q1⟩:=q1
 cases r1
 exact not_of (wpAny_truthy_bool ⟨.bl (!c),H1,I1,rfl,q1⟩)
def tIf (t:TT)(ta tb:TE):TE:=fun σ H Q=>t σ H fun c H1=>if c=true then ta σ H1 Q else tb σ H1 Q
theorem jxh {c:Expr}(hc:PT X c tA)(ha:PE X a ta)(hb:PE X b tb):PE X (.IfExp c a b pos) (tIf tA ta tb):=by
 intro pins s σ H Q I h
 refine wpAny_IfExp (jQ (hc pins s σ H _ I h) fun d s1 qZ=>?_)
 obtain⟨H1,I1,q1⟩:=qZ
 cases d with
 | true=>exact ha pins s1 σ H1 Q I1 q1
 | false=>exact hb pins s1 σ H1 Q I1 q1
end
end L2
namespace L2
open PySem PySem.Spec PyProof.Rows
def SqL (K:PySem.W.Frag)(H:Hp)(a:Addr)(xs:List V):Prop :=
 Rd H a (.lst xs) ∨
  ∃(o:Obj) (its:Array Value) (n:Nat),K.lookup a=some o∧o.cls=.type "list"∧o.dict=none∧o.data=.seq its n∧its.size≤sizeLine∧Vals xs its.toList
def SqT (K:PySem.W.Frag)(H:Hp)(a:Addr)(xs:List V):Prop :=
 Rd H a (.tup xs) ∨
  ∃(o:Obj) (its:Array Value) (n:Nat),K.lookup a=some o∧o.cls=.type "tuple"∧o.data=.seq its n∧its.size≤sizeLine∧Vals xs its.toList
def jCu:Value->Option V
 | .none=>some .non
 | .bool b=>some (.bl b)
 | .int i _=>some (.int i)
 | .str x _=>some (.str x)
 | .bytes b _=>some (.byt b)
 | .float b _=>some (.flt b)
 | .ref a=>some (.ref a)
 | .type n=>some (.ty n)
 | _=>none
theorem RelV.abs {x:V}{u:Value}(r:RelV x u):jCu u=some x:=by
 cases x with
 | non=>cases r; rfl
 | bl _=>cases r; rfl
 | int _=>obtain⟨t,rfl⟩:=r; rfl
 | str _=>obtain⟨t,rfl⟩:=r; rfl
 | byt _=>obtain⟨t,rfl⟩:=r; rfl
 | flt _=>obtain⟨t,rfl⟩:=r; rfl
 | ref _=>cases r; rfl
 | ty _=>cases r; rfl
theorem RelV.inj {x y:V}{u:Value}(r:RelV x u)(q:RelV y u):x=y:=Option.some.inj (r.abs.symm.trans q.abs)
theorem Vals.inj:∀{xs ys:List V} {us:List Value},Vals xs us->Vals ys us->xs=ys
 | _,_,_,.nil,.nil=>rfl
 | _,_,_,.cons r t,.cons r' t'=>by rw [r.inj r',Vals.inj t t']
section
variable {X:Cx}{pins:List (Addr×Obj)}{σ:St}{H:Hp}{s:Shared}{a:Addr}{xs ys:List V}
theorem SqT.of {K:PySem.W.Frag}(h:H a=some (.tup xs)):SqT K H a xs:=.inl (.inl h)
theorem Inv.list (I:Inv X pins σ H s)(h:SqL X.K H a xs):∃its:List Value,Vals xs its∧PlainL s.heap a its.toArray∧xs.length≤sizeLine:=by
 rcases h with h | ⟨o,its,n,hk,hc,hd,hs,hz,r⟩
 ·obtain⟨z,its,n,r,e⟩:=h.ok I.hok
  exact⟨its,r,⟨_,n,e,rfl,rfl,rfl⟩,z⟩
 ·refine⟨its.toList,r,⟨o,n,I.kIn a o hk,hc,hd,by simpa using hs⟩,?_⟩
  have e:=r.length
  simp only [Array.length_toList] at e
  omega
theorem Inv.tuple (I:Inv X pins σ H s)(h:SqT X.K H a xs):∃its:List Value,Vals xs its∧IsTup s.heap a its.toArray∧xs.length≤sizeLine:=by
 rcases h with h | ⟨o,its,n,hk,hc,hs,hz,r⟩
 ·obtain⟨z,its,r,p⟩:=h.ok I.hok
  exact⟨its,r,p,z⟩
 ·refine⟨its.toList,r,⟨o,I.kIn a o hk,hc,n,by simpa using hs⟩,?_⟩
  have e:=r.length
  simp only [Array.length_toList] at e
  omega
theorem Inv.list_inj (I:Inv X pins σ H s)(h:SqL X.K H a xs)(h':SqL X.K H a ys):xs=ys:=by
 obtain⟨its,r,⟨o,n,e,_,_,d⟩,_⟩:=I.list h
 obtain⟨its',r',⟨o',n',e',_,_,d'⟩,_⟩:=I.list h'
 rw [e] at e'; cases e'
 rw [d] at d'
 injection d' with d1 _
 have:its=its':=by simpa using congrArg Array.toList d1
 subst this
 exact r.inj r'
theorem Inv.tuple_inj (I:Inv X pins σ H s)(h:SqT X.K H a xs)(h':SqT X.K H a ys):xs=ys:=by
 obtain⟨its,r,⟨o,e,_,n,d⟩,_⟩:=I.tuple h
 obtain⟨its',r',⟨o',e',_,n',d'⟩,_⟩:=I.tuple h'
 rw [e] at e'; cases e'
 rw [d] at d'
 injection d' with d1 _
 have:its=its':=by simpa using congrArg Array.toList d1
 subst this
 exact r.inj r'
end
abbrev Cx.wish (X:Cx)(E:Value->Shared->Prop):Cx:={ X with xe:=E }
abbrev Cx.nox (X:Cx):Cx:=X.wish fun _ _=>False
theorem Cx.Ok.wish {X:Cx}(ok:X.Ok)(E:Value->Shared->Prop):(X.wish E).Ok :=
 ⟨ok.mod,ok.kind,ok.glob,ok.blt,ok.above,ok.inj,ok.has,ok.cab,ok.hd,ok.frames,ok.stk,ok.exf,ok.bs,ok.bsz,ok.noex,ok.exfs,ok.funs,ok.frf⟩
theorem Cx.Ok.unwish {X:Cx}{E:Value->Shared->Prop}(ok:(X.wish E).Ok):X.Ok :=
 ⟨ok.mod,ok.kind,ok.glob,ok.blt,ok.above,ok.inj,ok.has,ok.cab,ok.hd,ok.frames,ok.stk,ok.exf,ok.bs,ok.bsz,ok.noex,ok.exfs,ok.funs,ok.frf⟩
section
variable {X:Cx}{pins:List (Addr×Obj)}{σ:St}{H:Hp}{s:Shared}{E:Value->Shared->Prop}
theorem Inv.wish (I:Inv X pins σ H s)(E:Value->Shared->Prop):Inv (X.wish E) pins σ H s:=⟨I.ok.wish E,I.os,I.bare,I.base,I.loc,I.cell,I.free,I.freeC,I.pin,I.hok,I.len⟩
theorem Inv.unwish (I:Inv (X.wish E) pins σ H s):Inv X pins σ H s:=⟨I.ok.unwish,I.os,I.bare,I.base,I.loc,I.cell,I.free,I.freeC,I.pin,I.hok,I.len⟩
theorem SP.unwish {D:jgs}{f:Flow}{s':Shared}(h:SP (X.wish E) pins D f s'):SP X pins D f s':=by
 cases f with
 | next=>obtain⟨σ',H',I,q⟩:=h; exact⟨σ',H',I.unwish,q⟩
 | brk=>obtain⟨σ',H',I,q⟩:=h; exact⟨σ',H',I.unwish,q⟩
 | cont=>obtain⟨σ',H',I,q⟩:=h; exact⟨σ',H',I.unwish,q⟩
 | ret u=>obtain⟨v,σ',H',I,r,q⟩:=h; exact⟨v,σ',H',I.unwish,r,q⟩
theorem PSs.nox {st:List Stmt}{t:TS}(h:PSs X.nox st t):PSs X st t:=fun pins s σ H D I hw =>
 wpAny_mono (h pins s σ H D (I.wish _) hw) (fun _ _ q=>q.unwish) fun _ _ z=>False.elim z
end
section
variable {X:Cx}{st:Stmt}{jJ:List Stmt}{t u:TS}{e:Expr}{te:TE}{pos:Pos}
def jBv:TS:=fun D σ H=>D.nx σ H
def jCw (t u:TS):TS:=fun D σ H=>t { D with nx:=u D } σ H
theorem jh9:PSs X [] jBv:=fun _ _ σ H _ I h=>wpAny_execs_nil ⟨σ,H,I,h⟩
theorem jbX (h1:PS X st t)(h2:PSs X jJ u):PSs X (st::jJ) (jCw t u):=by
 intro pins s σ H D I h
 refine wpAny_execs_cons (jQ (h1 pins s σ H { D with nx:=u D } I h) fun f s1 q=>?_)
 cases f with
 | next =>
  obtain⟨σ',H',I',q⟩:=q
  exact h2 pins s1 σ' H' D I' q
 | ret v=>exact q
 | brk=>exact q
 | cont=>exact q
theorem jeH (h1:PS X st t):PSs X [st] t:=by
 intro pins s σ H D I h
 refine wpAny_execs_cons (jQ (h1 pins s σ H D I h) fun f s1 q=>?_)
 cases f with
 | next=>exact wpAny_execs_nil q
 | ret v=>exact q
 | brk=>exact q
 | cont=>exact q
theorem Inv.quiet {pins:List (Addr×Obj)}{σ:St}{H:Hp}{s:Shared}(I:Inv X pins σ H s):interactive X.env=false:=by simp [interactive,I.ok.kind]
def jBx (te:TE):TS:=fun D σ H=>te σ H fun _ H1=>D.nx σ H1
theorem jzx (he:PE X e te)(hs:swapsWith e none pos.line X.env=pure false:=by rfl):PS X (.Expr e pos) (jBx te):=by
 intro pins s σ H D I h
 exact wpAny_Expr_any (jQ (he pins s σ H _ I h) fun v s1 ⟨x,H1,I1,r1,q1⟩=>⟨σ,H1,I1,q1⟩) I.quiet hs
def jCk (te:TE):TS:=fun D σ H=>te σ H D.rt
theorem jnY (he:PE X e te):PS X (.Return (some e) pos) (jCk te):=by
 intro pins s σ H D I h
 exact wpAny_Return_some (jQ (he pins s σ H _ I h) fun v s1 ⟨x,H1,I1,r1,q1⟩=>⟨x,σ,H1,I1,r1,q1⟩)
def jCs (c:TT)(t u:TS):TS:=fun D σ H=>c σ H fun b H1=>if b=true then t D σ H1 else u D σ H1
theorem jlo {c:Expr}{a b:List Stmt}{tc:TT}(hc:PT X c tc)(ha:PSs X a t)(hb:PSs X b u):PS X (.If c a b pos) (jCs tc t u):=by
 intro pins s σ H D I h
 refine wpAny_If (jQ (hc pins s σ H _ I h) fun d s1 qZ=>?_)
 obtain⟨H1,I1,q1⟩:=qZ
 cases d with
 | true=>exact ha pins s1 σ H1 D I1 q1
 | false=>exact hb pins s1 σ H1 D I1 q1
def jAm:TS:=fun _ _ _=>False
theorem jxy:PS X st jAm:=fun _ _ _ _ _ _ h=>h.elim
end
abbrev TG:=V->St->Hp->(St->Hp->Prop)->Prop
def PG (X:Cx)(target:Expr)(t:TG):Prop :=
 ∀(pins:List (Addr×Obj)) (s:Shared) (σ:St) (H:Hp) (v:V) (u:Value) (Q:St->Hp->Prop),Inv X pins σ H s->RelV v u->t v σ H Q ->
  wpAny (model X.prog X.w) X.A (assign target X.env u) (fun _ s'=>∃σ' H',Inv X pins σ' H' s'∧Q σ' H') X.xe s
section
variable {X:Cx}{pos:Pos}
def jyk (i:Nat):TG:=fun v σ H Q=>Q (σ.set i (some v)) H
theorem js8 {i:Nat}{x:Str}(hN:X.N.Nodup)(hi:X.N[i]?=some x)(hx:Loc X.env.scope x)(hf:X.fn x=true∨X.env.scope.names.lookup x=some .local:=by first | exact .inl rfl | exact .inr rfl | assumption):PG X (.Name x pos) (jyk i):=by
 intro pins s σ H v u Q I r h
 exact wpAny_assign_Name (jmH I hN hi hx r (fun s' I'=>⟨_,H,I',h⟩) hf)
def jCr (te:TE)(g:TG):TS:=fun D σ H=>te σ H fun x H1=>g x σ H1 D.nx
theorem jkT {i:Nat}{x:Str}{e:Expr}{te:TE}{pos':Pos}(hN:X.N.Nodup)(hi:X.N[i]?=some x)(hx:Loc X.env.scope x)(he:PE X e te)(hs:swapsWith e (some (.Name x pos')) pos.line X.env=pure false:=by rfl)(hf:X.fn x=true∨X.env.scope.names.lookup x=some .local:=by first | exact .inl rfl | exact .inr rfl | assumption) :
  PS X (.Assign [.Name x pos'] e pos) (jCr te (jyk i)):=by
 intro pins s σ H D I h
 refine wpAny_Assign_Name (jQ (he pins s σ H _ I h) fun v s1 qZ=>?_) hs
 obtain⟨y,H1,I1,r1,q1⟩:=qZ
 exact jmH I1 hN hi hx r1 (fun s2 I2=>⟨_,H1,I2,q1⟩) hf
end
section
variable {X:Cx}{pos:Pos}
def jz1 (c:TT)(tb:TS):TS:=fun D σ H=>∃W:Nat->St->Hp->Prop,(∃m,W m σ H)∧∀m σ H,W m σ H ->
 c σ H fun b H1=>if b=true then ∃N:St->Hp->Prop,(∀σ' H',N σ' H'->∃m',m'<m∧W m' σ' H')∧tb { D with nx:=N,ct:=N,bk:=D.nx } σ H1 else D.nx σ H1
theorem jwL {c:Expr}{body:List Stmt}{tc:TT}{tb:TS}(hp:PassesOwn (model X.prog X.w) X.A X.env X.xe)(hc:PT X c tc)(hb:PSs X body tb):PS X (.While c body [] pos) (jz1 tc tb):=by
 intro pins s σ H D I h
 obtain⟨W,⟨m0,w0⟩,turn⟩:=h
 refine wpAny_While (codeAny_whileLoop (fun n s'=>∃σ' H',Inv X pins σ' H' s'∧W n σ' H') ?_ m0 ⟨σ,H,I,w0⟩)
 rintro n s1 ⟨σ1,H1,I1,w1⟩
 refine wpAny_passesOwn hp (jQ (hc pins s1 σ1 H1 _ I1 (turn n σ1 H1 w1)) fun b s2 qZ=>?_)
 obtain⟨H2,I2,q2⟩:=qZ
 cases b with
 | true =>
  obtain⟨N,hN,q2⟩:=q2
  rw [if_pos rfl]
  refine wpAny_passesOwn hp (jQ (hb pins s2 σ1 H2 _ I2 q2) fun f s3 q3=>?_)
  cases f with
  | next =>
   obtain⟨σ3,H3,I3,n3⟩:=q3
   obtain⟨m',hm,w3⟩:=hN σ3 H3 n3
   exact⟨m',hm,σ3,H3,I3,w3⟩
  | cont =>
   obtain⟨σ3,H3,I3,n3⟩:=q3
   obtain⟨m',hm,w3⟩:=hN σ3 H3 n3
   exact⟨m',hm,σ3,H3,I3,w3⟩
  | brk=>exact q3
  | ret v=>exact q3
 | false =>
  rw [if_neg Bool.false_ne_true]
  exact wpAny_execs_nil ⟨σ1,H2,I2,q2⟩
end
structure It where
 go:Nat->Hp->Prop
 yld:Nat->Hp->V->Hp->Prop
 stop:Nat->Hp->Prop
def jf5 (X:Cx)(pins:List (Addr×Obj))(H:Hp)(b:Addr):Prop :=
 H b=none∧b≠X.env.locals∧b∉X.fs∧(b∈X.ex∨X.s₀.heap.objs.size≤b)∧(∀x c,X.env.cells.lookup x=some c->c≠b)∧∀p∈X.pn++pins,p.1≠b
theorem Inv.fpOk {X:Cx}{pins:List (Addr×Obj)}{σ:St}{H H':Hp}{s:Shared}{b:Addr}(I:Inv X pins σ H s)(hb:s.heap.objs.size≤b)(hn:H' b=none):jf5 X pins H' b:=by
 refine⟨hn,Nat.ne_of_gt (Nat.lt_of_lt_of_le I.lt hb),I.nofs hb,.inr (Nat.le_trans I.sz hb),fun x c e z=>?_,fun p hp z=>?_⟩
 ·obtain⟨v,q⟩:=I.cell x c e
  exact absurd (Nat.lt_of_lt_of_le q.lt (by rw [z]; exact hb)) (Nat.lt_irrefl _)
 ·exact absurd (Nat.lt_of_lt_of_le (Heap.lt_size (I.pin p hp).1) (by rw [z]; exact hb)) (Nat.lt_irrefl _)
structure jmT (P:Program)(w:World)(K:PySem.W.Frag)(tg:Expr)(J:It)(fp:List Addr)(it:Addr)(tn:Nat->Heap->Prop):Prop where
 mem:it∈fp
 obj:∀i h,tn i h->∀b∈fp,∃o,h.get? b=some o∧∀v,o.data≠.cell v
 keep:∀i h h',tn i h->(∀b∈fp,∀o,h.get? b=some o->h'.get? b=some o)->tn i h'
 item:∀(X:Cx),X.prog=P->X.w=w->X.K=K->X.calm=true->∀(i:Nat) (pins:List (Addr×Obj)) (s:Shared) (σ:St) (H:Hp) (E:Value->Shared->Prop),Inv X pins σ H s->(∀b∈fp,jf5 X pins H b)->tn i s.heap->J.go i H ->
  wpAny (model P w) X.A (pyNext (.ref it)) (fun r s1=>∃u,r=some u ∧
   wpAny (model P w) X.A (letOwnedTupleGo tg (.ref it) u) (fun _ s2=>∃x H',Inv X pins σ H' s2∧RelV x u∧J.yld i H x H'∧tn (i+1) s2.heap∧∀b∈fp,H' b=none) E s1) E s
 done:∀(X:Cx),X.prog=P->X.w=w->X.K=K->X.calm=true->∀(i:Nat) (pins:List (Addr×Obj)) (s:Shared) (σ:St) (H:Hp) (E:Value->Shared->Prop),Inv X pins σ H s->(∀b∈fp,jf5 X pins H b)->tn i s.heap->J.stop i H ->
  wpAny (model P w) X.A (pyNext (.ref it)) (fun r s1=>r=none∧Inv X pins σ H s1) E s
 self:∀(A:Around) (i:Nat) (s:Shared) (Q:Value->Shared->Prop) (E:Value->Shared->Prop),tn i s.heap->Q (.ref it) s->wpAny (model P w) A (pyIter (.ref it)) Q E s
abbrev TI:=St->Hp->(It->Hp->Prop)->Prop
def PIE (X:Cx)(pins:List (Addr×Obj))(σ:St)(tg:Expr)(R:It->Hp->Prop)(itv:Value)(s2:Shared):Prop :=
 ∃(it:Addr) (fp:List Addr) (tn:Nat->Heap->Prop) (J:It) (H':Hp),itv=.ref it∧Inv X pins σ H' s2∧jmT X.prog X.w X.K tg J fp it tn∧tn 0 s2.heap∧(∀b∈fp,jf5 X pins H' b)∧R J H'
def PI (X:Cx)(tg iter:Expr)(wi:TI):Prop :=
 ∀(pins:List (Addr×Obj)) (s:Shared) (σ:St) (H:Hp) (R:It->Hp->Prop),Inv X pins σ H s->wi σ H R ->
  wpAny (model X.prog X.w) X.A (eval iter X.env) (fun v s1=>wpAny (model X.prog X.w) X.A (pyIter v) (PIE X pins σ tg R) X.xe s1) X.xe s
theorem jqE {M:Model}{A:Around}{E:Value->Shared->Prop}{s:Shared}{tg:Expr}{it:Addr}{u:Value}{o:Obj}{n:String}{vs:Array Value}{Q:Unit->Shared->Prop}(ho:s.heap.get? it=some o)(hc:o.cls=.type n)(hd:o.data=.fields vs)
  (hn:["enumerate","zip","dict_itemiterator","dict_reverseitemiterator","odict_iterator","itertools.zip_longest","itertools.pairwise"].contains n=false) (hQ:Q () s):wpAny M A (letOwnedTupleGo tg (.ref it) u) Q E s:=by
 unfold letOwnedTupleGo
 cases tg <;> first
  | exact wpAny_pure hQ
  | (cases u <;> first
    | exact wpAny_pure hQ
    | (refine wpAny_bind (wpAny_load ho ?_)
       rw [hc,hd]
       show wpAny M A (if (["enumerate","zip","dict_itemiterator","dict_reverseitemiterator","odict_iterator","itertools.zip_longest","itertools.pairwise"].contains n&&vs[0]? == some (rawInt _))=true then _ else _) Q E s
       rw [if_neg (by intro h; rw [hn,Bool.false_and] at h; cases h)]
       exact wpAny_pure hQ))
def Itl (K:PySem.W.Frag)(a:Addr):It :=
 ⟨fun i H=>∃xs x,SqL K H a xs∧xs[i]?=some x,fun i H x H'=>H'=H∧∀xs,SqL K H a xs->xs[i]?=some x,fun i H=>∃xs,SqL K H a xs∧xs.length≤i⟩
def Itt (K:PySem.W.Frag)(a:Addr):It :=
 ⟨fun i H=>∃xs x,SqT K H a xs∧xs[i]?=some x,fun i H x H'=>H'=H∧∀xs,SqT K H a xs->xs[i]?=some x,fun i H=>∃xs,SqT K H a xs∧xs.length≤i⟩
def Itr (lo:Int)(n:Nat):It:=⟨fun i _=>i<n,fun i H x H'=>H'=H∧x=.int (lo+i),fun i _=>n≤i⟩
theorem ju4 {P:Program}{w:World}{K:PySem.W.Frag}{tg:Expr}(a it:Addr):jmT P w K tg (Itl K a) [it] it (fun i h=>h.IsListIter it a i) where
 mem:=by simp
 obj:=fun i h st b hb=>by
  have e:b=it:=by simpa using hb
  subst e
  obtain⟨o,e,c,d⟩:=st
  exact⟨o,e,fun v z=>by rw [d] at z; cases z⟩
 keep:=fun i h h' st k=>st.at fun o e=>k it (by simp) o e
 item:=by
  intro X hP hw hK hc i pins s σ H E I hf st hg
  subst hP hw hK
  obtain⟨xs,x,hq,hx⟩:=hg
  obtain⟨its,rv,p,hz⟩:=I.list hq
  obtain⟨u,hu,ru⟩:=rv.get hx
  obtain⟨f0,f1,f2,f3,f4,f5⟩:=hf it (by simp)
  refine wpAny_pyNext_list_item st p.isList (x:=u) (by simpa using hu) fun h' st' sb=>?_
  have I1:Inv X pins σ H { s with heap:=h' }:=I.turned (t':=s.toks) (fun b o hb e=>(sb.2 b hb).trans e) f0 f1 f3 f4 f5
  obtain⟨o,e,c,d⟩:=id st'
  exact⟨u,rfl,jqE (s:={ s with heap:=h' }) e c d (by decide) ⟨x,H,I1,ru,⟨rfl,fun ys hy=>by rw [I.list_inj hy hq]; exact hx⟩,st',fun b hb=>(hf b hb).1⟩⟩
 done:=by
  intro X hP hw hK hc i pins s σ H E I hf st hg
  subst hP hw hK
  obtain⟨xs,hq,hx⟩:=hg
  obtain⟨its,rv,p,hz⟩:=I.list hq
  obtain⟨f0,f1,f2,f3,f4,f5⟩:=hf it (by simp)
  have hl:=rv.length
  exact wpAny_pyNext_list_end (I.ok.hd hc) st p.isList (by simp; omega) fun h' eb=>⟨rfl,I.turned (t':=s.toks) (fun b o hb e=>eb b o hb e) f0 f1 f3 f4 f5⟩
 self:=fun _ _ _ _ _ st h=>wpAny_pyIter_listiter st h
theorem jt8 {P:Program}{w:World}{K:PySem.W.Frag}{tg:Expr}(a it:Addr):jmT P w K tg (Itt K a) [it] it (fun i h=>h.IsTupleIter it a i) where
 mem:=by simp
 obj:=fun i h st b hb=>by
  have e:b=it:=by simpa using hb
  subst e
  obtain⟨o,e,c,d⟩:=st
  exact⟨o,e,fun v z=>by rw [d] at z; cases z⟩
 keep:=fun i h h' st k=>st.at fun o e=>k it (by simp) o e
 item:=by
  intro X hP hw hK hc i pins s σ H E I hf st hg
  subst hP hw hK
  obtain⟨xs,x,hq,hx⟩:=hg
  obtain⟨its,rv,p,hz⟩:=I.tuple hq
  obtain⟨u,hu,ru⟩:=rv.get hx
  obtain⟨f0,f1,f2,f3,f4,f5⟩:=hf it (by simp)
  refine wpAny_pyNext_tuple_item st (show s.heap.IsTuple a its.toArray from p) (x:=u) (by simpa using hu) fun h' st' sb=>?_
  have I1:Inv X pins σ H { s with heap:=h' }:=I.turned (t':=s.toks) (fun b o hb e=>(sb.2 b hb).trans e) f0 f1 f3 f4 f5
  obtain⟨o,e,c,d⟩:=id st'
  exact⟨u,rfl,jqE (s:={ s with heap:=h' }) e c d (by decide) ⟨x,H,I1,ru,⟨rfl,fun ys hy=>by rw [I.tuple_inj hy hq]; exact hx⟩,st',fun b hb=>(hf b hb).1⟩⟩
 done:=by
  intro X hP hw hK hc i pins s σ H E I hf st hg
  subst hP hw hK
  obtain⟨xs,hq,hx⟩:=hg
  obtain⟨its,rv,p,hz⟩:=I.tuple hq
  obtain⟨f0,f1,f2,f3,f4,f5⟩:=hf it (by simp)
  have hl:=rv.length
  exact wpAny_pyNext_tuple_end (I.ok.hd hc) st (show s.heap.IsTuple a its.toArray from p) (by simp; omega) fun h' eb=>⟨rfl,I.turned (t':=s.toks) (fun b o hb e=>eb b o hb e) f0 f1 f3 f4 f5⟩
 self:=fun _ _ _ _ _ st h=>wpAny_pyIter_tupleiter st h
theorem jut {P:Program}{w:World}{K:PySem.W.Frag}{tg:Expr}(it:Addr)(lo:Int)(n:Nat):jmT P w K tg (Itr lo n) [it] it (fun i h=>IsRangeIter h it (lo+(i:Nat) * 1) ((n:Int) - (i:Nat)) 1) where
 mem:=by simp
 obj:=fun i h st b hb=>by
  have e:b=it:=by simpa using hb
  subst e
  exact⟨_,st,fun v z=>by
   have z':Data.fields _=Data.cell v:=z
   cases z'⟩
 keep:=fun i h h' st k=>k it (by simp) _ st
 item:=by
  intro X hP hw hK hc i pins s σ H E I hf st hg
  subst hP hw hK
  obtain⟨f0,f1,f2,f3,f4,f5⟩:=hf it (by simp)
  have W:=Walks.range (prog:=X.prog) (w:=X.w) (I.ok.hd hc) it lo 1 n
  refine W.item i s _ _ hg st fun v h' tk hv st' kk=>?_
  obtain⟨t,rfl⟩:=hv
  have I1:Inv X pins σ H { s with heap:=h',toks:=tk }:=I.turned (fun b o hb e=>kk b o (by simpa using hb) e) f0 f1 f3 f4 f5
  refine⟨_,rfl,jqE (s:={ s with heap:=h',toks:=tk }) (n:="range_iterator") st' rfl rfl (by decide) ⟨.int (lo+i),H,I1,⟨t,?_⟩,⟨rfl,rfl⟩,st',fun b hb=>(hf b hb).1⟩⟩
  rw [Int.mul_one]
 done:=by
  intro X hP hw hK hc i pins s σ H E I hf st hg
  subst hP hw hK
  obtain⟨f0,f1,f2,f3,f4,f5⟩:=hf it (by simp)
  exact wpAny_pyNext_range_end (I.ok.hd hc) st (by have:n≤i:=hg; omega) fun h' eb=>⟨rfl,I.turned (t':=s.toks) (fun b o hb e=>eb b o hb e) f0 f1 f3 f4 f5⟩
 self:=fun _ _ _ _ _ st h=>wpAny_pyIter_rangeiter st h
end L2
namespace L2
open PySem PySem.Spec PyProof.Rows
section
variable {X:Cx}{tg:Expr}
theorem jwK {pins:List (Addr×Obj)}{σ:St}{H:Hp}{s:Shared}{R:It->Hp->Prop}{E:Value->Shared->Prop}{lo hi:Int}{t u v:Tok}{tk:Nat}(I:Inv X pins σ H s)(h1:-(2^62)≤lo)(h2:lo<2^62)(h3:-(2^62)≤hi)(h4:hi<2^62)
  (q:R (Itr lo (hi - lo).toNat) H):wpAny (model X.prog X.w) X.A (pyIter (.ref s.heap.objs.size)) (PIE X pins σ tg R) E { s with heap:=s.heap.push { cls:=.type "range",data:=.fields #[.int lo t,.int hi u,.int 1 v] },toks:=tk }:=by
 refine wpAny_pyIter_range (IsRange.new ..) (small_one h1 h2 h3 h4) ?_
 have I1:Inv X pins σ H { s with heap:=s.heap.push { cls:=.type "range",data:=.fields #[.int lo t,.int hi u,.int 1 v] },toks:=tk }:=I.kept fun b o e=>Heap.get?_push_of_some _ e
 refine⟨(s.heap.push { cls:=.type "range",data:=.fields #[.int lo t,.int hi u,.int 1 v] }).objs.size,[(s.heap.push { cls:=.type "range",data:=.fields #[.int lo t,.int hi u,.int 1 v] }).objs.size],_,_,H,rfl,
  I1.kept (t':=tk) fun b o e=>Heap.get?_push_of_some _ e,jut _ lo (hi - lo).toNat,?_,fun b hb=>?_,q⟩
 ·have e1:lo+((0:Nat):Int) * 1=lo:=by simp
  have e2:(((hi - lo).toNat:Nat):Int) - ((0:Nat):Int)=Builtin.Range.rangeSize lo hi 1:=by rw [rangeSize_one]; split <;> omega
  show IsRangeIter _ _ (lo+((0:Nat):Int) * 1) ((((hi - lo).toNat:Nat):Int) - ((0:Nat):Int)) 1
  rw [e1,e2]
  exact Heap.get?_push_size _ rfl
 ·have e:b=(s.heap.push { cls:=.type "range",data:=.fields #[.int lo t,.int hi u,.int 1 v] }).objs.size:=by simpa using hb
  subst e
  exact I1.fpOk (Nat.le_refl _) (I1.hok.fresh (Nat.le_refl _))
def jBo (ta:TA):TI:=fun σ H R=>ta σ H fun vs H1=>∃j:Int,vs=[.int j]∧-(2^62)≤j∧j<2^62∧R (Itr 0 j.toNat) H1
theorem jvI {a:Expr}{ta:TA}{p pos:Pos}(hg:Gl X "range")(hm:X.mg "range"=none)(ha:PA X [a] ta)(hs:starEach [a] X.env=[(false,eval a X.env)]:=by rfl):PI X tg (.Call (.Name "range" p) [a] [] pos) (jBo ta):=by
 intro pins s σ H R I h
 refine Call_ (jka I hg hm boot_range (PyProof.Rows.callWith_type1 (jQ (ha pos pins s σ H _ I h) fun us s1 qZ=>?_) hs rfl))
 obtain⟨vs,H1,I1,r1,q1⟩:=qZ
 obtain⟨j,e,q1,q2,q⟩:=q1
 subst e
 cases r1 with
 | cons r rr =>
  cases rr
  obtain⟨t,rfl⟩:=r
  exact call_range_1 (jwK I1 (by omega) (by omega) q1 q2 (by simpa using q))
def jB9 (wi:TI)(g:TG)(tb:TS):TS:=fun D σ H=>wi σ H fun J H1=>∃W:Nat->Nat->St->Hp->Prop,(∃m,W 0 m σ H1)∧∀i m σ H,W i m σ H ->
 (J.stop i H∧D.nx σ H)∨(J.go i H∧∃N:St->Hp->Prop,(∀σ' H',N σ' H'->∃m',m'<m∧W (i+1) m' σ' H')∧∀x H',J.yld i H x H'->g x σ H' fun σ2 H2=>tb { D with nx:=N,ct:=N,bk:=D.nx } σ2 H2)
def jkp (fp:List Addr)(h:Heap):List (Addr×Obj):=fp.filterMap fun b=>(h.get? b).map fun o=>(b,o)
theorem jjo {fp:List Addr}{h:Heap}{b:Addr}{o:Obj}(hb:b∈fp)(e:h.get? b=some o):(b,o)∈jkp fp h:=List.mem_filterMap.mpr ⟨b,hb,by rw [e]; rfl⟩
theorem ju6 {fp:List Addr}{h:Heap}{p:Addr×Obj}(hp:p∈jkp fp h):p.1∈fp∧h.get? p.1=some p.2:=by
 obtain⟨b,hb,e⟩:=List.mem_filterMap.mp hp
 cases q:h.get? b with
 | none=>rw [q] at e; cases e
 | some o =>
  rw [q] at e
  have e':(b,o)=p:=Option.some.inj e
  subst e'
  exact⟨hb,q⟩
theorem Inv.pinned {pins:List (Addr×Obj)}{σ:St}{H:Hp}{s:Shared}{fp:List Addr}(I:Inv X pins σ H s)(hf:∀b∈fp,jf5 X pins H b)(ho:∀b∈fp,∃o,s.heap.get? b=some o∧∀v,o.data≠.cell v):Inv X (pins++jkp fp s.heap) σ H s :=
 I.pins_of fun p hp=>(List.mem_append.mp hp).elim (fun z=>I.pin p (List.mem_append_right _ z)) fun z=>by
  obtain⟨hb,e⟩:=ju6 z
  obtain⟨f0,f1,f2,_⟩:=hf p.1 hb
  obtain⟨o,e',d⟩:=ho p.1 hb
  rw [e] at e'; cases e'
  exact⟨e,f0,f1,f2,d⟩
theorem Inv.unpinned {pins pl:List (Addr×Obj)}{σ:St}{H:Hp}{s:Shared}(I:Inv X (pins++pl) σ H s):Inv X pins σ H s:=I.pins_of fun p hp=>I.pin p (List.mem_append_right _ (List.mem_append_left _ hp))
theorem jvO {iter:Expr}{body:List Stmt}{wi:TI}{g:TG}{tb:TS}{pos:Pos}(hp:PassesOwn (model X.prog X.w) X.A X.env X.xe)(hc:X.calm=true)(hi:PI X tg iter wi)(hg:PG X tg g)(hb:PSs X body tb)
  (hs:∀x,foldedSetIterable iter X.env x=pure x:=by intro _; rfl):PS X (.For tg iter body [] pos) (jB9 wi g tb):=by
 intro pins s σ H D I h
 refine wpAny_For (jQ (hi pins s σ H _ I h) fun v s1 h1=>jQ h1 fun itv s2 h2=>?_) hs
 obtain⟨it,fp,tn,J,H2,e,I2,T,st2,f2,W,⟨m0,w0⟩,turn⟩:=h2
 subst e
 -- what stays true of the iterator's objects through the loop
 have stat:∀{H':Hp},(∀b∈fp,H' b=none)->∀b∈fp,jf5 X pins H' b:=fun hn b hb=>⟨hn b hb,(f2 b hb).2⟩
 refine codeAny_forLoop_any (fun n s'=>∃i σ' H',Inv X pins σ' H' s'∧tn i s'.heap∧(∀b∈fp,H' b=none)∧W i n σ' H') ?_ m0 ⟨0,σ,H2,I2,st2,fun b hb=>(f2 b hb).1,w0⟩
 rintro n s3 ⟨i,σ3,H3,I3,st3,fr3,w3⟩
 rcases turn i n σ3 H3 w3 with⟨stop,qn⟩ | ⟨go,N,hN,step⟩
 ·refine wpAny_passesOwn hp (jQ (T.done X rfl rfl rfl hc i pins s3 σ3 H3 X.xe I3 (stat fr3) st3 stop) fun r s4 qZ=>?_)
  obtain⟨hr,I4⟩:=qZ
  subst hr
  exact wpAny_execs_nil ⟨σ3,H3,I4,qn⟩
 ·refine wpAny_passesOwn hp (jQ (T.item X rfl rfl rfl hc i pins s3 σ3 H3 X.xe I3 (stat fr3) st3 go) fun r s4 qZ=>?_)
  obtain⟨u,hr,h4⟩:=qZ
  subst hr
  refine wpAny_passesOwn hp (jQ h4 fun _ s5 qZ=>?_)
  obtain⟨x,H5,I5,r5,y5,st5,fr5⟩:=qZ
  have I5':=I5.pinned (stat fr5) (T.obj _ _ st5)
  refine wpAny_passesOwn hp (jQ (hg _ s5 σ3 H5 x u _ I5' r5 (step x H5 y5)) fun _ s6 qZ=>?_)
  obtain⟨σ6,H6,I6,q6⟩:=qZ
  refine wpAny_passesOwn hp (jQ (hb _ s6 σ6 H6 _ I6 q6) fun f s7 q7=>?_)
  have again:∀{σ7:St} {H7:Hp},Inv X (pins++jkp fp s5.heap) σ7 H7 s7->N σ7 H7->∃m,m<n∧∃i σ' H',Inv X pins σ' H' s7∧tn i s7.heap∧(∀b∈fp,H' b=none)∧W i m σ' H':=fun {σ7 H7} I7 n7=>by
   obtain⟨m',hm,w7⟩:=hN σ7 H7 n7
   refine⟨m',hm,i+1,σ7,H7,I7.unpinned,T.keep _ _ _ st5 fun b hb o e=>(I7.pin (b,o) (List.mem_append_right _ (List.mem_append_right _ (jjo hb e)))).1,fun b hb=>?_,w7⟩
   obtain⟨o,e,d⟩:=T.obj _ _ st5 b hb
   exact(I7.pin (b,o) (List.mem_append_right _ (List.mem_append_right _ (jjo hb e)))).2.1
  cases f with
  | next=>obtain⟨σ7,H7,I7,n7⟩:=q7; exact again I7 n7
  | cont=>obtain⟨σ7,H7,I7,n7⟩:=q7; exact again I7 n7
  | brk=>obtain⟨σ7,H7,I7,q7⟩:=q7; exact⟨σ7,H7,I7.unpinned,q7⟩
  | ret v=>obtain⟨x7,σ7,H7,I7,r7,q7⟩:=q7; exact⟨x7,σ7,H7,I7.unpinned,r7,q7⟩
end
end L2
namespace L2
open PySem PySem.Spec PyProof.Rows
abbrev R2:=V->V->Hp->VK->Prop
def OpR (X:Cx)(f:Value->Value->Sem Value)(r:R2):Prop :=
 ∀(pins:List (Addr×Obj)) (s:Shared) (σ:St) (H:Hp) (x y:V) (v u:Value) (Q:VK),Inv X pins σ H s->RelV x v->RelV y u->r x y H Q ->
  wpAny (model X.prog X.w) X.A (f v u) (EP X pins σ Q) X.xe s
def UnR (X:Cx)(f:Value->Sem Value)(r:V->Hp->VK->Prop):Prop :=
 ∀(pins:List (Addr×Obj)) (s:Shared) (σ:St) (H:Hp) (x:V) (v:Value) (Q:VK),Inv X pins σ H s->RelV x v->r x H Q ->
  wpAny (model X.prog X.w) X.A (f v) (EP X pins σ Q) X.xe s
def jcS (X:Cx)(f:Value)(r:List V->Hp->VK->Prop):Prop :=
 ∀(pins:List (Addr×Obj)) (s:Shared) (σ:St) (H:Hp) (xs:List V) (us:List Value) (Q:VK),Inv X pins σ H s->Vals xs us->r xs H Q ->
  wpAny (model X.prog X.w) X.A (call f us) (EP X pins σ Q) X.xe s
def tOp (r:R2)(ta tb:TE):TE:=fun σ H Q=>ta σ H fun x H1=>tb σ H1 fun y H2=>r x y H2 Q
def tUn (r:V->Hp->VK->Prop)(ta:TE):TE:=fun σ H Q=>ta σ H fun x H1=>r x H1 Q
def rI (C:Int->Int->Prop)(g:Int->Int->V):R2:=fun x y H Q=>∃i j,x=.int i∧y=.int j∧C i j∧Q (g i j) H
def rI0 (g:Int->Int->V):R2:=fun x y H Q=>∃i j,x=.int i∧y=.int j∧Q (g i j) H
def rU (g:Int->V):V->Hp->VK->Prop:=fun x H Q=>∃i,x=.int i∧Q (g i) H
section
variable {X:Cx}{a b c:Expr}{ta tb tc:TE}{pos:Pos}
theorem jxj (ha:PE X a ta)(hb:PE X b tb){pins:List (Addr×Obj)}{s:Shared}{σ:St}{H:Hp}{R:V->V->Hp->Prop}(I:Inv X pins σ H s)
  (h:ta σ H fun x H1=>tb σ H1 fun y H2=>R x y H2) {Q:Value->Shared->Prop} {f:Value->Value->Sem Value}
  (hf:∀v u s2 x y H2,Inv X pins σ H2 s2->RelV x v->RelV y u->R x y H2->wpAny (model X.prog X.w) X.A (f v u) Q X.xe s2) :
  wpAny (model X.prog X.w) X.A (eval a X.env) (fun v s₁=>wpAny (model X.prog X.w) X.A (eval b X.env) (fun u s₂=>wpAny (model X.prog X.w) X.A (f v u) Q X.xe s₂) X.xe s₁) X.xe s:=by
 refine jQ (ha pins s σ H _ I h) fun v s1 qZ=>?_
 obtain⟨x,H1,I1,r1,q1⟩:=qZ
 refine jQ (hb pins s1 σ H1 _ I1 q1) fun u s2 qZ=>?_
 obtain⟨y,H2,I2,r2,q2⟩:=qZ
 exact hf v u s2 x y H2 I2 r1 r2 q2
theorem juA {op:Operator}{r:R2}(ho:OpR X (binaryOp op) r)(ha:PE X a ta)(hb:PE X b tb):PE X (.BinOp a op b pos) (tOp r ta tb):=by
 intro pins s σ H Q I h
 exact wpAny_BinOp (jxj ha hb I h fun v u s2 x y H2 I2 rx ry q=>ho pins s2 σ H2 x y v u Q I2 rx ry q)
theorem jBE {op:UnaryOp}{r:V->Hp->VK->Prop}(ho:UnR X (unaryOp op) r)(ha:PE X a ta):PE X (.UnaryOp op a pos) (tUn r ta):=by
 intro pins s σ H Q I h
 exact UnaryOp_ (jQ (ha pins s σ H _ I h) fun v s1 ⟨x,H1,I1,r1,q1⟩=>ho pins s1 σ H1 x v Q I1 r1 q1)
theorem opI {f:Value->Value->Sem Value}{C:Int->Int->Prop}{g:Int->Int->Int}
  (rule:∀(i j:Int) (t u:Tok) (s:Shared) (Q:Value->Shared->Prop) (E:Value->Shared->Prop),C i j->Q (.int (g i j) s.toks) { s with toks:=s.toks+1 }->wpAny (model X.prog X.w) X.A (f (.int i t) (.int j u)) Q E s) :
  OpR X f (rI C fun i j=>.int (g i j)):=by
 intro pins s σ H x y v u Q I rx ry h
 obtain⟨i,j,rfl,rfl,hc,q⟩:=h
 obtain⟨t,rfl⟩:=rx
 obtain⟨t',rfl⟩:=ry
 exact rule i j t t' s _ _ hc ⟨.int (g i j),H,I.tok _,⟨_,rfl⟩,q⟩
theorem jAt {f:Value->Value->Sem Value}{g:Int->Int->Int}
  (rule:∀(i j:Int) (t u:Tok) (s:Shared) (Q:Value->Shared->Prop) (E:Value->Shared->Prop),Q (.int (g i j) s.toks) { s with toks:=s.toks+1 }->wpAny (model X.prog X.w) X.A (f (.int i t) (.int j u)) Q E s) :
  OpR X f (rI0 fun i j=>.int (g i j)):=by
 intro pins s σ H x y v u Q I rx ry h
 obtain⟨i,j,rfl,rfl,q⟩:=h
 obtain⟨t,rfl⟩:=rx
 obtain⟨t',rfl⟩:=ry
 exact rule i j t t' s _ _ ⟨.int (g i j),H,I.tok _,⟨_,rfl⟩,q⟩
theorem jwi {f:Value->Value->Sem Value}{g:Int->Int->Bool}
  (rule:∀(i j:Int) (t u:Tok) (s:Shared) (Q:Value->Shared->Prop) (E:Value->Shared->Prop),Q (.bool (g i j)) s->wpAny (model X.prog X.w) X.A (f (.int i t) (.int j u)) Q E s) :
  OpR X f (rI0 fun i j=>.bl (g i j)):=by
 intro pins s σ H x y v u Q I rx ry h
 obtain⟨i,j,rfl,rfl,q⟩:=h
 obtain⟨t,rfl⟩:=rx
 obtain⟨t',rfl⟩:=ry
 exact rule i j t t' s _ _ ⟨.bl (g i j),H,I,rfl,q⟩
def jug (i j:Int):Prop:=0≤j∧j≤1000000∧i.natAbs<2^64
def jCU (i j:Int):Prop:=(-(2^64)<i∧i<2^64)∨(-(2^64)<j∧j<2^64)
theorem jAQ:OpR X (binaryOp .Add) (rI0 fun i j=>.int (i+j)):=jAt fun _ _ _ _ _ _ _ q=>add_int q
theorem jAK:OpR X (binaryOp .Sub) (rI0 fun i j=>.int (i - j)):=jAt fun _ _ _ _ _ _ _ q=>sub_int q
theorem jzb:OpR X (binaryOp .Mod) (rI (fun _ j=>j≠0) fun i j=>.int (i.fmod j)):=opI fun _ _ _ _ _ _ _ hc q=>mod_int' hc q
theorem jBc:OpR X (binaryOp .Pow) (rI jug fun i j=>.int (i^j.toNat)):=opI fun _ _ _ _ _ _ _ hc q=>pow_int_small hc.1 hc.2.1 hc.2.2 q
theorem unI {f:Value->Sem Value}{g:Int->Int}
  (rule:∀(i:Int) (t:Tok) (s:Shared) (Q:Value->Shared->Prop) (E:Value->Shared->Prop),Q (.int (g i) s.toks) { s with toks:=s.toks+1 }->wpAny (model X.prog X.w) X.A (f (.int i t)) Q E s) :
  UnR X f (rU fun i=>.int (g i)):=by
 intro pins s σ H x v Q I rx h
 obtain⟨i,rfl,q⟩:=h
 obtain⟨t,rfl⟩:=rx
 exact rule i t s _ _ ⟨.int (g i),H,I.tok _,⟨_,rfl⟩,q⟩
theorem jAJ:UnR X (unaryOp .USub) (rU fun i=>.int (-i)):=unI fun _ _ _ _ _ q=>neg_int q
end
def jzF:V->V->Bool
 | .non,.non=>true | .non,.int _=>true | .int _,.non=>true | .non,.bl _=>true | .bl _,.non=>true | .non,.str _=>true | .str _,.non=>true
 | .int _,.int _=>true | .bl _,.bl _=>true | .str _,.str _=>true | .byt _,.byt _=>true
 | .int _,.str _=>true | .str _,.int _=>true | .bl _,.str _=>true | .str _,.bl _=>true
 | _,_=>false
def rEq:R2:=fun x y H Q=>jzF x y=true∧Q (.bl (decide (x=y))) H
def rNe:R2:=fun x y H Q=>jzF x y=true∧Q (.bl (!decide (x=y))) H
theorem jtH {i j:Int}:decide (V.int i=V.int j)=(i == j):=by
 rw [Bool.eq_iff_iff]
 simp
theorem jvz {i j:Bool}:decide (V.bl i=V.bl j)=(i == j):=by
 rw [Bool.eq_iff_iff]
 simp
theorem jtC {i j:Str}:decide (V.str i=V.str j)=(i == j):=by
 rw [Bool.eq_iff_iff]
 simp
theorem jtD {i j:Array UInt8}:decide (V.byt i=V.byt j)=(i.toList == j.toList):=by
 rw [Bool.eq_iff_iff]
 cases i
 cases j
 simp
section
variable {X:Cx}{a b c:Expr}{ta tb tc:TE}{pos:Pos}
theorem jaj {pins:List (Addr×Obj)}{σ:St}{H:Hp}{s:Shared}{Q:VK}{k k':Bool}(I:Inv X pins σ H s)(q:Q (.bl k) H)(e:k=k'):EP X pins σ Q (.bool k') s:=by
 subst e
 exact⟨.bl k,H,I,rfl,q⟩
theorem jBG:OpR X (compareOp .Eq) rEq:=by
 intro pins s σ H x y v u Q I rx ry h
 obtain⟨hs,q⟩:=h
 cases x with
 | non =>
  cases rx
  cases y with
  | non=>cases ry; exact PySem.EqNone.eq_none_none (jaj I q (by simp))
  | bl j=>cases ry; exact PySem.EqNone.eq_none_bool (jaj I q (by simp))
  | int j=>obtain⟨t',rfl⟩:=ry; exact PySem.EqNone.eq_none_int (jaj I q (by simp))
  | str j=>obtain⟨t',rfl⟩:=ry; exact PySem.EqNone.eq_none_str (jaj I q (by simp))
  | _=>exact absurd (show false=true from hs) Bool.false_ne_true
 | bl i =>
  cases rx
  cases y with
  | non=>cases ry; exact PySem.EqNone.eq_bool_none (jaj I q (by simp))
  | bl j=>cases ry; exact eq_bool (jaj I q jvz)
  | str j=>obtain⟨t',rfl⟩:=ry; exact PySem.EqMixed.eq_bool_str (jaj I q (by simp))
  | _=>exact absurd (show false=true from hs) Bool.false_ne_true
 | int i =>
  obtain⟨t,rfl⟩:=rx
  cases y with
  | non=>cases ry; exact PySem.EqNone.eq_int_none (jaj I q (by simp))
  | int j=>obtain⟨t',rfl⟩:=ry; exact eq_int (jaj I q jtH)
  | str j=>obtain⟨t',rfl⟩:=ry; exact PySem.EqMixed.eq_int_str (jaj I q (by simp))
  | _=>exact absurd (show false=true from hs) Bool.false_ne_true
 | str i =>
  obtain⟨t,rfl⟩:=rx
  cases y with
  | non=>cases ry; exact PySem.EqNone.eq_str_none (jaj I q (by simp))
  | bl j=>cases ry; exact PySem.EqMixed.eq_str_bool (jaj I q (by simp))
  | int j=>obtain⟨t',rfl⟩:=ry; exact PySem.EqMixed.eq_str_int (jaj I q (by simp))
  | str j=>obtain⟨t',rfl⟩:=ry; exact eq_str (jaj I q jtC)
  | _=>exact absurd (show false=true from hs) Bool.false_ne_true
 | byt i =>
  obtain⟨t,rfl⟩:=rx
  cases y with
  | byt j=>obtain⟨t',rfl⟩:=ry; exact PySem.W.eq_bytes (jaj I q jtD)
  | _=>exact absurd (show false=true from hs) Bool.false_ne_true
 | _=>cases y <;> exact absurd (show false=true from hs) Bool.false_ne_true
theorem jBC:OpR X (compareOp .NotEq) rNe:=by
 intro pins s σ H x y v u Q I rx ry h
 obtain⟨hs,q⟩:=h
 cases x with
 | non =>
  cases rx
  cases y with
  | non=>cases ry; exact PySem.EqNone.ne_none_none (jaj I q (by simp))
  | bl j=>cases ry; exact PySem.EqNone.ne_none_bool (jaj I q (by simp))
  | int j=>obtain⟨t',rfl⟩:=ry; exact PySem.EqNone.ne_none_int (jaj I q (by simp))
  | str j=>obtain⟨t',rfl⟩:=ry; exact PySem.EqNone.ne_none_str (jaj I q (by simp))
  | _=>exact absurd (show false=true from hs) Bool.false_ne_true
 | bl i =>
  cases rx
  cases y with
  | non=>cases ry; exact PySem.EqNone.ne_bool_none (jaj I q (by simp))
  | bl j=>cases ry; exact ne_bool (jaj I q (congrArg not jvz))
  | str j=>obtain⟨t',rfl⟩:=ry; exact PySem.EqMixed.ne_bool_str (jaj I q (by simp))
  | _=>exact absurd (show false=true from hs) Bool.false_ne_true
 | int i =>
  obtain⟨t,rfl⟩:=rx
  cases y with
  | non=>cases ry; exact PySem.EqNone.ne_int_none (jaj I q (by simp))
  | int j=>obtain⟨t',rfl⟩:=ry; exact ne_int (jaj I q (congrArg not jtH))
  | str j=>obtain⟨t',rfl⟩:=ry; exact PySem.EqMixed.ne_int_str (jaj I q (by simp))
  | _=>exact absurd (show false=true from hs) Bool.false_ne_true
 | str i =>
  obtain⟨t,rfl⟩:=rx
  cases y with
  | non=>cases ry; exact PySem.EqNone.ne_str_none (jaj I q (by simp))
  | bl j=>cases ry; exact PySem.EqMixed.ne_str_bool (jaj I q (by simp))
  | int j=>obtain⟨t',rfl⟩:=ry; exact PySem.EqMixed.ne_str_int (jaj I q (by simp))
  | str j=>obtain⟨t',rfl⟩:=ry; exact ne_str (jaj I q (congrArg not jtC))
  | _=>exact absurd (show false=true from hs) Bool.false_ne_true
 | byt i =>
  obtain⟨t,rfl⟩:=rx
  cases y with
  | byt j=>obtain⟨t',rfl⟩:=ry; exact PySem.W.ne_bytes (jaj I q (congrArg not jtD))
  | _=>exact absurd (show false=true from hs) Bool.false_ne_true
 | _=>cases y <;> exact absurd (show false=true from hs) Bool.false_ne_true
theorem jBD:OpR X (compareOp .Lt) (rI0 fun i j=>.bl (decide (i<j))):=jwi fun _ _ _ _ _ _ _ q=>lt_int q
theorem jBz:OpR X (compareOp .LtE) (rI0 fun i j=>.bl (decide (i≤j))):=jwi fun _ _ _ _ _ _ _ q=>le_int q
theorem jBB:OpR X (compareOp .Gt) (rI0 fun i j=>.bl (decide (j<i))):=jwi fun _ _ _ _ _ _ _ q=>gt_int q
theorem jvh:OpR X (compareOp .In) (fun x y H Q=>∃i j,x=.str i∧y=.str j∧Q (.bl (!(Builtin.Str.occurrences j i 0 j.length 1).isEmpty)) H):=by
 intro pins s σ H x y v u Q I rx ry h
 obtain⟨i,j,rfl,rfl,q⟩:=h
 obtain⟨t,rfl⟩:=rx
 obtain⟨t',rfl⟩:=ry
 exact in_str (jaj I q rfl)
theorem jz4:OpR X (compareOp .Is) (fun x y H Q=>y=.non∧Q (.bl (decide (x=.non))) H):=by
 intro pins s σ H x y v u Q I rx ry h
 obtain⟨rfl,q⟩:=h
 cases ry
 refine is_none_gen (jaj I q ?_)
 cases x <;> first
  | (cases rx; rfl)
  | (obtain⟨t,rfl⟩:=rx; rfl)
theorem OpR.or {f:Value->Value->Sem Value}{r r':R2}(h:OpR X f r)(h':OpR X f r'):OpR X f (fun x y H Q=>r x y H Q∨r' x y H Q):=by
 intro pins s σ H x y v u Q I rx ry q
 rcases q with q | q
 ·exact h pins s σ H x y v u Q I rx ry q
 ·exact h' pins s σ H x y v u Q I rx ry q
theorem jL (b:Expr){op:CmpOp}(h:op≠.In:=by decide)(h2:op≠.NotIn:=by decide):behindInMarks op b=false:=by
 have e1:(op == CmpOp.In)=false:=by cases op <;> first | rfl | exact absurd rfl h
 have e2:(op == CmpOp.NotIn)=false:=by cases op <;> first | rfl | exact absurd rfl h2
 cases b <;> simp [behindInMarks,e1,e2]
theorem jtF {op:CmpOp}{r:R2}(ho:OpR X (compareOp op) r)(ha:PE X a ta)(hb:PE X b tb)(hm:behindInMarks op b=false):PE X (.Compare a [op] [b] pos) (tOp r ta tb):=by
 intro pins s σ H Q I h
 exact wpAny_Compare1 (jxj ha hb I h fun v u s2 x y H2 I2 rx ry q=>ho pins s2 σ H2 x y v u Q I2 rx ry q) hm
def jt7 (t:TE):TT:=fun σ H Q=>t σ H fun x H'=>∃k,x=.bl k∧Q k H'
theorem jlw {op:CmpOp}{r:R2}(ho:OpR X (compareOp op) r)(ha:PE X a ta)(hb:PE X b tb)(hm:behindInMarks op b=false):PT X (.Compare a [op] [b] pos) (jt7 (tOp r ta tb)):=by
 intro pins s σ H Q I h
 refine wpAny_isTrue_Compare1 (jQ (ha pins s σ H _ I h) fun v s1 ⟨x,H1,I1,r1,q1⟩=>jQ (hb pins s1 σ H1 _ I1 q1) fun u s2 ⟨y,H2,I2,r2,q2⟩ =>
  jQ (ho pins s2 σ H2 x y v u _ I2 r1 r2 q2) fun c s3 ⟨z,H3,I3,r3,k,e,q3⟩=>?_) hm
 subst e
 cases r3
 exact wpAny_truthy_bool ⟨H3,I3,q3⟩
def jvb (r r':R2)(ta tb tc:TE):TE:=fun σ H Q=>ta σ H fun x H1=>tb σ H1 fun y H2=>r x y H2 fun z H3=>∃k,z=.bl k ∧
 (if k=true then tc σ H3 fun w' H4=>r' y w' H4 Q else Q (.bl false) H3)
theorem jxt {op op':CmpOp}{r r':R2}(ho:OpR X (compareOp op) r)(ho':OpR X (compareOp op') r')(ha:PE X a ta)(hb:PE X b tb)(hc:PE X c tc)
  (hm:lastMarks [op,op'] [b,c]=false:=by with_unfolding_all rfl):PE X (.Compare a [op,op'] [b,c] pos) (jvb r r' ta tb tc):=by
 intro pins s σ H Q I h
 refine Compare_chain (jQ (ha pins s σ H _ I h) fun v s1 ⟨x,H1,I1,r1,q1⟩=>chain_link (jQ (hb pins s1 σ H1 _ I1 q1) fun u s2 ⟨y,H2,I2,r2,q2⟩ =>
  jQ (ho pins s2 σ H2 x y v u _ I2 r1 r2 q2) fun d s3 ⟨z,H3,I3,r3,k,e,q3⟩=>?_)) hm
 subst e
 cases r3
 refine wpAny_truthy_bool ?_
 cases k with
 | false=>exact ite_ff ⟨.bl false,H3,I3,rfl,q3⟩
 | true=>exact ite_tt (chain_last (jQ (hc pins s3 σ H3 _ I3 q3) fun w' s4 ⟨z',H4,I4,r4,q4⟩=>ho' pins s4 σ H4 y z' u w' Q I4 r2 r4 q4))
theorem jkG:(sizeLine:Nat)<2^63:=by rw [sizeLine_eq]; decide
theorem jus:OpR X (binaryOp .Add) (fun x y H Q=>∃i j,x=.str i∧y=.str j∧i.length+j.length≤sizeLine∧Q (.str (i++j)) H):=by
 intro pins s σ H x y v u Q I rx ry h
 obtain⟨i,j,rfl,rfl,hz,q⟩:=h
 obtain⟨t,rfl⟩:=rx
 obtain⟨t',rfl⟩:=ry
 exact add_str (fun t' tk=>⟨.str (i++j),H,I.tok _,⟨_,rfl⟩,q⟩) hz
theorem jfN {x:V}{us:List Value}(r:Vals [x] us):∃u,us=[u]∧RelV x u:=by
 cases r with
 | cons r1 r2=>cases r2; exact⟨_,rfl,r1⟩
theorem jxM {x y:V}{us:List Value}(r:Vals [x,y] us):∃u w',us=[u,w']∧RelV x u∧RelV y w':=by
 cases r with
 | cons r1 r2 =>
  cases r2 with
  | cons r3 r4=>cases r4; exact⟨_,_,rfl,r1,r3⟩
theorem jw7:jcS X (.builtin "abs") (fun xs H Q=>∃i,xs=[.int i]∧Q (.int (if i<0 then -i else i)) H):=by
 intro pins s σ H xs us Q I r h
 obtain⟨i,rfl,q⟩:=h
 obtain⟨u,rfl,t,rfl⟩:=jfN r
 exact call_abs_int fun u tk=>⟨.int (if i<0 then -i else i),H,I.tok _,⟨_,rfl⟩,q⟩
theorem jqQ:jcS X (.type "str") (fun xs H Q=>∃i,xs=[.int i]∧i.natAbs.log2<1920∧Q (.str (toString i)) H):=by
 intro pins s σ H xs us Q I r h
 obtain⟨i,rfl,hz,q⟩:=h
 obtain⟨u,rfl,t,rfl⟩:=jfN r
 exact PySem.P.str_of_int hz ⟨.str _,H,I.tok _,⟨_,rfl⟩,q⟩
end
end L2
namespace L2
open PySem PySem.Spec PyProof.Rows
structure ObjM (h:Heap)(x dx C:Addr)(mA:Str->Option Value):Prop where
 obj:h.get? x=some (PySem.W.instObj C dx)
 ns:h.Ns1 dx mA
 ne:dx≠x
theorem jvp {h:Heap}{dx:Addr}{mA:Str->Option Value}(n:h.Ns1 dx mA):∃od,h.get? dx=some od∧∀name,PySem.W.lookIn name od=some (mA name):=by
 obtain⟨o,es,ep,ho,hd,hk,_,hm⟩:=n
 refine⟨o,ho,fun name=>?_⟩
 have e:=hm name
 unfold nsFind findBy at e
 rw [←Array.find?_toList] at e
 unfold PySem.W.lookIn
 rw [hd]
 dsimp only
 split
 ·rename_i y q
  rw [q] at e
  exact congrArg some e
 ·rename_i q
  rw [q] at e
  have a:es.toList.any (·.refKey)=false:=by
   rw [List.any_eq_false]
   intro y hy
   obtain⟨z,t,hkey⟩:=hk y (Array.mem_toList_iff.mp hy)
   simp [DictEntry.refKey,hkey]
  have a':¬es.toList.any (·.refKey)=true:=by rw [a]; exact Bool.false_ne_true
  rw [if_neg a']
  exact congrArg some e
theorem ObjM.look {h:Heap}{x dx C:Addr}{mA:Str->Option Value}(I:ObjM h x dx C mA):∃od,PySem.W.InstAt h x (PySem.W.instObj C dx) C (some od)∧∀name,PySem.W.lookIn name od=some (mA name) :=
 let ⟨od,ho,hl⟩:=jvp I.ns
 ⟨od,⟨I.obj,rfl,rfl,ho⟩,hl⟩
section
variable {prog:Program}{w:World}{A:Around}{E:Value->Shared->Prop}{s:Shared}{K:PySem.W.Frag}{x dx C f:Addr}{mA:Str->Option Value}{name:Str}{v:Value}
theorem jzg {expr:Bool}{Q:Value->Shared->Prop}(X:K.In s.heap)(I:ObjM s.heap x dx C mA)(hg:PySem.W.plainGet K C name=true)(hh:PySem.W.hasDictIn K C=true)
  (ha:PySem.W.findIn K (.ref C) name=some none) (hv:mA name=some v) (hv':PySem.W.handedIn v=true) (h:Q v { s with toks:=s.toks+1 }) :
  wpAny (model prog w) A (getAttr (.ref x) name expr) Q E s:=by
 obtain⟨od,J,hl⟩:=I.look
 exact PySem.W.get_value X J (PySem.W.plainGet_of hg).1 (PySem.W.findObj_own hh ha rfl (by rw [hl,hv])) hv' h
theorem jwX {pl:Sem Bool}{Q:Value×List Value->Shared->Prop}(X:K.In s.heap)(I:ObjM s.heap x dx C mA)(hg:PySem.W.plainGet K C name=true)
  (hf:PySem.W.findIn K (.ref C) name=some (some (.ref f))) (ht:PySem.W.isFn K (.ref f)=true) (hv:mA name=none) (h:Q (.ref f,[.ref x]) s) :
  wpAny (model prog w) A (getMethod (.ref x) name pl) Q E s:=by
 obtain⟨od,J,hl⟩:=I.look
 exact PySem.W.method_fn X J (PySem.W.plainGet_of hg).1 (PySem.W.plainGet_of hg).2 hf (beq_iff_eq.mp ht) (by show (PySem.W.lookIn name od).map (·.isSome)=some false; rw [hl,hv]; rfl) h
theorem jyV {ns:List Str}{Q:Unit->Shared->Prop}(X:K.In s.heap)(I:ObjM s.heap x dx C mA)
  (hs:PySem.W.findIn K (.ref C) "__setattr__"=some (some (.builtin "object.__setattr__"))) (hp:PySem.W.plainOver K C=true) (ht:PySem.W.takerIn K C name=some none) (hh:PySem.W.hasDictIn K C=true)
  (hw:PySem.Within mA ns) (hsz:ns.length≤sizeLine)
  (h:∀h',ObjM h' x dx C (fun y=>if y=name then some v else mA y)->Heap.SameBut dx s.heap h'->Q () { s with heap:=h',toks:=s.toks+2 }) :
  wpAny (model prog w) A (setAttr (.ref x) name v) Q E s:=by
 obtain⟨od,J,hl⟩:=I.look
 refine PySem.W.set_plain X J hs (PySem.W.osa_open (s:={ s with toks:=s.toks+1 }) (r:=none) X J hp ht fun b=>?_)
 obtain⟨cd,hc,hd'⟩:=PySem.W.any_some hh
 have hx:s.heap.get? x=some ⟨.ref C,some dx,.plain,#[]⟩:=I.obj
 refine wpAny_bind (wpAny_pure (wpAny_bind (wpAny_bind (wpAny_loadPart hx (wpAny_bind (PySem.W.Looks.here (s:={ s with toks:=s.toks+1 }) (PySem.W.looks_clsIn X hc) ?_))))))
 rw [hd']
 refine wpAny_pure (a:=some dx) (wpAny_bind (wpAny_pure (wpAny_bind ?_)))
 refine wpAny_nsSet1 (s:={ s with toks:=s.toks+1 }) I.ns fun h' hn2 hs2=>?_
 obtain⟨oD,esD,epD,hoD,hdD,hcD⟩:=hn2.count (PySem.Within.cons name v hw)
 refine wpAny_bind (wpAny_lookBehind hoD (by rw [hdD]; exact pastItsLine_dict (Nat.le_trans hcD (by rw [List.length_cons]; omega))) ?_)
 exact wpAny_pure (h _ ⟨(hs2.2 _ (Ne.symm I.ne)).trans I.obj,hn2,I.ne⟩ hs2)
theorem jw6 {R:Result->Shared->Prop}{vs:List Value}{kw:List (Str×Value)}(X:K.In s.heap)(hm:PySem.W.makesIn K C=true)
  (hi:PySem.W.findIn K (.ref C) "__init__"=some (some (.ref f))) (hf:PySem.W.typeIn K (.ref f)=some (.type "function"))
  (h:codeAny (model prog w) (A.under (.builtin "type.__call__" ⟨.ref C::vs,kw⟩)) (.call (.ref f) ⟨.ref (s.heap.objs.size+1)::vs,kw⟩) (PySem.W.InitBack (s.heap.objs.size+1) R)
   { s with heap:=(s.heap.push PySem.W.emptyDict).push (PySem.W.instObj C s.heap.objs.size) }) :
  codeAny (model prog w) A (.call (.ref C) ⟨vs,kw⟩) R s:=by
 obtain⟨hh,g,d,t,os⟩:=s
 exact PySem.W.make_core (PySem.W.makes_of X hm) (PySem.W.looks_findIn X hi) (fun self=>PySem.W.bind_fn X self hf) (.inl rfl) h
end
def jc9 (f:Str)(v:V):List (Str×V)->List (Str×V)
 | []=>[(f,v)]
 | (g,x)::r=>if g=f then (g,v)::r else (g,x)::jc9 f v r
theorem jmh (f g:Str)(v:V):∀fs:List (Str×V),(jc9 f v fs).lookup g=if g=f then some v else fs.lookup g
 | []=>by
  show List.lookup g [(f,v)]=_
  by_cases h:g=f
  ·have hb:(g == f)=true:=beq_iff_eq.mpr h
   simp only [List.lookup,hb,if_pos h]
  ·have hb:(g == f)=false:=beq_eq_false_iff_ne.mpr h
   simp only [List.lookup,hb,if_neg h]
 | (k,x)::r=>by
  have ih:=jmh f g v r
  rw [show jc9 f v ((k,x)::r)=(if k=f then (k,v)::r else (k,x)::jc9 f v r) from rfl]
  by_cases hk:k=f
  ·rw [if_pos hk]
   by_cases h:g=k
   ·have hb:(g == k)=true:=beq_iff_eq.mpr h
    simp only [List.lookup,hb,if_pos (h.trans hk)]
   ·have hb:(g == k)=false:=beq_eq_false_iff_ne.mpr h
    simp only [List.lookup,hb,if_neg (fun e:g=f=>h (e.trans hk.symm))]
  ·rw [if_neg hk]
   by_cases h:g=k
   ·have hb:(g == k)=true:=beq_iff_eq.mpr h
    simp only [List.lookup,hb,if_neg (fun e:g=f=>hk (h.symm.trans e))]
   ·have hb:(g == k)=false:=beq_eq_false_iff_ne.mpr h
    simp only [List.lookup,hb]
    exact ih
theorem jk0 (f:Str)(v:V):∀fs:List (Str×V),f∈(jc9 f v fs).map (·.1)∧∀g,g∈fs.map (·.1)->g∈(jc9 f v fs).map (·.1)
 | []=>⟨by simp [jc9],fun g h=>by simp at h⟩
 | (k,x)::r=>by
  obtain⟨i1,i2⟩:=jk0 f v r
  rw [show jc9 f v ((k,x)::r)=(if k=f then (k,v)::r else (k,x)::jc9 f v r) from rfl]
  by_cases hk:k=f
  ·rw [if_pos hk]
   subst hk
   exact⟨by simp,fun g h=>by simpa using h⟩
  ·rw [if_neg hk]
   refine⟨?_,fun g h=>?_⟩
   ·rw [List.map_cons]
    exact List.mem_cons_of_mem _ i1
   ·rw [List.map_cons] at h ⊢
    rcases List.mem_cons.mp h with e | e
    ·exact List.mem_cons.mpr (.inl e)
    ·exact List.mem_cons_of_mem _ (i2 g e)
theorem jme (f:Str)(v:V):∀fs:List (Str×V),(jc9 f v fs).length≤fs.length+1
 | []=>by simp [jc9]
 | (k,x)::r=>by
  have ih:=jme f v r
  rw [show jc9 f v ((k,x)::r)=(if k=f then (k,v)::r else (k,x)::jc9 f v r) from rfl]
  by_cases hk:k=f
  ·rw [if_pos hk,List.length_cons,List.length_cons]; omega
  ·rw [if_neg hk,List.length_cons,List.length_cons]; omega
theorem RelO.some_of {v:V}{o:Option Value}(r:RelO (some v) o):∃u,o=some u∧RelV v u:=by
 cases o with
 | none=>exact(show False from r).elim
 | some u=>exact⟨u,rfl,r⟩
theorem RelO.none_of {o:Option Value}(r:RelO none o):o=none:=by
 cases o with
 | none=>rfl
 | some u=>exact(show False from r).elim
theorem jv2 {v:V}{u:Value}(r:RelV v u):PySem.W.handedIn u=true:=by
 cases v with
 | non=>cases (show u=Value.none from r); rfl
 | bl b=>cases (show u=Value.bool b from r); rfl
 | int i=>obtain⟨t,e⟩:=(show ∃t,u=Value.int i t from r); cases e; rfl
 | str x=>obtain⟨t,e⟩:=(show ∃t,u=Value.str x t from r); cases e; rfl
 | byt b=>obtain⟨t,e⟩:=(show ∃t,u=Value.bytes b t from r); cases e; rfl
 | flt b=>obtain⟨t,e⟩:=(show ∃t,u=Value.float b t from r); cases e; rfl
 | ref a=>cases (show u=Value.ref a from r); rfl
 | ty n=>cases (show u=Value.type n from r); rfl
section
variable {P:Program}{w:World}{H H':Hp}{h h':Heap}{a C dx:Addr}{fs fs':List (Str×V)}
theorem jlE (hok:HOk P w H h)(e:H a=some (.ins C dx fs)):∃mA,ObjM h a dx C mA∧(∀f,RelO (fs.lookup f) (mA f))∧PySem.Within mA (fs.map (·.1))∧fs.length≤1000∧H dx=some (.own a):=by
 obtain⟨d,z,ne,ob,mA,n,r,q⟩:=(show ObjOk P w H h a (.ins C dx fs) from hok a _ e)
 exact⟨mA,⟨ob,n,ne⟩,r,q,z,d⟩
end
structure Cls (K:PySem.W.Frag)(C:Addr):Prop where
 pg:PySem.W.plainGet K C Str.empty=true
 hd:PySem.W.hasDictIn K C=true
 po:PySem.W.plainOver K C=true
 sa:PySem.W.findIn K (.ref C) "__setattr__"=some (some (.builtin "object.__setattr__"))
theorem Cls.get {K:PySem.W.Frag}{C:Addr}(c:Cls K C)(f:Str):PySem.W.plainGet K C f=true:=c.pg
def NoAttr (K:PySem.W.Frag)(C:Addr)(f:Str):Prop:=PySem.W.findIn K (.ref C) f=some none
theorem NoAttr.taker {K:PySem.W.Frag}{C:Addr}{f:Str}(n:NoAttr K C f):PySem.W.takerIn K C f=some none:=by
 unfold PySem.W.takerIn
 rw [show PySem.W.findIn K (.ref C) f=some none from n]
 rfl
structure jV (K:PySem.W.Frag)(C:Addr)(f:Str)(v:V)(u:Value):Prop where
 at_:PySem.W.findIn K (.ref C) f=some (some u)
 rel:RelV v u
 get:PySem.W.specialIn K u "__get__"=some none
 cp:PySem.W.copiedNames.contains f=false
structure joY (K:PySem.W.Frag)(C:Addr)(m:Str)(f:Addr):Prop where
 at_:PySem.W.findIn K (.ref C) m=some (some (.ref f))
 fn:PySem.W.isFn K (.ref f)=true
 kp:PySem.W.keepIn K (.ref f)=true
section
variable {X:Cx}{pins:List (Addr×Obj)}{σ:St}{H:Hp}{s:Shared}{a C dx:Addr}{fs:List (Str×V)}{f:Str}{v:V}{A:Around}{E:Value->Shared->Prop}
theorem jt9 {b:Bool}{Q:Value->Shared->Prop}(I:Inv X pins σ H s)(e:H a=some (.ins C dx fs))(c:Cls X.K C)(n:NoAttr X.K C f)(l:fs.lookup f=some v)
  (h:∀u s',Inv X pins σ H s'->RelV v u->Q u s'):wpAny (model X.prog X.w) A (getAttr (.ref a) f b) Q E s:=by
 obtain⟨mA,O,r,_,_,_⟩:=jlE I.hok e
 obtain⟨u,hu,ru⟩:=RelO.some_of (v:=v) (o:=mA f) (by rw [←l]; exact r f)
 exact jzg I.kIn O (c.get f) c.hd n hu (jv2 ru) (h u _ (I.tok _) ru)
theorem ji6 {m:Str}{g:Addr}{pl:Sem Bool}{Q:Value×List Value->Shared->Prop}(I:Inv X pins σ H s)(e:H a=some (.ins C dx fs))(c:Cls X.K C)(k:joY X.K C m g)(l:fs.lookup m=none)
  (h:Q (.ref g,[.ref a]) s):wpAny (model X.prog X.w) A (getMethod (.ref a) m pl) Q E s:=by
 obtain⟨mA,O,r,_,_,_⟩:=jlE I.hok e
 have hn:mA m=none:=RelO.none_of (by rw [←l]; exact r m)
 exact jwX I.kIn O (c.get m) k.at_ k.fn hn h
theorem jtQ {y:V}{u:Value}{Q:Unit->Shared->Prop}(I:Inv X pins σ H s)(e:H a=some (.ins C dx fs))(c:Cls X.K C)(n:NoAttr X.K C f)(hl:fs.length<1000)(ry:RelV y u)
  (h:∀s',Inv X pins σ (j1 H a (.ins C dx (jc9 f y fs))) s'->Q () s'):wpAny (model X.prog X.w) A (setAttr (.ref a) f u) Q E s:=by
 obtain⟨mA,O,r,wi,_,ho⟩:=jlE I.hok e
 have hz:(fs.map (·.1)).length≤sizeLine:=by rw [List.length_map,sizeLine_eq]; omega
 refine jyV I.kIn O c.sa c.po n.taker c.hd wi hz fun h' O' sb=>h _ ?_
 have hd:∃o,h'.get? dx=some o:=let ⟨o,_,_,e',_⟩:=O'.ns; ⟨o,e'⟩
 refine I.write (x:=a) (e:=dx) (by rw [e]; exact True.intro) (.inr ho) (fun b q hb z=>(sb.2 b hb).trans z) hd ?_
 refine⟨by rw [jO O.ne]; exact ho,?_,O.ne,O'.obj,_,O'.ns,fun g=>?_,fun g hg=>?_⟩
 ·have:=jme f y fs; omega
 ·show RelO ((jc9 f y fs).lookup g) (if g=f then some u else mA g)
  rw [jmh]
  by_cases q:g=f
  ·rw [if_pos q,if_pos q]; exact ry
  ·rw [if_neg q,if_neg q]; exact r g
 ·by_cases q:g=f
  ·rw [q]; exact(jk0 f y fs).1
  ·refine(jk0 f y fs).2 g (wi g fun z=>hg ?_)
   show (if g=f then some u else mA g)=none
   rw [if_neg q]; exact z
theorem Inv.made (I:Inv X pins σ H s):Inv X pins σ (j1 (j1 H s.heap.objs.size (.own (s.heap.objs.size+1))) (s.heap.objs.size+1) (.ins C s.heap.objs.size []))
  { s with heap:=(s.heap.push PySem.W.emptyDict).push (PySem.W.instObj C s.heap.objs.size) }:=by
 have e1:(s.heap.push PySem.W.emptyDict).get? s.heap.objs.size=some PySem.W.emptyDict:=Heap.get?_push_size s.heap rfl
 have e2:((s.heap.push PySem.W.emptyDict).push (PySem.W.instObj C s.heap.objs.size)).get? (s.heap.objs.size+1)=some (PySem.W.instObj C s.heap.objs.size):=by
  have:=Heap.get?_push_size (s.heap.push PySem.W.emptyDict) (o:=PySem.W.instObj C s.heap.objs.size) rfl
  rwa [Heap.size_push] at this
 have e3:(s.heap.push PySem.W.emptyDict).Ns s.heap.objs.size (fun _=>none):=⟨PySem.W.emptyDict,#[],_,e1,rfl,(fun e he=>absurd he (by simp)),fun _=>rfl⟩
 have I1:=I.laid (a:=s.heap.objs.size) (o:=.own (s.heap.objs.size+1)) (h':=s.heap.push PySem.W.emptyDict) (t':=s.toks) (fun b u q=>Heap.get?_push_of_some _ q) (Nat.le_refl _) ⟨_,e1⟩
 refine I1.laid (a:=s.heap.objs.size+1) (o:=.ins C s.heap.objs.size []) (t':=s.toks) (fun b u q=>Heap.get?_push_of_some _ q) (Nat.le_of_eq (Heap.size_push _ _)) ?_
 have ne:s.heap.objs.size≠s.heap.objs.size+1:=Nat.ne_of_lt (Nat.lt_succ_self _)
 refine⟨by rw [jO ne,jaA],Nat.zero_le _,ne,e2,fun _=>none,(Heap.Ns1.of_empty e3).at fun o q=>Heap.get?_push_of_some _ q,fun _=>True.intro,fun y hy=>absurd rfl hy⟩
theorem jzj {prog:Program}{w:World}{env:Env}{e:Expr}{f:Str}{pos:Pos}{s:Shared}{Q:Value->Shared->Prop}(hb:attributeBase e f env (eval e env)=eval e env)
  (h:wpAny (model prog w) A (eval e env) (fun o s₁=>wpAny (model prog w) A (getAttr o f true) Q E s₁) E s):wpAny (model prog w) A (eval (.Attribute e f pos) env) Q E s :=
 Attribute_any_ h (by rw [arm_eval_Attribute,hb])
end
def jCe (K:PySem.W.Frag)(ta:TE)(f:Str):TE:=fun σ H Q=>ta σ H fun x H1=>∃a C dx fs v,x=.ref a∧H1 a=some (.ins C dx fs)∧Cls K C∧NoAttr K C f∧fs.lookup f=some v∧Q v H1
def jCn (K:PySem.W.Frag)(ta tv:TE)(f:Str):TS:=fun D σ H=>tv σ H fun y H1=>ta σ H1 fun x H2=>∃a C dx fs,x=.ref a∧H2 a=some (.ins C dx fs)∧Cls K C∧NoAttr K C f∧fs.length<1000 ∧
 D.nx σ (j1 H2 a (.ins C dx (jc9 f y fs)))
section
variable {X:Cx}{o e value:Expr}{f:Str}{pos pos' tpos:Pos}{ta tv:TE}
theorem jAU (he:PE X e ta)(hb:attributeBase e f X.env (eval e X.env)=eval e X.env):PE X (.Attribute e f pos) (jCe X.K ta f):=by
 intro pins s σ H Q I h
 refine jzj hb (jQ (he pins s σ H _ I h) fun u s1 qZ=>?_)
 obtain⟨x,H1,I1,rx,a,C,dx,fs,v,ex,ea,c,n,l,q⟩:=qZ
 subst ex
 obtain rfl:u=Value.ref a:=rx
 exact jt9 I1 ea c n l fun u' s2 I2 ru=>⟨v,H1,I2,ru,q⟩
theorem jAA (ha:PE X o ta)(hv:PE X value tv)(hs:swapsWith value (some (.Attribute o f pos')) pos.line X.env=pure false):PS X (.Assign [.Attribute o f pos'] value pos) (jCn X.K ta tv f):=by
 intro pins s σ H D I h
 refine plainObj_wpAny_Assign_Attribute (jQ (hv pins s σ H _ I h) fun u s1 ⟨y,H1,I1,ry,q⟩=>jQ (ha pins s1 σ H1 _ I1 q) fun ov s2 qZ=>?_) hs
 obtain⟨x,H2,I2,rx,a,C,dx,fs,ex,ea,c,n,l,q2⟩:=qZ
 subst ex
 obtain rfl:ov=Value.ref a:=rx
 exact jtQ I2 ea c n l ry fun s3 I3=>⟨σ,_,I3,q2⟩
end
section
variable {X:Cx}{pins:List (Addr×Obj)}{σ:St}{H:Hp}{s:Shared}{A:Around}{E:Value->Shared->Prop}{Q:Value->Shared->Prop}{c:Value}{b:Bool}
inductive jfh (K:PySem.W.Frag)(H:Hp):V->Value->Prop where
 | non:jfh K H .non (.type "NoneType")
 | bl (x:Bool):jfh K H (.bl x) (.type "bool")
 | int (i:Int):jfh K H (.int i) (.type "int")
 | str (x:Str):jfh K H (.str x) (.type "str")
 | flt (x:UInt64):jfh K H (.flt x) (.type "float")
 | lst {a:Addr} {xs:List V} (e:H a=some (.lst xs)):jfh K H (.ref a) (.type "list")
 | frz {a:Addr} {o:Obj} {xs:List V} (e:H a=some (.frz o (.lst xs))):jfh K H (.ref a) (.type "list")
 | tup {a:Addr} {xs:List V} (e:H a=some (.tup xs)):jfh K H (.ref a) (.type "tuple")
 | dK {a:Addr} {kvs:List (Key×V)} (e:H a=some (.dK kvs)):jfh K H (.ref a) (.type "dict")
 | dT {a:Addr} {kvs:List (List Key×V)} (e:H a=some (.dT kvs)):jfh K H (.ref a) (.type "dict")
 | ins {a C dx:Addr} {fs:List (Str×V)} (e:H a=some (.ins C dx fs)) (cl:Cls K C) (ha:PySem.W.findIn K (.ref C) "__class__"=some (some (.builtin "object.__class__")))
   (hn:PySem.W.specialIn K (.builtin "object.__class__") "__get__"=some (some (.builtin "getset_descriptor.__get__"))) (htk:PySem.W.takesIn K (.builtin "object.__class__")=some true)
   (hm:PySem.W.mroIn K C (.type "object")=some true):jfh K H (.ref a) (.ref C)
theorem jg3 {x:V}{u t:Value}(I:Inv X pins σ H s)(rx:RelV x u)(ty:jfh X.K H x t)(e:PySem.W.kitOne X.K t c=some b)(h:∀tk,Q (.bool b) { s with toks:=tk }) :
  wpAny (model X.prog X.w) A (call (.builtin "isinstance") [u,c]) Q E s:=by
 cases ty with
 | non=>cases (show u=Value.none from rx); exact PySem.W.kia_one PySem.W.kitx_none I.kIn True.intro e (fun z=>by cases z) h
 | bl y=>cases (show u=Value.bool y from rx); exact PySem.W.kia_one PySem.W.kitx_bool I.kIn True.intro e (fun z=>by cases z) h
 | int i=>obtain⟨t,q⟩:=(show ∃t,u=Value.int i t from rx); cases q; exact PySem.W.kia_one PySem.W.kitx_int I.kIn True.intro e (fun z=>by cases z) h
 | str y=>obtain⟨t,q⟩:=(show ∃t,u=Value.str y t from rx); cases q; exact PySem.W.kia_one PySem.W.kitx_str I.kIn True.intro e (fun z=>by cases z) h
 | flt y=>obtain⟨t,q⟩:=(show ∃t,u=Value.float y t from rx); cases q; exact PySem.W.kia_one PySem.W.kitx_float I.kIn True.intro e (fun z=>by cases z) h
 | @lst a xs ea =>
  cases (show u=Value.ref a from rx)
  obtain⟨_,_,n,_,h1⟩:=(show ObjOk X.prog X.w H s.heap a (.lst xs) from I.hok a _ ea)
  exact PySem.W.kia_one PySem.W.kitx_list I.kIn ⟨_,h1,rfl⟩ e (fun z=>by cases z) h
 | @frz a ob xs ea =>
  cases (show u=Value.ref a from rx)
  obtain⟨_,_,_,n,_,h1⟩:=(show ObjOk X.prog X.w H s.heap a (.frz ob (.lst xs)) from I.hok a _ ea)
  exact PySem.W.kia_one PySem.W.kitx_list I.kIn ⟨_,h1,rfl⟩ e (fun z=>by cases z) h
 | @tup a xs ea =>
  cases (show u=Value.ref a from rx)
  obtain⟨_,_,_,p⟩:=(show ObjOk X.prog X.w H s.heap a (.tup xs) from I.hok a _ ea)
  obtain⟨o,h1,h2,_⟩:=p
  exact PySem.W.kia_one PySem.W.kitx_tuple I.kIn ⟨o,h1,h2⟩ e (fun z=>by cases z) h
 | @dK a kvs ea =>
  cases (show u=Value.ref a from rx)
  obtain⟨_,_,vs,_,p⟩:=(show ObjOk X.prog X.w H s.heap a (.dK kvs) from I.hok a _ ea)
  obtain⟨o,es,ep,h1,h2,_⟩:=p
  exact PySem.W.kia_one PySem.W.kitx_dict I.kIn ⟨o,h1,h2.1⟩ e (fun z=>by cases z) h
 | @dT a kvs ea =>
  cases (show u=Value.ref a from rx)
  obtain⟨_,_,xs,_,o,es,ep,h1,h2,_⟩:=(show ObjOk X.prog X.w H s.heap a (.dT kvs) from I.hok a _ ea)
  exact PySem.W.kia_one PySem.W.kitx_dict I.kIn ⟨o,h1,h2.1⟩ e (fun z=>by cases z) h
 | @ins a C dx fs ea cl ha hn htk hm =>
  cases (show u=Value.ref a from rx)
  obtain⟨mA,O,_⟩:=jlE I.hok ea
  obtain⟨od,J,_⟩:=O.look
  exact PySem.W.kia_one (PySem.W.kitx_own (cl.get _) cl.hd ha hn htk hm) I.kIn J e (fun z=>by cases z) h
end
end L2
namespace L2
open PySem PySem.Spec PyProof.Rows
structure Room (k:Nat)(A:Around):Prop where
 hd:A.handled=none
 dp:A.depth+3 * k+5<recursionLimit
 un:A.units+16 * k+200<cLine
theorem Room.mono {j k:Nat}{A:Around}(r:Room k A)(h:j≤k):Room j A:=⟨r.hd,by have:=r.dp; omega,by have:=r.un; omega⟩
theorem Room.deeper {k:Nat}{A:Around}(r:Room (k+1) A)(env:Env):Room k (A.deeper env) :=
 ⟨r.hd,by have:=r.dp; show A.depth+1+3 * k+5<_; omega,by have:=r.un; show A.units+3+16 * k+200<_; omega⟩
theorem Room.in1 {k:Nat}{A:Around}(r:Room (k+1) A):Room k A.in1 :=
 ⟨r.hd,by have:=r.dp; show A.depth+3 * k+5<_; omega,by have:=r.un; show A.units+1+16 * k+200<_; omega⟩
theorem jtT {A:Around}{C:Addr}{us:List Value}{kw:List (Str×Value)}:(A.under (.builtin "type.__call__" ⟨.ref C::us,kw⟩)).depth=A.depth+1:=by
 first | rfl | simp [Around.under,Code.weight,Code.isCreation,Code.isGuard,Code.isCaller,Code.frames,Code.isFrame,guardIds]
theorem jua {A:Around}{C:Addr}{us:List Value}{kw:List (Str×Value)}:(A.under (.builtin "type.__call__" ⟨.ref C::us,kw⟩)).units=A.units+1:=by
 first | rfl | simp [Around.under,Code.cUnits,Code.frames,Code.isFrame]
theorem Room.make {k:Nat}{A:Around}(r:Room (k+1) A)(C:Addr)(us:List Value)(kw:List (Str×Value)):Room k (A.under (.builtin "type.__call__" ⟨.ref C::us,kw⟩)) :=
 ⟨r.hd,by have:=r.dp; rw [jtT]; omega,by have:=r.un; rw [jua]; omega⟩
theorem Room.depth {k:Nat}{A:Around}(r:Room k A):A.depth<recursionLimit:=by have:=r.dp; omega
theorem Room.units {k:Nat}{A:Around}(r:Room k A):A.units+64<cLine:=by have:=r.un; omega
def jkq:TA:=fun _ H Q=>Q [] H
def jnf (ta:TE)(tr:TA):TA:=fun σ H Q=>ta σ H fun x H1=>tr σ H1 fun xs H2=>Q (x::xs) H2
section
variable {X:Cx}{e:Expr}{es:List Expr}{te:TE}{t:TA}{pos:Pos}
theorem jca:PA X [] jkq:=fun _ _ _ _ H Q I h=>Calls.spliced_nil ⟨[],H,I,.nil,h⟩
theorem jaZ (ha:PE X e te)(hr:PA X es t)(hs:starEach (e::es) X.env=(false,eval e X.env)::starEach es X.env:=by rfl):PA X (e::es) (jnf te t):=by
 intro pos pins s σ H Q I h
 rw [hs]
 show wpAny _ _ (spliced ((false,eval e X.env)::backTo pos (starEach es X.env))) _ _ s
 refine Calls.spliced_cons (jQ (ha pins s σ H _ I h) fun u s1 qZ=>?_)
 obtain⟨x,H1,I1,r1,q1⟩:=qZ
 exact jQ (hr pos pins s1 σ H1 _ I1 q1) fun us s2 ⟨xs,H2,I2,r2,q2⟩=>⟨x::xs,H2,I2,.cons r1 r2,q2⟩
def jCc (t:TA):TE:=fun σ H Q=>t σ H fun xs H1=>xs.length≤sizeLine∧∀p,H1 p=none->Q (.ref p) (j1 H1 p (.tup xs))
def jCv (t:TA):TE:=fun σ H Q=>t σ H fun xs H1=>xs.length≤sizeLine∧∀p,H1 p=none->Q (.ref p) (j1 H1 p (.lst xs))
theorem jAg {x1}(h:PA X es t):PE X (.Tuple es x1 pos) (jCc t):=by
 intro pins s σ H Q I hq
 refine wpAny_Tuple_spliced (jQ (h pos pins s σ H _ I hq) fun us s1 ⟨xs,H1,I1,r,z,q⟩=>⟨by rw [←r.length]; exact z,?_⟩)
 have hf:H1 s1.heap.objs.size=none:=I1.hok.fresh (Nat.le_refl _)
 refine⟨.ref s1.heap.objs.size,j1 H1 s1.heap.objs.size (.tup xs),I1.laid (t':=s1.toks) (fun b u e=>Heap.get?_push_of_some _ e) (Nat.le_refl _) ?_,rfl,q _ hf⟩
 exact⟨z,us,r,⟨_,Heap.get?_push_size _ rfl,rfl,_,rfl⟩⟩
theorem jrW (h:PA X es t):PE X (.List es pos) (jCv t):=by
 intro pins s σ H Q I hq
 refine wpAny_List_spliced (jQ (h pos pins s σ H _ I hq) fun us s1 ⟨xs,H1,I1,r,z,q⟩=>⟨by rw [←r.length]; exact z,?_⟩)
 have hf:H1 s1.heap.objs.size=none:=I1.hok.fresh (Nat.le_refl _)
 refine⟨.ref s1.heap.objs.size,j1 H1 s1.heap.objs.size (.lst xs),I1.laid (t':=s1.toks) (fun b u e=>Heap.get?_push_of_some _ e) (Nat.le_refl _) ?_,rfl,q _ hf⟩
 exact⟨z,us,0,r,Heap.get?_push_size _ rfl⟩
end
abbrev Sp:=List V->Hp->VK->XK->Prop
abbrev CXT:=List Env->Hp->Shared->XK->Value->Shared->Prop
structure Env0 (P:Program)(w:World)(K:PySem.W.Frag)(mg:Str->Option Value)(base:Heap)(A:Around)(outer:List Env)(s:Shared)(H:Hp):Prop where
 frames:A.frames=some outer
 mod:Mod K mg base
 bs:∀b o,base.get? b=some o->s.heap.get? b=some o∧H b=none
 bsz:base.objs.size≤s.heap.objs.size
 funs:s.heap.FunFrames base outer
 frf:∀b∈frs outer,H b=none
 hok:HOk P w H s.heap
 bare:AllBare s.gens
def CE (outer:List Env)(P:Program)(w:World)(H:Hp)(s:Shared)(Q:VK)(u:Value)(s':Shared):Prop :=
 ∃v H',s'.os=s.os∧AllBare s'.gens∧Un (frs outer) [] H H' s.heap s'.heap∧HOk P w H' s'.heap∧RelV v u∧Q v H'
def CR (CX:CXT)(outer:List Env)(P:Program)(w:World)(H:Hp)(s:Shared)(Q:VK)(E:XK)(r:Result)(s':Shared):Prop :=
 match r with
 | .ok (.ret u)=>CE outer P w H s Q u s'
 | .ok _=>False
 | .error e=>CX outer H s E e s'
structure FnOk (P:Program)(w:World)(K:PySem.W.Frag)(mg:Str->Option Value)(base:Heap)(CX:CXT)(k:Nat)(f:Addr)(fd:FuncData)(ps:List Str)(sp:Sp):Prop where
 len:∀vs H Q E,sp vs H Q E->vs.length=ps.length
 run:∀(A:Around) (outer:List Env) (s:Shared) (H:Hp) (args:Args) (us:List Value) (vs:List V) (Q:VK) (E:XK),Room k A->Env0 P w K mg base A outer s H->BindsTo s fd args (ps.zip us)->Vals vs us->sp vs H Q E ->
  codeAny (model P w) A (.call (.ref f) args) (CR CX outer P w H s Q E) s
theorem FnOk.mono {P:Program}{w:World}{K:PySem.W.Frag}{mg:Str->Option Value}{base:Heap}{CX:CXT}{j k:Nat}{f:Addr}{fd:FuncData}{ps:List Str}{sp:Sp}(F:FnOk P w K mg base CX j f fd ps sp)(h:j≤k) :
  FnOk P w K mg base CX k f fd ps sp:=⟨F.len,fun A outer s H args us vs Q E hr=>F.run A outer s H args us vs Q E (hr.mono h)⟩
theorem Env0.make {P:Program}{w:World}{K:PySem.W.Frag}{mg:Str->Option Value}{base:Heap}{A:Around}{outer:List Env}{s:Shared}{H:Hp}(e:Env0 P w K mg base A outer s H)(C:Addr)(us:List Value)(kw:List (Str×Value)) :
  Env0 P w K mg base (A.under (.builtin "type.__call__" ⟨.ref C::us,kw⟩)) outer s H:=⟨by first | exact e.frames | (simpa [Around.under,Code.envs,Code.isFrame,pushEnvs] using e.frames),e.mod,e.bs,e.bsz,e.funs,e.frf,e.hok,e.bare⟩
theorem Env0.in1 {P:Program}{w:World}{K:PySem.W.Frag}{mg:Str->Option Value}{base:Heap}{A:Around}{outer:List Env}{s:Shared}{H:Hp}(e:Env0 P w K mg base A outer s H) :
  Env0 P w K mg base A.in1 outer s H:=⟨e.frames,e.mod,e.bs,e.bsz,e.funs,e.frf,e.hok,e.bare⟩
section
variable {X:Cx}{pins:List (Addr×Obj)}{σ:St}{H:Hp}{s s':Shared}
theorem Inv.env0 (I:Inv X pins σ H s):Env0 X.prog X.w X.K X.mg X.base X.A X.stack s H :=
 ⟨I.ok.frames,I.ok.mod,I.bs,Nat.le_trans I.ok.bsz I.sz,I.stack,I.stkFree,I.hok,I.bare⟩
theorem Inv.after {Q:VK}{u:Value}(I:Inv X pins σ H s)(h:CE X.stack X.prog X.w H s Q u s'):EP X pins σ Q u s':=by
 obtain⟨v,H',os,bare,un,hok,r,q⟩:=h
 obtain⟨hh,g,d,t,os'⟩:=s'
 obtain rfl:os'=s.os:=os
 exact⟨v,H',I.call (h':=hh) (g':=g) (d':=d) (t':=t) (ch:=[]) un hok bare (fun b z=>absurd z (by simp)),r,q⟩
end
def jxV (sp:Sp)(dvs:List V)(E:XK)(t:TA):TE:=fun σ H Q=>t σ H fun vs H1=>sp (vs++dvs) H1 Q E
def jxQ (C:Addr)(m:Str)(sp:Sp)(dvs:List V)(E:XK)(ta:TE)(t:TA):TE:=fun σ H Q=>ta σ H fun x H1=>∃a dx fs,x=.ref a∧H1 a=some (.ins C dx fs)∧fs.lookup m=none ∧
 t σ H1 fun vs H2=>sp (x::(vs++dvs)) H2 Q E
def jxT (C:Addr)(sp:Sp)(dvs:List V)(E:XK)(t:TA):TE:=fun σ H Q=>t σ H fun vs H1=>∀x dx,H1 x=none->H1 dx=none->dx≠x ->
 sp (.ref x::(vs++dvs)) (j1 (j1 H1 dx (.own x)) x (.ins C dx [])) (fun v H2=>v=.non∧Q (.ref x) H2) E
def Binds (K:PySem.W.Frag)(fd:FuncData)(ps:List Str)(ds:List Value):Prop :=
 ∀(s:Shared) (us:List Value),K.In s.heap->(us++ds).length=ps.length->BindsTo s fd ⟨us,[]⟩ (ps.zip (us++ds))
theorem Binds.all {K:PySem.W.Frag}{fd:FuncData}{ps:List Str}(h:∀us:List Value,us.length=ps.length->bindArgs fd ⟨us,[]⟩=pure (ps.zip us)):Binds K fd ps []:=fun s us _ hl=>by
 rw [List.append_nil] at hl ⊢
 exact .of_eq (h us hl)
def jgr (CX:CXT)(X:Cx)(E:XK):Prop:=∀(pins:List (Addr×Obj)) (σ:St) (H:Hp) (s:Shared) (e:Value) (s':Shared),Inv X pins σ H s->CX X.stack H s E e s'->X.xe e s'
section
variable {X:Cx}{CX:CXT}{k:Nat}{f C:Addr}{fd:FuncData}{ps:List Str}{sp:Sp}{dvs:List V}{ds:List Value}{E:XK}{x m:Str}{p pos apos:Pos}{e o:Expr}{es:List Expr}{ta:TE}{t:TA}
theorem jm5 {pins:List (Addr×Obj)}{σ:St}{H:Hp}{s:Shared}{Q:VK}{us:List Value}{vs:List V}(F:FnOk X.prog X.w X.K X.mg X.base CX k f fd ps sp)(hr:Room k X.A)(hb:Binds X.K fd ps ds)(hd:Vals dvs ds)(hx:jgr CX X E)
  (I:Inv X pins σ H s) (r:Vals vs us) (h:sp (vs++dvs) H Q E):wpAny (model X.prog X.w) X.A (call (.ref f) us) (EP X pins σ Q) X.xe s:=by
 have r2:Vals (vs++dvs) (us++ds):=r.append hd
 have hl:(us++ds).length=ps.length:=by rw [←r2.length]; exact F.len _ _ _ _ h
 refine wpAny_call (codeAny_mono (F.run X.A X.stack s H ⟨us,[]⟩ (us++ds) (vs++dvs) Q E hr I.env0 (hb s us I.kIn hl) r2 h) fun r s' hq=>?_)
 cases r with
 | error e=>exact hx pins σ H s e s' I hq
 | ok fl =>
  cases fl with
  | ret u=>exact I.after hq
  | next=>exact False.elim hq
  | brk=>exact False.elim hq
  | cont=>exact False.elim hq
theorem jtx (F:FnOk X.prog X.w X.K X.mg X.base CX k f fd ps sp)(hr:Room k X.A)(hg:Gl X x)(hm:X.mg x=some (.ref f))(hk:PySem.W.keepIn X.K (.ref f)=true)(hb:Binds X.K fd ps ds)(hd:Vals dvs ds)(hx:jgr CX X E)
  (ha:PA X (e::es) t) (hdb:(x == ("__debug__":Str))=false:=by decide) (he:starEach (e::es) X.env=(false,eval e X.env)::starEach es X.env:=by rfl) (hpl:(backTo pos (starEach es X.env)).any (·.1)=false:=by rfl) :
  PE X (.Call (.Name x p) (e::es) [] pos) (jxV sp dvs E t):=by
 intro pins s σ H Q I h
 refine wpAny_Call_Name_kw (jdY I hg hm ?_ hdb)
 refine PySem.W.callWith_K (h₀:=X.base) I.ok.mod.kin hk (jQ (ha pos pins s σ H _ I h) fun us s1 ⟨vs,H1,I1,r,q⟩=>⟨I1.kIn,?_⟩) he hpl
 exact jm5 F hr hb hd hx I1 r q
theorem jwG (F:FnOk X.prog X.w X.K X.mg X.base CX k f fd ps sp)(hr:Room k X.A)(hg:Gl X x)(hm:X.mg x=some (.ref f))(hk:PySem.W.keepIn X.K (.ref f)=true)(hb:Binds X.K fd ps ds)(hd:Vals dvs ds)(hx:jgr CX X E)
  (hdb:(x == ("__debug__":Str))=false:=by decide):PE X (.Call (.Name x p) [] [] pos) (jxV sp dvs E jkq):=by
 intro pins s σ H Q I h
 refine wpAny_Call_Name_kw (jdY I hg hm ?_ hdb)
 exact PySem.W.callWith_K0 I.kIn hk (jm5 (us:=[]) F hr hb hd hx I .nil h)
theorem jb7 {pl:Sem Bool}(he:PE X o ta)(c:Cls X.K C)(hm:joY X.K C m f)(F:FnOk X.prog X.w X.K X.mg X.base CX k f fd ps sp)(hr:Room k X.A)(hb:Binds X.K fd ps ds)(hd:Vals dvs ds)(hx:jgr CX X E)(ha:PA X (e::es) t)
  (hst:starEach (e::es) X.env=(false,eval e X.env)::starEach es X.env:=by rfl) (hpl:(backTo pos (starEach es X.env)).any (·.1)=false:=by rfl)
  (ht:eval (.Call (.Attribute o m apos) (e::es) [] pos) X.env=(do
   let ov ←eval o X.env
   standAt apos.atName
   let (f,first) ←holding [ov] (getMethod ov m pl)
   callWith pos f first (backTo pos (starEach (e::es) X.env)) (backToKw pos (keywordEach [] X.env))):=by rfl) :
  PE X (.Call (.Attribute o m apos) (e::es) [] pos) (jxQ C m sp dvs E ta t):=by
 intro pins s σ H Q I h
 refine PySem.W.methodCall_KW (pl:=pl) (jQ (he pins s σ H _ I h) fun u s1 qZ=>?_) ht
 obtain⟨x,H1,I1,rx,a,dx,fs,ex,ea,l,q⟩:=qZ
 subst ex
 obtain rfl:u=Value.ref a:=rx
 refine ji6 I1 ea c hm l ?_
 refine PySem.W.callWith_K (first:=[.ref a]) (h₀:=X.base) I.ok.mod.kin hm.kp (jQ (ha pos pins s1 σ H1 _ I1 q) fun us s2 ⟨vs,H2,I2,r,q2⟩=>⟨I2.kIn,?_⟩) hst hpl
 exact jm5 (us:=.ref a::us) (vs:=.ref a::vs) F hr hb hd hx I2 (.cons rfl r) q2
structure Mk (K:PySem.W.Frag)(C f:Addr):Prop where
 makes:PySem.W.makesIn K C=true
 init:PySem.W.findIn K (.ref C) "__init__"=some (some (.ref f))
 fn:PySem.W.isFn K (.ref f)=true
 kp:PySem.W.keepIn K (.ref C)=true
theorem jxr {pins:List (Addr×Obj)}{σ:St}{H:Hp}{s:Shared}{Q:VK}{us:List Value}{vs:List V}(M:Mk X.K C f)(F:FnOk X.prog X.w X.K X.mg X.base CX k f fd ps sp)(hr:Room (k+1) X.A)(hb:Binds X.K fd ps ds)(hd:Vals dvs ds)
  (hx:jgr CX X E) (I:Inv X pins σ H s) (r:Vals vs us)
  (h:∀x dx,H x=none->H dx=none->dx≠x->sp (.ref x::(vs++dvs)) (j1 (j1 H dx (.own x)) x (.ins C dx [])) (fun v H2=>v=.non∧Q (.ref x) H2) E) :
  wpAny (model X.prog X.w) X.A (call (.ref C) us) (EP X pins σ Q) X.xe s:=by
 have hq:=h (s.heap.objs.size+1) s.heap.objs.size (I.hok.fresh (Nat.le_succ _)) (I.hok.fresh (Nat.le_refl _)) (Nat.ne_of_lt (Nat.lt_succ_self _))
 have I2:=Inv.made (C:=C) I
 have r2:Vals (V.ref (s.heap.objs.size+1)::(vs++dvs)) (Value.ref (s.heap.objs.size+1)::(us++ds)):=.cons rfl (r.append hd)
 have hl:(Value.ref (s.heap.objs.size+1)::us++ds).length=ps.length:=by
  have e:=r2.length
  rw [F.len _ _ _ _ hq] at e
  exact e.symm
 refine wpAny_call (jw6 (f:=f) I.kIn M.makes M.init (beq_iff_eq.mp M.fn) (codeAny_mono (F.run _ X.stack _ _ ⟨Value.ref (s.heap.objs.size+1)::us,[]⟩ (Value.ref (s.heap.objs.size+1)::(us++ds)) _ _ E (hr.make C us [])
  (I2.env0.make C us []) (hb _ (Value.ref (s.heap.objs.size+1)::us) I2.kIn hl) r2 hq) fun r s' hq'=>?_))
 cases r with
 | error e=>exact hx pins σ _ _ e s' I2 hq'
 | ok fl =>
  cases fl with
  | ret u =>
   obtain⟨v,H',I3,rv,ev,q3⟩:=I2.after hq'
   subst ev
   exact⟨rv,⟨V.ref (s.heap.objs.size+1),H',I3,rfl,q3⟩⟩
  | next=>exact False.elim hq'
  | brk=>exact False.elim hq'
  | cont=>exact False.elim hq'
theorem jwT (M:Mk X.K C f)(F:FnOk X.prog X.w X.K X.mg X.base CX k f fd ps sp)(hr:Room (k+1) X.A)(hg:Gl X x)(hm:X.mg x=some (.ref C))(hb:Binds X.K fd ps ds)(hd:Vals dvs ds)(hx:jgr CX X E)
  (hdb:(x == ("__debug__":Str))=false:=by decide):PE X (.Call (.Name x p) [] [] pos) (jxT C sp dvs E jkq):=by
 intro pins s σ H Q I h
 refine wpAny_Call_Name_kw (jdY I hg hm ?_ hdb)
 exact PySem.W.callWith_K0 I.kIn M.kp (jxr (us:=[]) M F hr hb hd hx I .nil h)
end
def PK (X:Cx)(kws:List Keyword)(t:TA):Prop :=
 ∀(pos:Pos) (pins:List (Addr×Obj)) (s:Shared) (σ:St) (H:Hp) (Q:List V->Hp->Prop),Inv X pins σ H s->t σ H Q->wpAny (model X.prog X.w) X.A (evalAll ((backToKw pos (keywordEach kws X.env)).map (·.2))) (AP X pins σ Q) X.xe s
section
variable {X:Cx}{CX:CXT}{k:Nat}{f C:Addr}{fd:FuncData}{ps ks:List Str}{sp:Sp}{E:XK}{x m:Str}{p pos apos kpos:Pos}{e o:Expr}{es:List Expr}{kws:List Keyword}{te ta:TE}{t tk:TA}{nm:Option Str}
theorem jz2:PK X [] jkq:=fun _ _ _ _ H Q I h=>wpAny_evalAll_nil ⟨[],H,I,.nil,h⟩
theorem jy9 (ha:PE X e te)(hr:PK X kws t):PK X (⟨nm,e,kpos⟩::kws) (jnf te t):=by
 intro pos pins s σ H Q I h
 show wpAny _ _ (evalAll ((do let v ←eval e X.env; standAt pos; pure v)::(backToKw pos (keywordEach kws X.env)).map (·.2))) _ _ s
 refine wpAny_evalAll_cons (wpAny_bind (jQ (ha pins s σ H _ I h) fun u s1 ⟨x,H1,I1,r1,q1⟩=>wpAny_bind (wpAny_standAt (wpAny_pure ?_))))
 exact jQ (hr pos pins s1 σ H1 _ I1 q1) fun us s2 ⟨xs,H2,I2,r2,q2⟩=>⟨x::xs,H2,I2,.cons r1 r2,q2⟩
variable {g:List Value->List Value->List Value}{gV:List V->List V->List V}
end
structure jx (N P:List Str)(sc:Scope):Prop where
 kind:sc.kind=.function
 co:sc.isCoroutine=false
 gen:sc.isGenerator=false
 nd:N.Nodup
 pre:N.take P.length=P
 par:∀x∈P,sc.names.lookup x=some .local∨sc.names.lookup x=some .cell
 nofree:∀y∈sc.names,y.2≠.free
theorem jqb {kindOf:Str->Option NameKind}{x:Str}:∀{binds:List (Str×Value)} {m:Str->Option Value},(∀v,(x,v)∉binds)->bindL kindOf binds m x=m x
 | [],_,_=>rfl
 | (n,v)::r,m,h=>by
  unfold bindL
  rw [jqb fun w hw=>h w (List.mem_cons_of_mem _ hw)]
  split
  ·have:x≠n:=by rintro rfl; exact h v List.mem_cons_self
   simp [this]
  ·rfl
theorem jpH {kindOf:Str->Option NameKind}{x:Str}:∀{binds:List (Str×Value)} {m:Str->Option Value},(∀v,(x,v)∉binds)->bindC kindOf binds m x=m x
 | [],_,_=>rfl
 | (n,v)::r,m,h=>by
  unfold bindC
  rw [jpH fun w hw=>h w (List.mem_cons_of_mem _ hw)]
  split
  ·rfl
  ·have:x≠n:=by rintro rfl; exact h v List.mem_cons_self
   simp [this]
theorem jpv {kindOf:Str->Option NameKind}{x:Str}{v:Value}:∀{P:List Str} {vs:List Value} {i:Nat} {m:Str->Option Value},P.Nodup->P[i]?=some x->vs[i]?=some v->kindOf x=some .local ->
  bindL kindOf (P.zip vs) m x=some v
 | [],_,_,_,_,h,_,_=>by simp at h
 | _::_,[],_,_,_,_,h,_=>by simp at h
 | p::P,w::vs,0,m,nd,h1,h2,hk=>by
  simp at h1 h2; subst h1; subst h2
  show bindL kindOf ((p,w)::P.zip vs) m p=_
  unfold bindL
  rw [jqb fun v hv=>(List.nodup_cons.mp nd).1 (List.of_mem_zip hv).1,if_pos hk]
  simp
 | p::P,w::vs,i+1,m,nd,h1,h2,hk=>by
  show bindL kindOf ((p,w)::P.zip vs) m x=_
  unfold bindL
  exact jpv (i:=i) (List.nodup_cons.mp nd).2 (by simpa using h1) (by simpa using h2) hk
theorem jp2 {kindOf:Str->Option NameKind}{x:Str}{v:Value}:∀{P:List Str} {vs:List Value} {i:Nat} {m:Str->Option Value},P.Nodup->P[i]?=some x->vs[i]?=some v->kindOf x≠some .local ->
  bindC kindOf (P.zip vs) m x=some v
 | [],_,_,_,_,h,_,_=>by simp at h
 | _::_,[],_,_,_,_,h,_=>by simp at h
 | p::P,w::vs,0,m,nd,h1,h2,hk=>by
  simp at h1 h2; subst h1; subst h2
  show bindC kindOf ((p,w)::P.zip vs) m p=_
  unfold bindC
  rw [jpH fun v hv=>(List.nodup_cons.mp nd).1 (List.of_mem_zip hv).1,if_neg hk]
  simp
 | p::P,w::vs,i+1,m,nd,h1,h2,hk=>by
  show bindC kindOf ((p,w)::P.zip vs) m x=_
  unfold bindC
  exact jp2 (i:=i) (List.nodup_cons.mp nd).2 (by simpa using h1) (by simpa using h2) hk
def jbq (N:List Str)(vs:List V):St:=vs.map some++List.replicate (N.length - vs.length) none
def jbU (CX:CXT)(P:Program)(w:World)(K:PySem.W.Frag)(mg:Str->Option Value)(base:Heap)(N:List Str)(qual:Str)(scope:Scope)(f:Addr)(cd:Value)(A:Around)(outer:List Env)(s:Shared)(H:Hp)(E:XK):Cx where
 prog:=P
 w:=w
 K:=K
 mg:=mg
 base:=base
 A:=A.deeper (envOfC qual scope s.heap.objs.size f cd)
 N:=N
 s₀:=s
 H₀:=H
 env:=envOfC qual scope s.heap.objs.size f cd
 outer:=outer
 stack:=envOfC qual scope s.heap.objs.size f cd::outer
 ex:=[]
 calm:=true
 fn:=fun _=>true
 pn:=[]
 xe:=fun e s'=>wpAny (model P w) (A.deeper (envOfC qual scope s.heap.objs.size f cd)) (leaving (envOfC qual scope s.heap.objs.size f cd) e) (fun _ s''=>CX outer H s E e s'') (fun e' s''=>CX outer H s E e' s'') s'
theorem jq1 {sc:Scope}{n:Nat}{x:Str}(h:sc.names.lookup x=some .cell):∃c,(cellsFrom n sc.names []).lookup x=some c:=by
 have q:=PySem.W.cellsFrom_some sc.names n [] (.inl h)
 exact Option.isSome_iff_exists.mp q
theorem jvM {CX:CXT}{P:Program}{w:World}{K:PySem.W.Frag}{mg:Str->Option Value}{base:Heap}{N ps:List Str}{qual:Str}{scope:Scope}{f:Addr}{cd:Value}{A:Around}{outer:List Env}{s s1:Shared}{H:Hp}{E:XK}{us:List Value}{vs:List V}
  (S:jx N ps scope) (hd:A.handled=none) (e0:Env0 P w K mg base A outer s H) (hl:vs.length=ps.length) (r:Vals vs us)
  (x:InCallC s s.heap.objs.size (bindL (envOfC qual scope s.heap.objs.size f cd).kindOf (ps.zip us) fun _=>none) (cellsFrom (s.heap.objs.size+1) scope.names []) (bindC (envOfC qual scope s.heap.objs.size f cd).kindOf (ps.zip us) fun _=>none) s1) :
  Inv (jbU CX P w K mg base N qual scope f cd A outer s H E) [] (jbq N vs) H s1:=by
 have hpl:ps.length≤N.length:=by have:=congrArg List.length S.pre; rw [List.length_take] at this; omega
 obtain⟨h1,tk,rfl,hk⟩:=x.done
 have noA:∀b:Addr,b∉(jbU CX P w K mg base N qual scope f cd A outer s H E).ex:=fun b z=>absurd (show b∈([]:List Addr) from z) (by simp)
 refine⟨⟨e0.mod,S.kind,rfl,rfl,Nat.le_refl _,fun y z c h1 h2=>?_,fun y hy=>?_,fun y c _ h=>?_,fun _=>hd,Around.frames_deeper e0.frames,.inr ⟨rfl,rfl⟩,fun b z=>absurd z (noA b),e0.bs,e0.bsz,fun b _ _=>noA b,fun b z=>absurd z (noA b),e0.funs,e0.frf⟩,
  rfl,e0.bare,Un.kept hk,⟨_,x.toInCall.ns,fun i y v h1 h2 h3=>?_⟩,fun y c h=>⟨_,x.cell y c h⟩,e0.hok.fresh (Nat.le_refl _),fun y c h=>?_,fun p hp=>absurd (show p∈([]:List (Addr×Obj)) from hp) (by simp),e0.hok.kept hk,?_⟩
 ·exact name_of_addr x.apart (PySem.mem_of_lookup h1) (PySem.mem_of_lookup h2)
 ·have hy:scope.names.lookup y=some .cell∨scope.names.lookup y=some .free:=hy
  rcases hy with hy | hy
  ·exact jq1 hy
  ·exact absurd rfl (S.nofree _ (PySem.mem_of_lookup hy))
 ·exact Nat.le_of_lt (x.above y c (PySem.mem_of_lookup h))
 ·have hi:i<vs.length:=by
   unfold jbq at h2
   by_cases hi:i<vs.length
   ·exact hi
   ·rw [List.getElem?_append_right (by simpa using hi)] at h2
    rw [List.getElem?_replicate] at h2
    split at h2 <;> cases h2
  have ha:vs[i]?=some v:=by
   unfold jbq at h2
   rw [List.getElem?_append_left (by simpa using hi),List.getElem?_map] at h2
   cases e:vs[i]? with
   | none=>rw [e] at h2; cases h2
   | some a=>rw [e] at h2; cases h2; rfl
  obtain⟨u,hu,rv⟩:=r.get ha
  have hp:ps[i]?=some y:=by
   rw [←S.pre,List.getElem?_take_of_lt (by omega)]; exact h1
  have ndP:ps.Nodup:=by rw [←S.pre]; exact S.nd.sublist (List.take_sublist _ _)
  refine⟨u,rv,?_⟩
  rcases S.par y (List.mem_of_getElem? hp) with k | k
  ·exact .inl ⟨k,jpv ndP hp hu k⟩
  ·obtain⟨c,e⟩:=jq1 (n:=s.heap.objs.size+1) k
   refine .inr ⟨.inl k,c,e,?_⟩
   have q:=x.cell y c e
   rw [jp2 ndP hp hu (by show scope.names.lookup y≠_; rw [k]; decide)] at q
   exact q
 ·exact e0.hok.fresh (Nat.le_of_lt (x.above y c (PySem.mem_of_lookup h)))
 ·unfold jbq
  show _=N.length
  rw [List.length_append,List.length_map,List.length_replicate]
  omega
theorem jun {CX:CXT}{P:Program}{w:World}{K:PySem.W.Frag}{mg:Str->Option Value}{base:Heap}{k:Nat}{f:Addr}{name qual:Str}{params:Arguments}{body:List Stmt}{scope:Scope}{dV kV doc pm cdv ct oc:Value}{an od:Option Addr}
  {osl:Array (Option Value)} {N ps:List Str} {sp:Sp} (lk:K.lookup f=some ⟨oc,od,.func (PySem.W.fnOf name qual params body scope dV kV doc pm an cdv ct),osl⟩) (hcd:PySem.W.codeIn K cdv qual=true) (S:jx N ps scope)
  (len:∀vs H Q E,sp vs H Q E->vs.length=ps.length)
  (hbody:∀(A:Around) (outer:List Env) (s:Shared) (H:Hp) (vs:List V) (Q:VK) (E:XK),Room k (A.deeper (envOfC qual scope s.heap.objs.size f cdv))->sp vs H Q E ->
   ∃t,PSs (jbU CX P w K mg base N qual scope f cdv A outer s H E) body t∧t { nx:=fun _ H'=>Q .non H',rt:=Q } (jbq N vs) H) :
  FnOk P w K mg base CX (k+1) f (PySem.W.fnOf name qual params body scope dV kV doc pm an cdv ct) ps sp:=by
 refine⟨len,fun A outer s H args us vs Q E hr e0 hb r hsp=>?_⟩
 have hl:=len _ _ _ _ hsp
 have KX:K.In s.heap:=e0.mod.kin.keeps fun b o e=>(e0.bs b o e).1
 have lim:s.heap.NoLimit:=e0.mod.nolimit.keeps fun b o e=>(e0.bs b o e).1
 have hkind:∀y∈ps.zip us,scope.names.lookup y.1=some .local∨(scope.names.lookup y.1=some .cell∧((cellsFrom (s.heap.objs.size+1) scope.names []).lookup y.1).isSome=true):=fun⟨n,v⟩ hy=>by
  rcases S.par n (List.of_mem_zip hy).1 with q | q
  ·exact .inl q
  ·exact .inr ⟨q,PySem.W.cellsFrom_some _ _ _ (.inl q)⟩
 refine codeAny_call_function hr.depth (KX _ _ lk) rfl S.co S.gen rfl (PySem.W.codeRec_of KX hcd) (hb _ _ _ _ ?_)
 refine wpAny_newFunctionEnv_cells S.kind hkind fun env he s1 x=>?_
 subst he
 refine⟨lim.keeps x.toInCall.keep,codeAny_func ?_⟩
 obtain⟨t,ht,hq⟩:=hbody A outer s H vs Q E (hr.deeper _) hsp
 have I:Inv (jbU CX P w K mg base N qual scope f cdv A outer s H E) [] (jbq N vs) H s1:=jvM S hr.hd e0 hl r x
 refine wpAny_mono (ht [] s1 (jbq N vs) H _ I hq) (fun fl s' hs=>?_) fun e s' hs=>hs
 have fin:∀{σ':St} {H':Hp} {v:V} {u:Value},Inv (jbU CX P w K mg base N qual scope f cdv A outer s H E) [] σ' H' s'->RelV v u->Q v H'->CE outer P w H s Q u s' :=
  fun {σ' H' v u} J rv q=>⟨v,H',J.os,J.bare,J.base,J.hok,rv,q⟩
 cases fl with
 | ret u =>
  obtain⟨v,σ',H',J,rv,q⟩:=hs
  exact fin J rv q
 | next =>
  obtain⟨σ',H',J,q⟩:=hs
  exact fin (v:=V.non) (u:=Value.none) J rfl q
 | brk =>
  obtain⟨_,_,_,q⟩:=hs
  exact False.elim q
 | cont =>
  obtain⟨_,_,_,q⟩:=hs
  exact False.elim q
end L2
namespace L2
open PySem PySem.Spec PyProof.Rows
section
variable {X:Cx}{x:Str}{p pos:Pos}{e:Expr}{es:List Expr}{t:TA}{id T:String}{r:List V->Hp->VK->Prop}
def tCB (r:List V->Hp->VK->Prop)(t:TA):TE:=fun σ H Q=>t σ H fun vs H1=>r vs H1 Q
theorem jjy (hc:jcS X (.builtin id) r)(hg:Gl X x)(hm:X.mg x=none)(hv:bootBuiltins x=some (.builtin id))(ha:PA X (e::es) t)(hn:x≠"__name__":=by decide)(hdb:(x == ("__debug__":Str))=false:=by decide)
  (he:starEach (e::es) X.env=(false,eval e X.env)::starEach es X.env:=by rfl) (hpl:(backTo pos (starEach es X.env)).any (·.1)=false:=by rfl):PE X (.Call (.Name x p) (e::es) [] pos) (tCB r t):=by
 intro pins s σ H Q I h
 refine wpAny_Call_Name_kw (jka I hg hm hv ?_ hn hdb)
 exact PyProof.Rows.callWith_builtin1 (jQ (ha pos pins s σ H _ I h) fun us s1 ⟨vs,H1,I1,r1,q1⟩=>hc pins s1 σ H1 vs us Q I1 r1 q1) he hpl
theorem jve (hc:jcS X (.type T) r)(hg:Gl X x)(hm:X.mg x=none)(hv:bootBuiltins x=some (.type T))(ha:PA X (e::es) t)(hn:x≠"__name__":=by decide)(hdb:(x == ("__debug__":Str))=false:=by decide)
  (he:starEach (e::es) X.env=(false,eval e X.env)::starEach es X.env:=by rfl) (hpl:(backTo pos (starEach es X.env)).any (·.1)=false:=by rfl):PE X (.Call (.Name x p) (e::es) [] pos) (tCB r t):=by
 intro pins s σ H Q I h
 refine wpAny_Call_Name_kw (jka I hg hm hv ?_ hn hdb)
 exact PyProof.Rows.callWith_type1 (jQ (ha pos pins s σ H _ I h) fun us s1 ⟨vs,H1,I1,r1,q1⟩=>hc pins s1 σ H1 vs us Q I1 r1 q1) he hpl
end
end L2
namespace HT
open PySem PyProof.Rows
def lexLt:List Int->List Int->Bool
 | [],[]=>false
 | [],_::_=>true
 | _::_,[]=>false
 | x::xs,y::ys=>if x=y then lexLt xs ys else decide (x<y)
theorem juE (x y:Int)(xs ys:List Int):lexLt (x::xs) (y::ys)=if x=y then lexLt xs ys else decide (x<y):=rfl
theorem jqw:lexLt [] []=false:=rfl
theorem joP (y:Int)(ys:List Int):lexLt [] (y::ys)=true:=rfl
theorem joE (x:Int)(xs:List Int):lexLt (x::xs) []=false:=rfl
theorem jwE (A:Around)(s:Shared)(a:Int)(t:Tok)(c:Int)(u:Tok):∃e,SeqAt.EqAt A s (.int a t) (.int c u) e∧(e=true↔a=c) :=
 ⟨(a == c),SeqAt.EqAt.int_int a t c u,by simp⟩
theorem jxJ (A:Around)(s:Shared)(a:Int)(t:Tok)(c:Int)(u:Tok)(prog:Program)(w:World)(E:Value->Shared->Prop)(Q:Value->Shared->Prop)(h:Q (.bool (decide (a<c))) s) :
  wpAny (model prog w) A (richCompare .Lt (.int a t) (.int c u)) Q E s :=
 (PyProof.Rows.lt_int h:wpAny (model prog w) A (compareOp .Lt (.int a t) (.int c u)) Q E s)
section
open PySem.SeqAt
open PySem.AutoSeq1 (wpAny_loadPart')
open PySem.MeetsSeq PySem.MeetsSeq2 PySem.MeetsSeq3
theorem jqv (l b:Addr)(items items2:Array Value)(n n2:Nat)(dd dd2:Option Addr)(sl sl2:Array (Option Value))(ns ms:List Int)(hi:IntsAre items.toList ns)(hj:IntsAre items2.toList ms) :
  Meets (Builtin.«tuple.__lt__» ⟨[.ref l,.ref b],[]⟩)
   (fun _ R s=>s.heap.get? l=some { cls:=.type "tuple",dict:=dd,data:=.seq items n,slots:=sl }∧s.heap.get? b=some { cls:=.type "tuple",dict:=dd2,data:=.seq items2 n2,slots:=sl2 } ∧
    R (.ok (.ret (.bool (lexLt ns ms)))) s) :=
 .of_wp fun prog w A R s h=>by
  obtain⟨hp,g,d,tk,os⟩:=s; obtain⟨hl,hb,h⟩:=h
  have f2:=AutoSeq1.sub_tuple_tuple
  have z1:items.size=ns.length:=by rw [←hi.length]; simp
  have z2:items2.size=ms.length:=by rw [←hj.length]; simp
  wp_walk using wpAny_loadPart' hl,wpAny_loadPart' hb,wpAny_forIn_list _ (fun jJ b s'=>b.1=none∧s'=⟨hp,g,d,tk,os⟩∧∃(vs ws:List Value) (ns' ms':List Int),jJ=vs.zip ws ∧
   IntsAre vs ns'∧IntsAre ws ms'∧ns'.length+items2.size=ms'.length+items.size∧R (.ok (.ret (.bool (lexLt ns' ms')))) ⟨hp,g,d,tk,os⟩) _
  case turn =>
   rintro⟨y,x⟩ jJ b s' ⟨hb',rfl,vs,ws,ns',ms',hz,hvi,hwi,hlen,hR⟩
   cases hvi with
   | nil=>rw [List.zip_nil_left] at hz; cases hz
   | cons a t hvi' =>
    cases hwi with
    | nil=>rw [List.zip_nil_right] at hz; cases hz
    | cons c u hwi' =>
     rw [List.zip_cons_cons] at hz
     injection hz with hyx hrest
     injection hyx with hy hx
     subst hy hx
     rw [juE] at hR
     simp only [List.length_cons] at hlen
     obtain⟨e,he,hiff⟩:=jwE A.in1 ⟨hp,g,d,tk,os⟩ a t c u
     refine wpAny_bind (he prog w _ _ ?_)
     cases e with
     | true =>
      rw [if_pos (hiff.mp rfl)] at hR
      wp_walk
      exact⟨rfl,rfl,_,_,_,_,hrest,hvi',hwi',by omega,hR⟩
     | false =>
      rw [if_neg (fun q=>absurd (hiff.mpr q) Bool.false_ne_true)] at hR
      have hri:=jxJ A.in1 ⟨hp,g,d,tk,os⟩ a t c u prog w
      wp_walk using hri
      exact⟨_,rfl,by simpa using hR⟩
  case fin =>
   rintro⟨b1,b2⟩ s' ⟨hb',rfl,vs,ws,ns',ms',hz,hvi,hwi,hlen,hR⟩
   simp only at hb'
   subst hb'
   have hv:lexLt ns' ms'=decide (items.size<items2.size):=by
    cases hvi with
    | nil =>
     cases hwi with
     | nil =>
      simp only [List.length_nil] at hlen
      rw [jqw]
      exact(decide_eq_false (by omega)).symm
     | cons c u hw =>
      simp only [List.length_nil,List.length_cons] at hlen
      rw [joP]
      exact(decide_eq_true (by omega)).symm
    | cons a t hv =>
     cases hwi with
     | nil =>
      simp only [List.length_nil,List.length_cons] at hlen
      rw [joE]
      exact(decide_eq_false (by omega)).symm
     | cons c u hw =>
      rw [List.zip_cons_cons] at hz
      cases hz
   rw [hv] at hR
   wp_walk
   exact⟨_,rfl,by simpa [Builtin.Tuple.tupleCompareSizes] using hR⟩
  case h =>
   exact⟨rfl,rfl,items.toList,items2.toList,ns,ms,rfl,hi,hj,by omega,h⟩
end
section
variable {prog:Program}{w:World}{A:Around}{E:Value->Shared->Prop}{s:Shared}
theorem lt_tupInts {l b:Addr}{items items2:Array Value}{ns ms:List Int}{Q:Value->Shared->Prop}(hl:IsTup s.heap l items)(hb:IsTup s.heap b items2)(hi:IntsAre items.toList ns)(hj:IntsAre items2.toList ms)
  (hu:A.units<cLine) (h:Q (.bool (lexLt ns ms)) s):wpAny (model prog w) A (compareOp .Lt (.ref l) (.ref b)) Q E s:=by
 obtain⟨⟨cls,dd,data,sl⟩,ho,hc,n,hd⟩:=id hl
 obtain⟨⟨cls2,dd2,data2,sl2⟩,ho2,hc2,n2,hd2⟩:=id hb
 simp only at hc hd hc2 hd2
 subst hc hd hc2 hd2
 exact richCompare_meets_room (op:=.Lt) ⟨_,ho,rfl⟩ ⟨_,ho2,rfl⟩ PySem.F.slot_tuple_lt PySem.F.entry_tuple_lt (PySem.F.args_tuple_lt_2 _ _) (jqv l b items items2 n n2 dd dd2 sl sl2 ns ms hi hj)
  ⟨ho,ho2,show Value.bool (lexLt ns ms)≠Value.notImplemented∧Q (.bool (lexLt ns ms)) s from⟨(fun x=>by cases x),h⟩⟩ hu
theorem cat_tup {t b:Addr}{vs ws:List Value}{Q:Value->Shared->Prop}(ht:IsTup s.heap t vs.toArray)(hb:IsTup s.heap b ws.toArray)(hv:vs≠[])
  (h1:ws=[]->Q (.ref t) s) (h2:ws≠[]->Q (.ref s.heap.objs.size) { s with heap:=s.heap.push { cls:=.type "tuple",data:=.seq (vs++ws).toArray } })
  (hsz:vs.length+ws.length≤sizeLine):wpAny (model prog w) A (binaryOp .Add (.ref t) (.ref b)) Q E s:=by
 obtain⟨⟨cls,dd,data,sl⟩,ho,hc,n,hd⟩:=id ht
 obtain⟨⟨cls2,dd2,data2,sl2⟩,ho2,hc2,n2,hd2⟩:=id hb
 simp only at hc hd hc2 hd2
 subst hc hd hc2 hd2
 have e:vs.toArray++ws.toArray=(vs++ws).toArray:=by simp
 by_cases hw:ws=[]
 ·exact concat_meets ⟨_,ho,rfl⟩ ⟨_,ho2,rfl⟩ noFill_tuple_add seq_tuple_add PySem.F.slot_tuple_add PySem.F.entry_tuple_add (PySem.F.args_tuple_add_2 _ _)
   (tuple_addW1 t b vs.toArray ws.toArray n n2 dd dd2 sl sl2 (by simpa using hv) (by simp [hw])) ⟨ho,ho2,h1 hw⟩
 ·refine concat_meets ⟨_,ho,rfl⟩ ⟨_,ho2,rfl⟩ noFill_tuple_add seq_tuple_add PySem.F.slot_tuple_add PySem.F.entry_tuple_add (PySem.F.args_tuple_add_2 _ _)
   (tuple_addW2 t b vs.toArray ws.toArray n n2 dd dd2 sl sl2 (by simpa using hv) (by simpa using hw) (by rw [List.size_toArray,List.size_toArray]; exact hsz)) ⟨ho,ho2,?_⟩
  rw [e]
  exact h2 hw
end
end HT
namespace L2
open PySem PySem.Spec PyProof.Rows
abbrev TO:=St->Hp->(Option Int->Hp->Prop)->Prop
def PO (X:Cx)(e:Option Expr)(t:TO):Prop :=
 ∀(pins:List (Addr×Obj)) (s:Shared) (σ:St) (H:Hp) (Q:Option Int->Hp->Prop),Inv X pins σ H s->t σ H Q ->
  wpAny (model X.prog X.w) X.A (evalPart e X.env) (fun u s'=>∃o H',Inv X pins σ H' s'∧IsPart u o∧Q o H') X.xe s
def jy8:TO:=fun _ H Q=>Q none H
def jBF (t:TE):TO:=fun σ H Q=>t σ H fun x H1=>∃i,x=.int i∧Q (some i) H1
theorem ji8 {ns:List Int}:∀{us:List Value},Vals (ns.map V.int) us->IntsAre us ns:=by
 induction ns with
 | nil=>intro us r; rw [List.map_nil] at r; cases r; exact .nil
 | cons n ns ih =>
  intro us r
  rw [List.map_cons] at r
  cases r with
  | cons r1 r2 =>
   obtain⟨t,e⟩:=r1
   subst e
   exact .cons n t (ih r2)
section
variable {X:Cx}{e:Expr}{te:TE}{lo hi:Option Expr}{tl th:TO}{pos p2:Pos}
theorem jyo:PO X none jy8:=by
 intro pins s σ H Q I h
 rw [evalPart_none]
 exact wpAny_pure ⟨none,H,I,.none,h⟩
theorem jyG (h:PE X e te):PO X (some e) (jBF te):=by
 intro pins s σ H Q I hw
 rw [evalPart_some]
 refine jQ (h pins s σ H _ I hw) fun u s1 qZ=>?_
 obtain⟨x,H1,I1,r1,q1⟩:=qZ
 obtain⟨i,rfl,q⟩:=q1
 obtain⟨t,rfl⟩:=r1
 exact⟨some i,H1,I1,.int i t,q⟩
def SlR (X:Cx)(r:V->Option Int->Option Int->Hp->VK->Prop):Prop :=
 ∀(pins:List (Addr×Obj)) (s:Shared) (σ:St) (H:Hp) (x:V) (v vl vu:Value) (lo hi:Option Int) (sl:Addr) (Q:VK),Inv X pins σ H s->RelV x v->s.heap.IsSliceOf sl vl vu .none->IsPart vl lo->IsPart vu hi->r x lo hi H Q ->
  ∃T id,typeLookup (.type T) "__getitem__"=pure (some (.builtin id))∧s.TypeIs v T∧wpAny (model X.prog X.w) X.A (getItem v (.ref sl)) (EP X pins σ Q) X.xe s
def tSl (r:V->Option Int->Option Int->Hp->VK->Prop)(te:TE)(tl th:TO):TE:=fun σ H Q=>te σ H fun x H1=>tl σ H1 fun l H2=>th σ H2 fun u H3=>r x l u H3 Q
theorem jxC {r:V->Option Int->Option Int->Hp->VK->Prop}(hr:SlR X r)(he:PE X e te)(hl:PO X lo tl)(hu:PO X hi th):PE X (.Subscript e (.Slice lo hi none p2) pos) (tSl r te tl th):=by
 intro pins s σ H Q I h
 refine Subscript_ (jQ (he pins s σ H _ I h) fun v s1 qZ=>?_)
 obtain⟨x,H1,I1,r1,q1⟩:=qZ
 refine wpAny_Slice (jQ (hl pins s1 σ H1 _ I1 q1) fun vl s2 ⟨l,H2,I2,pl,q2⟩=>jQ (hu pins s2 σ H2 _ I2 q2) fun vu s3 qZ=>?_)
 obtain⟨u,H3,I3,pu,q3⟩:=qZ
 rw [evalPart_none]
 refine wpAny_pure ?_
 have I4:Inv X pins σ H3 { s3 with heap:=s3.heap.push { cls:=.type "slice",data:=.fields #[vl,vu,.none] } }:=I3.kept (t':=s3.toks) fun b ob q=>Heap.get?_push_of_some _ q
 obtain⟨T,id,hT,ht,hg⟩:=hr pins { s3 with heap:=s3.heap.push { cls:=.type "slice",data:=.fields #[vl,vu,.none] } } σ H3 x v vl vu l u s3.heap.objs.size Q I4 r1 (Heap.IsSliceOf.new ..) pl pu q3
 show wpAny (model X.prog X.w) X.A (subscriptTail e (.Slice lo hi none p2) v (.ref s3.heap.objs.size)) (EP X pins σ Q) X.xe { s3 with heap:=s3.heap.push { cls:=.type "slice",data:=.fields #[vl,vu,.none] } }
 exact tail_any (ops:=[.ref s3.heap.objs.size,v]) ht hT hg (by with_unfolding_all rfl)
def jCl (K:PySem.W.Frag):R2:=fun x y H Q=>∃a b ns ms,x=.ref a∧y=.ref b∧SqT K H a (ns.map V.int)∧SqT K H b (ms.map V.int)∧Q (.bl (HT.lexLt ns ms)) H
theorem jAP (hu:X.A.units<cLine):OpR X (compareOp .Lt) (jCl X.K):=by
 intro pins s σ H x y v u Q I rx ry h
 obtain⟨a,b,ns,ms,rfl,rfl,ha,hb,q⟩:=h
 cases rx
 cases ry
 obtain⟨its,r1,p1,_⟩:=I.tuple ha
 obtain⟨its2,r2,p2,_⟩:=I.tuple hb
 have i1:IntsAre its.toArray.toList ns:=ji8 r1
 have i2:IntsAre its2.toArray.toList ms:=ji8 r2
 exact HT.lt_tupInts p1 p2 i1 i2 hu ⟨.bl (HT.lexLt ns ms),H,I,rfl,q⟩
def jBl (K:PySem.W.Frag):R2:=fun x y H Q=>∃a b xs ys,x=.ref a∧y=.ref b∧SqT K H a xs∧SqT K H b ys∧xs≠[]∧xs.length+ys.length≤sizeLine ∧
 (ys=[]->Q (.ref a) H)∧(ys≠[]->∀p,H p=none->Q (.ref p) (j1 H p (.tup (xs++ys))))
theorem Vals.nil_iff {xs:List V}{us:List Value}(r:Vals xs us):us=[]↔xs=[]:=by
 cases r with
 | nil=>simp
 | cons _ _=>simp
theorem jyC:OpR X (binaryOp .Add) (jBl X.K):=by
 intro pins s σ H x y v u Q I rx ry h
 obtain⟨a,b,xs,ys,rfl,rfl,ha,hb,hx,hz,q1,q2⟩:=h
 cases rx
 cases ry
 obtain⟨its,r1,p1,_⟩:=I.tuple ha
 obtain⟨its2,r2,p2,_⟩:=I.tuple hb
 refine HT.cat_tup p1 p2 (fun z=>hx (r1.nil_iff.mp z)) (fun z=>⟨.ref a,H,I,rfl,q1 (r2.nil_iff.mp z)⟩) (fun z=>?_) (by rw [←r1.length,←r2.length]; exact hz)
 refine⟨.ref s.heap.objs.size,_,I.laid (t':=s.toks) (o:=.tup (xs++ys)) (fun b ob q=>Heap.get?_push_of_some _ q) (Nat.le_refl _) ?_,rfl,q2 (fun w=>z (r2.nil_iff.mpr w)) _ (I.hok.fresh (Nat.le_refl _))⟩
 exact⟨by rw [List.length_append]; exact hz,_,r1.append r2,IsTup.new _ _⟩
end
end L2
namespace L2
open PySem PySem.Spec PyProof.Rows
def ixN (n:Nat)(i:Int):Option Nat:=if 0≤i then (if i<n then some i.toNat else none) else if -(n:Int)≤i then some (i+n).toNat else none
def atI {α:Type}(xs:List α)(i:Int):Option α:=(ixN xs.length i).bind fun j=>xs[j]?
theorem jyY {n:Nat}{i:Int}{j:Nat}(h:ixN n i=some j):seqIndex? i n=some j∧j<n∧-(n:Int)≤i∧i<n:=by
 unfold ixN at h
 by_cases h0:0≤i
 ·rw [if_pos h0] at h
  by_cases h1:i<n
  ·rw [if_pos h1] at h
   have e:i.toNat=j:=Option.some.inj h
   exact⟨by rw [seqIndex_of h0 h1,e],by omega,by omega,h1⟩
  ·rw [if_neg h1] at h; cases h
 ·rw [if_neg h0] at h
  by_cases h1:-(n:Int)≤i
  ·rw [if_pos h1] at h
   have e:(i+n).toNat=j:=Option.some.inj h
   exact⟨by rw [seqIndex_neg (by omega) h1,e],by omega,h1,by omega⟩
  ·rw [if_neg h1] at h; cases h
theorem jo8 {α:Type}{xs:List α}{i:Int}{v:α}(h:atI xs i=some v):∃j,seqIndex? i xs.length=some j∧xs[j]?=some v∧j<xs.length∧-(xs.length:Int)≤i∧i<xs.length:=by
 unfold atI at h
 cases e:ixN xs.length i with
 | none=>rw [e] at h; cases h
 | some j =>
  rw [e] at h
  obtain⟨h1,h2,h3,h4⟩:=jyY e
  exact⟨j,h1,h,h2,h3,h4⟩
theorem jze {α:Type}{xs:List α}{j:Nat}{v:α}(h:xs[j]?=some v):atI xs (j:Int)=some v:=by
 have hj:j<xs.length:=(List.getElem?_eq_some_iff.mp h).1
 have e:ixN xs.length (j:Int)=some j:=by
  unfold ixN
  rw [if_pos (by omega),if_pos (by omega)]; simp
 unfold atI; rw [e]; exact h
def joi (b:Expr):Prop:=∀o i,subscripted b false o i=operate [o,i] (getItem o i)
def IxR (X:Cx)(r:R2):Prop :=
 ∀(value slice:Expr) (pins:List (Addr×Obj)) (s:Shared) (σ:St) (H:Hp) (x y:V) (v u:Value) (Q:VK),Inv X pins σ H s->RelV x v->RelV y u->r x y H Q ->
  subscripted slice false v u=operate [v,u] (getItem v u)->wpAny (model X.prog X.w) X.A (subscriptTail value slice v u) (EP X pins σ Q) X.xe s
def MtR (X:Cx)(id:String)(r:V->List V->Hp->VK->Prop):Prop :=
 ∀(pins:List (Addr×Obj)) (s:Shared) (σ:St) (H:Hp) (x:V) (xs:List V) (v:Value) (us:List Value) (Q:VK),Inv X pins σ H s->RelV x v->Vals xs us->r x xs H Q ->
  wpAny (model X.prog X.w) X.A (call (.builtin id) (v::us)) (EP X pins σ Q) X.xe s
section
variable {X:Cx}{a b:Expr}{ta tb:TE}{pos:Pos}
theorem IxR.or {r r':R2}(h:IxR X r)(h':IxR X r'):IxR X (fun x y H Q=>r x y H Q∨r' x y H Q):=by
 intro value slice pins s σ H x y v u Q I rx ry q hs
 rcases q with q | q
 ·exact h value slice pins s σ H x y v u Q I rx ry q hs
 ·exact h' value slice pins s σ H x y v u Q I rx ry q hs
theorem jya {r:R2}(hr:IxR X r)(ha:PE X a ta)(hb:PE X b tb)(hs:joi b):PE X (.Subscript a b pos) (tOp r ta tb):=by
 intro pins s σ H Q I h
 exact Subscript_ (jxj ha hb I h fun v u s2 x y H2 I2 rx ry q=>hr a b pins s2 σ H2 x y v u Q I2 rx ry q (hs _ _))
def jCa (K:PySem.W.Frag):R2:=fun x y H Q=>∃p xs i v,x=.ref p∧y=.int i∧SqL K H p xs∧atI xs i=some v∧Q v H
def jCb (K:PySem.W.Frag):R2:=fun x y H Q=>∃p xs i v,x=.ref p∧y=.int i∧SqT K H p xs∧atI xs i=some v∧Q v H
def jCq:R2:=fun x y H Q=>∃z i c,x=.str z∧y=.int i∧z.length≤sizeLine∧atI z.cps.toList i=some c∧Q (.str ⟨#[c]⟩) H
theorem ix_list:IxR X (jCa X.K):=by
 intro value slice pins s σ H x y v u Q I rx ry h hs
 obtain⟨p,xs,i,z,rfl,rfl,hq,he,q⟩:=h
 cases rx
 obtain⟨t,rfl⟩:=ry
 obtain⟨its,r,pl,hz⟩:=I.list hq
 obtain⟨j,h1,h2,h3,h4,h5⟩:=jo8 he
 obtain⟨w,ew,rw'⟩:=r.get h2
 have hl:=r.length
 have hn:=jkG
 have fin:EP X pins σ Q w s:=⟨z,H,I,rw',q⟩
 by_cases h0:0≤i
 ·have hj:i.toNat=j:=by
   rw [seqIndex_of h0 h5] at h1
   exact Option.some.inj h1
  exact item_listR pl.isList h0 (by omega) (by rw [hj]; simpa using ew) fin hs
 ·have hj:(i+(its.toArray.size:Int)).toNat=j:=by
   rw [seqIndex_neg (by omega) h4] at h1
   rw [List.size_toArray,←hl]
   exact Option.some.inj h1
  exact subscriptTail_builtinR (x:=w) pl.isList.typeIs slot_list_getitem.lookup
   (wpAny_getItem_list_neg (Q:=fun r s'=>r=w∧EP X pins σ Q r s') pl.isList (by omega) (by rw [List.size_toArray] <;> omega) (by omega) (by rw [hj]; simpa using ew) ⟨rfl,fin⟩) hs
theorem jAB:IxR X (jCb X.K):=by
 intro value slice pins s σ H x y v u Q I rx ry h hs
 obtain⟨p,xs,i,z,rfl,rfl,hq,he,q⟩:=h
 cases rx
 obtain⟨t,rfl⟩:=ry
 obtain⟨its,r,pl,hz⟩:=I.tuple hq
 obtain⟨j,h1,h2,h3,h4,h5⟩:=jo8 he
 obtain⟨w,ew,rw'⟩:=r.get h2
 have hl:=r.length
 have hn:=jkG
 have fin:EP X pins σ Q w s:=⟨z,H,I,rw',q⟩
 exact subscriptTail_builtinR (x:=w) pl.typeIs slot_tuple_getitem.lookup
  (getItem_tuple (j:=j) (Q:=fun r s'=>r=w∧EP X pins σ Q r s') pl (by omega) (by omega) (by rw [List.size_toArray,←hl]; exact h1) (by simpa using ew) ⟨rfl,fin⟩) hs
theorem jAn:IxR X jCq:=by
 intro value slice pins s σ H x y v u Q I rx ry h hs
 obtain⟨z,i,c,rfl,rfl,hz,he,q⟩:=h
 obtain⟨t,rfl⟩:=rx
 obtain⟨t',rfl⟩:=ry
 obtain⟨j,h1,h2,h3,h4,h5⟩:=jo8 he
 have hl:z.cps.toList.length=z.length:=by simp [Str.length]
 rw [hl] at h1 h4 h5
 have hn:=jkG
 exact tail_any (typeIs_str s z t) slot_str_getitem.lookup (getItem_str (c:=c) (by
  have e1:decide (i < -(2^63:Int))=false:=decide_eq_false (by omega)
  have e2:decide (i≥2^63)=false:=decide_eq_false (by omega)
  rw [e1,e2,Bool.or_false]) (by rw [h1]; simpa using h2) ⟨.str ⟨#[c]⟩,H,I.tok _,⟨_,rfl⟩,q⟩) hs
theorem jse:jcS X (.builtin "len") (fun xs H Q=>∃p ys,xs=[.ref p]∧(SqL X.K H p ys∨SqT X.K H p ys)∧Q (.int ys.length) H):=by
 intro pins s σ H xs us Q I r h
 obtain⟨p,ys,rfl,hq,q⟩:=h
 obtain⟨u,rfl,rx⟩:=jfN r
 cases rx
 have hn:=jkG
 rcases hq with hq | hq
 ·obtain⟨its,r',pl,hz⟩:=I.list hq
  have hlen:=r'.length
  exact Calls.call_len_list pl.isList (by simp only [List.size_toArray] <;> omega) ⟨.int ys.length,H,I.tok _,⟨s.toks+1,by rw [List.size_toArray,hlen]⟩,q⟩
 ·obtain⟨its,r',pl,hz⟩:=I.tuple hq
  have hlen:=r'.length
  exact len_tuple pl (by simp only [List.size_toArray] <;> omega) ⟨.int ys.length,H,I.tok _,⟨s.toks+1,by rw [List.size_toArray,hlen]⟩,q⟩
theorem jsn:jcS X (.builtin "len") (fun xs H Q=>∃z,xs=[.str z]∧z.length≤sizeLine∧Q (.int z.length) H):=by
 intro pins s σ H xs us Q I r h
 obtain⟨z,rfl,hz,q⟩:=h
 obtain⟨u,rfl,t,rfl⟩:=jfN r
 have hn:=jkG
 exact len_str (by omega) ⟨.int z.length,H,I.tok _,⟨_,rfl⟩,q⟩
theorem jql:jcS X (.type "tuple") (fun xs H Q=>∃p ys,xs=[.ref p]∧((SqL X.K H p ys∧∀l,H l=none->Q (.ref l) (j1 H l (.tup ys)))∨(SqT X.K H p ys∧Q (.ref p) H))):=by
 intro pins s σ H xs us Q I r h
 obtain⟨p,ys,rfl,h⟩:=h
 obtain⟨u,rfl,rx⟩:=jfN r
 cases rx
 rcases h with⟨hq,q⟩ | ⟨hq,q⟩
 ·obtain⟨its,r',pl,hz⟩:=I.list hq
  have hlen:=r'.length
  refine call_tuple_list pl.isList (fun h' kp=>?_) (by simp only [List.size_toArray] <;> omega)
  have I1:Inv X pins σ H { s with heap:=h' }:=I.kept (t':=s.toks) kp
  have I2:Inv X pins σ (j1 H h'.objs.size (.tup ys)) { s with heap:=h'.push { cls:=.type "tuple",data:=.seq its.toArray } } :=
   I1.laid (t':=s.toks) (fun b o e=>Heap.get?_push_of_some _ e) (Nat.le_refl _) (show ObjOk X.prog X.w _ _ _ (.tup ys) from⟨hz,its,r',IsTup.new _ _⟩)
  exact⟨.ref h'.objs.size,_,I2,rfl,q _ (I1.hok.fresh (Nat.le_refl _))⟩
 ·obtain⟨its,r',pl,hz⟩:=I.tuple hq
  exact call_tuple_same pl ⟨.ref p,H,I,rfl,q⟩
def tyV (K:PySem.W.Frag)(T:String)(x:V)(H:Hp):Prop:=match x with
 | .str _=>T="str"
 | .int _=>T="int"
 | .ref p=>(T="list"∧∃xs,SqL K H p xs)∨(T="tuple"∧∃o,K.lookup p=some o∧o.cls=.type "tuple"∧o.dict=none) ∨
   (T="dict"∧((∃kvs,H p=some (.dK kvs))∨∃kvs,H p=some (.dT kvs)))∨(T="set"∧∃S n,H p=some (.set S n))
 | _=>False
theorem jAL {pins:List (Addr×Obj)}{σ:St}{H:Hp}{s:Shared}{T:String}{x:V}{v:Value}(I:Inv X pins σ H s)(r:RelV x v)(ty:tyV X.K T x H) :
  s.TypeIs v T∧∀a,v=.ref a->∃ob,s.heap.get? a=some ob∧ob.dict=none:=by
 cases x with
 | str z =>
  obtain⟨t,rfl⟩:=r
  cases (show T="str" from ty)
  exact⟨typeIs_str s z t,fun _ e=>by cases e⟩
 | int i =>
  obtain⟨t,rfl⟩:=r
  cases (show T="int" from ty)
  exact⟨typeIs_int s i t,fun _ e=>by cases e⟩
 | ref p =>
  cases r
  rcases ty with⟨rfl,xs,hq⟩ | ⟨rfl,o,hk,hc,hd⟩ | ⟨rfl,hk⟩ | ⟨rfl,S,n,hk⟩
  ·obtain⟨its,_,pl,_⟩:=I.list hq
   refine⟨pl.isList.typeIs,fun a e=>?_⟩
   cases e
   obtain⟨o,n,e,c,hd,_⟩:=pl
   exact⟨o,e,hd⟩
  ·refine⟨⟨o,I.kIn p o hk,hc⟩,fun a e=>?_⟩
   cases e
   exact⟨o,I.kIn _ o hk,hd⟩
  ·have z:∃o,s.heap.get? p=some o∧o.ExactDict:=by
    rcases hk with⟨kvs,hk⟩ | ⟨kvs,hk⟩
    ·obtain⟨_,_,_,_,o,_,_,e,ex,_⟩:=I.hok p _ hk
     exact⟨o,e,ex⟩
    ·obtain⟨_,_,_,_,o,_,_,e,ex,_⟩:=I.hok p _ hk
     exact⟨o,e,ex⟩
   obtain⟨o,e,ex⟩:=z
   refine⟨⟨o,e,ex.1⟩,fun a e2=>?_⟩
   cases e2
   exact⟨o,e,ex.2.1⟩
  ·obtain⟨o,_,_,_,e,ex,_⟩:=I.hok p _ hk
   refine⟨⟨o,e,ex.1⟩,fun a e2=>?_⟩
   cases e2
   exact⟨o,e,ex.2.1⟩
 | _=>exact False.elim ty
def tBM (K:PySem.W.Frag)(T:String)(r:V->List V->Hp->VK->Prop)(to:TE)(t:TA):TE:=fun σ H Q=>to σ H fun x H1=>tyV K T x H1∧t σ H1 fun xs H2=>r x xs H2 Q
variable {o e:Expr}{es:List Expr}{to:TE}{t:TA}{name:Str}{apos cpos:Pos}{T id:String}{r:V->List V->Hp->VK->Prop}
theorem juC (pa:PlainAttrs T)(slot:Slot T name id)(hty:typeOf (.builtin id)=pure (.type "method_descriptor"))(hm:MtR X id r)(ho:PE X o to)(ha:PA X (e::es) t)
  (hbase:attributeBase o name X.env (eval o X.env)=eval o X.env:=by rfl)
  (hfew:((backTo cpos (starEach (e::es) X.env)).all (fun x=>!x.1)&&(backToKw cpos (keywordEach [] X.env)).all (fun x=>x.1.isSome)
  &&decide ((e::es).length+([]:List Keyword).length+(if ([]:List Keyword).isEmpty then 0 else 1)<30))=true:=by rfl)
  (hline:(apos.endLine == cpos.line)=true:=by rfl) (hs:starEach (e::es) X.env=(false,eval e X.env)::starEach es X.env:=by rfl) (hplain:(backTo cpos (starEach es X.env)).any (·.1)=false:=by rfl) :
  PE X (.Call (.Attribute o name apos) (e::es) [] cpos) (tBM X.K T r to t):=by
 intro pins s σ H Q I h
 refine wpAny_Call_method_late hbase hfew hline rfl (jQ (ho pins s σ H _ I h) fun v s1 qZ=>?_)
 obtain⟨x,H1,I1,r1,ty,q1⟩:=qZ
 obtain⟨h1,h2⟩:=jAL I1 r1 ty
 refine⟨T,id,pa,slot,hty,h1,h2,?_⟩
 have hA:=ha cpos pins s1 σ H1 _ I1 q1
 rw [hs] at hA ⊢
 refine Calls.callWith_builtin (by show (false||(backTo cpos (starEach es X.env)).any (·.1))=false; rw [hplain] <;> rfl) (Calls.evalArgs_plain ?_)
 exact jQ hA fun us s2 ⟨vs,H2,I2,r2,q2⟩=>hm pins s2 σ H2 x vs v us Q I2 r1 r2 q2
/- xs.append(e), list.index on a module's tuple .. are MtR facts of 06m -/
end
end L2
namespace L2
open PySem PySem.Spec PyProof.Rows
def MtM (X:Cx)(id:String)(r:V->List V->Hp->VK->Prop):Prop :=
 ∀(pins:List (Addr×Obj)) (s:Shared) (σ:St) (H:Hp) (x:V) (xs:List V) (v:Value) (us:List Value) (Q:VK),Inv X pins σ H s->RelV x v->Vals xs us->r x xs H Q ->
  wpAny (model X.prog X.w) X.A (call (.builtin id) (v::us)) (EP X pins σ Q) X.xe s
theorem Vals.one:∀{x:V} {us:List Value},Vals [x] us->∃u,us=[u]∧RelV x u
 | _,_,.cons r .nil=>⟨_,rfl,r⟩
section
variable {X:Cx}{pins:List (Addr×Obj)}{σ:St}{H:Hp}{s:Shared}{l b:Addr}{xs ys zs:List V}
theorem Inv.lset {its its':List Value}{n:Nat}{f:Array Value->Array Value}{t':Nat}(I:Inv X pins σ H s)(hH:H l=some (.lst xs))
  (e:s.heap.get? l=some { cls:=.type "list",data:=.seq its.toArray n }) (hf:f its.toArray=its'.toArray) (hv:Vals ys its') (hz:ys.length≤sizeLine) :
  Inv X pins σ (j1 H l (.lst ys)) { s with heap:=s.heap.update l (Obj.mapSeq f),toks:=t' }:=by
 have q:=PySem.IsL.update e f
 rw [hf] at q
 refine I.write (x:=l) (e:=l) (by rw [hH]; exact trivial) (.inl rfl) (fun b' u hb hu=>(Heap.get?_update_other s.heap (Obj.mapSeq f) (Ne.symm hb)).trans hu) ⟨_,q⟩ ?_
 exact⟨hz,its',_,hv,q⟩
theorem Inv.lnew {its:List Value}{t':Nat}(I:Inv X pins σ H s)(hv:Vals ys its)(hz:ys.length≤sizeLine) :
  Inv X pins σ (j1 H s.heap.objs.size (.lst ys)) { s with heap:=s.heap.push { cls:=.type "list",data:=.seq its.toArray },toks:=t' } :=
 I.laid (fun _ _ q=>Heap.get?_push_of_some _ q) (Nat.le_refl _) ⟨hz,its,0,hv,Heap.get?_push_size _ rfl⟩
theorem Inv.fresh (I:Inv X pins σ H s):H s.heap.objs.size=none:=I.hok.fresh (Nat.le_refl _)
theorem Inv.lstM (I:Inv X pins σ H s)(hH:H l=some (.lst xs)):xs.length≤sizeLine∧∃(its:List Value) (n:Nat),Vals xs its∧xs.length=its.length∧s.heap.get? l=some { cls:=.type "list",data:=.seq its.toArray n }:=by
 obtain⟨z,its,n,r,e⟩:=I.hok l _ hH
 exact⟨z,its,n,r,r.length,e⟩
end
section
variable {X:Cx}
def jyt:V->List V->Hp->VK->Prop:=fun x vs H Q=>∃l xs y,x=.ref l∧vs=[y]∧H l=some (.lst xs)∧xs.length<sizeLine∧Q .non (j1 H l (.lst (xs++[y])))
theorem ju2:MtM X "list.append" jyt:=by
 intro pins s σ H x vs v us Q I rx rv h
 obtain⟨l,xs,y,rfl,rfl,hH,hz,q⟩:=h
 cases rx
 obtain⟨u,rfl,ru⟩:=rv.one
 obtain⟨z,its,n,r,hl,e⟩:=I.lstM hH
 refine call_meets F.slot_list_append ⟨_,e,rfl⟩ F.entry_list_append (F.args_list_append_2 _ _) (PySem.list_append l its.toArray n u (by rw [List.size_toArray]; omega)) ⟨e,?_⟩
 refine⟨.non,_,I.lset (its':=its++[u]) hH e (by simp) (r.append (.cons ru .nil)) ?_,rfl,q⟩
 rw [List.length_append,List.length_singleton]
 omega
end
section
variable {prog:Program}{w:World}{A:Around}{E:Value->Shared->Prop}{s:Shared}
set_option maxRecDepth 100000 in
end
end L2
namespace Att
open PySem PySem.W PySem.Calls PyProof.Rows
theorem jnT {P:Params}{h:Heap}:∀(ns:List Int) (vs:List Value),WellAll P h vs (ns.map WData.int)->IntsAre vs ns:=by
 intro ns
 induction ns with
 | nil =>
  intro vs w
  rw [List.map_nil] at w
  cases w
  exact .nil
 | cons n ns ih =>
  intro vs w
  rw [List.map_cons] at w
  cases w with
  | cons a b =>
   cases a
   exact .cons _ _ (ih _ b)
theorem jvm {l:OpenLaw}{n:Nat}(hn:l.most=some n){P:Params}{h:Heap}{args:List WData}{vals:List Value}
  (hpre:l.row.toRowW.claim.pre args=true) (hwl:WellAll P h vals args) :
  ∃a vs ns,vals=[Value.ref a]∧args=[WData.list (ns.map WData.int)]∧h.get? a=some { cls:=.type "list",data:=.seq vs.toArray }∧IntsAre vs ns∧ns.length≤n:=by
 have hsh:WShape.hasAll [] args [.list .int]=true:=(pre_splitW hpre).1
 have hc:l.pre.holds [] { args:=args }=true:=(pre_splitW hpre).2
 obtain⟨d,r,rfl,h1,h2⟩:=hasAllW_cons hsh
 obtain rfl:=hasAllW_nil h2
 obtain⟨xs,rfl,h3⟩:=hasW_list h1
 obtain⟨ns,rfl⟩:=items_int h3
 have hlen:ns.length≤n:=by
  unfold OpenLaw.pre at hc
  have h4:(WTm.not (.lt (.lit (.int (n:Int))) (.len (.arg 0)))).holds [] { args:=[.list (ns.map .int)] }=true:=by
   have h4:=(holds_andW hc).1
   rw [hn] at h4
   exact h4
  have h5:=condW_of h4 (w_not (w_lt w_lit (w_len_list (w_arg rfl))))
  rw [List.length_map] at h5
  refine Nat.le_of_not_lt fun q=>?_
  have q':(n:Int)<((ns.length:Nat):Int):=by omega
  first
   | (rw [decide_eq_true q'] at h5; exact absurd h5 (by decide))
   | (simp at h5; omega)
 cases hwl with
 | cons w1 w2 =>
  cases w2
  cases w1 with
  | list ho hall=>exact⟨_,_,ns,rfl,rfl,ho,jnT ns _ hall,hlen⟩
theorem jv9 (l:OpenLaw)(args:List WData):l.row.toRowW.claim.post args (.bool true) args=true :=
 postW_of (r:=l.row.toRowW) (X:=(true == true))
  (show WShape.has [] (.bool true) .bool=true by first | rfl | decide | simp [WShape.has,WShape.arms,WShape.armsAll])
  (show (WTm.eq .res (.lit (.bool true))).value [] { args:=args,res:=some (.bool true),after:=args }=some (.bool (true == true)) from w_eq_bool (w_res rfl) w_lit) rfl
theorem attach_call {l:OpenLaw}{n:Nat}{q:Program}{loose:List Str}{XP:(Str->Option Value)->Heap->Prop}{YP:World->Heap->Prop}{d:DefRec}
  (hn:l.most=some n) (hdf:d.params.defaults=[])
  (call:∀(w:World) (s₀ s₁:Shared) (mg mb:Str->Option Value) (fa:Addr) (o:Obj) (pm cd doc:Value) (a:Addr) (vs:List Value) (ns:List Int),
   Ground q loose [] XP w s₀ mg mb s₁.heap->YP w s₁.heap ->
   s₁.heap.get? fa=some o->o.data=.func (docDef d.name d.params d.body d.scope pm cd doc)->s₁.heap.CodeRec cd d.name->mg d.name=some (.ref fa) ->
   s₁.heap.get? a=some { cls:=.type "list",data:=.seq vs.toArray }->IntsAre vs ns->ns.length≤n->s₁.gens=#[] ->
   codeAny (model l.prog w) callerA (.call (.ref fa) ⟨[.ref a],[]⟩) (fun r s'=>r=.ok (.ret (.bool true))∧OldK s₁.heap s'.heap∧s'.os=s₁.os∧AllBare s'.gens) s₁) :
  WalkO q loose XP YP l.row.toRowW d [] (fun f vs=>PySem.call f vs):=by
 intro w s₀ s₁ mg mb G Y fa o pm cd doc dV kV ho hd hcd hD hmg hg args vals as hpre hlay hrd hwl hlo
 obtain rfl:dV=.none:=Dflts.none hD hdf
 obtain rfl:kV=.none:=Dflts.noKw hD
 obtain⟨a,vs,ns,rfl,rfl,hobj,hints,hlen⟩:=jvm hn hpre hwl
 refine enter_call (codeAny_mono (call w s₀ s₁ mg mb fa o pm cd doc a vs ns G Y ho (fd_plain hd) hcd hmg hobj hints hlen hg) fun r s' hq=>?_)
 obtain⟨rfl,h2,h3,h4⟩:=hq
 exact⟨.inl ⟨.bool true,.bool true,[],rfl,fun _=>rfl,.bool true,jv9 l _,fun _=>⟨List.Pairwise.nil,fun _ hm=>(by cases hm)⟩⟩,h2,h3,h4⟩
end Att
namespace L2
open PySem PySem.Spec PyProof.Rows
theorem jpT:∀{vs:List Value} {ns:List Int},IntsAre vs ns->Vals (ns.map V.int) vs
 | _,_,.nil=>.nil
 | _,_,.cons n t h=>.cons ⟨t,rfl⟩ (jpT h)
def jxn (H:Hp):Prop:=∀b,H b=none∨∃o xs,H b=some (.frz o (.lst xs))
theorem jwk {P:Program}{w:World}{K:PySem.W.Frag}{mg mb:Str->Option Value}{CX:CXT}{k:Nat}{fa a:Addr}{fd:FuncData}{x:Str}{sp:Sp}{s₁:Shared}{vs:List Value}{ns:List Int}
  (KX:K.In s₁.heap) (hns:s₁.heap.Ns mainGlobals mg) (hb:s₁.heap.Ns builtinsNs mb) (hbb:∀x:Str,x≠"__name__"->mb x=bootBuiltins x) (hlim:s₁.heap.NoLimit) (hg:s₁.gens=#[])
  (ha:s₁.heap.get? a=some { cls:=.type "list",data:=.seq vs.toArray }) (hi:IntsAre vs ns) (hl:ns.length≤sizeLine) (hr:Room k callerA)
  (F:∀base:Heap,K.In base->base.Ns mainGlobals mg->FnOk P w K mg base CX k fa fd [x] sp) (hbind:∀(s:Shared) (u:Value),BindsTo s fd ⟨[u],[]⟩ [(x,u)])
  (hsp:∀H:Hp,jxn H->SqL K H a (ns.map V.int)->sp [.ref a] H (fun v _=>v=.bl true) fun _ _ _=>False)
  (hCX:∀H e s',CX [] H s₁ (fun _ _ _=>False) e s'->False) :
  codeAny (model P w) callerA (.call (.ref fa) ⟨[.ref a],[]⟩) (fun r s'=>r=.ok (.ret (.bool true))∧OldK s₁.heap s'.heap∧s'.os=s₁.os∧AllBare s'.gens) s₁:=by
 have rv:=jpT hi
 have lenV:=hi.length
 -- from an abstract heap in which nothing but the script may be tracked
 have core:∀H:Hp,jxn H->SqL K H a (ns.map V.int)->HOk P w H s₁.heap->(∀b,H b≠none->b=a)->(H a≠none->K.lookup a=none) ->
   codeAny (model P w) callerA (.call (.ref fa) ⟨[.ref a],[]⟩) (fun r s'=>r=.ok (.ret (.bool true))∧OldK s₁.heap s'.heap∧s'.os=s₁.os∧AllBare s'.gens) s₁:=by
  intro H hO hS hok hA hK
  have base_of:∀{b:Addr} {o:Obj},s₁.heap.get? b=some o->H b=none->(ji9 s₁.heap H).get? b=some o:=fun e n=>jw3 e n
  have noA:∀{b:Addr} {o:Obj} {es:Array DictEntry} {ep:Nat},s₁.heap.get? b=some o->o.data=.dict es ep->H b=none:=fun {b o es ep} e d=>by
   cases q:H b with
   | none=>rfl
   | some u =>
    have e':b=a:=hA b (by rw [q]; simp)
    subst e'
    rw [ha] at e; cases e
    have d':Data.seq vs.toArray _=Data.dict es ep:=d
    cases d'
  have nsK:∀{b:Addr} {m:Str->Option Value},s₁.heap.Ns b m->(ji9 s₁.heap H).Ns b m:=fun {b m} ⟨o,es,ep,e,d,r⟩=>⟨o,es,ep,base_of e (noA e d),d,r⟩
  have hKb:K.In (ji9 s₁.heap H):=fun b o e=>base_of (KX b o e) (by
   cases q:H b with
   | none=>rfl
   | some u =>
    have e':b=a:=hA b (by rw [q]; simp)
    subst e'
    rw [hK (by rw [q]; simp)] at e; cases e)
  have hM:Mod K mg (ji9 s₁.heap H):=⟨hKb,nsK hns,⟨mb,nsK hb,hbb⟩,let ⟨mc,h1,h2⟩:=hlim; ⟨mc,nsK h1,h2⟩⟩
  have e0:Env0 P w K mg (ji9 s₁.heap H) callerA [] s₁ H:=⟨rfl,hM,fun b o e=>jyD e,Nat.le_of_eq (jvc _ _),trivial,fun b hb=>absurd (show b∈([]:List Addr) from hb) (by simp),hok,.of_eq hg⟩
  refine codeAny_mono ((F _ hKb (nsK hns)).run callerA [] s₁ H ⟨[.ref a],[]⟩ [.ref a] [.ref a] _ _ hr e0 (hbind s₁ (.ref a)) (.cons rfl .nil) (hsp H hO hS)) fun r s' h=>?_
  cases r with
  | error e=>exact(hCX H e s' h).elim
  | ok fl =>
   cases fl with
   | next=>exact False.elim h
   | brk=>exact False.elim h
   | cont=>exact False.elim h
   | ret u =>
    obtain⟨v,H',os,bare,un,hok',r',q⟩:=h
    have q':v=.bl true:=q
    subst q'
    obtain rfl:u=Value.bool true:=r'
    refine⟨rfl,OldK.of_keep fun b o e=>?_,os,bare⟩
    cases q:H b with
    | none=>exact un.keep b o e q (by intro z; exact absurd (show b∈([]:List Addr) from z) (by simp)) (by simp)
    | some u =>
     rcases hO b with z | ⟨ob,xs,z⟩
     ·rw [q] at z; cases z
     ·have z2:=un.frzs b ob _ z
      obtain⟨e1,_⟩:=hok b _ z
      obtain⟨e2,_⟩:=hok' b _ z2
      rw [e] at e1; cases e1
      exact e2
 cases hk:K.lookup a with
 | some o =>
  -- the script is one of the module's own objects
  have e:=KX a o hk
  rw [ha] at e
  cases e
  refine core (fun _=>none) (fun _=>.inl rfl) (.inr ⟨_,vs.toArray,_,hk,rfl,rfl,rfl,by rw [List.size_toArray,lenV]; exact hl,by simpa using rv⟩) (fun b u z=>by have z':(none:Option HO)=some u:=z; cases z') (fun b z=>absurd rfl z) fun z=>absurd rfl z
 | none =>
  refine core (fun b=>if b=a then some (.frz { cls:=.type "list",data:=.seq vs.toArray } (.lst (ns.map V.int))) else none) (fun b=>?_) (.inl (.inr ⟨{ cls:=.type "list",data:=.seq vs.toArray },if_pos rfl⟩)) (fun b u z=>?_) (fun b z=>?_) fun _=>hk
  ·by_cases hb:b=a
   ·exact .inr ⟨_,_,if_pos hb⟩
   ·exact .inl (if_neg hb)
  ·by_cases hb:b=a
   ·have z':=(if_pos hb).symm.trans z
    cases z'
    subst hb
    exact⟨ha,by rw [List.length_map]; exact hl,vs,_,rv,ha⟩
   ·have z':=(if_neg hb).symm.trans z
    cases z'
  ·by_cases hb:b=a
   ·exact hb
   ·exact absurd (if_neg hb) z
end L2
namespace L2
open PySem PySem.Spec PyProof.Rows
theorem jzv {l:PySem.W.OpenLaw}{n k:Nat}{q:Program}{loose:List Str}{XP:(Str->Option Value)->Heap->Prop}{YP:World->Heap->Prop}{d:DefRec}{K:Params->PySem.W.Frag}{CX:World->CXT}{sp:World->Sp}{x:Str}
  (hn:l.most=some n) (hn2:n≤sizeLine) (hdf:d.params.defaults=[]) (hr:Room k callerA)
  (hY:∀(w:World) (h:Heap),YP w h->(K w.params).In h)
  (F:∀(w:World) (mg:Str->Option Value) (fa:Addr) (h:Heap),(K w.params).In h->h.Ns mainGlobals mg->mg d.name=some (.ref fa) ->
   ∃fd:FuncData,(∀(s:Shared) (u:Value),BindsTo s fd ⟨[u],[]⟩ [(x,u)]) ∧
    ∀base:Heap,(K w.params).In base->base.Ns mainGlobals mg->FnOk l.prog w (K w.params) mg base (CX w) k fa fd [x] (sp w))
  (hsp:∀(w:World) (H:Hp) (a:Addr) (ns:List Int),ns.length≤n->jxn H->SqL (K w.params) H a (ns.map V.int)->sp w [.ref a] H (fun v _=>v=.bl true) fun _ _ _=>False)
  (hCX:∀(w:World) (H:Hp) (s:Shared) (e:Value) (s':Shared),CX w [] H s (fun _ _ _=>False) e s'->False) :
  PySem.W.WalkO q loose XP YP l.row.toRowW d [] (fun f vs=>PySem.call f vs):=by
 refine Att.attach_call hn hdf fun w s₀ s₁ mg mb fa o pm cd doc a vs ns G Y ho hd hcd hmg hobj hints hlen hg=>?_
 have KX:=hY w _ Y
 obtain⟨fd,hb,hF⟩:=F w mg fa _ KX G.T.g hmg
 exact jwk KX G.T.g G.T.b G.T.builtins G.T.nolimit hg hobj hints (Nat.le_trans hlen hn2) hr hF hb (fun H hO hS=>hsp w H a ns hlen hO hS) fun H e s'=>hCX w H s₁ e s'
end L2
namespace L2
open PySem PySem.Spec PyProof.Rows
def jll (s:Stmt)(j:Nat):Stmt:=match s with
 | .ClassDef _ _ _ body _ _ _ _ _ _ _=>body.getD j (.Pass ⟨0,0,0,0⟩)
 | _=>.Pass ⟨0,0,0,0⟩
def jaR (s:Stmt):Arguments:=match s with
 | .FunctionDef _ a _ _ _ _ _ _ _ _=>a
 | _=>{ posonlyargs:=[],args:=[],vararg:=none,kwonlyargs:=[],kw_defaults:=[],kwarg:=none,defaults:=[] }
def jan (s:Stmt):List Stmt:=match s with
 | .FunctionDef _ _ b _ _ _ _ _ _ _=>b
 | _=>[]
def ji (s:Stmt):Scope:=match s with
 | .FunctionDef _ _ _ _ _ _ sc _ _ _=>sc
 | _=>{ kind:=.function,names:=[],isGenerator:=false,isCoroutine:=false }
abbrev j0:CXT:=fun _ _ _ _ _ _=>False
abbrev E0:XK:=fun _ _ _=>False
theorem jb5 {X:Cx}:jgr j0 X E0:=fun _ _ _ _ _ _ _ h=>h.elim
structure Fun (K:PySem.W.Frag)(x qual:Str)(st:Stmt)(f:Addr)(fd:FuncData):Prop where
 ex:∃(oc:Value) (od:Option Addr) (kV doc pm:Value) (an:Option Addr) (cdv ct:Value) (osl:Array (Option Value)),
  fd=PySem.W.fnOf x qual (jaR st) (jan st) (ji st) .none kV doc pm an cdv ct∧K.lookup f=some ⟨oc,od,.func fd,osl⟩∧PySem.W.codeIn K cdv qual=true
 kp:PySem.W.keepIn K (.ref f)=true
section
variable {P:Program}{w:World}{K:PySem.W.Frag}{mg:Str->Option Value}{base:Heap}
theorem Fun.ok {x qual:Str}{st:Stmt}{f:Addr}{fd:FuncData}{N ps:List Str}{k:Nat}{sp:Sp}(F:Fun K x qual st f fd)(S:jx N ps (ji st))(len:∀vs H Q E,sp vs H Q E->vs.length=ps.length)
  (hbody:∀(cdv:Value) (A:Around) (outer:List Env) (s:Shared) (H:Hp) (vs:List V) (Q:VK) (E:XK),Room k (A.deeper (envOfC qual (ji st) s.heap.objs.size f cdv))->sp vs H Q E ->
   ∃t,PSs (jbU j0 P w K mg base N qual (ji st) f cdv A outer s H E).nox (jan st) t∧t { nx:=fun _ H'=>Q .non H',rt:=Q } (jbq N vs) H):FnOk P w K mg base j0 (k+1) f fd ps sp:=by
 obtain⟨oc,od,kV,doc,pm,an,cdv,ct,osl,rfl,lk,hcd⟩:=F.ex
 refine jun lk hcd S len fun A outer s H vs Q E hr hsp=>?_
 obtain⟨t,h,q⟩:=hbody cdv A outer s H vs Q E hr hsp
 exact⟨t,h.nox,q⟩
theorem Fun.binds {x qual:Str}{st:Stmt}{f:Addr}{fd:FuncData}{ps:List Str}(F:Fun K x qual st f fd)
  (h:∀(kV doc pm:Value) (an:Option Addr) (cdv ct:Value) (us:List Value),us.length=ps.length->bindArgs (PySem.W.fnOf x qual (jaR st) (jan st) (ji st) .none kV doc pm an cdv ct) ⟨us,[]⟩=pure (ps.zip us)):Binds K fd ps []:=by
 obtain⟨oc,od,kV,doc,pm,an,cdv,ct,osl,rfl,lk,hcd⟩:=F.ex
 exact .all (h kV doc pm an cdv ct)
theorem jkH {x qual:Str}{st:Stmt}{f:Addr}{oc:Value}{od an:Option Addr}{osl:Array (Option Value)}{kV doc pm cdv ct:Value}(l:K.lookup f=some ⟨oc,od,.func (PySem.W.fnOf x qual (jaR st) (jan st) (ji st) .none kV doc pm an cdv ct),osl⟩)
  (c:PySem.W.codeIn K cdv qual=true) (k:PySem.W.keepIn K (.ref f)=true):Fun K x qual st f (PySem.W.fnOf x qual (jaR st) (jan st) (ji st) .none kV doc pm an cdv ct):=⟨⟨oc,od,kV,doc,pm,an,cdv,ct,osl,rfl,l,c⟩,k⟩
end
theorem jnG {A:Around}{k:Nat}(hr:Room k A):A.units+1<cLine:=Nat.lt_of_le_of_lt (Nat.add_le_add_left (by decide:1≤64) _) hr.units
theorem jgW {n:Nat}(h:n≤1000):n<sizeLine:=Nat.lt_of_le_of_lt h (by decide)
section
variable {X:Cx}
theorem pv (i:Nat){x:Str}{pos:Pos}(hN:X.N[i]?=some x:=by rfl)(hv:Vis X.env.scope x:=by first | exact Or.inl rfl | exact Or.inr (Or.inl rfl) | exact Or.inr (Or.inr rfl))(hd:(x == ("__debug__":Str))=false:=by decide)
  (hcd:(x == ("__classdict__":Str))=false:=by decide):PE X (.Name x pos) (jgq i):=jsj hN hv hd hcd
end
def Same (H H':Hp):Prop:=∀b o,H b=some o->H' b=some o
theorem Same.refl (H:Hp):Same H H:=fun _ _ h=>h
theorem Same.trans {H H1 H2:Hp}(a:Same H H1)(b:Same H1 H2):Same H H2:=fun c o h=>b c o (a c o h)
theorem Same.free {H H':Hp}(e:Same H H'){l:Addr}(h:H' l=Option.none):H l=Option.none:=by
 cases q:H l with
 | none=>rfl
 | some o =>
  rw [e l o q] at h
  cases h
theorem Same.seq {K:PySem.W.Frag}{H H':Hp}{a:Addr}{xs:List V}(e:Same H H')(h:SqL K H a xs):SqL K H' a xs:=by
 rcases h with (h | ⟨o,h⟩) | h
 ·exact .inl (.inl (e _ _ h))
 ·exact .inl (.inr ⟨o,e _ _ h⟩)
 ·exact .inr h
end L2
namespace L2
open PySem PySem.Spec PyProof.Rows
section
variable {κ:Type}[DecidableEq κ]
def jdz (kvs:List (κ×V))(k:κ):Option V:=(kvs.find? fun kv=>decide (kv.1=k)).map (·.2)
def jey (kvs:List (κ×V))(k:κ)(v:V):List (κ×V) :=
 if (kvs.any fun kv=>decide (kv.1=k))=true then kvs.map (fun kv=>if kv.1=k then (kv.1,v) else kv) else kvs++[(k,v)]
def jjf (kvs:List (κ×V))(k:κ):List (κ×V):=kvs.filter fun kv=>decide (kv.1≠k)
theorem jmX {p:κ×V}{r:List (κ×V)}{k:κ}(e:p.1=k):jdz (p::r) k=some p.2:=by simp [jdz,List.find?_cons,e]
theorem jmw {p:κ×V}{r:List (κ×V)}{k:κ}(e:¬p.1=k):jdz (p::r) k=jdz r k:=by simp [jdz,List.find?_cons,e]
theorem jqM (k:κ):∀kvs:List (κ×V),(kvs.any fun kv=>decide (kv.1=k))=(jdz kvs k).isSome
 | []=>rfl
 | p::r=>by
  rw [List.any_cons]
  by_cases e:p.1=k
  ·simp only [jmX e,decide_eq_true e,Bool.true_or,Option.isSome_some]
  ·rw [jmw e,decide_eq_false e,Bool.false_or]; exact jqM k r
theorem jlV (kvs:List (κ×V))(k:κ)(v:V):(jey kvs k v).length≤kvs.length+1:=by
 unfold jey
 split
 ·rw [List.length_map]; omega
 ·rw [List.length_append,List.length_cons,List.length_nil]; omega
theorem RelO.isSome_eq {o:Option V}{u:Option Value}(r:RelO o u):o.isSome=u.isSome:=by
 cases o with
 | none=>cases u with
  | none=>rfl
  | some _=>exact(show False from r).elim
 | some _=>cases u with
  | none=>exact(show False from r).elim
  | some _=>rfl
theorem KV.val {kvs:List (κ×V)}{vs:List (κ×Value)}(r:KV kvs vs)(k:κ):RelO (jdz kvs k) (valueAt vs k):=by
 unfold KV at r
 induction r with
 | nil=>exact True.intro
 | @cons p q ps qs h t ih =>
  obtain⟨h1,h2⟩:=h
  by_cases e:p.1=k
  ·have e':q.1=k:=h1.symm.trans e
   have b:valueAt (q::qs) k=some q.2:=by simp [valueAt,List.find?_cons,e']
   rw [jmX e,b]; exact h2
  ·have e':¬q.1=k:=fun z=>e (h1.trans z)
   have b:valueAt (q::qs) k=valueAt qs k:=by simp [valueAt,List.find?_cons,e']
   rw [jmw e,b]; exact ih
theorem KV.any {kvs:List (κ×V)}{vs:List (κ×Value)}(r:KV kvs vs)(k:κ):(kvs.any fun kv=>decide (kv.1=k))=vs.any fun kv=>decide (kv.1=k):=by
 unfold KV at r
 induction r with
 | nil=>rfl
 | cons h t ih=>rw [List.any_cons,List.any_cons,ih,h.1]
theorem KV.repl {kvs:List (κ×V)}{vs:List (κ×Value)}(r:KV kvs vs)(k:κ){y:V}{u:Value}(ry:RelV y u) :
  KV (kvs.map fun kv=>if kv.1=k then (kv.1,y) else kv) (vs.map fun kv=>if kv.1=k then (kv.1,u) else kv):=by
 unfold KV at r ⊢
 induction r with
 | nil=>exact .nil
 | @cons p q ps qs h t ih =>
  rw [List.map_cons,List.map_cons]
  refine .cons ?_ ih
  obtain⟨h1,h2⟩:=h
  by_cases e:p.1=k
  ·rw [if_pos e,if_pos (h1.symm.trans e)]; exact⟨h1,ry⟩
  ·rw [if_neg e,if_neg (fun z=>e (h1.trans z))]; exact⟨h1,h2⟩
theorem KV.put {kvs:List (κ×V)}{vs:List (κ×Value)}(r:KV kvs vs)(k:κ){y:V}{u:Value}(ry:RelV y u):KV (jey kvs k y) (stored vs k u):=by
 unfold jey stored
 rw [r.any k]
 by_cases e:(vs.any fun kv=>decide (kv.1=k))=true
 ·rw [if_pos e,if_pos e]; exact r.repl k ry
 ·rw [if_neg e,if_neg e]; exact Paired.snoc r ⟨rfl,ry⟩
theorem KV.drop {kvs:List (κ×V)}{vs:List (κ×Value)}(r:KV kvs vs)(k:κ):KV (jjf kvs k) (without vs k):=by
 unfold KV at r ⊢
 unfold jjf without
 induction r with
 | nil=>exact .nil
 | @cons p q ps qs h t ih =>
  obtain⟨h1,h2⟩:=h
  rw [List.filter_cons,List.filter_cons]
  by_cases e:p.1=k
  ·have a:¬decide (p.1≠k)=true:=by simp [e]
   have b:¬decide (q.1≠k)=true:=by simp [h1.symm.trans e]
   rw [if_neg a,if_neg b]; exact ih
  ·have e':¬q.1=k:=fun z=>e (h1.trans z)
   have a:decide (p.1≠k)=true:=by simp [e]
   have b:decide (q.1≠k)=true:=by simp [e']
   rw [if_pos a,if_pos b]; exact .cons ⟨h1,h2⟩ ih
theorem KV.length {kvs:List (κ×V)}{vs:List (κ×Value)}(r:KV kvs vs):kvs.length=vs.length:=Paired.length r
theorem jxF (kvs:List (κ×V))(k:κ):(jjf kvs k).length≤kvs.length:=List.length_filter_le _ _
end
theorem jg5 {P:Program}{w:World}{k:Key}{u:Value}(r:RelV (kV k) u):(jaN P w).is k u=true:=by
 cases k with
 | inl i=>obtain⟨t,e⟩:=(show ∃t,u=Value.int i t from r); subst e; exact jsz P w i t
 | inr x=>obtain⟨t,e⟩:=(show ∃t,u=Value.str x t from r); subst e; exact jsL P w x t
theorem jqd {P:Program}{w:World}:∀{ks:List Key} {us:List Value},Vals (ks.map kV) us->ItemsAre (jaN P w) ks us
 | [],_,r=>by rw [List.map_nil] at r; cases r; exact .nil
 | k::ks,_,r=>by
  rw [List.map_cons] at r
  cases r with
  | cons h t=>exact .cons (jg5 h) (jqd t)
abbrev KT (H:Hp):List (List Key×V)->List (List Key×Addr×Value)->Prop:=Paired fun p q=>p.1=q.1∧H q.2.1=some (.tup (p.1.map kV))∧RelV p.2 q.2.2
theorem KT.val {H:Hp}{kvs:List (List Key×V)}{xs:List (List Key×Addr×Value)}(r:KT H kvs xs)(k:List Key):RelO (jdz kvs k) ((atKey xs k).map (·.2)):=by
 induction r with
 | nil=>exact True.intro
 | @cons p q ps qs h t ih =>
  obtain⟨h1,_,h2⟩:=h
  by_cases e:p.1=k
  ·have e':q.1=k:=h1.symm.trans e
   have b:atKey (q::qs) k=some q.2:=by simp [atKey,List.find?_cons,e']
   rw [jmX e,b]; exact h2
  ·have e':¬q.1=k:=fun z=>e (h1.trans z)
   have b:atKey (q::qs) k=atKey qs k:=by simp [atKey,List.find?_cons,e']
   rw [jmw e,b]; exact ih
theorem KT.repl {H:Hp}{kvs:List (List Key×V)}{xs:List (List Key×Addr×Value)}(r:KT H kvs xs)(k:List Key){y:V}{u:Value}(ry:RelV y u) :
  KT H (kvs.map fun kv=>if kv.1=k then (kv.1,y) else kv) (xs.map (putAt k u)):=by
 induction r with
 | nil=>exact .nil
 | @cons p q ps qs h t ih =>
  rw [List.map_cons,List.map_cons]
  refine .cons ?_ ih
  obtain⟨h1,h2,h3⟩:=h
  unfold putAt
  by_cases e:p.1=k
  ·rw [if_pos e,if_pos (h1.symm.trans e)]; exact⟨h1,h2,ry⟩
  ·rw [if_neg e,if_neg (fun z=>e (h1.trans z))]; exact⟨h1,h2,h3⟩
theorem KT.put {H:Hp}{kvs:List (List Key×V)}{xs:List (List Key×Addr×Value)}(r:KT H kvs xs)(k:List Key){b:Addr}{y:V}{u:Value}(hb:H b=some (.tup (k.map kV)))(ry:RelV y u) :
  KT H (jey kvs k y) (storedH xs k b u):=by
 have e:(kvs.any fun kv=>decide (kv.1=k))=(atKey xs k).isSome:=by
  rw [jqM,(r.val k).isSome_eq,Option.isSome_map]
 unfold jey storedH
 rw [e]
 by_cases q:(atKey xs k).isSome=true
 ·rw [if_pos q,if_pos q]; exact r.repl k ry
 ·rw [if_neg q,if_neg q]; exact Paired.snoc r ⟨rfl,hb,ry⟩
theorem KT.keeps {H H':Hp}{kvs:List (List Key×V)}{xs:List (List Key×Addr×Value)}(r:KT H kvs xs)(ht:∀b ys,H b=some (.tup ys)->H' b=some (.tup ys)):KT H' kvs xs :=
 Paired.mapP r fun _ _ z=>⟨z.1,ht _ _ z.2.1,z.2.2⟩
section
variable {P:Program}{w:World}{H:Hp}{h:Heap}{a:Addr}
theorem jyb {u:HO}(ok:HOk P w H h)(e:Rd H a u):ObjOk P w H h a u:=e.ok ok
theorem jna {kvs:List (Key×V)}(ok:HOk P w H h)(e:Rd H a (.dK kvs)):kvs.length≤sizeLine∧(a == sysModules)=false∧∃vs,KV kvs vs∧h.DictOf (jaN P w) a vs :=
 show ObjOk P w H h a (.dK kvs) from jyb ok e
theorem jxU {kvs:List (Key×V)}(ok:HOk P w H h)(e:H a=some (.dK kvs)):kvs.length≤sizeLine∧(a == sysModules)=false∧∃vs,KV kvs vs∧h.DictOf (jaN P w) a vs:=jna ok (.inl e)
theorem jnu {ks:List Key}(ok:HOk P w H h)(e:H a=some (.tup (ks.map kV))):(tupleKind (jaN P w)).is h ks a:=by
 obtain⟨_,its,r,o,h1,h2,n,h3⟩:=(show ObjOk P w H h a (.tup (ks.map kV)) from ok a _ e)
 exact⟨o,its.toArray,n,h1,h2,h3,by simpa using jqd r⟩
theorem jn0 {kvs:List (List Key×V)}(ok:HOk P w H h)(e:Rd H a (.dT kvs)):kvs.length≤sizeLine∧(a == sysModules)=false ∧
  ∃xs,KT H kvs xs∧h.DictOfH (tupleKind (jaN P w)) a xs:=by
 obtain⟨z,y,xs,r,o,es,ep,h1,h2,h3,h4,h5⟩:=(show ObjOk P w H h a (.dT kvs) from jyb ok e)
 refine⟨z,y,xs,r,o,es,ep,h1,h2,h3,h4,fun x hx=>?_,h5⟩
 have all:∀{l:List (List Key×V)} {m:List (List Key×Addr×Value)},KT H l m->∀x∈m,(tupleKind (jaN P w)).is h x.1 x.2.1:=by
  intro l m q
  induction q with
  | nil=>intro x hx; exact by cases hx
  | @cons p q ps qs hq t ih =>
   intro x hx
   rcases List.mem_cons.mp hx with e | hx
   ·subst e
    exact jnu ok (by rw [←hq.1]; exact hq.2.1)
   ·exact ih x hx
 exact all r x hx
theorem jBi {kvs:List (List Key×V)}(ok:HOk P w H h)(e:H a=some (.dT kvs)):kvs.length≤sizeLine∧(a == sysModules)=false ∧
  ∃xs,KT H kvs xs∧h.DictOfH (tupleKind (jaN P w)) a xs:=jn0 ok (.inl e)
end
def DGet (H:Hp)(a:Addr)(y:V)(r:Option V):Prop :=
 (∃kvs k,Rd H a (.dK kvs)∧y=kV k∧r=jdz kvs k)∨∃kvs k b,Rd H a (.dT kvs)∧y=.ref b∧H b=some (.tup (k.map kV))∧r=jdz kvs k
def DPut (H:Hp)(a:Addr)(y v:V)(H':Hp):Prop :=
 (∃kvs k,H a=some (.dK kvs)∧y=kV k∧kvs.length<sizeLine∧H'=j1 H a (.dK (jey kvs k v))) ∨
 ∃kvs k b,H a=some (.dT kvs)∧y=.ref b∧H b=some (.tup (k.map kV))∧kvs.length<sizeLine∧H'=j1 H a (.dT (jey kvs k v))
theorem DGet.k {H:Hp}{a:Addr}{kvs:List (Key×V)}{k:Key}(e:H a=some (.dK kvs)):DGet H a (kV k) (jdz kvs k):=.inl ⟨kvs,k,.inl e,rfl,rfl⟩
theorem DPut.k {H:Hp}{a:Addr}{kvs:List (Key×V)}{k:Key}{v:V}(e:H a=some (.dK kvs))(hl:kvs.length<sizeLine):DPut H a (kV k) v (j1 H a (.dK (jey kvs k v))):=.inl ⟨kvs,k,e,rfl,hl,rfl⟩
section
variable {X:Cx}{pins:List (Addr×Obj)}{σ:St}{H:Hp}{s:Shared}{a:Addr}{y v:V}{u r:Value}{o:Option V}{A:Around}{E:Value->Shared->Prop}
theorem Inv.big (I:Inv X pins σ H s):sysModules<s.heap.objs.size:=by
 have h:mainGlobals<s.heap.objs.size:=(I.mod.glob.keeps I.bk).lt
 exact Nat.lt_trans (by decide) h
theorem jvN {Q:Value->Shared->Prop}(hu:A.units+1<cLine)(I:Inv X pins σ H s)(g:DGet H a y (some v))(ry:RelV y u)(h:∀w' s',Inv X pins σ H s'->RelV v w'->Q w' s') :
  wpAny (model X.prog X.w) A (getItem (.ref a) u) Q E s:=by
 rcases g with⟨kvs,k,e,ey,l⟩ | ⟨kvs,k,b,e,ey,eb,l⟩
 ·subst ey
  obtain⟨z,hd,vs,rel,dd⟩:=jna I.hok e
  obtain⟨w',hw,rw'⟩:=RelO.some_of (v:=v) (o:=valueAt vs k) (by rw [l]; exact rel.val k)
  exact wpAny_getItem_of (jg5 ry) dd.mapOf hw (h w' _ (I.tok _) rw')
 ·subst ey
  cases (show u=Value.ref b from ry)
  obtain⟨z,hd,xs,rel,dd⟩:=jn0 I.hok e
  obtain⟨w',hw,rw'⟩:=RelO.some_of (v:=v) (o:=(atKey xs k).map (·.2)) (by rw [l]; exact rel.val k)
  obtain⟨p,hp,hp2⟩:=Option.map_eq_some_iff.mp hw
  refine wpAny_getItem_heap (tupleKind_room_in1 hu) (jnu I.hok eb) dd hp ?_
  rw [hp2]
  exact h w' _ (I.tok _) rw'
theorem jzl {Q:Value->Shared->Prop}(hu:A.units+1<cLine)(I:Inv X pins σ H s)(g:DGet H a y o)(ry:RelV y u)(h:∀s',Inv X pins σ H s'->Q (.bool (!o.isSome)) s') :
  wpAny (model X.prog X.w) A (compareOp .NotIn u (.ref a)) Q E s:=by
 rcases g with⟨kvs,k,e,ey,l⟩ | ⟨kvs,k,b,e,ey,eb,l⟩
 ·subst ey
  obtain⟨z,hd,vs,rel,dd⟩:=jna I.hok e
  refine wpAny_notIn_of (jg5 ry) hd dd.mapOf ?_
  rw [←(rel.val k).isSome_eq,←l]
  exact h _ (I.tok _)
 ·subst ey
  cases (show u=Value.ref b from ry)
  obtain⟨z,hd,xs,rel,dd⟩:=jn0 I.hok e
  refine wpAny_notIn_heap (tupleKind_room_in1 hu) (jnu I.hok eb) hd dd ?_
  have q:=(rel.val k).isSome_eq
  rw [Option.isSome_map] at q
  rw [←q,←l]
  exact h _ (I.tok _)
theorem jop {h':Heap}{t':Nat}{ob:HO}(I:Inv X pins σ H s)(mu:Mut (H a))(hs:Heap.SameBut a s.heap h')(he:∃q,h'.get? a=some q)(new:ObjOk X.prog X.w (j1 H a ob) h' a ob) :
  Inv X pins σ (j1 H a ob) { s with heap:=h',toks:=t' } :=
 I.write (x:=a) (e:=a) mu (.inl rfl) (fun b q hb z=>(hs.2 b hb).trans z) he new
theorem jv3 {P:Program}{w:World}{H':Hp}{h':Heap}{kvs:List (Key×V)}{vs:List (Key×Value)}(z:kvs.length≤sizeLine)(hd:(a == sysModules)=false)(rel:KV kvs vs)(dd:h'.DictOf (jaN P w) a vs) :
  ObjOk P w H' h' a (.dK kvs):=⟨z,hd,vs,rel,dd⟩
theorem jvR {H':Hp}{Q:Unit->Shared->Prop}(hu:A.units+1<cLine)(I:Inv X pins σ H s)(g:DPut H a y v H')(ry:RelV y u)(rv:RelV v r)(h:∀s',Inv X pins σ H' s'->Q () s') :
  wpAny (model X.prog X.w) A (setItem (.ref a) u r) Q E s:=by
 rcases g with⟨kvs,k,e,ey,l,eH⟩ | ⟨kvs,k,b,e,ey,eb,l,eH⟩
 ·subst ey eH
  obtain⟨z,hd,vs,rel,dd⟩:=jxU I.hok e
  have hz:vs.length≤sizeLine:=by rw [←rel.length]; exact z
  have hl:(jey kvs k v).length≤sizeLine:=by have:=jlV kvs k v; omega
  refine wpAny_setItem_pairs (hsz:=hz) (jg5 ry) dd fun h' dd' hs=>h _ ?_
  have he:∃q,h'.get? a=some q:=let ⟨q,_,_,hq,_⟩:=dd'; ⟨q,hq⟩
  exact jop I (by rw [e]; exact True.intro) hs he (jv3 hl hd (rel.put k rv) dd')
 ·subst ey eH
  cases (show u=Value.ref b from ry)
  obtain⟨z,hd,xs,rel,dd⟩:=jBi I.hok e
  have hz:xs.length≤sizeLine:=by rw [←Paired.length rel]; exact z
  have hl:(jey kvs k v).length≤sizeLine:=by have:=jlV kvs k v; omega
  refine wpAny_setItem_heap (hsz:=hz) (tupleKind_room_in1 hu) (jnu I.hok eb) dd fun h' dd' hs=>h _ ?_
  obtain⟨q,es,ep,hq,h2,h3,h4,_,h5⟩:=dd'
  refine jop I (by rw [e]; exact True.intro) hs ⟨q,hq⟩ ⟨hl,hd,_,(rel.put k eb rv).keeps fun c ys ec=>?_,q,es,ep,hq,h2,h3,h4,h5⟩
  rw [jO (jiE ec e (fun z=>by cases z))]
  exact ec
end
section
variable {X:Cx}{pins:List (Addr×Obj)}{σ:St}{H:Hp}{s:Shared}{a:Addr}{kvs:List (Key×V)}{k:Key}{u:Value}{A:Around}{E:Value->Shared->Prop}
theorem jBs {v:V}{more:List Value}{Q:Value->Shared->Prop}(I:Inv X pins σ H s)(e:H a=some (.dK kvs))(ry:RelV (kV k) u)(l:jdz kvs k=some v)(hm:more=[]∨∃x,more=[x])
  (h:∀w' s',Inv X pins σ (j1 H a (.dK (jjf kvs k))) s'->RelV v w'->Q w' s'):wpAny (model X.prog X.w) A (call (.builtin "dict.pop") (.ref a::u::more)) Q E s:=by
 obtain⟨z,hd,vs,rel,dd⟩:=jxU I.hok e
 obtain⟨w',hw,rw'⟩:=RelO.some_of (v:=v) (o:=valueAt vs k) (by rw [←l]; exact rel.val k)
 have hp:(keyPart u).isSome=true:=by
  cases k with
  | inl i=>obtain⟨t,q⟩:=(show ∃t,u=Value.int i t from ry); subst q; rfl
  | inr x=>obtain⟨t,q⟩:=(show ∃t,u=Value.str x t from ry); subst q; rfl
 have ha:argsOk "dict.pop" ⟨.ref a::u::more,[]⟩:=by
  rcases hm with q | ⟨x,q⟩
  ·subst q; exact PySem.F.args_dict_pop_2 _ _
  ·subst q; exact PySem.F.args_dict_pop_3 _ _ _
 refine call_meetsIn PySem.F.slot_dict_pop dd.typeIs PySem.F.entry_dict_pop ha (meets_dict_pop_there (jaN X.prog X.w) a (jg5 ry) more hm hp)
  ⟨vs,w',dd,by rw [←rel.length]; exact z,hw,fun h' dd' hs=>h w' _ ?_ rw'⟩
 have he:∃q,h'.get? a=some q:=let ⟨q,_,_,hq,_⟩:=dd'; ⟨q,hq⟩
 exact jop I (by rw [e]; exact True.intro) hs he (jv3 (Nat.le_trans (jxF kvs k) z) hd (rel.drop k) dd')
end
def jmt (i:Expr):Prop:=∀ov iv,subscripted i false ov iv=operate [ov,iv] (getItem ov iv)
theorem jtc {prog:Program}{w:World}{A:Around}{E:Value->Shared->Prop}{s:Shared}{env:Env}{value slice:Expr}{pos:Pos}{T id:String}{Q:Value->Shared->Prop}
  (hl:typeLookup (.type T) "__getitem__"=pure (some (.builtin id))) (hs:jmt slice)
  (h:wpAny (model prog w) A (eval value env) (fun o s₁=>wpAny (model prog w) A (eval slice env) (fun i s₂=>s₂.TypeIs o T∧wpAny (model prog w) A (getItem o i) Q E s₂) E s₁) E s) :
  wpAny (model prog w) A (eval (.Subscript value slice pos) env) Q E s:=by
 refine Subscript_ (wpAny_mono h (fun o s₁ h₁=>wpAny_mono h₁ (fun i s₂ h₂=>?_) fun _ _ x=>x) fun _ _ x=>x)
 obtain⟨hT,h₂⟩:=h₂
 unfold subscriptTail
 refine wpAny_bind ?_
 rw [getitemInPython_of_ne hT.not_modules]
 refine wpAny_bind (wpAny_specialOf hT hl ?_)
 have fin:wpAny (model prog w) A (subscripted slice false o i) (fun r s₃=>wpAny (model prog w) A (letTemporaryGo value o r >>= fun _=>pure r) Q E s₃) E s₂:=by
  rw [hs o i]
  exact wpAny_operating (wpAny_mono h₂ (fun r s₃ h₃=>wpAny_bind (wpAny_letTemporaryGo (wpAny_pure h₃))) fun _ _ x=>x)
 first
  | exact wpAny_pure (wpAny_bind fin)
  | exact wpAny_bind (wpAny_pure (wpAny_bind fin))
  | exact wpAny_bind fin
theorem jsD {X:Cx}{pins:List (Addr×Obj)}{σ:St}{H:Hp}{s:Shared}{a:Addr}{y:V}{o:Option V}(I:Inv X pins σ H s)(g:DGet H a y o):s.TypeIs (.ref a) "dict":=by
 rcases g with⟨kvs,k,e,_,_⟩ | ⟨kvs,k,b,e,_,_,_⟩
 ·obtain⟨_,_,vs,_,dd⟩:=jna I.hok e
  exact dd.typeIs
 ·obtain⟨_,_,xs,_,dd⟩:=jn0 I.hok e
  exact dd.typeIs
def jBM (td ty:TE):TE:=fun σ H Q=>td σ H fun x H1=>ty σ H1 fun y H2=>∃a v,x=.ref a∧DGet H2 a y (some v)∧Q v H2
def jy2 (ty td:TE):TE:=fun σ H Q=>ty σ H fun y H1=>td σ H1 fun x H2=>∃a o,x=.ref a∧DGet H2 a y o∧Q (.bl (!o.isSome)) H2
def jBr (td ty tv:TE):TS:=fun D σ H=>tv σ H fun v H1=>td σ H1 fun x H2=>ty σ H2 fun y H3=>∃a H4,x=.ref a∧DPut H3 a y v H4∧D.nx σ H4
section
variable {X:Cx}{o i e value:Expr}{pos pos' tpos:Pos}{td ty tv:TE}
theorem jyx (hu:X.A.units+1<cLine)(ho:PE X o td)(hi:PE X i ty)(hs:jmt i):PE X (.Subscript o i pos) (jBM td ty):=by
 intro pins s σ H Q I h
 refine jtc PySem.F.slot_dict_getitem.lookup hs (jQ (ho pins s σ H _ I h) fun u s1 ⟨x,H1,I1,rx,q1⟩=>jQ (hi pins s1 σ H1 _ I1 q1) fun iv s2 qZ=>?_)
 obtain⟨y,H2,I2,ry,a,v,ex,g,q2⟩:=qZ
 subst ex
 obtain rfl:u=Value.ref a:=rx
 exact⟨jsD I2 g,jvN hu I2 g ry fun w' s3 I3 rw'=>⟨v,H2,I3,rw',q2⟩⟩
theorem jvJ (hu:X.A.units+1<cLine)(hi:PE X i ty)(ho:PE X o td):PC X .NotIn i o (jy2 ty td):=by
 intro pins s σ H Q I h
 refine jQ (hi pins s σ H _ I h) fun iv s1 ⟨y,H1,I1,ry,q1⟩=>jQ (ho pins s1 σ H1 _ I1 q1) fun u s2 qZ=>?_
 obtain⟨x,H2,I2,rx,a,ov,ex,g,q2⟩:=qZ
 subst ex
 obtain rfl:u=Value.ref a:=rx
 exact jzl hu I2 g ry fun s3 I3=>⟨.bl (!ov.isSome),H2,I3,rfl,q2⟩
theorem jtb (hu:X.A.units+1<cLine)(ho:PE X o td)(hi:PE X i ty)(hv:PE X value tv)(hs:swapsWith value (some (.Subscript o i pos')) pos.line X.env=pure false) :
  PS X (.Assign [.Subscript o i pos'] value pos) (jBr td ty tv):=by
 intro pins s σ H D I h
 refine wpAny_Assign_Subscript (jQ (hv pins s σ H _ I h) fun r s1 ⟨v,H1,I1,rv,q1⟩=>jQ (ho pins s1 σ H1 _ I1 q1) fun u s2 ⟨x,H2,I2,rx,q2⟩=>jQ (hi pins s2 σ H2 _ I2 q2) fun iv s3 qZ=>?_) hs
 obtain⟨y,H3,I3,ry,a,H4,ex,g,q3⟩:=qZ
 subst ex
 obtain rfl:u=Value.ref a:=rx
 exact jvR hu I3 g ry rv fun s4 I4=>⟨σ,H4,I4,q3⟩
end
theorem jxa {P:Program}{w:World}{H:Hp}(h:Heap)(hb:sysModules<h.objs.size):ObjOk P w H (h.push { cls:=.type "dict",data:=.dict #[] }) h.objs.size (.dK []) :=
 ⟨Nat.zero_le _,beq_eq_false_iff_ne.mpr (Ne.symm (Nat.ne_of_lt hb)),[],.nil,Heap.DictOf.new h⟩
def jAD:TE:=fun _ H Q=>∀p,H p=none->Q (.ref p) (j1 H p (.dK []))
section
variable {X:Cx}{pos:Pos}
theorem jxe:PE X (.Dict [] [] pos) jAD:=fun pins s σ H Q I h =>
 wpAny_Dict_empty ⟨.ref s.heap.objs.size,_,I.laid (a:=s.heap.objs.size) (o:=.dK []) (t':=s.toks) (fun _ _ q=>Heap.get?_push_of_some _ q) (Nat.le_refl _) (jxa s.heap I.big),rfl,h _ (I.hok.fresh (Nat.le_refl _))⟩
end
structure M1 (X:Cx)(o:Expr)(m:Str)(apos:Pos)(e:Expr)(cpos:Pos):Prop where
 base:attributeBase o m X.env (eval o X.env)=eval o X.env
 few:((backTo cpos (starEach [e] X.env)).all (fun x=>!x.1)&&(backToKw cpos (keywordEach [] X.env)).all (fun x=>x.1.isSome)
 &&decide (([e]:List Expr).length+([]:List Keyword).length+(if ([]:List Keyword).isEmpty then 0 else 1)<30))=true
 line:(apos.endLine == cpos.line)=true
 trees:backTo cpos (starEach [e] X.env)=[(false,eval e X.env)]
def IsD (H:Hp)(a:Addr):Prop:=(∃kvs,Rd H a (.dK kvs))∨∃kvs,Rd H a (.dT kvs)
theorem jzz {X:Cx}{pins:List (Addr×Obj)}{σ:St}{H:Hp}{s:Shared}{a:Addr}(I:Inv X pins σ H s)(d:IsD H a) :
  s.TypeIs (.ref a) "dict"∧(∀b,Value.ref a=.ref b->∃ob,s.heap.get? b=some ob∧ob.dict=none)∧(a == sysModules)=false:=by
 rcases d with⟨kvs,e⟩ | ⟨kvs,e⟩
 ·obtain⟨_,hd,vs,_,dd⟩:=jna I.hok e
  refine⟨dd.typeIs,fun b q=>?_,hd⟩
  cases q
  obtain⟨ob,_,_,h1,h2,_⟩:=dd
  exact⟨ob,h1,h2.2.1⟩
 ·obtain⟨_,hd,xs,_,dd⟩:=jn0 I.hok e
  refine⟨dd.typeIs,fun b q=>?_,hd⟩
  cases q
  obtain⟨ob,_,_,h1,h2,_⟩:=dd
  exact⟨ob,h1,h2.2.1⟩
def jA2 (td ty:TE):TE:=fun σ H Q=>td σ H fun x H1=>∃a,x=.ref a∧IsD H1 a∧ty σ H1 fun y H2=>∃kvs k v,H2 a=some (.dK kvs)∧y=kV k∧jdz kvs k=some v∧Q v (j1 H2 a (.dK (jjf kvs k)))
section
variable {X:Cx}{o e f:Expr}{apos cpos:Pos}{td ty tx:TE}
theorem jws (ho:PE X o td)(he:PE X e ty)(m:M1 X o "pop" apos e cpos):PE X (.Call (.Attribute o "pop" apos) [e] [] cpos) (jA2 td ty):=by
 intro pins s σ H Q I h
 refine wpAny_Call_method m.base m.few m.line PySem.F.plainAttrs_dict PySem.F.slot_dict_pop PySem.F.type_dict_pop (jQ (ho pins s σ H _ I h) fun u s1 qZ=>?_)
 obtain⟨x,H1,I1,rx,a,ex,d,q1⟩:=qZ
 subst ex
 obtain rfl:u=Value.ref a:=rx
 obtain⟨t1,t2,_⟩:=jzz I1 d
 refine⟨t1,t2,?_⟩
 rw [m.trees]
 refine Calls.callWith_builtin rfl (Calls.evalArgs_plain (Calls.spliced_cons (jQ (he pins s1 σ H1 _ I1 q1) fun iv s2 ⟨y,H2,I2,ry,kvs,k,v,ea,ey,l,q2⟩=>Calls.spliced_nil ?_)))
 subst ey
 exact jBs I2 ea ry l (.inl rfl) fun w' s3 I3 rw'=>⟨v,_,I3,rw',q2⟩
end
end L2
set_option Elab.async false
set_option linter.all false
set_option maxRecDepth 100000
set_option maxHeartbeats 4000000
namespace D3
open PySem PySem.Spec PyProof.Rows L2
inductive D where
 | non | bl (b:Bool) | int (i:Int) | str (x:Str) | tup (ds:List D) | lst (ds:List D)
def KL (K:PySem.W.Frag)(a:Addr)(xs:List V):Prop :=
 ∃(o:Obj) (its:Array Value) (n:Nat),K.lookup a=some o∧o.cls=.type "list"∧o.dict=none∧o.data=.seq its n∧its.size≤sizeLine∧Vals xs its.toList
def LR (K:PySem.W.Frag)(S:Addr->Prop)(H:Hp)(a:Addr)(xs:List V):Prop:=(¬S a∧Rd H a (.lst xs))∨KL K a xs
theorem LR.sq {K:PySem.W.Frag}{S:Addr->Prop}{H:Hp}{a:Addr}{xs:List V}(h:LR K S H a xs):SqL K H a xs:=h.elim (fun x=>.inl x.2) .inr
mutual
def Rep (K:PySem.W.Frag)(S:Addr->Prop)(H:Hp):D->V->Prop
 | .non,v=>v=.non
 | .bl b,v=>v=.bl b
 | .int i,v=>v=.int i
 | .str x,v=>v=.str x
 | .tup ds,v=>∃a xs,v=.ref a∧SqT K H a xs∧Reps K S H ds xs
 | .lst ds,v=>∃a xs,v=.ref a∧LR K S H a xs∧Reps K S H ds xs
def Reps (K:PySem.W.Frag)(S:Addr->Prop)(H:Hp):List D->List V->Prop
 | [],xs=>xs=[]
 | d::ds,xs=>∃x r,xs=x::r∧Rep K S H d x∧Reps K S H ds r
end
section
variable {K:PySem.W.Frag}{S S':Addr->Prop}{H H':Hp}
mutual
theorem Rep.map (hT:∀b xs,SqT K H b xs->SqT K H' b xs)(hL:∀b xs,LR K S H b xs->LR K S' H' b xs):∀(d:D) (v:V),Rep K S H d v->Rep K S' H' d v
 | .non,v,h=>by simpa only [Rep] using h
 | .bl b,v,h=>by simpa only [Rep] using h
 | .int i,v,h=>by simpa only [Rep] using h
 | .str x,v,h=>by simpa only [Rep] using h
 | .tup ds,v,h=>by
  simp only [Rep] at h ⊢
  obtain⟨a,xs,e,q,r⟩:=h
  exact⟨a,xs,e,hT a xs q,Reps.map hT hL ds xs r⟩
 | .lst ds,v,h=>by
  simp only [Rep] at h ⊢
  obtain⟨a,xs,e,q,r⟩:=h
  exact⟨a,xs,e,hL a xs q,Reps.map hT hL ds xs r⟩
theorem Reps.map (hT:∀b xs,SqT K H b xs->SqT K H' b xs)(hL:∀b xs,LR K S H b xs->LR K S' H' b xs):∀(ds:List D) (vs:List V),Reps K S H ds vs->Reps K S' H' ds vs
 | [],vs,h=>by simpa only [Reps] using h
 | d::ds,vs,h=>by
  simp only [Reps] at h ⊢
  obtain⟨x,r,e,q,t⟩:=h
  exact⟨x,r,e,Rep.map hT hL d x q,Reps.map hT hL ds r t⟩
end
theorem jf4 (h:Same H H'):∀b xs,SqT K H b xs->SqT K H' b xs:=fun b xs q=>by
 rcases q with (q | ⟨o,q⟩) | q
 ·exact .inl (.inl (h _ _ q))
 ·exact .inl (.inr ⟨o,h _ _ q⟩)
 ·exact .inr q
theorem jtK (h:Same H H'):∀b xs,LR K S H b xs->LR K S H' b xs:=fun b xs q=>by
 rcases q with⟨n,q | ⟨o,q⟩⟩ | q
 ·exact .inl ⟨n,.inl (h _ _ q)⟩
 ·exact .inl ⟨n,.inr ⟨o,h _ _ q⟩⟩
 ·exact .inr q
theorem Rep.same {d:D}{v:V}(h:Same H H')(r:Rep K S H d v):Rep K S H' d v:=Rep.map (jf4 h) (jtK h) d v r
theorem Reps.same {d:List D}{v:List V}(h:Same H H')(r:Reps K S H d v):Reps K S H' d v:=Reps.map (jf4 h) (jtK h) d v r
theorem jwe (hs:∀a,S' a->S a):∀b xs,LR K S H b xs->LR K S' H b xs:=fun b xs q=>q.elim (fun x=>.inl ⟨fun z=>x.1 (hs _ z),x.2⟩) .inr
theorem Rep.sub {d:D}{v:V}(hs:∀a,S' a->S a)(r:Rep K S H d v):Rep K S' H d v:=Rep.map (fun _ _ x=>x) (jwe hs) d v r
theorem Reps.sub {d:List D}{v:List V}(hs:∀a,S' a->S a)(r:Reps K S H d v):Reps K S' H d v:=Reps.map (fun _ _ x=>x) (jwe hs) d v r
theorem Reps.nil:Reps K S H [] []:=by simp only [Reps]
theorem Reps.cons {d:D}{ds:List D}{v:V}{vs:List V}(h:Rep K S H d v)(t:Reps K S H ds vs):Reps K S H (d::ds) (v::vs):=by
 simp only [Reps]; exact⟨v,vs,rfl,h,t⟩
theorem Reps.len:∀{ds:List D} {vs:List V},Reps K S H ds vs->ds.length=vs.length
 | [],vs,h=>by simp only [Reps] at h; subst h; rfl
 | d::ds,vs,h=>by
  simp only [Reps] at h
  obtain⟨x,r,e,_,t⟩:=h
  subst e
  simp only [List.length_cons,Reps.len t]
theorem Reps.get:∀{ds:List D} {vs:List V} {i:Nat} {d:D},Reps K S H ds vs->ds[i]?=some d->∃v,vs[i]?=some v∧Rep K S H d v
 | [],vs,i,d,h,e=>by simp at e
 | c::ds,vs,0,d,h,e=>by
  simp only [Reps] at h
  obtain⟨x,r,rfl,q,t⟩:=h
  simp at e; subst e
  exact⟨x,rfl,q⟩
 | c::ds,vs,i+1,d,h,e=>by
  simp only [Reps] at h
  obtain⟨x,r,rfl,q,t⟩:=h
  exact Reps.get t (i:=i) (by simpa using e)
theorem Reps.getV:∀{ds:List D} {vs:List V} {i:Nat} {v:V},Reps K S H ds vs->vs[i]?=some v->∃d,ds[i]?=some d∧Rep K S H d v:=fun {ds vs i v} h e=>by
 have hl:=h.len
 have hi:i<ds.length:=by rw [hl]; exact(List.getElem?_eq_some_iff.mp e).1
 obtain⟨v',e',r⟩:=h.get (i:=i) (d:=ds[i]) (by simp [hi])
 rw [e] at e'; cases e'
 exact⟨ds[i],by simp [hi],r⟩
theorem Reps.app:∀{ds es:List D} {vs us:List V},Reps K S H ds vs->Reps K S H es us->Reps K S H (ds++es) (vs++us)
 | [],es,vs,us,h,h2=>by simp only [Reps] at h; subst h; exact h2
 | d::ds,es,vs,us,h,h2=>by
  simp only [Reps] at h
  obtain⟨x,r,rfl,q,t⟩:=h
  exact Reps.cons q (Reps.app t h2)
theorem Reps.ints (ns:List Int):Reps K S H (ns.map D.int) (ns.map V.int):=by
 induction ns with
 | nil=>exact Reps.nil
 | cons n ns ih=>exact Reps.cons (by simp only [Rep]) ih
theorem Reps.intsV:∀{ns:List Int} {vs:List V},Reps K S H (ns.map D.int) vs->vs=ns.map V.int
 | [],vs,h=>by simpa only [List.map_nil,Reps] using h
 | n::ns,vs,h=>by
  simp only [List.map_cons,Reps,Rep] at h
  obtain⟨x,r,rfl,rfl,t⟩:=h
  rw [Reps.intsV t,List.map_cons]
theorem j5 {i:Int}{v:V}(h:Rep K S H (.int i) v):v=.int i:=by simpa only [Rep] using h
theorem jaz {i:Bool}{v:V}(h:Rep K S H (.bl i) v):v=.bl i:=by simpa only [Rep] using h
theorem jaG {i:Str}{v:V}(h:Rep K S H (.str i) v):v=.str i:=by simpa only [Rep] using h
theorem jao {v:V}(h:Rep K S H .non v):v=.non:=by simpa only [Rep] using h
theorem Rep.int {i:Int}:Rep K S H (.int i) (.int i):=by simp only [Rep]
theorem Rep.bl {i:Bool}:Rep K S H (.bl i) (.bl i):=by simp only [Rep]
theorem Rep.str {i:Str}:Rep K S H (.str i) (.str i):=by simp only [Rep]
theorem Rep.non:Rep K S H .non .non:=by simp only [Rep]
theorem jad {ds:List D}{v:V}(h:Rep K S H (.tup ds) v):∃a xs,v=.ref a∧SqT K H a xs∧Reps K S H ds xs:=by simpa only [Rep] using h
theorem j3 {ds:List D}{v:V}(h:Rep K S H (.lst ds) v):∃a xs,v=.ref a∧LR K S H a xs∧Reps K S H ds xs:=by simpa only [Rep] using h
theorem Rep.tup {ds:List D}{a:Addr}{xs:List V}(h:SqT K H a xs)(r:Reps K S H ds xs):Rep K S H (.tup ds) (.ref a):=by simp only [Rep]; exact⟨a,xs,rfl,h,r⟩
theorem Rep.lst {ds:List D}{a:Addr}{xs:List V}(h:LR K S H a xs)(r:Reps K S H ds xs):Rep K S H (.lst ds) (.ref a):=by simp only [Rep]; exact⟨a,xs,rfl,h,r⟩
theorem jbf {p:Addr}{o:HO}(h:H p=none):Same H (j1 H p o):=fun b u e=>by rw [jO (jaM e h)]; exact e
def SOk (S:Addr->Prop)(H:Hp):Prop:=∀a,S a->∃o,H a=some o
theorem SOk.same (h:SOk S H)(e:Same H H'):SOk S H':=fun a q=>let ⟨o,x⟩:=h a q; ⟨o,e _ _ x⟩
theorem SOk.free {p:Addr}(h:SOk S H)(e:H p=none):¬S p:=fun q=>by obtain⟨o,x⟩:=h p q; rw [e] at x; cases x
theorem Rep.newTup {p:Addr}{ds:List D}{xs:List V}(h:H p=none)(r:Reps K S H ds xs):Rep K S (j1 H p (.tup xs)) (.tup ds) (.ref p):=Rep.tup (SqT.of jaA) (r.same (jbf h))
theorem Rep.newLst {p:Addr}{ds:List D}{xs:List V}(s:SOk S H)(h:H p=none)(r:Reps K S H ds xs):Rep K S (j1 H p (.lst xs)) (.lst ds) (.ref p):=Rep.lst (.inl ⟨s.free h,.of jaA⟩) (r.same (jbf h))
end
def jBh (ks:List (List Int)):Int:=reduceHash (Builtin.Tuple.tupleHashOf (ks.map fun k=>reduceHash (Builtin.Tuple.tupleHashOf (k.map hashInt))))
def jAu:List (List (List Int))->List Addr->List Value->List DictEntry
 | k::ks,b::bs,u::us=>⟨jBh k,.ref b,u⟩::jAu ks bs us
 | _,_,_=>[]
def DX (a:Addr)(kss:List (List (List Int)))(bs:List Addr)(xs:List V)(h:Heap):Prop:=∃(us:List Value) (o:Obj) (es:Array DictEntry) (ep:Nat),Vals xs us∧h.get? a=some o∧o.ExactDict∧o.data=.dict es ep∧es.toList=jAu kss bs us
def kD (ks:List (List Int)):D:=.tup (ks.map fun ns=>.tup (ns.map .int))
def DctAt (K:PySem.W.Frag)(S:Addr->Prop)(H:Hp)(a:Addr)(ks ds:List D):Prop :=
 (∃(ns:List Int) (xs:List V),ks=.bl false::ns.map .int∧ns.Nodup∧ns.length=xs.length∧H a=some (.dK ((ns.map Sum.inl).zip xs))∧Reps K S H ds xs) ∨
 (∃(kss:List (List (List Int))) (bs:List Addr) (xs:List V),ks=.bl true::kss.map kD∧kss.Nodup∧(a == sysModules)=false∧kss.length≤sizeLine∧kss.length=bs.length∧kss.length=xs.length∧H a=some (.ext (DX a kss bs xs))∧Reps K S H (kss.map kD) (bs.map V.ref)∧Reps K S H ds xs)
theorem DctAt.map {K:PySem.W.Frag}{S S':Addr->Prop}{H H':Hp}{a:Addr}{ks ds:List D}(h:DctAt K S H a ks ds)(mvs:∀{c:List D} {w:List V},Reps K S H c w->Reps K S' H' c w)(e:H' a=H a):DctAt K S' H' a ks ds:=by
 rcases h with⟨ns,xs,h1,h2,h3,h4,h5⟩ | ⟨kss,bs,xs,h1,h2,h3,h4,h5,h6,h7,h8,h9⟩
 ·exact .inl ⟨ns,xs,h1,h2,h3,e.trans h4,mvs h5⟩
 ·exact .inr ⟨kss,bs,xs,h1,h2,h3,h4,h5,h6,e.trans h7,mvs h8,mvs h9⟩
theorem DctAt.isO {K:PySem.W.Frag}{S:Addr->Prop}{H:Hp}{a:Addr}{ks ds:List D}(h:DctAt K S H a ks ds):∃o,H a=some o∧∀xs,o≠.lst xs:=by
 rcases h with⟨_,_,_,_,_,h,_⟩ | ⟨_,_,_,_,_,_,_,_,_,h,_⟩
 ·exact⟨_,h,fun _ z=>by cases z⟩
 ·exact⟨_,h,fun _ z=>by cases z⟩
theorem DctAt.ne {K:PySem.W.Frag}{S:Addr->Prop}{H:Hp}{a b:Addr}{ks ds:List D}{xs:List V}(h:DctAt K S H a ks ds)(hb:H b=some (.lst xs)):a≠b:=fun z=>by
 obtain⟨o,e,n⟩:=h.isO
 rw [z,hb] at e
 cases e
 exact n _ rfl
theorem DctAt.ne' {K:PySem.W.Frag}{S:Addr->Prop}{H:Hp}{a b:Addr}{ks ds:List D}(h:DctAt K S H a ks ds)(hb:H b=none):a≠b:=fun z=>by
 obtain⟨o,e,n⟩:=h.isO
 rw [z,hb] at e
 cases e
theorem DctAt.go {K:PySem.W.Frag}{S:Addr->Prop}{H H':Hp}{a:Addr}{ks ds:List D}(h:DctAt K S H a ks ds)(s:Same H H'):DctAt K S H' a ks ds:=by
 obtain⟨o,e,_⟩:=h.isO
 exact h.map (fun r=>r.same s) ((s _ _ e).trans e.symm)
inductive Sl where
 | un | val (d:D) | own (ds:List D) | dct (ks ds:List D) | raw (v:V) | row (vs:List V)
abbrev jN:=List Sl
structure Bs where
 S0:Addr->Prop
 H0:Hp
 gh:List (D×V)
structure ER (K:PySem.W.Frag)(B:Bs)(S:Addr->Prop)(H:Hp)(σ:L2.St)(ρ:jN):Prop where
 len:σ.length=ρ.length
 same:Same B.H0 H
 sub:∀a,B.S0 a->S a
 ok0:SOk B.S0 B.H0
 ok:SOk S H
 val:∀(i:Nat) d,ρ[i]?=some (.val d)->∃v,σ[i]?=some (some v)∧Rep K S H d v
 own:∀(i:Nat) ds,ρ[i]?=some (.own ds)->∃a xs,σ[i]?=some (some (.ref a))∧S a∧B.H0 a=none∧H a=some (.lst xs)∧Reps K S H ds xs
 uq:∀(i j:Nat) a ds es,ρ[i]?=some (.own ds)->ρ[j]?=some (.own es)->σ[i]?=some (some (.ref a))->σ[j]?=some (some (.ref a))->i=j
 dct:∀(i:Nat) ks ds,ρ[i]?=some (.dct ks ds)->∃a,σ[i]?=some (some (.ref a))∧S a∧B.H0 a=none∧DctAt K S H a ks ds
 dq:∀(i j:Nat) a ks ds ks' ds',ρ[i]?=some (.dct ks ds)->ρ[j]?=some (.dct ks' ds')->σ[i]?=some (some (.ref a))->σ[j]?=some (some (.ref a))->i=j
 rf:∀(i:Nat) v,ρ[i]?=some (.raw v)->σ[i]?=some (some v)
 rwx:∀(i:Nat) vs,ρ[i]?=some (.row vs)->∃a,σ[i]?=some (some (.ref a))∧B.H0 a=some (.lst vs)
 gh:∀p∈B.gh,Rep K S H p.1 p.2
theorem ER.go {K:PySem.W.Frag}{B:Bs}{S:Addr->Prop}{H H':Hp}{σ:L2.St}{ρ:jN}(e:ER K B S H σ ρ)(h:Same H H'):ER K B S H' σ ρ where
 len:=e.len
 same:=e.same.trans h
 sub:=e.sub
 ok0:=e.ok0
 ok:=e.ok.same h
 val:=fun i d q=>let ⟨v,a,r⟩:=e.val i d q; ⟨v,a,r.same h⟩
 own:=fun i ds q=>let ⟨a,xs,x,y,z,u,r⟩:=e.own i ds q; ⟨a,xs,x,y,z,h _ _ u,r.same h⟩
 uq:=e.uq
 dct:=fun i ks ds q=>let ⟨a,x,y,z,u⟩:=e.dct i ks ds q; ⟨a,x,y,z,u.go h⟩
 dq:=e.dq
 rf:=e.rf
 rwx:=e.rwx
 gh:=fun p hp=>(e.gh p hp).same h
abbrev E3:=jN->(D->Prop)->Prop
abbrev B3:=jN->(Bool->Prop)->Prop
abbrev A3:=jN->(List D->Prop)->Prop
inductive F3 where
 | nx (ρ:jN) | rt (d:D) | bk (ρ:jN) | ct (ρ:jN)
abbrev S3:=(F3->Prop)->jN->Prop
def Hand (K:PySem.W.Frag)(S:Addr->Prop)(H:Hp)(Φ:D->Prop)(Q:VK):Prop:=∀d v H',Φ d->Same H H'->Rep K S H' d v->Q v H'
def PD (X:Cx)(e:Expr)(t:E3):Prop:=∃t2,PE X e t2∧∀B S H σ ρ Φ Q,ER X.K B S H σ ρ->t ρ Φ->Hand X.K S H Φ Q->t2 σ H Q
def PB (X:Cx)(e:Expr)(t:B3):Prop:=∃t2,PT X e t2∧∀B S H σ ρ Φ (Q:Bool->Hp->Prop),ER X.K B S H σ ρ->t ρ Φ->(∀b H',Φ b->Same H H'->Q b H')->t2 σ H Q
def PWB (X:Cx)(e:Expr)(t:B3):Prop:=∃t2,PW X e t2∧∀B S H σ ρ Φ (Q:Bool->Hp->Prop),ER X.K B S H σ ρ->t ρ Φ->(∀b H',Φ b->Same H H'->Q b H')->t2 σ H Q
def PAD (X:Cx)(es:List Expr)(t:A3):Prop:=∃t2,PA X es t2∧∀B S H σ ρ Φ (Q:List V->Hp->Prop),ER X.K B S H σ ρ->t ρ Φ->(∀ds vs H',Φ ds->Same H H'->Reps X.K S H' ds vs->Q vs H')->t2 σ H Q
structure juD (K:PySem.W.Frag)(B:Bs)(Φ:F3->Prop)(D':jgs):Prop where
 nx:∀ρ S H σ,Φ (.nx ρ)->ER K B S H σ ρ->D'.nx σ H
 bk:∀ρ S H σ,Φ (.bk ρ)->ER K B S H σ ρ->D'.bk σ H
 ct:∀ρ S H σ,Φ (.ct ρ)->ER K B S H σ ρ->D'.ct σ H
 rt:∀d v H,Φ (.rt d)->Same B.H0 H->Rep K B.S0 H d v->D'.rt v H
def PSD (X:Cx)(st:Stmt)(t:S3):Prop:=∃t2,PS X st t2∧∀B S H σ ρ Φ D',ER X.K B S H σ ρ->t Φ ρ->juD X.K B Φ D'->t2 D' σ H
def jhk (X:Cx)(st:List Stmt)(t:S3):Prop:=∃t2,PSs X st t2∧∀B S H σ ρ Φ D',ER X.K B S H σ ρ->t Φ ρ->juD X.K B Φ D'->t2 D' σ H
section
variable {X:Cx}{a b c e:Expr}{ta tb tc te:E3}{pos:Pos}
theorem Hand.go {K:PySem.W.Frag}{S:Addr->Prop}{H H1:Hp}{Φ:D->Prop}{Q:VK}(h:Hand K S H Φ Q)(s:Same H H1):Hand K S H1 Φ Q:=fun d v H' p q r=>h d v H' p (s.trans q) r
abbrev jd (i:Nat):E3:=fun ρ Φ=>match ρ[i]? with | some (.val d)=>Φ d | _=>False
theorem jb {i:Nat}(h:PE X e (jgq i)):PD X e (jd i):=⟨_,h,fun B S H σ ρ Φ Q er h hd=>by
 unfold jd at h
 split at h
 ·rename_i d q
  obtain⟨v,a,r⟩:=er.val i d q
  exact⟨v,a,hd d v H h (Same.refl _) r⟩
 ·exact h.elim⟩
abbrev dC (d:D):E3:=fun _ Φ=>Φ d
theorem je {i j pos}:PD X (.Constant (.int i) j pos) (dC (.int i)):=⟨_,jAX,fun _ _ H _ _ _ _ _ h hd=>hd _ _ H h (Same.refl _) Rep.int⟩
theorem jby {i j pos}:PD X (.Constant (.bool i) j pos) (dC (.bl i)):=⟨_,jBu,fun _ _ H _ _ _ _ _ h hd=>hd _ _ H h (Same.refl _) Rep.bl⟩
theorem jq9 {j pos}:PD X (.Constant .none j pos) (dC .non):=⟨_,jAG,fun _ _ H _ _ _ _ _ h hd=>hd _ _ H h (Same.refl _) Rep.non⟩
theorem jh {x j pos}:PD X (.Constant (.str x) j pos) (dC (.str x)):=⟨_,jAI,fun _ _ H _ _ _ _ _ h hd=>hd _ _ H h (Same.refl _) Rep.str⟩
abbrev R3:=D->D->(D->Prop)->Prop
def OpD (X:Cx)(f:Value->Value->Sem Value)(r3:R3):Prop :=
 ∃r,OpR X f r∧∀S H x y u v Φ Q,SOk S H->Rep X.K S H x u->Rep X.K S H y v->r3 x y Φ->Hand X.K S H Φ Q->r u v H Q
abbrev jg (r:R3)(ta tb:E3):E3:=fun ρ Φ=>ta ρ fun x=>tb ρ fun y=>r x y Φ
theorem two {r:R3}{r2:R2}{ta2 tb2:TE}(wa:∀B S H σ ρ Φ Q,ER X.K B S H σ ρ->ta ρ Φ->Hand X.K S H Φ Q->ta2 σ H Q)(wb:∀B S H σ ρ Φ Q,ER X.K B S H σ ρ->tb ρ Φ->Hand X.K S H Φ Q->tb2 σ H Q)
  (wr:∀S H x y u v Φ Q,SOk S H->Rep X.K S H x u->Rep X.K S H y v->r x y Φ->Hand X.K S H Φ Q->r2 u v H Q) :
  ∀B S H σ ρ Φ Q,ER X.K B S H σ ρ->jg r ta tb ρ Φ->Hand X.K S H Φ Q->tOp r2 ta2 tb2 σ H Q:=fun B S H σ ρ Φ Q er h hd =>
 wa B S H σ ρ _ _ er h fun x u H1 hx s1 rx=>wb B S H1 σ ρ _ _ (er.go s1) hx fun y v H2 hy s2 ry =>
  wr S H2 x y u v Φ Q ((er.ok.same s1).same s2) (rx.same s2) ry hy (hd.go (s1.trans s2))
theorem jl {op:Operator}{r:R3}(ho:OpD X (binaryOp op) r)(ha:PD X a ta)(hb:PD X b tb):PD X (.BinOp a op b pos) (jg r ta tb):=by
 obtain⟨r2,ho,wr⟩:=ho; obtain⟨ta2,ha,wa⟩:=ha; obtain⟨tb2,hb,wb⟩:=hb
 exact⟨_,juA ho ha hb,two wa wb wr⟩
theorem jm1 {op:CmpOp}{r:R3}(ho:OpD X (compareOp op) r)(ha:PD X a ta)(hb:PD X b tb)(hm:behindInMarks op b=false):PD X (.Compare a [op] [b] pos) (jg r ta tb):=by
 obtain⟨r2,ho,wr⟩:=ho; obtain⟨ta2,ha,wa⟩:=ha; obtain⟨tb2,hb,wb⟩:=hb
 exact⟨_,jtF ho ha hb hm,two wa wb wr⟩
abbrev dT (t:E3):B3:=fun ρ Φ=>t ρ fun d=>match d with | .bl k=>Φ k | _=>False
theorem jno {t2:TE}{t:E3}(w:∀B S H σ ρ Φ Q,ER X.K B S H σ ρ->t ρ Φ->Hand X.K S H Φ Q->t2 σ H Q) :
  ∀B S H σ ρ Φ (Q:Bool->Hp->Prop),ER X.K B S H σ ρ->dT t ρ Φ->(∀b H',Φ b->Same H H'->Q b H')->jt7 t2 σ H Q:=fun B S H σ ρ Φ Q er h hd =>
 w B S H σ ρ _ _ er h fun d v H' p s r=>by
  cases d with
  | bl k=>exact⟨k,jaz r,hd k H' p s⟩
  | non=>exact p.elim
  | int _=>exact p.elim
  | str _=>exact p.elim
  | tup _=>exact p.elim
  | lst _=>exact p.elim
theorem j7 {op:CmpOp}{r:R3}(ho:OpD X (compareOp op) r)(ha:PD X a ta)(hb:PD X b tb)(hm:behindInMarks op b=false):PB X (.Compare a [op] [b] pos) (dT (jg r ta tb)):=by
 obtain⟨r2,ho,wr⟩:=ho; obtain⟨ta2,ha,wa⟩:=ha; obtain⟨tb2,hb,wb⟩:=hb
 exact⟨_,jlw ho ha hb hm,jno (two wa wb wr)⟩
theorem jd2 (h:PD X e te)(he:∀whole,isTrue e X.env whole=(do let v ←whole; standAt e.pos; holding [v] (truthy v)):=by intro _; rfl):PB X e (dT te):=by
 obtain⟨t2,h,w⟩:=h
 exact⟨_,jvY h he,jno w⟩
abbrev dI (C:Int->Int->Prop)(g:Int->Int->D):R3
 | .int i,.int j,Φ=>C i j∧Φ (g i j)
 | _,_,_=>False
abbrev dI0 (g:Int->Int->D):R3
 | .int i,.int j,Φ=>Φ (g i j)
 | _,_,_=>False
theorem opd {f:Value->Value->Sem Value}{C:Int->Int->Prop}{g:Int->Int->V}{g3:Int->Int->D}(h:OpR X f (rI C g))(hg:∀K S H i j,Rep K S H (g3 i j) (g i j)):OpD X f (dI C g3) :=
 ⟨_,h,fun S H x y u v Φ Q so rx ry hr hd=>by
  cases x <;> cases y <;> first | exact hr.elim | skip
  rename_i i j
  exact⟨i,j,j5 rx,j5 ry,hr.1,hd _ _ H hr.2 (Same.refl _) (hg ..)⟩⟩
theorem jrc {f:Value->Value->Sem Value}{g:Int->Int->V}{g3:Int->Int->D}(h:OpR X f (rI0 g))(hg:∀K S H i j,Rep K S H (g3 i j) (g i j)):OpD X f (dI0 g3) :=
 ⟨_,h,fun S H x y u v Φ Q so rx ry hr hd=>by
  cases x <;> cases y <;> first | exact hr.elim | skip
  rename_i i j
  exact⟨i,j,j5 rx,j5 ry,hd _ _ H hr (Same.refl _) (hg ..)⟩⟩
def CD (_ j:Int):Prop:=j≠0∧j.natAbs.log2<9000
theorem jyL:OpR X (binaryOp .Mult) (rI IntMulOk fun i j=>.int (i * j)):=opI fun _ _ _ _ _ _ _ hc q=>mul_int q hc
theorem jwC:OpR X (binaryOp .FloorDiv) (rI CD fun i j=>.int (i.fdiv j)):=opI fun _ _ _ _ _ _ _ hc q=>floordiv_int hc.1 q (.inl (PyProof.noPylong_of_log2 hc.2))
theorem jav:OpD X (binaryOp .Add) (dI0 fun i j=>.int (i+j)):=jrc jAQ fun _ _ _ _ _=>Rep.int
theorem jaV:OpD X (binaryOp .Sub) (dI0 fun i j=>.int (i - j)):=jrc jAK fun _ _ _ _ _=>Rep.int
theorem jI:OpD X (binaryOp .Mult) (dI IntMulOk fun i j=>.int (i * j)):=opd jyL fun _ _ _ _ _=>Rep.int
theorem jdd:OpD X (binaryOp .FloorDiv) (dI CD fun i j=>.int (i.fdiv j)):=opd jwC fun _ _ _ _ _=>Rep.int
theorem jfJ:OpD X (binaryOp .Mod) (dI (fun _ j=>j≠0) fun i j=>.int (i.fmod j)):=opd jzb fun _ _ _ _ _=>Rep.int
theorem jBI:OpD X (binaryOp .Pow) (dI jug fun i j=>.int (i^j.toNat)):=opd jBc fun _ _ _ _ _=>Rep.int
theorem jpi:OpD X (compareOp .Lt) (dI0 fun i j=>.bl (decide (i<j))):=jrc jBD fun _ _ _ _ _=>Rep.bl
theorem jt5:OpD X (compareOp .LtE) (dI0 fun i j=>.bl (decide (i≤j))):=jrc jBz fun _ _ _ _ _=>Rep.bl
theorem jCm:OpD X (compareOp .Gt) (dI0 fun i j=>.bl (decide (j<i))):=jrc jBB fun _ _ _ _ _=>Rep.bl
abbrev dEq:R3
 | .int i,.int j,Φ=>Φ (.bl (decide (i=j)))
 | .bl i,.bl j,Φ=>Φ (.bl (decide (i=j)))
 | .str i,.str j,Φ=>Φ (.bl (decide (i=j)))
 | .non,.non,Φ=>Φ (.bl true)
 | .non,.int _,Φ=>Φ (.bl false)
 | .int _,.non,Φ=>Φ (.bl false)
 | _,_,_=>False
abbrev dNe:R3
 | .int i,.int j,Φ=>Φ (.bl (!decide (i=j)))
 | .bl i,.bl j,Φ=>Φ (.bl (!decide (i=j)))
 | .str i,.str j,Φ=>Φ (.bl (!decide (i=j)))
 | .non,.non,Φ=>Φ (.bl false)
 | .non,.int _,Φ=>Φ (.bl true)
 | .int _,.non,Φ=>Φ (.bl true)
 | _,_,_=>False
theorem jfT {α:Type}[DecidableEq α]{f:α->V}(hf:∀a b,f a=f b->a=b)(i j:α):decide (f i=f j)=decide (i=j):=by
 by_cases h:i=j
 ·subst h; simp
 ·rw [decide_eq_false h,decide_eq_false fun q=>h (hf _ _ q)]
theorem jjh:OpD X (compareOp .Eq) dEq:=⟨_,jBG,fun S H x y u v Φ Q so rx ry hr hd=>by
 cases x <;> cases y <;> first | exact hr.elim | skip
 ·cases jao rx; cases jao ry; exact⟨rfl,hd _ _ H hr (Same.refl _) Rep.bl⟩
 ·cases jao rx; cases j5 ry; exact⟨rfl,hd _ _ H hr (Same.refl _) Rep.bl⟩
 ·rename_i i j
  cases jaz rx; cases jaz ry; refine⟨rfl,hd _ _ H hr (Same.refl _) ?_⟩
  rw [jfT (fun a b q=>V.bl.inj q)]; exact Rep.bl
 ·cases j5 rx; cases jao ry; exact⟨rfl,hd _ _ H hr (Same.refl _) Rep.bl⟩
 ·rename_i i j
  cases j5 rx; cases j5 ry; refine⟨rfl,hd _ _ H hr (Same.refl _) ?_⟩
  rw [jfT (fun a b q=>V.int.inj q)]; exact Rep.bl
 ·rename_i i j
  cases jaG rx; cases jaG ry; refine⟨rfl,hd _ _ H hr (Same.refl _) ?_⟩
  rw [jfT (fun a b q=>V.str.inj q)]; exact Rep.bl⟩
theorem jkg:OpD X (compareOp .NotEq) dNe:=⟨_,jBC,fun S H x y u v Φ Q so rx ry hr hd=>by
 cases x <;> cases y <;> first | exact hr.elim | skip
 ·cases jao rx; cases jao ry; exact⟨rfl,hd _ _ H hr (Same.refl _) Rep.bl⟩
 ·cases jao rx; cases j5 ry; exact⟨rfl,hd _ _ H hr (Same.refl _) Rep.bl⟩
 ·rename_i i j
  cases jaz rx; cases jaz ry; refine⟨rfl,hd _ _ H hr (Same.refl _) ?_⟩
  rw [jfT (fun a b q=>V.bl.inj q)]; exact Rep.bl
 ·cases j5 rx; cases jao ry; exact⟨rfl,hd _ _ H hr (Same.refl _) Rep.bl⟩
 ·rename_i i j
  cases j5 rx; cases j5 ry; refine⟨rfl,hd _ _ H hr (Same.refl _) ?_⟩
  rw [jfT (fun a b q=>V.int.inj q)]; exact Rep.bl
 ·rename_i i j
  cases jaG rx; cases jaG ry; refine⟨rfl,hd _ _ H hr (Same.refl _) ?_⟩
  rw [jfT (fun a b q=>V.str.inj q)]; exact Rep.bl⟩
abbrev dU (r:D->(D->Prop)->Prop)(ta:E3):E3:=fun ρ Φ=>ta ρ fun x=>r x Φ
abbrev jjp:D->(D->Prop)->Prop
 | .int i,Φ=>Φ (.int (-i))
 | _,_=>False
theorem je0 (ha:PD X a ta):PD X (.UnaryOp .USub a pos) (dU jjp ta):=by
 obtain⟨ta2,ha,wa⟩:=ha
 refine⟨_,jBE jAJ ha,fun B S H σ ρ Φ Q er h hd=>wa B S H σ ρ _ _ er h fun x u H1 hx s1 rx=>?_⟩
 cases x <;> first | exact hx.elim | skip
 exact⟨_,j5 rx,hd _ _ H1 hx s1 Rep.int⟩
variable {tA tB':B3}{jJ:List Expr}
abbrev jgk (t u:B3):B3:=fun ρ Φ=>t ρ fun k=>if k=true then u ρ Φ else Φ false
abbrev bOr (t u:B3):B3:=fun ρ Φ=>t ρ fun k=>if k=true then Φ true else u ρ Φ
abbrev jmR (t:B3):B3:=fun ρ Φ=>t ρ fun k=>Φ (!k)
theorem PWB.pb {e:Expr}{t:B3}(h:PWB X e t):PB X e t:=let ⟨t2,h,w⟩:=h; ⟨t2,h.pt,w⟩
theorem jny (ha:PB X a tA):PWB X (.BoolOp .Or [a] pos) tA:=let ⟨t2,h,w⟩:=ha; ⟨t2,jvd h,w⟩
theorem jqG (ha:PB X a tA)(hb:PWB X (.BoolOp .Or (b::jJ) pos) tB'):PWB X (.BoolOp .Or (a::b::jJ) pos) (bOr tA tB'):=by
 obtain⟨t2,h,w⟩:=ha; obtain⟨u2,g,z⟩:=hb
 refine⟨_,jxR h g,fun B S H σ ρ Φ Q er q hd=>w B S H σ ρ _ _ er q fun k H1 hk s1=>?_⟩
 cases k with
 | true =>
  have hk:Φ true:=by simpa using hk
  simp only [if_true]
  exact hd true H1 hk s1
 | false =>
  have hk:tB' ρ Φ:=by simpa using hk
  simp only [Bool.false_eq_true,if_false]
  exact z B S H1 σ ρ _ _ (er.go s1) hk fun k2 H2 h2 s2=>hd k2 H2 h2 (s1.trans s2)
theorem jhV (ha:PB X a tA):PB X (.UnaryOp .Not a pos) (jmR tA):=by
 obtain⟨t2,h,w⟩:=ha
 exact⟨_,jBa h,fun B S H σ ρ Φ Q er q hd=>w B S H σ ρ _ _ er q fun k H1 hk s1=>hd _ H1 hk s1⟩
abbrev jub (ta tb:E3):E3:=fun ρ Φ=>dT ta ρ fun k=>if k=true then tb ρ Φ else Φ (.bl false)
abbrev jAl (ta:E3):E3:=fun ρ Φ=>dT ta ρ fun k=>Φ (.bl (!k))
theorem jvB {op}{t:E3}(h:PD X a t):PD X (.BoolOp op [a] pos) t:=let ⟨t2,h,w⟩:=h; ⟨t2,jvw h,w⟩
theorem jsm (ha:PD X a ta)(hb:PD X (.BoolOp .And (b::jJ) pos) tb):PD X (.BoolOp .And (a::b::jJ) pos) (jub ta tb):=by
 obtain⟨t2,h,w⟩:=ha; obtain⟨u2,g,z⟩:=hb
 refine⟨_,juR h g,fun B S H σ ρ Φ Q er q hd=>w B S H σ ρ _ _ er q fun d v H1 hk s1 r=>?_⟩
 cases d <;> first | exact hk.elim | skip
 rename_i k
 refine⟨k,jaz r,?_⟩
 cases k with
 | true =>
  have hk:tb ρ Φ:=by simpa using hk
  simp only [if_true]
  exact z B S H1 σ ρ _ _ (er.go s1) hk (hd.go s1)
 | false =>
  have hk:Φ (.bl false):=by simpa using hk
  simp only [Bool.false_eq_true,if_false]
  exact hd _ _ H1 hk s1 Rep.bl
theorem jAd (ha:PD X a ta):PD X (.UnaryOp .Not a pos) (jAl ta):=by
 obtain⟨t2,h,w⟩:=ha
 refine⟨_,jzV h,fun B S H σ ρ Φ Q er q hd=>w B S H σ ρ _ _ er q fun d v H1 hk s1 r=>?_⟩
 cases d <;> first | exact hk.elim | skip
 exact⟨_,jaz r,hd _ _ H1 hk s1 Rep.bl⟩
abbrev dIf (t:B3)(ta tb:E3):E3:=fun ρ Φ=>t ρ fun k=>if k=true then ta ρ Φ else tb ρ Φ
theorem jr9 (hc:PB X c tA)(ha:PD X a ta)(hb:PD X b tb):PD X (.IfExp c a b pos) (dIf tA ta tb):=by
 obtain⟨c2,h,w⟩:=hc; obtain⟨t2,ha,wa⟩:=ha; obtain⟨u2,hb,wb⟩:=hb
 refine⟨_,jxh h ha hb,fun B S H σ ρ Φ Q er q hd=>w B S H σ ρ _ _ er q fun k H1 hk s1=>?_⟩
 cases k with
 | true =>
  have hk:ta ρ Φ:=by simpa using hk
  simp only [if_true]
  exact wa B S H1 σ ρ _ _ (er.go s1) hk (hd.go s1)
 | false =>
  have hk:tb ρ Φ:=by simpa using hk
  simp only [Bool.false_eq_true,if_false]
  exact wb B S H1 σ ρ _ _ (er.go s1) hk (hd.go s1)
variable {es:List Expr}{tr:A3}
abbrev jj:A3:=fun _ Φ=>Φ []
abbrev jc (ta:E3)(tr:A3):A3:=fun ρ Φ=>ta ρ fun x=>tr ρ fun xs=>Φ (x::xs)
theorem jf:PAD X [] jj:=⟨_,jca,fun B S H σ ρ Φ Q er h hd=>hd [] [] H h (Same.refl _) Reps.nil⟩
theorem ja (ha:PD X e te)(hr:PAD X es tr)(hs:starEach (e::es) X.env=(false,eval e X.env)::starEach es X.env:=by rfl):PAD X (e::es) (jc te tr):=by
 obtain⟨t2,h,w⟩:=ha; obtain⟨u2,g,z⟩:=hr
 exact⟨_,jaZ h g hs,fun B S H σ ρ Φ Q er q hd=>w B S H σ ρ _ _ er q fun d v H1 hk s1 r=>z B S H1 σ ρ _ _ (er.go s1) hk fun ds vs H2 h2 s2 r2=>hd _ _ H2 h2 (s1.trans s2) (Reps.cons (r.same s2) r2)⟩
abbrev ja9 (t:A3):E3:=fun ρ Φ=>t ρ fun ds=>ds.length≤sizeLine∧Φ (.tup ds)
theorem jaB {x1}(h:PAD X es tr):PD X (.Tuple es x1 pos) (ja9 tr):=by
 obtain⟨t2,h,w⟩:=h
 exact⟨_,jAg h,fun B S H σ ρ Φ Q er q hd=>w B S H σ ρ _ _ er q fun ds vs H1 hk s1 r=>⟨by rw [←r.len]; exact hk.1,fun p hp=>hd _ _ _ hk.2 (s1.trans (jbf hp)) (Rep.newTup hp r)⟩⟩
abbrev onS {α:Type}(o:Option α)(Φ:α->Prop):Prop:=match o with | some d=>Φ d | none=>False
theorem jaC {α:Type}{o:Option α}{d:α}{Φ:α->Prop}(e:o=some d)(h:Φ d):onS o Φ:=by subst e; exact h
theorem jrZ {α:Type}{o:Option α}{Φ:α->Prop}(h:onS o Φ):∃d,o=some d∧Φ d:=by
 cases o with
 | none=>exact h.elim
 | some d=>exact⟨d,rfl,h⟩
abbrev ju:R3
 | .tup ds,.int i,Φ=>onS (atI ds i) Φ
 | .lst ds,.int i,Φ=>onS (atI ds i) Φ
 | _,_,_=>False
theorem jte {K:PySem.W.Frag}{S:Addr->Prop}{H:Hp}{ds:List D}{vs:List V}{i:Int}{d:D}(r:Reps K S H ds vs)(h:atI ds i=some d):∃v,atI vs i=some v∧Rep K S H d v:=by
 unfold atI at h ⊢
 rw [r.len] at h
 cases q:ixN vs.length i with
 | none=>rw [q] at h; cases h
 | some j =>
  rw [q] at h
  exact r.get h
theorem jk (ha:PD X a ta)(hb:PD X b tb)(hs:joi b):PD X (.Subscript a b pos) (jg ju ta tb):=by
 obtain⟨t2,h,w⟩:=ha; obtain⟨u2,g,z⟩:=hb
 refine⟨_,jya (ix_list.or jAB) h g hs,two w z fun S H x y u v Φ Q so rx ry hr hd=>?_⟩
 cases x <;> cases y <;> first | exact hr.elim | skip
 ·rename_i ds i
  obtain⟨p,xs,rfl,q,rs⟩:=jad rx
  obtain⟨d,e,hr⟩:=jrZ (show onS (atI ds i) Φ from hr)
  obtain⟨w,ew,rw'⟩:=jte rs e
  exact .inr ⟨p,xs,i,w,rfl,j5 ry,q,ew,hd _ _ H hr (Same.refl _) rw'⟩
 ·rename_i ds i
  obtain⟨p,xs,rfl,q,rs⟩:=j3 rx
  obtain⟨d,e,hr⟩:=jrZ (show onS (atI ds i) Φ from hr)
  obtain⟨w,ew,rw'⟩:=jte rs e
  exact .inl ⟨p,xs,i,w,rfl,j5 ry,q.sq,ew,hd _ _ H hr (Same.refl _) rw'⟩
end
section
variable {X:Cx}{st:Stmt}{jJ:List Stmt}{t u:S3}{a b e:Expr}{te ta tb:E3}{pos:Pos}
abbrev jau:S3:=fun Φ ρ=>Φ (.nx ρ)
abbrev juo (u:(F3->Prop)->jN->Prop)(Φ:F3->Prop):F3->Prop
 | .nx ρ=>u Φ ρ
 | .rt d=>Φ (.rt d)
 | .bk ρ=>Φ (.bk ρ)
 | .ct ρ=>Φ (.ct ρ)
abbrev jE (t u:S3):S3:=fun Φ ρ=>t (juo u Φ) ρ
theorem jaf:jhk X [] jau:=⟨_,jh9,fun B S H σ ρ Φ D' er h ok=>ok.nx ρ S H σ h er⟩
theorem jo (h1:PSD X st t)(h2:jhk X jJ u):jhk X (st::jJ) (jE t u):=by
 obtain⟨t2,h,w⟩:=h1; obtain⟨u2,g,z⟩:=h2
 refine⟨_,jbX h g,fun B S H σ ρ Φ D' er q ok=>w B S H σ ρ _ _ er q ⟨fun ρ' S' H' σ' p er'=>z B S' H' σ' ρ' Φ D' er' p ok,ok.bk,ok.ct,ok.rt⟩⟩
theorem js (h1:PSD X st t):jhk X [st] t:=let ⟨t2,h,w⟩:=h1; ⟨_,jeH h,w⟩
abbrev jff:S3:=fun _ _=>False
theorem jcL:PSD X st jff:=⟨_,jxy,fun _ _ _ _ _ _ _ _ h _=>h⟩
abbrev jM (te:E3):S3:=fun Φ ρ=>te ρ fun d=>Φ (.rt d)
theorem jw (he:PD X e te):PSD X (.Return (some e) pos) (jM te):=by
 obtain⟨t2,h,w⟩:=he
 exact⟨_,jnY h,fun B S H σ ρ Φ D' er q ok=>w B S H σ ρ _ _ er q fun d v H1 p s r=>ok.rt d v H1 p (er.same.trans s) (r.sub er.sub)⟩
abbrev sIf (c:B3)(t u:S3):S3:=fun Φ ρ=>c ρ fun k=>if k=true then t Φ ρ else u Φ ρ
theorem jaO {c:Expr}{as bs:List Stmt}{tc:B3}(hc:PB X c tc)(ha:jhk X as t)(hb:jhk X bs u):PSD X (.If c as bs pos) (sIf tc t u):=by
 obtain⟨c2,h,w⟩:=hc; obtain⟨t2,ha,wa⟩:=ha; obtain⟨u2,hb,wb⟩:=hb
 refine⟨_,jlo h ha hb,fun B S H σ ρ Φ D' er q ok=>w B S H σ ρ _ _ er q fun k H1 hk s1=>?_⟩
 cases k with
 | true =>
  have hk:t Φ ρ:=by simpa using hk
  simp only [if_true]
  exact wa B S H1 σ ρ _ _ (er.go s1) hk ok
 | false =>
  have hk:u Φ ρ:=by simpa using hk
  simp only [Bool.false_eq_true,if_false]
  exact wb B S H1 σ ρ _ _ (er.go s1) hk ok
theorem ER.put {K:PySem.W.Frag}{B:Bs}{S:Addr->Prop}{H:Hp}{σ:L2.St}{ρ:jN}{i:Nat}{d:D}{v:V}(er:ER K B S H σ ρ)(r:Rep K S H d v):ER K B S H (σ.set i (some v)) (ρ.set i (.val d)) where
 len:=by rw [List.length_set,List.length_set]; exact er.len
 same:=er.same
 sub:=er.sub
 ok0:=er.ok0
 ok:=er.ok
 val:=fun j c q=>by
  rw [List.getElem?_set] at q
  split at q
  ·rename_i hij
   subst hij
   split at q
   ·rename_i hl
    cases q
    exact⟨v,by rw [List.getElem?_set_self (by rw [er.len]; exact hl)],r⟩
   ·cases q
  ·rename_i hij
   obtain⟨w,e,r'⟩:=er.val j c q
   exact⟨w,by rw [List.getElem?_set_ne hij]; exact e,r'⟩
 own:=fun j c q=>by
  rw [List.getElem?_set] at q
  split at q
  ·split at q <;> cases q
  ·rename_i hij
   obtain⟨a,xs,e,r'⟩:=er.own j c q
   exact⟨a,xs,by rw [List.getElem?_set_ne hij]; exact e,r'⟩
 uq:=fun j k a ds es q1 q2 e1 e2=>by
  rw [List.getElem?_set] at q1 q2
  split at q1
  ·split at q1 <;> cases q1
  ·split at q2
   ·split at q2 <;> cases q2
   ·rename_i h1 h2
    rw [List.getElem?_set_ne h1] at e1
    rw [List.getElem?_set_ne h2] at e2
    exact er.uq j k a ds es q1 q2 e1 e2
 dct:=fun j ks ds q=>by
  rw [List.getElem?_set] at q
  split at q
  ·split at q <;> cases q
  ·rename_i hij
   obtain⟨a,e,r'⟩:=er.dct j ks ds q
   exact⟨a,by rw [List.getElem?_set_ne hij]; exact e,r'⟩
 dq:=fun j k a ks ds ks' ds' q1 q2 e1 e2=>by
  rw [List.getElem?_set] at q1 q2
  split at q1
  ·split at q1 <;> cases q1
  ·split at q2
   ·split at q2 <;> cases q2
   ·rename_i h1 h2
    rw [List.getElem?_set_ne h1] at e1
    rw [List.getElem?_set_ne h2] at e2
    exact er.dq j k a ks ds ks' ds' q1 q2 e1 e2
 rf:=fun j v q=>by
  rw [List.getElem?_set] at q
  split at q
  ·split at q <;> cases q
  ·rename_i hij
   rw [List.getElem?_set_ne hij]; exact er.rf j v q
 rwx:=fun j v q=>by
  rw [List.getElem?_set] at q
  split at q
  ·split at q <;> cases q
  ·rename_i hij
   rw [List.getElem?_set_ne hij]; exact er.rwx j v q
 gh:=er.gh
abbrev jD (i:Nat)(te:E3):S3:=fun Φ ρ=>te ρ fun d=>Φ (.nx (ρ.set i (.val d)))
theorem jp {i:Nat}{x:Str}{pos':Pos}(hN:X.N.Nodup)(hi:X.N[i]?=some x)(hx:Loc X.env.scope x)(he:PD X e te)(hs:swapsWith e (some (.Name x pos')) pos.line X.env=pure false:=by rfl)
  (hf:X.fn x=true∨X.env.scope.names.lookup x=some .local:=by first | exact .inl rfl | exact .inr rfl | assumption):PSD X (.Assign [.Name x pos'] e pos) (jD i te):=by
 obtain⟨t2,h,w⟩:=he
 exact⟨_,jkT hN hi hx h hs hf,fun B S H σ ρ Φ D' er q ok=>w B S H σ ρ _ _ er q fun d v H1 p s r=>ok.nx _ S H1 _ p ((er.go s).put r)⟩
end
abbrev jV:=List D->(D->Prop)->Prop
def jX (C:jV):Prop:=∀ds (Φ Ψ:D->Prop),(∀d,Φ d->Ψ d)->C ds Φ->C ds Ψ
def spD (K:PySem.W.Frag)(n:Nat)(C:jV):Sp:=fun vs H Q _=>∃ds S,ds.length=n∧Reps K S H ds vs∧SOk S H∧C ds fun d=>∀v H',Same H H'->Rep K S H' d v->Q v H'
abbrev jC (n:Nat)(C:jV)(ta:A3):E3:=fun ρ Φ=>ta ρ fun ds=>ds.length=n∧C ds Φ
section
variable {X:Cx}{k:Nat}{f:Addr}{fd:FuncData}{ps:List Str}{C:jV}{x:Str}{p pos:Pos}{e:Expr}{es:List Expr}{ta:A3}
theorem jzc (F:FnOk X.prog X.w X.K X.mg X.base j0 k f fd ps (spD X.K ps.length C))(mo:jX C)(hr:Room k X.A)(hg:Gl X x)(hm:X.mg x=some (.ref f))(hk:PySem.W.keepIn X.K (.ref f)=true)(hb:Binds X.K fd ps [])
  (ha:PAD X (e::es) ta) (hdb:(x == ("__debug__":Str))=false:=by decide) (he:starEach (e::es) X.env=(false,eval e X.env)::starEach es X.env:=by rfl) (hpl:(backTo pos (starEach es X.env)).any (·.1)=false:=by rfl) :
  PD X (.Call (.Name x p) (e::es) [] pos) (jC ps.length C ta):=by
 obtain⟨t2,h,w⟩:=ha
 refine⟨_,jtx F hr hg hm hk hb .nil jb5 h hdb he hpl,fun B S H σ ρ Φ Q er q hd=>w B S H σ ρ _ _ er q fun ds vs H1 hc s1 r=>?_⟩
 rw [List.append_nil]
 exact⟨ds,S,hc.1,r,er.ok.same s1,mo ds Φ _ (fun d hΦ v H' s r'=>hd d v H' hΦ (s1.trans s) r') hc.2⟩
end
abbrev jH (Φ:D->Prop):F3->Prop
 | .nx _=>Φ .non
 | .rt d=>Φ d
 | _=>False
def jz (n:Nat)(ds:List D):jN:=ds.map .val++List.replicate (n - ds.length) .un
theorem jms {K:PySem.W.Frag}{S:Addr->Prop}{H:Hp}{ds:List D}{vs:List V}{N:List Str}(r:Reps K S H ds vs)(so:SOk S H):ER K ⟨S,H,[]⟩ S H (L2.jbq N vs) (jz N.length ds) where
 len:=by
  unfold L2.jbq jz
  rw [List.length_append,List.length_append,List.length_map,List.length_map,List.length_replicate,List.length_replicate,r.len]
 same:=Same.refl _
 sub:=fun _ h=>h
 ok0:=so
 ok:=so
 val:=fun i d q=>by
  unfold jz at q
  rw [List.getElem?_append] at q
  split at q
  ·rename_i hl
   rw [List.length_map] at hl
   rw [List.getElem?_map] at q
   cases e:ds[i]? with
   | none=>rw [e] at q; cases q
   | some c =>
    rw [e] at q
    cases q
    obtain⟨v,ev,rv⟩:=r.get e
    refine⟨v,?_,rv⟩
    unfold L2.jbq
    rw [List.getElem?_append_left (by rw [List.length_map,←r.len]; exact hl),List.getElem?_map,ev]
    rfl
  ·rw [List.getElem?_replicate] at q
   split at q <;> cases q
 own:=fun i d q=>by
  unfold jz at q
  rw [List.getElem?_append] at q
  split at q
  ·rw [List.getElem?_map] at q
   cases e:ds[i]? with
   | none=>rw [e] at q; cases q
   | some c=>rw [e] at q; cases q
  ·rw [List.getElem?_replicate] at q
   split at q <;> cases q
 uq:=fun i j a d es q _ _ _=>by
  unfold jz at q
  rw [List.getElem?_append] at q
  split at q
  ·rw [List.getElem?_map] at q
   cases e:ds[i]? with
   | none=>rw [e] at q; cases q
   | some c=>rw [e] at q; cases q
  ·rw [List.getElem?_replicate] at q
   split at q <;> cases q
 dct:=fun i ks d q=>by
  unfold jz at q
  rw [List.getElem?_append] at q
  split at q
  ·rw [List.getElem?_map] at q
   cases e:ds[i]? with
   | none=>rw [e] at q; cases q
   | some c=>rw [e] at q; cases q
  ·rw [List.getElem?_replicate] at q
   split at q <;> cases q
 dq:=fun i j a ks d ks' ds' q _ _ _=>by
  unfold jz at q
  rw [List.getElem?_append] at q
  split at q
  ·rw [List.getElem?_map] at q
   cases e:ds[i]? with
   | none=>rw [e] at q; cases q
   | some c=>rw [e] at q; cases q
  ·rw [List.getElem?_replicate] at q
   split at q <;> cases q
 rf:=fun i v q=>by
  unfold jz at q
  rw [List.getElem?_append] at q
  split at q
  ·rw [List.getElem?_map] at q
   cases e:ds[i]? with
   | none=>rw [e] at q; cases q
   | some c=>rw [e] at q; cases q
  ·rw [List.getElem?_replicate] at q
   split at q <;> cases q
 rwx:=fun i v q=>by
  unfold jz at q
  rw [List.getElem?_append] at q
  split at q
  ·rw [List.getElem?_map] at q
   cases e:ds[i]? with
   | none=>rw [e] at q; cases q
   | some c=>rw [e] at q; cases q
  ·rw [List.getElem?_replicate] at q
   split at q <;> cases q
 gh:=fun p hp=>by cases hp
section
variable {P:Program}{w:World}{K:PySem.W.Frag}{mg:Str->Option Value}{base:Heap}
theorem jU {x qual:Str}{st:Stmt}{f:Addr}{fd:FuncData}{N ps:List Str}{k:Nat}{C:jV}(F:Fun K x qual st f fd)(S:jx N ps (ji st))
  (body:∀(cdv:Value) (A:Around) (outer:List Env) (s:Shared) (H:Hp) (E:XK),Room k (A.deeper (envOfC qual (ji st) s.heap.objs.size f cdv)) ->
   ∃t,jhk (jbU j0 P w K mg base N qual (ji st) f cdv A outer s H E).nox (jan st) t∧∀ds Φ,ds.length=ps.length->C ds Φ->t (jH Φ) (jz N.length ds)) :
  FnOk P w K mg base j0 (k+1) f fd ps (spD K ps.length C):=by
 refine F.ok S (fun vs H Q E h=>?_) (fun cdv A outer s H vs Q E hr h=>?_)
 ·obtain⟨ds,S,hl,r,_⟩:=h
  rw [←r.len]; exact hl
 ·obtain⟨t,⟨t2,ht,wt⟩,rd⟩:=body cdv A outer s H E hr
  obtain⟨ds,S,hl,r,so,hc⟩:=h
  refine⟨t2,ht,wt ⟨S,H,[]⟩ S H (L2.jbq N vs) (jz N.length ds) (jH fun d=>∀v H',Same H H'->Rep K S H' d v->Q v H') _ (jms r so) (rd ds _ hl hc) ⟨?_,?_,?_,?_⟩⟩
  ·intro ρ S' H' σ' h er
   exact h .non H' er.same Rep.non
  ·intro ρ S' H' σ' h er
   exact h.elim
  ·intro ρ S' H' σ' h er
   exact h.elim
  ·intro d v H' h s r'
   exact h v H' s r'
end
def jrj:jV:=fun ds Φ=>∃ns:List Int,ds=[.lst (ns.map .int)]∧ns.length≤63∧Φ (.bl true)
theorem jAs {K:PySem.W.Frag}{H:Hp}{a:Addr}{ns:List Int}(hl:ns.length≤63)(h:SqL K H a (ns.map V.int)):spD K 1 jrj [.ref a] H (fun v _=>v=.bl true) fun _ _ _=>False:=by
 refine⟨[.lst (ns.map .int)],fun _=>False,rfl,Reps.cons (Rep.lst ?_ (Reps.ints ns)) Reps.nil,fun a h=>h.elim,ns,rfl,hl,fun v H' s r=>jaz r⟩
 exact h.elim (fun x=>.inl ⟨id,x⟩) .inr
theorem jCx {l:PySem.W.OpenLaw}{q:Program}{k:Nat}{loose:List Str}{XP:(Str->Option Value)->Heap->Prop}{YP:World->Heap->Prop}{d:DefRec}{K:Params->PySem.W.Frag}(hn:l.most=some 63)(hdf:d.params.defaults=[])(hr:Room k callerA)
  (hY:∀(w:World) (h:Heap),YP w h->(K w.params).In h)
  (F:∀(w:World) (mg:Str->Option Value) (fa:Addr) (h:Heap),(K w.params).In h->h.Ns mainGlobals mg->mg d.name=some (.ref fa) ->
   ∃fd:FuncData,(∀(s:Shared) (u:Value),BindsTo s fd ⟨[u],[]⟩ [("script",u)])∧∀base:Heap,(K w.params).In base->base.Ns mainGlobals mg->FnOk l.prog w (K w.params) mg base j0 k fa fd ["script"] (spD (K w.params) 1 jrj)) :
  PySem.W.WalkO q loose XP YP l.row.toRowW d [] (fun f vs=>PySem.call f vs) :=
 L2.jzv (n:=63) (k:=k) (x:="script") (CX:=fun _=>j0) (sp:=fun w=>spD (K w.params) 1 jrj) hn (by decide) hdf hr hY F (fun _ _ a ns hl _ hS=>jAs hl hS) fun _ _ _ _ _ z=>z
abbrev G3:=D->jN->(jN->Prop)->Prop
def PGD (X:Cx)(tg:Expr)(g:G3):Prop:=∃g2,PG X tg g2∧∀B S H σ ρ d v Ψ (Q:L2.St->Hp->Prop),ER X.K B S H σ ρ->Rep X.K S H d v->g d ρ Ψ->(∀ρ' σ',Ψ ρ'->ER X.K B S H σ' ρ'->Q σ' H)->g2 v σ H Q
section
variable {X:Cx}{e:Expr}{es:List Expr}{pos:Pos}{te:E3}
abbrev gN (i:Nat):G3:=fun d ρ Ψ=>Ψ (ρ.set i (.val d))
theorem jgi {i:Nat}{x:Str}(hN:X.N.Nodup)(hi:X.N[i]?=some x)(hx:Loc X.env.scope x)(hf:X.fn x=true∨X.env.scope.names.lookup x=some .local:=by first | exact .inl rfl | exact .inr rfl | assumption):PGD X (.Name x pos) (gN i) :=
 ⟨_,js8 hN hi hx hf,fun B S H σ ρ d v Ψ Q er r h k=>k _ _ h (er.put r)⟩
end
abbrev jx1 (k:(F3->Prop)->jN->Prop)(Φ:F3->Prop):F3->Prop
 | .nx ρ=>k Φ ρ
 | .ct ρ=>k Φ ρ
 | .bk ρ=>Φ (.nx ρ)
 | .rt d=>Φ (.rt d)
def FOR (g:G3)(tb:S3):List D->(F3->Prop)->jN->Prop
 | [],Φ,ρ=>Φ (.nx ρ)
 | d::ds,Φ,ρ=>g d ρ fun ρ1=>tb (jx1 (FOR g tb ds) Φ) ρ1
def Wlk (K:PySem.W.Frag)(J:It)(d:D)(v:V)(ds:List D):Prop:=∀S H,Rep K S H d v->J.stop ds.length H∧∀(i:Nat),i<ds.length->J.go i H∧∀x H',J.yld i H x H'->H'=H∧∃e,ds[i]?=some e∧Rep K S H e x
def jqO (K:PySem.W.Frag)(J:It)(hs:List (D×V))(ds:List D):Prop:=∀S H,(∀p∈hs,Rep K S H p.1 p.2)->J.stop ds.length H∧∀(i:Nat),i<ds.length->J.go i H∧∀x H',J.yld i H x H'->Same H H'∧∃e,ds[i]?=some e∧Rep K S H' e x
theorem Wlk.l {K:PySem.W.Frag}{J:It}{d:D}{v:V}{ds:List D}(h:Wlk K J d v ds):jqO K J [(d,v)] ds:=fun S H r=>by
 obtain⟨a,b⟩:=h S H (r (d,v) (by simp))
 refine⟨a,fun i hi=>⟨(b i hi).1,fun x H' y=>?_⟩⟩
 obtain⟨rfl,e,ee,re⟩:=(b i hi).2 x H' y
 exact⟨Same.refl _,e,ee,re⟩
def PID (X:Cx)(tg iter:Expr)(t:A3):Prop:=∃wi,PI X tg iter wi∧∀B S H σ ρ Φ (R:It->Hp->Prop),ER X.K B S H σ ρ->t ρ Φ->(∀ds J hs H1,Φ ds->Same H H1->(∀p∈hs,Rep X.K S H1 p.1 p.2)->jqO X.K J hs ds->R J H1)->wi σ H R
theorem PID.one {X:Cx}{tg iter:Expr}{t:A3}(h:∃wi,PI X tg iter wi∧∀B S H σ ρ Φ (R:It->Hp->Prop),ER X.K B S H σ ρ->t ρ Φ->(∀ds J d v H1,Φ ds->Same H H1->Rep X.K S H1 d v->Wlk X.K J d v ds->R J H1)->wi σ H R):PID X tg iter t:=by
 obtain⟨wi,hi,ww⟩:=h
 refine⟨wi,hi,fun B S H σ ρ Φ R er q k=>ww B S H σ ρ Φ R er q fun ds J d v H1 hΦ s r w=>k ds J [(d,v)] H1 hΦ s (fun p hp=>?_) w.l⟩
 have e:p=(d,v):=by simpa using hp
 subst e
 exact r
theorem ER.holds {K:PySem.W.Frag}{B:Bs}{S:Addr->Prop}{H:Hp}{σ:L2.St}{ρ:jN}{hs:List (D×V)}(er:ER K B S H σ ρ)(r:∀p∈hs,Rep K S H p.1 p.2):ER K { B with gh:=hs++B.gh } S H σ ρ :=
 ⟨er.len,er.same,er.sub,er.ok0,er.ok,er.val,er.own,er.uq,er.dct,er.dq,er.rf,er.rwx,fun p hp=>by
  rcases List.mem_append.mp hp with hp | hp
  ·exact r p hp
  ·exact er.gh p hp⟩
theorem ER.unholds {K:PySem.W.Frag}{B:Bs}{S:Addr->Prop}{H:Hp}{σ:L2.St}{ρ:jN}{hs:List (D×V)}(er:ER K { B with gh:=hs++B.gh } S H σ ρ):ER K B S H σ ρ :=
 ⟨er.len,er.same,er.sub,er.ok0,er.ok,er.val,er.own,er.uq,er.dct,er.dq,er.rf,er.rwx,fun q hq=>er.gh q (List.mem_append_right _ hq)⟩
section
variable {X:Cx}{tg iter e:Expr}{body:List Stmt}{ti:A3}{g:G3}{tb:S3}{te:E3}{pos:Pos}
abbrev jxw (ti:A3)(g:G3)(tb:S3):S3:=fun Φ ρ=>ti ρ fun ds=>FOR g tb ds Φ ρ
theorem jtE (hp:PassesOwn (model X.prog X.w) X.A X.env X.xe)(hc:X.calm=true)(hi:PID X tg iter ti)(hg:PGD X tg g)(hb:jhk X body tb)
  (hfs:∀x,foldedSetIterable iter X.env x=pure x:=by intro _; rfl):PSD X (.For tg iter body [] pos) (jxw ti g tb):=by
 obtain⟨wi,hi,ww⟩:=hi; obtain⟨g2,hg,wg⟩:=hg; obtain⟨b2,hb,wb⟩:=hb
 refine⟨_,jvO hp hc hi hg hb hfs,fun B S H σ ρ Φ D' er q ok=>ww B S H σ ρ _ _ er q fun ds J hs H1 hΦ s1 rv wk=>?_⟩
 refine⟨fun i m σ' H'=>m=ds.length - i∧i≤ds.length∧∃S' ρ',ER X.K { B with gh:=hs++B.gh } S' H' σ' ρ'∧FOR g tb (ds.drop i) Φ ρ',⟨_,rfl,Nat.zero_le _,S,ρ,(er.go s1).holds rv,hΦ⟩,?_⟩
 rintro i m σ' H' ⟨rfl,hi,S',ρ',er',hf⟩
 have rg:=fun p (hp:p∈hs)=>er'.gh p (List.mem_append_left _ hp)
 obtain⟨wstop,wgo⟩:=wk S' H' rg
 by_cases hlt:i<ds.length
 ·obtain⟨go,yl⟩:=wgo i hlt
  rw [List.drop_eq_getElem_cons hlt] at hf
  refine .inr ⟨go,fun σ2 H2=>∃S2 ρ2,ER X.K { B with gh:=hs++B.gh } S2 H2 σ2 ρ2∧FOR g tb (ds.drop (i+1)) Φ ρ2,fun σ2 H2 h2=>⟨_,by omega,rfl,hlt,h2⟩,fun x H2 y=>?_⟩
  obtain⟨sy,e',ee,re⟩:=yl x H2 y
  rw [List.getElem?_eq_getElem hlt] at ee
  cases ee
  refine wg _ S' _ σ' ρ' _ x _ _ (er'.go sy) re hf fun ρ1 σ1 h1 er1=>wb _ S' _ σ1 ρ1 _ _ er1 h1 ⟨fun ρ2 S2 H2 σ2 p er2=>⟨S2,ρ2,er2,p⟩,fun ρ2 S2 H2 σ2 p er2=>ok.nx ρ2 S2 H2 σ2 p er2.unholds,fun ρ2 S2 H2 σ2 p er2=>⟨S2,ρ2,er2,p⟩,fun c u H2 p s2 r2=>ok.rt c u H2 p s2 r2⟩
 ·have hi':i=ds.length:=by omega
  subst hi'
  rw [List.drop_length] at hf
  exact .inl ⟨wstop,ok.nx ρ' S' H' σ' hf er'.unholds⟩
def ups (lo:Int)(n:Nat):List D:=(List.range n).map fun (i:Nat)=>D.int (lo+(i:Int))
theorem jji (lo:Int)(n:Nat):(ups lo n).length=n:=by simp [ups]
theorem ju0 (K:PySem.W.Frag)(lo:Int)(n:Nat):Wlk K (Itr lo n) .non .non (ups lo n):=fun S H _=>by
 refine⟨by show n≤_; rw [jji]; exact Nat.le_refl _,fun i hi=>⟨by rw [jji] at hi; exact hi,fun x H' y=>?_⟩⟩
 obtain⟨rfl,rfl⟩:=y
 refine⟨rfl,.int (lo+i),?_,Rep.int⟩
 rw [jji] at hi
 simp [ups,hi]
abbrev iR1 (ta:A3):A3:=fun ρ Φ=>ta ρ fun ds=>match ds with | [.int j]=>-(2^62)≤j∧j<2^62∧Φ (ups 0 j.toNat) | _=>False
theorem jbz {a:Expr}{ta:A3}{p pos:Pos}(hg:Gl X "range")(hm:X.mg "range"=none)(ha:PAD X [a] ta)(hs:starEach [a] X.env=[(false,eval a X.env)]:=by rfl):PID X tg (.Call (.Name "range" p) [a] [] pos) (iR1 ta):=by
 obtain⟨t2,h,w⟩:=ha
 refine PID.one ⟨_,jvI hg hm h hs,fun B S H σ ρ Φ R er q k=>w B S H σ ρ _ _ er q fun ds vs H1 p s r=>?_⟩
 match ds,p with
 | [.int j],p =>
  simp only [Reps,Rep] at r
  obtain⟨u,_,rfl,rfl,rfl⟩:=r
  exact⟨j,rfl,p.1,p.2.1,k _ _ .non .non H1 p.2.2 s Rep.non (ju0 _ _ _)⟩
abbrev jum (N:jN->Prop)(Φ:F3->Prop):F3->Prop
 | .nx ρ=>N ρ
 | .ct ρ=>N ρ
 | .bk ρ=>Φ (.nx ρ)
 | .rt d=>Φ (.rt d)
def jk3 (tc:B3)(tb:S3):S3:=fun Φ ρ=>∃W:Nat->jN->Prop,(∃m,W m ρ)∧∀m ρ,W m ρ->tc ρ fun k=>if k=true then tb (jum (fun ρ'=>∃m',m'<m∧W m' ρ') Φ) ρ else Φ (.nx ρ)
theorem jk9 {c:Expr}{tc:B3}(hp:PassesOwn (model X.prog X.w) X.A X.env X.xe)(hc:PB X c tc)(hb:jhk X body tb):PSD X (.While c body [] pos) (jk3 tc tb):=by
 obtain⟨c2,hc,wc⟩:=hc; obtain⟨b2,hb,wb⟩:=hb
 refine⟨_,jwL hp hc hb,fun B S H σ ρ Φ D' er ⟨W,⟨m0,w0⟩,turn⟩ ok=>?_⟩
 refine⟨fun m σ' H'=>∃S' ρ',ER X.K B S' H' σ' ρ'∧W m ρ',⟨m0,S,ρ,er,w0⟩,?_⟩
 rintro m σ' H' ⟨S',ρ',er',w'⟩
 refine wc B S' H' σ' ρ' _ _ er' (turn m ρ' w') fun k H1 hk s1=>?_
 cases k with
 | true =>
  have hk:tb (jum (fun ρ'=>∃m',m'<m∧W m' ρ') Φ) ρ':=by simpa using hk
  simp only [if_true]
  refine⟨fun σ2 H2=>∃S2 ρ2 m',m'<m∧ER X.K B S2 H2 σ2 ρ2∧W m' ρ2,fun σ2 H2 ⟨S2,ρ2,m',lt,er2,w2⟩=>⟨m',lt,S2,ρ2,er2,w2⟩,?_⟩
  exact wb B S' H1 σ' ρ' _ _ (er'.go s1) hk ⟨fun ρ2 S2 H2 σ2 ⟨m',lt,w2⟩ er2=>⟨S2,ρ2,m',lt,er2,w2⟩,fun ρ2 S2 H2 σ2 p er2=>ok.nx ρ2 S2 H2 σ2 p er2,fun ρ2 S2 H2 σ2 ⟨m',lt,w2⟩ er2=>⟨S2,ρ2,m',lt,er2,w2⟩,ok.rt⟩
 | false =>
  have hk:Φ (.nx ρ'):=by simpa using hk
  simp only [Bool.false_eq_true,if_false]
  exact ok.nx ρ' S' H1 σ' hk (er'.go s1)
theorem jla {tc:B3}{tb:S3}{Φ:F3->Prop}{ρ:jN}(I:jN->Prop)(μ:jN->Nat)(h0:I ρ)
  (hs:∀ρ,I ρ->tc ρ fun k=>if k=true then tb (jum (fun ρ'=>∃m',m'<μ ρ∧m'=μ ρ'∧I ρ') Φ) ρ else Φ (.nx ρ)):jk3 tc tb Φ ρ :=
 ⟨fun m ρ=>m=μ ρ∧I ρ,⟨_,rfl,h0⟩,fun m ρ ⟨e,p⟩=>by subst e; exact hs ρ p⟩
end
section
open PySem.MeetsSeq PySem.AutoSeq1
theorem jrL (l:Addr)(items:Array Value)(n:Nat)(b:Addr)(items2:Array Value)(n2:Nat)(dd dd2:Option Addr)(sl sl2:Array (Option Value))(hc0:items.size+items2.size≤sizeLine) :
  Meets (Builtin.«list.__add__» ⟨[.ref l,.ref b],[]⟩) (fun _ R s=>s.heap.get? l=some { cls:=.type "list",dict:=dd,data:=.seq items n,slots:=sl }∧s.heap.get? b=some { cls:=.type "list",dict:=dd2,data:=.seq items2 n2,slots:=sl2 }∧R (.ok (.ret (Value.ref s.heap.objs.size))) { s with heap:=s.heap.push { cls:=Value.type "list",data:=Data.seq (items++items2) },toks:=s.toks }) :=
 .of_wp fun prog w A R s h=>by obtain⟨hp,g,d,tk,os⟩:=s; obtain⟨hl,hb,h⟩:=h; have f1:=AutoSeq1.idx_int; have f2:=AutoSeq1.sub_tuple_tuple; have f3:=AutoSeq1.sub_list_list; have f4:=AutoSeq1.sub_tuple_list; have f5:=AutoSeq1.sub_list_tuple; wp_walk using wpAny_loadPart' hl,wpAny_loadPart' hb; exact⟨_,rfl,h⟩
theorem jrO {prog:Program}{w:World}{A:Around}{E:Value->Shared->Prop}{s:Shared}{l b:Addr}{items items2:Array Value}{Q:Value->Shared->Prop}(hl:PlainL s.heap l items)(hb:PlainL s.heap b items2)
  (h:Q (.ref s.heap.objs.size) { s with heap:=s.heap.push { cls:=.type "list",data:=.seq (items++items2) } }) (hsz:items.size+items2.size≤sizeLine):wpAny (model prog w) A (binaryOp .Add (.ref l) (.ref b)) Q E s:=by
 obtain⟨o,n,e,hc,hd,hq⟩:=hl
 obtain⟨o2,n2,e2,hc2,hd2,hq2⟩:=hb
 obtain⟨c,dd,da,sl⟩:=o
 obtain⟨c2,dd2,da2,sl2⟩:=o2
 subst hc hd hq hc2 hd2 hq2
 exact concat_meets ⟨_,e,rfl⟩ ⟨_,e2,rfl⟩ noFill_list_add seq_list_add F.slot_list_add F.entry_list_add (F.args_list_add_2 _ _) (jrL l items n b items2 n2 none none sl sl2 hsz) ⟨e,e2,h⟩
end
def jux (K:PySem.W.Frag)(S:Addr->Prop)(H:Hp)(Φ:List D->Prop)(Q:VK):Prop:=∀ds xs p H1,Φ ds->Same H H1->H1 p=none->Reps K S H1 ds xs->Q (.ref p) (j1 H1 p (.lst xs))
def PF (X:Cx)(e:Expr)(t:A3):Prop:=∃t2,PE X e t2∧∀B S H σ ρ Φ Q,ER X.K B S H σ ρ->t ρ Φ->jux X.K S H Φ Q->t2 σ H Q
abbrev dF (t:A3):E3:=fun ρ Φ=>t ρ fun ds=>Φ (.lst ds)
section
variable {X:Cx}{a b c e:Expr}{ta tb tc te:E3}{tr tf:A3}{es:List Expr}{pos:Pos}
theorem jB (h:PF X e tf):PD X e (dF tf):=by
 obtain⟨t2,h,w⟩:=h
 exact⟨_,h,fun B S H σ ρ Φ Q er q hd=>w B S H σ ρ _ _ er q fun ds xs p H1 hΦ s1 hp r=>hd _ _ _ hΦ (s1.trans (jbf hp)) (Rep.newLst (er.ok.same s1) hp r)⟩
abbrev jam (t:A3):A3:=fun ρ Φ=>t ρ fun ds=>ds.length≤sizeLine∧Φ ds
theorem jak (h:PAD X es tr):PF X (.List es pos) (jam tr):=by
 obtain⟨t2,h,w⟩:=h
 exact⟨_,jrW h,fun B S H σ ρ Φ Q er q hd=>w B S H σ ρ _ _ er q fun ds vs H1 hk s1 r=>⟨by rw [←r.len]; exact hk.1,fun p hp=>hd _ _ p H1 hk.2 s1 hp r⟩⟩
abbrev O3:=jN->(Option Int->Prop)->Prop
def POD (X:Cx)(e:Option Expr)(t:O3):Prop:=∃t2,PO X e t2∧∀B S H σ ρ Φ (Q:Option Int->Hp->Prop),ER X.K B S H σ ρ->t ρ Φ->(∀o H',Φ o->Same H H'->Q o H')->t2 σ H Q
abbrev jx8:O3:=fun _ Φ=>Φ none
abbrev jx5 (te:E3):O3:=fun ρ Φ=>te ρ fun d=>match d with | .int i=>Φ (some i) | _=>False
theorem jxz:POD X none jx8:=⟨_,jyo,fun B S H σ ρ Φ Q er q hd=>hd none H q (Same.refl _)⟩
theorem jwu (h:PD X e te):POD X (some e) (jx5 te):=by
 obtain⟨t2,h,w⟩:=h
 refine⟨_,jyG h,fun B S H σ ρ Φ Q er q hd=>w B S H σ ρ _ _ er q fun d v H1 hk s1 r=>?_⟩
 cases d <;> first | exact hk.elim | skip
 exact⟨_,j5 r,hd _ H1 hk s1⟩
abbrev ja7 (ta tb:E3):A3:=fun ρ Φ=>ta ρ fun x=>tb ρ fun y=>match x,y with | .lst ds,.lst es=>ds.length+es.length≤sizeLine∧Φ (ds++es) | _,_=>False
def jBH (K:PySem.W.Frag):R2:=fun x y H Q=>∃l b xs zs,x=.ref l∧y=.ref b∧SqL K H l xs∧SqL K H b zs∧xs.length+zs.length≤sizeLine∧∀p,H p=none->Q (.ref p) (j1 H p (.lst (xs++zs)))
theorem jtn:OpR X (binaryOp .Add) (jBH X.K):=by
 intro pins s σ H x y v u Q I rx ry h
 obtain⟨l,b,xs,zs,rfl,rfl,hH,hB,hz,q⟩:=h
 cases rx
 cases ry
 obtain⟨its,r,pl,hl⟩:=I.list hH
 obtain⟨its2,r2,pl2,hl2⟩:=I.list hB
 have e1:=r.length
 have e2:=r2.length
 refine jrO pl pl2 ?_ (by rw [List.size_toArray,List.size_toArray]; omega)
 have ea:its.toArray++its2.toArray=(its++its2).toArray:=by simp
 rw [ea]
 exact⟨.ref _,_,I.lnew (t':=s.toks) (r.append r2) (by rw [List.length_append]; omega),rfl,q _ I.fresh⟩
theorem jbc (ha:PD X a ta)(hb:PD X b tb):PF X (.BinOp a .Add b pos) (ja7 ta tb):=by
 obtain⟨t2,h,w⟩:=ha; obtain⟨u2,g,z⟩:=hb
 refine⟨_,juA jtn h g,fun B S H σ ρ Φ Q er q hd=>w B S H σ ρ _ _ er q fun x u H1 p1 s1 r1=>z B S H1 σ ρ _ _ (er.go s1) p1 fun y v H2 p2 s2 r2=>?_⟩
 match x,y,p2 with
 | .lst ds,.lst es,p2 =>
  obtain⟨a,xs,rfl,lr,rs⟩:=j3 (r1.same s2)
  obtain⟨a',xs',rfl,lr',rs'⟩:=j3 r2
  exact⟨a,a',xs,xs',rfl,rfl,lr.sq,lr'.sq,by rw [←rs.len,←rs'.len]; exact p2.1,fun p hp=>hd _ _ p H2 p2.2 (s1.trans s2) hp (rs.app rs')⟩
end
def jeR (X:Cx)(f:Value)(r3:jV):Prop:=∃r,jcS X f r∧∀S H ds vs Φ Q,SOk S H->Reps X.K S H ds vs->r3 ds Φ->Hand X.K S H Φ Q->r vs H Q
abbrev dB (r:jV)(t:A3):E3:=fun ρ Φ=>t ρ fun ds=>r ds Φ
section
variable {X:Cx}{x:Str}{p pos:Pos}{e:Expr}{es:List Expr}{t tr:A3}{te tb:E3}{id T:String}{r:jV}
theorem jax (hc:jeR X (.builtin id) r)(hg:Gl X x)(hm:X.mg x=none)(hv:bootBuiltins x=some (.builtin id))(ha:PAD X (e::es) t)(hn:x≠"__name__":=by decide)(hdb:(x == ("__debug__":Str))=false:=by decide)
  (he:starEach (e::es) X.env=(false,eval e X.env)::starEach es X.env:=by rfl) (hpl:(backTo pos (starEach es X.env)).any (·.1)=false:=by rfl):PD X (.Call (.Name x p) (e::es) [] pos) (dB r t):=by
 obtain⟨r2,hc,wc⟩:=hc; obtain⟨t2,h,w⟩:=ha
 exact⟨_,jjy hc hg hm hv h hn hdb he hpl,fun B S H σ ρ Φ Q er q hd=>w B S H σ ρ _ _ er q fun ds vs H1 p1 s1 r1=>wc S H1 ds vs Φ Q (er.ok.same s1) r1 p1 (hd.go s1)⟩
theorem ja6 (hc:jeR X (.type T) r)(hg:Gl X x)(hm:X.mg x=none)(hv:bootBuiltins x=some (.type T))(ha:PAD X (e::es) t)(hn:x≠"__name__":=by decide)(hdb:(x == ("__debug__":Str))=false:=by decide)
  (he:starEach (e::es) X.env=(false,eval e X.env)::starEach es X.env:=by rfl) (hpl:(backTo pos (starEach es X.env)).any (·.1)=false:=by rfl):PD X (.Call (.Name x p) (e::es) [] pos) (dB r t):=by
 obtain⟨r2,hc,wc⟩:=hc; obtain⟨t2,h,w⟩:=ha
 exact⟨_,jve hc hg hm hv h hn hdb he hpl,fun B S H σ ρ Φ Q er q hd=>w B S H σ ρ _ _ er q fun ds vs H1 p1 s1 r1=>wc S H1 ds vs Φ Q (er.ok.same s1) r1 p1 (hd.go s1)⟩
abbrev jeb:jV
 | [.lst ds],Φ=>Φ (.int ds.length)
 | [.tup ds],Φ=>Φ (.int ds.length)
 | _,_=>False
theorem jcW:jeR X (.builtin "len") jeb:=⟨_,jse,fun S H ds vs Φ Q so r h hd=>by
 match ds,h with
 | [.lst ds],h =>
  simp only [Reps] at r
  obtain⟨v,_,rfl,rv,rfl⟩:=r
  obtain⟨a,xs,rfl,lr,rs⟩:=j3 rv
  exact⟨a,xs,rfl,.inl lr.sq,hd _ _ H h (Same.refl _) (by rw [rs.len]; exact Rep.int)⟩
 | [.tup ds],h =>
  simp only [Reps] at r
  obtain⟨v,_,rfl,rv,rfl⟩:=r
  obtain⟨a,xs,rfl,lr,rs⟩:=jad rv
  exact⟨a,xs,rfl,.inr lr,hd _ _ H h (Same.refl _) (by rw [rs.len]; exact Rep.int)⟩⟩
abbrev jBe:jV
 | [.int i],Φ=>Φ (.int (i.natAbs:Int))
 | _,_=>False
theorem jBJ:jeR X (.builtin "abs") jBe:=⟨_,jw7,fun S H ds vs Φ Q so r h hd=>by
 match ds,h with
 | [.int i],h =>
  simp only [Reps,Rep] at r
  obtain⟨v,_,rfl,rfl,rfl⟩:=r
  have e:(if i<0 then -i else i)=(i.natAbs:Int):=by split <;> omega
  exact⟨i,rfl,hd _ _ H h (Same.refl _) (by rw [e]; exact Rep.int)⟩⟩
abbrev je8:jV
 | [.lst ds],Φ=>Φ (.tup ds)
 | [.tup ds],Φ=>Φ (.tup ds)
 | _,_=>False
theorem jet:jeR X (.type "tuple") je8:=⟨_,jql,fun S H ds vs Φ Q so r h hd=>by
 match ds,h with
 | [.lst ds],h =>
  simp only [Reps] at r
  obtain⟨v,_,rfl,rv,rfl⟩:=r
  obtain⟨a,xs,rfl,lr,rs⟩:=j3 rv
  exact⟨a,xs,rfl,.inl ⟨lr.sq,fun l hl=>hd _ _ _ h (jbf hl) (Rep.newTup hl rs)⟩⟩
 | [.tup ds],h =>
  simp only [Reps] at r
  obtain⟨v,_,rfl,rv,rfl⟩:=r
  obtain⟨a,xs,rfl,lr,rs⟩:=jad rv
  exact⟨a,xs,rfl,.inr ⟨lr,hd _ _ _ h (Same.refl _) (Rep.tup lr rs)⟩⟩⟩
def isInt:D->Bool
 | .int _=>true
 | .bl _=>true
 | _=>false
def jnh:D->Bool
 | .str _=>true
 | _=>false
def tyD:D->String
 | .non=>"NoneType"
 | .bl _=>"bool"
 | .int _=>"int"
 | .str _=>"str"
 | .tup _=>"tuple"
 | .lst _=>"list"
theorem jwm {pins:List (Addr×Obj)}{σ:L2.St}{H:Hp}{s:Shared}{A:Around}{E:Value->Shared->Prop}{Q:Value->Shared->Prop}{c:Value}{b:Bool}{S:Addr->Prop}{d:D}{x:V}{u:Value}(I:Inv X pins σ H s)(rx:RelV x u)(rd:Rep X.K S H d x)
  (e:PySem.W.kitOne X.K (.type (tyD d)) c=some b) (h:∀tk,Q (.bool b) { s with toks:=tk }):wpAny (model X.prog X.w) A (call (.builtin "isinstance") [u,c]) Q E s:=by
 cases d with
 | non=>cases jao rd; exact jg3 I rx .non e h
 | bl k=>cases jaz rd; exact jg3 I rx (.bl k) e h
 | int k=>cases j5 rd; exact jg3 I rx (.int k) e h
 | str k=>cases jaG rd; exact jg3 I rx (.str k) e h
 | tup ds =>
  obtain⟨a,xs,rfl,lr,rs⟩:=jad rd
  cases (show u=Value.ref a from rx)
  obtain⟨its,r',pl,hz⟩:=I.tuple lr
  obtain⟨o,h1,h2,_⟩:=pl
  exact PySem.W.kia_one PySem.W.kitx_tuple I.kIn ⟨o,h1,h2⟩ e (fun z=>by cases z) h
 | lst ds =>
  obtain⟨a,xs,rfl,lr,rs⟩:=j3 rd
  cases (show u=Value.ref a from rx)
  obtain⟨its,r',pl,hz⟩:=I.list lr.sq
  obtain⟨o,n,h1,h2,_⟩:=pl
  exact PySem.W.kia_one PySem.W.kitx_list I.kIn ⟨o,h1,h2⟩ e (fun z=>by cases z) h
def jAV (T:String)(f:D->Bool):Prop:=∀(K:PySem.W.Frag) (d:D),PySem.W.kitOne K (.type (tyD d)) (.type T)=some (f d)
theorem jwf:jAV "str" jnh:=fun K d=>by cases d <;> rfl
abbrev jxu (f:D->Bool)(te:E3):E3:=fun ρ Φ=>te ρ fun d=>Φ (.bl (f d))
theorem jp4 {f:D->Bool}{y:Str}{py:Pos}(hT:jAV T f)(hg:Gl X x)(hm:X.mg x=none)(hv:bootBuiltins x=some (.builtin "isinstance"))(hgy:Gl X y)(hmy:X.mg y=none)(hvy:bootBuiltins y=some (.type T))(ha:PD X e te)
  (hn:x≠"__name__":=by decide) (hdb:(x == ("__debug__":Str))=false:=by decide) (hny:y≠"__name__":=by decide) (hdy:(y == ("__debug__":Str))=false:=by decide)
  (he:starEach [e,.Name y py] X.env=[(false,eval e X.env),(false,eval (.Name y py) X.env)]:=by rfl) (he2:starEach [.Name y py] X.env=[(false,eval (.Name y py) X.env)]:=by rfl) :
  PD X (.Call (.Name x p) [e,.Name y py] [] pos) (jxu f te):=by
 obtain⟨t2,h,w⟩:=ha
 have cr:jcS X (.builtin "isinstance") (fun xs H Q=>∃S d v,xs=[v,.ty T]∧Rep X.K S H d v∧Q (.bl (f d)) H):=fun pins s σ H xs us Q I rs ⟨S,d,v,e1,rd,q⟩=>by
  subst e1
  obtain⟨u,u2,rfl,r1,r2⟩:=jxM rs
  cases (show u2=Value.type T from r2)
  exact jwm I r1 rd (hT X.K d) fun tk=>⟨.bl _,H,I.tok tk,rfl,q⟩
 refine⟨_,jjy cr hg hm hv (jaZ h (jaZ (js5 hgy hmy hvy (show RelV (.ty T) (.type T) from rfl) hny hdy) jca he2) (by rw [he,he2])) hn hdb (by rw [he,he2]) (by rw [he2]; rfl),fun B S H σ ρ Φ Q er q hd=>w B S H σ ρ _ _ er q fun d v H1 p1 s1 r1=>?_⟩
 exact⟨S,d,v,rfl,r1,hd _ _ H1 p1 s1 Rep.bl⟩
end
def jbO (env:Env):List (Str×NameKind)->List (Str×Addr)->List (Str×Addr)
 | [],cs=>cs
 | (n,k)::r,cs=>if (k == .free)=true then (match env.cells.lookup n with | some c=>jbO env r ((n,c)::cs) | none=>jbO env r cs) else jbO env r cs
theorem jnP {scope:Scope}{env:Env}(h:∀p∈scope.names,p.2=.free->∃c,env.cells.lookup p.1=some c):closureFor scope env=pure (jbO env scope.names []):=by
 unfold closureFor
 have key:∀(l:List (Str×NameKind)) (cs:List (Str×Addr)),(∀p∈l,p.2=.free->∃c,env.cells.lookup p.1=some c) ->
   (forIn l cs fun x r=>match x with | (name,kind)=>if (kind == NameKind.free)=true then (do let a ←cellOf env name; pure (ForInStep.yield ((name,a)::r))) else pure (ForInStep.yield r):Sem (List (Str×Addr)))=pure (jbO env l cs):=by
  intro l
  induction l with
  | nil=>intro cs _; rfl
  | cons p r ih =>
   intro cs hl
   obtain⟨n,k⟩:=p
   rw [List.forIn_cons]
   have hr:=fun cs'=>ih cs' fun q hq=>hl q (List.mem_cons_of_mem _ hq)
   unfold jbO
   by_cases hk:(k == NameKind.free)=true
   ·obtain⟨c,hc⟩:=hl (n,k) List.mem_cons_self (by simpa using hk)
    have hc':List.lookup n env.cells=some c:=hc
    simp only [hk,if_true,hc',cellOf,pure_bind]
    exact hr _
   ·simp only [hk,Bool.false_eq_true,if_false,pure_bind]
    exact hr _
 have:=key scope.names [] h
 exact(bind_pure _).trans this
theorem jjb {env:Env}:∀{l:List (Str×NameKind)} {cs:List (Str×Addr)} {y:Str} {c:Addr},(∀y c,cs.lookup y=some c->env.cells.lookup y=some c)->(jbO env l cs).lookup y=some c->env.cells.lookup y=some c
 | [],cs,y,c,h,e=>h y c e
 | (n,k)::r,cs,y,c,h,e=>by
  unfold jbO at e
  split at e
  ·split at e
   ·rename_i c' hc
    refine jjb (l:=r) (fun z d q=>?_) e
    rw [List.lookup_cons] at q
    split at q
    ·rename_i hz
     cases q
     have:z=n:=by simpa using hz
     rw [this]; exact hc
    ·exact h z d q
   ·exact jjb h e
  ·exact jjb h e
theorem jgX {env:Env}:∀{l:List (Str×NameKind)} {cs:List (Str×Addr)} {y:Str},(∃c,cs.lookup y=some c)->∃c,(jbO env l cs).lookup y=some c
 | [],cs,y,h=>h
 | (n,k)::r,cs,y,h=>by
  unfold jbO
  split
  ·split
   ·rename_i c' hc
    refine jgX (l:=r) ?_
    rw [List.lookup_cons]
    split
    ·exact⟨_,rfl⟩
    ·exact h
   ·exact jgX h
  ·exact jgX h
theorem jgo {env:Env}:∀{l:List (Str×NameKind)} {cs:List (Str×Addr)} {y:Str},(y,NameKind.free)∈l->(∃c,env.cells.lookup y=some c)->∃c,(jbO env l cs).lookup y=some c
 | [],cs,y,h,_=>by cases h
 | (n,k)::r,cs,y,h,he=>by
  rcases List.mem_cons.mp h with q | q
  ·cases q
   obtain⟨c,hc⟩:=he
   unfold jbO
   rw [if_pos (by rfl),hc]
   refine jgX ⟨c,?_⟩
   rw [List.lookup_cons]
   simp
  ·unfold jbO
   split
   ·split
    ·exact jgo q he
    ·exact jgo q he
   ·exact jgo q he
def jjv (scope:Scope)(env:Env)(xs M N:List Str):Bool :=
 scope.kind == .function&&scope.names.all (fun p=>p.2 != .cell||scope.names.lookup p.1 == some .cell)&&scope.names.all (fun p=>p.2 != .free||env.kindOf p.1 == some .cell) &&
 scope.names.all (fun p=>p.2 != .local||scope.names.lookup p.1 == some .local)&&scope.names.all (fun p=>p.2 == .local||p.2 == .free||p.2 == .globalImplicit||p.2 == .cell) &&
 xs.all (fun x=>scope.names.lookup x == some .local||scope.names.lookup x == some .cell)&&M.all (fun y=>scope.names.lookup y == none||scope.names.lookup y == some .free||scope.names.lookup y == some .globalImplicit)&&M.length == N.length&&(M.zip N).all (fun p=>p.1 == p.2||scope.names.lookup p.1 == none)
def jaq (X:Cx)(xs M:List Str)(scope:Scope)(C:Addr)(s:Shared)(H:Hp)(fp:List Addr):Cx :=
 { X with N:=xs++M,s₀:=s,H₀:=H,env:=compEnvC scope (cellsFrom (C+1) scope.names (jbO X.env scope.names [])) C X.env,outer:=X.stack,ex:=fp,fn:=fun y=>scope.names.lookup y == some .cell,pn:=[],xe:=fun _ _=>False }
theorem mem_of_lookup {α:Type}:∀{l:List (Str×α)} {y:Str} {k:α},l.lookup y=some k->(y,k)∈l
 | [],y,k,h=>by cases h
 | (n,j)::r,y,k,h=>by
  rw [List.lookup_cons] at h
  split at h
  ·rename_i hz
   cases h
   have:y=n:=by simpa using hz
   rw [this]; exact List.mem_cons_self
  ·exact List.mem_cons_of_mem _ (mem_of_lookup h)
theorem jbi {env:Env}:∀{names:List (Str×NameKind)} {x:Str} {k:NameKind},
  (names.map fun (n,k)=>if (k == NameKind.free&&env.scope.kind == .function&&env.kindOf n == some .cell) then (n,NameKind.cell) else (n,k)).lookup x=some k->∃j,names.lookup x=some j∧(j=k∨(j=.free∧k=.cell))
 | [],_,_,h=>by simp at h
 | (n,j)::r,x,k,h=>by
  have ih:=@jbi env r x k
  change List.lookup x ((if (j == NameKind.free&&env.scope.kind == .function&&env.kindOf n == some .cell)=true then (n,NameKind.cell) else (n,j))::_)=_ at h
  rw [List.lookup_cons]
  cases hx:x == n with
  | true =>
   by_cases hc:(j == NameKind.free&&env.scope.kind == .function&&env.kindOf n == some .cell)=true
   ·rw [if_pos hc,List.lookup_cons] at h
    simp only [hx] at h
    cases h
    refine⟨j,rfl,.inr ⟨?_,rfl⟩⟩
    have:=(Bool.and_eq_true _ _▸(Bool.and_eq_true _ _▸hc).1).1
    simpa using this
   ·rw [if_neg hc,List.lookup_cons] at h
    simp only [hx] at h
    cases h
    exact⟨j,rfl,.inl rfl⟩
  | false =>
   by_cases hc:(j == NameKind.free&&env.scope.kind == .function&&env.kindOf n == some .cell)=true
   ·rw [if_pos hc,List.lookup_cons] at h
    simp only [hx] at h
    exact ih h
   ·rw [if_neg hc,List.lookup_cons] at h
    simp only [hx] at h
    exact ih h
structure jn3 (X:Cx)(xs M:List Str)(scope:Scope):Prop where
 kind:scope.kind=.function
 cells:∀p∈scope.names,p.2=.cell->scope.names.lookup p.1=some .cell
 free:∀p∈scope.names,p.2=.free->X.env.kindOf p.1=some .cell
 loc:∀p∈scope.names,p.2=.local->scope.names.lookup p.1=some .local
 xs:∀x∈xs,scope.names.lookup x=some .local∨scope.names.lookup x=some .cell
 around:∀y∈M,scope.names.lookup y=none∨scope.names.lookup y=some .free∨scope.names.lookup y=some .globalImplicit
 len:M.length=X.N.length
 same:∀(i:Nat) y,M[i]?=some y->X.N[i]?=some y∨scope.names.lookup y=none
theorem jvs {X:Cx}{xs M:List Str}{scope:Scope}(h:jjv scope X.env xs M X.N=true):jn3 X xs M scope:=by
 unfold jjv at h
 simp only [Bool.and_eq_true,List.all_eq_true,Bool.or_eq_true,beq_iff_eq,bne_iff_ne,ne_eq] at h
 obtain⟨⟨⟨⟨⟨⟨⟨⟨h1,h2⟩,h3⟩,h4⟩,h5⟩,h6⟩,h7⟩,h8⟩,h9⟩:=h
 exact⟨h1,fun p hp e=>(h2 p hp).resolve_left fun z=>z e,fun p hp e=>(h3 p hp).resolve_left fun z=>z e,fun p hp e=>(h4 p hp).resolve_left fun z=>z e,h6,fun y hy=>by
  rcases h7 y hy with (a | a) | a
  ·exact .inl a
  ·exact .inr (.inl a)
  ·exact .inr (.inr a),h8,fun i y e=>by
   have hi:i<M.length:=(List.getElem?_eq_some_iff.mp e).1
   have hi2:i<X.N.length:=by rw [←h8]; exact hi
   have em:M[i]=y:=(List.getElem?_eq_some_iff.mp e).2
   have hz:(M[i],X.N[i])∈M.zip X.N:=by
    have:(M.zip X.N)[i]?=some (M[i],X.N[i]):=by rw [List.getElem?_zip_eq_some]; exact⟨by simp,by simp⟩
    exact List.mem_of_getElem? this
   rcases h9 _ hz with q | q
   ·left
    have q':M[i]=X.N[i]:=q
    rw [←em,q']; simp
   ·right; rw [←em]; exact q⟩
theorem jlh:∀(names:List (Str×NameKind)) (n:Nat) (acc:List (Str×Addr)),cellsFrom n names acc=cellsFrom n names []++acc
 | [],n,acc=>rfl
 | (x,k)::r,n,acc=>by
  unfold cellsFrom
  split
  ·rw [jlh r (n+1) ((x,n)::acc),jlh r (n+1) [(x,n)],List.append_assoc]; rfl
  ·exact jlh r n acc
theorem jr7:∀{names:List (Str×NameKind)} {n:Nat} {acc:List (Str×Addr)} {y:Str} {c:Addr},(y,c)∈cellsFrom n names acc->(y,c)∈acc∨((y,NameKind.cell)∈names∧n≤c)
 | [],n,acc,y,c,h=>.inl h
 | (x,k)::r,n,acc,y,c,h=>by
  unfold cellsFrom at h
  split at h
  ·rename_i hk
   have hk:k=.cell:=by simpa using hk
   rcases jr7 h with z | z
   ·rcases List.mem_cons.mp z with z | z
    ·cases z; subst hk; exact .inr ⟨List.mem_cons_self,Nat.le_refl _⟩
    ·exact .inl z
   ·exact .inr ⟨List.mem_cons_of_mem _ z.1,Nat.le_of_succ_le z.2⟩
  ·rcases jr7 h with z | z
   ·exact .inl z
   ·exact .inr ⟨List.mem_cons_of_mem _ z.1,z.2⟩
theorem jlI:∀{names:List (Str×NameKind)} {n:Nat} {acc:List (Str×Addr)} {y:Str},(∃c,acc.lookup y=some c)->∃c,(cellsFrom n names acc).lookup y=some c
 | [],n,acc,y,h=>h
 | (x,k)::r,n,acc,y,h=>by
  unfold cellsFrom
  split
  ·refine jlI (names:=r) ?_
   rw [List.lookup_cons]
   split
   ·exact⟨_,rfl⟩
   ·exact h
  ·exact jlI h
theorem jnl:∀{names:List (Str×NameKind)} {n:Nat} {acc:List (Str×Addr)} {y:Str},(y,NameKind.cell)∈names->∃c,(cellsFrom n names acc).lookup y=some c
 | [],n,acc,y,h=>by cases h
 | (x,k)::r,n,acc,y,h=>by
  rcases List.mem_cons.mp h with q | q
  ·cases q
   unfold cellsFrom
   rw [if_pos (by rfl)]
   refine jlI ⟨n,?_⟩
   rw [List.lookup_cons]
   simp
  ·unfold cellsFrom
   split
   ·exact jnl q
   ·exact jnl q
theorem jmW:∀{names:List (Str×NameKind)} {n:Nat} {acc:List (Str×Addr)},(∀p∈acc,p.2<n)->(acc.Pairwise fun x y=>x.2≠y.2)->(cellsFrom n names acc).Pairwise fun x y=>x.2≠y.2
 | [],n,acc,_,h=>h
 | (x,k)::r,n,acc,hl,h=>by
  unfold cellsFrom
  split
  ·refine jmW (names:=r) (fun p hp=>?_) (List.pairwise_cons.mpr ⟨fun p hp e=>?_,h⟩)
   ·rcases List.mem_cons.mp hp with z | z
    ·rw [z]; exact Nat.lt_succ_self _
    ·exact Nat.lt_succ_of_lt (hl p z)
   ·have e:n=p.2:=e
    exact absurd (hl p hp) (by rw [←e]; exact Nat.lt_irrefl _)
  ·exact jmW hl h
theorem jeJ {names:List (Str×NameKind)}{n:Nat}{cl:List (Str×Addr)}{y:Str}{c:Addr}(h:(cellsFrom n names cl).lookup y=some c):(cellsFrom n names []).lookup y=some c∨((cellsFrom n names []).lookup y=none∧cl.lookup y=some c):=by
 rw [jlh,List.lookup_append] at h
 cases e:(cellsFrom n names []).lookup y with
 | some a=>rw [e] at h; left; simpa using h
 | none=>rw [e] at h; right; exact⟨rfl,by simpa using h⟩
theorem jhQ {names:List (Str×NameKind)}{n:Nat}{y:Str}{c:Addr}(h:(cellsFrom n names []).lookup y=some c):(y,NameKind.cell)∈names∧n≤c:=by
 rcases jr7 (PySem.mem_of_lookup h) with z | z
 ·cases z
 ·exact z
theorem jyU {names:List (Str×NameKind)}{n:Nat}{cl:List (Str×Addr)}{y:Str}(h:∀k,(y,k)∈names->k≠NameKind.cell):(cellsFrom n names cl).lookup y=cl.lookup y:=by
 rw [jlh,List.lookup_append]
 cases e:(cellsFrom n names []).lookup y with
 | some a=>exact absurd rfl (h _ (jhQ e).1)
 | none=>simp
section
variable {X:Cx}{pins:List (Addr×Obj)}{σ:L2.St}{H:Hp}{s:Shared}{xs M:List Str}{scope:Scope}{C:Addr}{fp:List Addr}
theorem jkU (I:Inv X pins σ H s)(c:jn3 X xs M scope):∀p∈scope.names,p.2=.free->∃a,X.env.cells.lookup p.1=some a:=fun p hp e=>I.ok.has p.1 (.inl (c.free p hp e))
theorem jev {y:Str}{a:Addr}(e:(jbO X.env scope.names []).lookup y=some a):X.env.cells.lookup y=some a:=jjb (fun _ _ q=>by simp at q) e
theorem jz6 (I:Inv X pins σ H s)(c:jn3 X xs M scope)(hC:s.heap.objs.size≤C)(hf:∀b∈fp,jf5 X pins H b)(hlt:∀b∈fp,b<s.heap.objs.size):(jaq X xs M scope C s H fp).Ok where
 mod:=I.ok.mod
 kind:=c.kind
 glob:=I.ok.glob
 blt:=I.ok.blt
 above:=hC
 inj:=fun x y a e1 e2=>by
  have lt:∀z,(jbO X.env scope.names []).lookup z=some a->a<s.heap.objs.size:=fun z e=>by
   obtain⟨v,q⟩:=I.cell z a (jev e); exact q.lt
  rcases jeJ e1 with z1 | z1 <;> rcases jeJ e2 with z2 | z2
  ·exact name_of_addr (jmW (acc:=[]) (fun p hp=>by cases hp) List.Pairwise.nil) (PySem.mem_of_lookup z1) (PySem.mem_of_lookup z2)
  ·exact absurd (lt y z2.2) (Nat.not_lt.mpr (Nat.le_trans hC (Nat.le_of_succ_le (jhQ z1).2)))
  ·exact absurd (lt x z1.2) (Nat.not_lt.mpr (Nat.le_trans hC (Nat.le_of_succ_le (jhQ z2).2)))
  ·exact I.ok.inj x y a (jev z1.2) (jev z2.2)
 has:=fun x h=>by
  have hx:∃j,scope.names.lookup x=some j∧(j=.free∨j=.cell):=by
   rcases h with h | h
   ·obtain⟨j,hj,e⟩:=jbi h
    rcases e with e | e
    ·exact⟨j,hj,.inr e⟩
    ·exact⟨j,hj,.inl e.1⟩
   ·obtain⟨j,hj,e⟩:=jbi h
    rcases e with e | e
    ·exact⟨j,hj,.inl e⟩
    ·exact⟨j,hj,.inl e.1⟩
  obtain⟨j,hj,rfl | rfl⟩:=hx
  ·exact jlI (jgo (mem_of_lookup hj) (jkU I c _ (mem_of_lookup hj) rfl))
  ·exact jnl (mem_of_lookup hj)
 cab:=fun x a h e=>by
  have hj:scope.names.lookup x=some .cell:=by simpa [jaq] using h
  rcases jeJ e with z | z
  ·exact Nat.le_trans hC (Nat.le_of_succ_le (jhQ z).2)
  ·obtain⟨a',ha'⟩:=jnl (n:=C+1) (acc:=[]) (mem_of_lookup hj)
   rw [z.1] at ha'; cases ha'
 hd:=I.ok.hd
 frames:=I.ok.frames
 stk:=.inl rfl
 exf:=fun b hb=>⟨Nat.ne_of_lt (Nat.lt_of_lt_of_le (hlt b hb) hC),fun x a e=>by
  rcases jeJ e with z | z
  ·exact Nat.ne_of_gt (Nat.lt_of_lt_of_le (hlt b hb) (Nat.le_trans hC (Nat.le_of_succ_le (jhQ z).2)))
  ·exact(hf b hb).2.2.2.2.1 x a (jev z.2)⟩
 bs:=I.bs
 bsz:=Nat.le_trans I.ok.bsz I.sz
 noex:=fun b o e hb=>by
  rcases (hf b hb).2.2.2.1 with z | z
  ·exact I.ok.noex b o e z
  ·exact absurd (Nat.lt_of_lt_of_le (Heap.lt_size e) (Nat.le_trans I.ok.bsz z)) (Nat.lt_irrefl _)
 exfs:=fun b hb z=>by
  rcases List.mem_cons.mp (I.stkSub b z) with q | q
  ·exact(hf b hb).2.1 q
  ·exact(hf b hb).2.2.1 q
 funs:=I.stack
 frf:=I.stkFree
end
section
variable {prog:Program}{w:World}{A:Around}{R:Result->Shared->Prop}{s:Shared}
theorem jvq {EE:Value->Shared->Prop}{elt target iter:Expr}{ifs:List Expr}{scope:Scope}{pos:Pos}{it acc:Value}{env:Env}(I:Nat->Shared->Prop)
  (turn:∀n s,I n s->wpAny (model prog w) A (pyNext it) (fun r s₁=>match r with
   | none=>R (.ok .next) s₁
   | some v=>wpAny (model prog w) A (letOwnedTupleGo target it v) (fun _ s1'=>wpAny (model prog w) A (assign target env v) (fun _ s₂ =>
     wpAny (model prog w) A (forIn ifs true fun c r=>if r=true then do let ok ←isTrue c env (eval c env); pure (ForInStep.yield ok) else pure (ForInStep.yield r)) (fun ok s₃ =>
      if ok=true then wpAny (model prog w) A (eval elt env) (fun x s₄ =>
       wpAny (model prog w) A (call (.builtin "list.append") [acc,x]) (fun _ s₅=>∃m,m<n∧I m s₅) (fun _ _=>False) s₄) EE s₃
      else ∃m,m<n∧I m s₃) (fun _ _=>False) s₂) (fun _ _=>False) s1') (fun _ _=>False) s₁) (fun _ _=>False) s)
  (hEE:∀e s',EE e s'->notedBy (model prog w) A env (fun e s'=>R (.error e) s') e s') (n:Nat) (h:I n s) :
  codeAny (model prog w) A (.compLoop (.ListComp elt [⟨target,iter,ifs,0⟩] scope pos) 0 it acc env) R s:=by
 refine codeAny_loop rfl I (fun n s hI=>?_) n h
 show wpAny _ A ((compTurn (.ListComp elt [⟨target,iter,ifs,0⟩] scope pos) 0 it acc env).onRaise (fun x=>do noteFrame x env; theTreesLotGoes x)) _ _ s
 refine wpAny_noted ?_
 rw [compTurn_list]
 refine wpAny_bind (wpAny_standAt (wpAny_bind (wpAny_mono (turn n s hI) (fun r s₁ h₁=>?_) fun _ _ h'=>h'.elim)))
 cases r with
 | none=>exact wpAny_pure h₁
 | some v =>
  refine wpAny_bind (wpAny_mono h₁ (fun _ s1' h1'=>?_) fun _ _ h'=>h'.elim)
  refine wpAny_bind (wpAny_mono h1' (fun _ s₂ h₂=>wpAny_bind (wpAny_mono h₂ (fun ok s₃ h₃=>?_) fun _ _ h'=>h'.elim)) fun _ _ h'=>h'.elim)
  cases ok with
  | false=>exact wpAny_pure ⟨rfl,h₃⟩
  | true =>
   exact wpAny_bind (wpAny_bind (wpAny_mono h₃ (fun x s₄ h₄=>wpAny_bind (wpAny_mono h₄ (fun _ s₅ h₅=>wpAny_pure (wpAny_pure ⟨rfl,h₅⟩)) fun _ _ h'=>h'.elim)) fun e s' h'=>hEE e s' h'))
end
def PTs (X:Cx)(ifs:List Expr)(t:TT):Prop:=(ifs=[]∧t=fun _ H Q=>Q true H)∨∃c,ifs=[c]∧PT X c t
theorem PTs.run {X:Cx}{ifs:List Expr}{t:TT}(h:PTs X ifs t){pins:List (Addr×Obj)}{s:Shared}{σ:L2.St}{H:Hp}{Q:Bool->Hp->Prop}(I:Inv X pins σ H s)(q:t σ H Q) :
  wpAny (model X.prog X.w) X.A (forIn ifs true fun c r=>if r=true then do let ok ←isTrue c X.env (eval c X.env); pure (ForInStep.yield ok) else pure (ForInStep.yield r)) (TP X pins σ Q) X.xe s:=by
 rcases h with⟨rfl,rfl⟩ | ⟨c,rfl,h⟩
 ·exact wpAny_tests_nil ⟨H,I,q⟩
 ·exact wpAny_tests_one (h pins s σ H Q I q)
theorem jqN {M:Model}{A:Around}{E:Value->Shared->Prop}{s:Shared}{scope:Scope}{globals:Addr}{closure:List (Str×Addr)}{qual:Str}{env:Env}{Q:Env->Shared->Prop}
  (h:Q (newEnv scope s.heap.objs.size globals (cellsFrom (s.heap.objs.size+1) scope.names closure) qual none .none (some env) builtinsNs) { s with heap:=pushCells (s.heap.push { cls:=.type "dict",data:=.dict #[] }) scope.names }) :
  wpAny M A (newFunctionEnv scope globals closure [] qual none .none (some env)) Q E s:=by
 simp only [newFunctionEnv,Option.isSome_some,if_true]
 refine wpAny_bind (wpAny_alloc ?_)
 refine wpAny_bind (wpAny_layCells _ (fun name kind cells=>by cases hkc:kind == NameKind.cell <;> simp [hkc]) _ _ _ _ ?_)
 rw [show ({ s with heap:=s.heap.push { cls:=.type "dict",data:=.dict #[] } }:Shared).heap.objs.size=s.heap.objs.size+1 from Heap.size_push ..]
 rw [List.forIn_nil]
 exact wpAny_bind (wpAny_pure (wpAny_pure h))
def lcW (n:Nat)(J:It)(g:TG)(tt:TT)(te:TE)(σ:L2.St)(D:Addr)(Fin:List V->Hp->Prop)(H:Hp):Prop :=
 ∃W:Nat->Nat->List V->Hp->Prop,(∃m,W 0 m [] H)∧∀i m ys H,W i m ys H->H D=some (.lst ys) ∧
  ((J.stop i H∧Fin ys H)∨(J.go i H∧∀x H',J.yld i H x H'->g x (List.replicate n none++σ) H' fun σ1 H1=>(σ1.length=n+σ.length∧∀j,σ1[n+j]?=σ[j]?)∧tt σ1 H1 fun k H2 =>
   if k=true then te σ1 H2 fun y H3=>H3 D=some (.lst ys)∧ys.length<sizeLine∧∃m',m'<m∧W (i+1) m' (ys++[y]) (j1 H3 D (.lst (ys++[y]))) else ∃m',m'<m∧W (i+1) m' ys H2))
section
variable {X:Cx}{pins:List (Addr×Obj)}{σ:L2.St}{H:Hp}{s:Shared}{xs M:List Str}{scope:Scope}{target elt iter:Expr}{ifs:List Expr}{pos:Pos}{g:Addr->TG}{tt:Addr->TT}{te:Addr->TE}{it:Addr}{fp:List Addr}{tn:Nat->Heap->Prop}{J:It}{n:Nat}
theorem jqc {EE:Addr->Value->Shared->Prop}{RR:Value->Addr->Result->Shared->Prop}{Fin:Addr->List V->Hp->Prop}(c:jn3 X xs M scope)(hn:xs.length=n)(hc:X.calm=true)(I:Inv X pins σ H s)(T:jmT X.prog X.w X.K target J fp it tn)(t0:tn 0 s.heap)(hf:∀b∈fp,jf5 X pins H b)
  (hg:∀C,PG (jaq X xs M scope C s H fp) target (g C)) (ht:∀C,PTs (jaq X xs M scope C s H fp) ifs (tt C)) (he:∀C,PE ((jaq X xs M scope C s H fp).wish (EE C)) elt (te C))
  (hEE:∀D C e s',s.heap.objs.size≤C->EE C e s'->notedBy (model X.prog X.w) X.A (compEnvC scope (cellsFrom (C+1) scope.names (jbO X.env scope.names [])) C X.env) (fun e s'=>RR (.ref D) C (.error e) s') e s')
  (hw:∀D C,H D=none->lcW n J (g C) (tt C) (te C) σ D (Fin D) (j1 H D (.lst [])))
  (hR:∀D C ys H' s',H D=none->s.heap.objs.size≤C->H' D=some (.lst ys)->Fin D ys H'->Inv (jaq X xs M scope C s H fp) [] (List.replicate n none++σ) H' s'->RR (.ref D) C (.ok .next) s') :
  wpAny (model X.prog X.w) X.A (newList []) (fun acc s₃=>wpAny (model X.prog X.w) X.A (newFunctionEnv scope X.env.globals (jbO X.env scope.names []) [] X.env.qual none .none (some X.env)) (fun cenv s₄=>cenv.frame=X.env.frame ∧
   codeAny (model X.prog X.w) X.A (.compStart (.ListComp elt [⟨target,iter,ifs,0⟩] scope pos) 0 (.ref it) acc { cenv with scope:=relabel scope X.env }) (RR acc cenv.locals) s₄) X.xe s₃) X.xe s:=by
 refine wpAny_newObj_type (jqN ⟨rfl,?_⟩)
 dsimp only
 generalize hH2:s.heap.push { cls:=.type "list",dict:=none,data:=.seq ([]:List Value).toArray }=H2
 have hns₁:=(Heap.Ns.new H2 (.type "dict")).keeps (pushCells_keeps scope.names _)
 have cok:=cellsFrom_ok scope.names (H2.push { cls:=.type "dict",data:=.dict #[] }) (H2.objs.size+1) [] ⟨fun _ _ hm=>(by cases hm),List.Pairwise.nil⟩ (by rw [Heap.size_push]; exact Nat.le_refl _)
 rw [Heap.size_push] at cok
 have keep₁:=pushCells_keeps scope.names (H2.push { cls:=.type "dict",data:=.dict #[] })
 generalize pushCells (H2.push { cls:=.type "dict",data:=.dict #[] }) scope.names=h₁ at hns₁ cok keep₁ ⊢
 have hC:H2.objs.size=s.heap.objs.size+1:=by rw [←hH2,Heap.size_push]
 have hDC:s.heap.objs.size≠H2.objs.size:=by rw [hC]; exact Nat.ne_of_lt (Nat.lt_succ_self _)
 have hle:s.heap.objs.size≤H2.objs.size:=by rw [hC]; exact Nat.le_succ _
 have old:∀b o,s.heap.get? b=some o->h₁.get? b=some o:=fun b o e=>keep₁ b o (Heap.get?_push_of_some _ (hH2▸Heap.get?_push_of_some _ e))
 have hacc:h₁.get? s.heap.objs.size=some { cls:=.type "list",dict:=none,data:=.seq ([]:List Value).toArray }:=keep₁ _ _ (Heap.get?_push_of_some _ (hH2▸Heap.get?_push_size _ rfl))
 have hD:H s.heap.objs.size=none:=I.hok.fresh (Nat.le_refl _)
 have hlt:∀b∈fp,b<s.heap.objs.size:=fun b hb=>by obtain⟨o,e,_⟩:=T.obj 0 _ t0 b hb; exact Heap.lt_size e
 have new:ObjOk X.prog X.w (j1 H s.heap.objs.size (.lst [])) h₁ s.heap.objs.size (.lst []):=⟨Nat.zero_le _,[],0,.nil,hacc⟩
 have ok:(jaq X xs M scope H2.objs.size s H fp).Ok:=jz6 I c hle hf hlt
 have I4:Inv (jaq X xs M scope H2.objs.size s H fp) [] (List.replicate n none++σ) (j1 H s.heap.objs.size (.lst [])) { s with heap:=h₁ }:=by
  refine⟨ok,rfl,I.bare,Un.laid old (Nat.le_refl _) hD,⟨_,hns₁,fun i y v e1 e2 e3=>?_⟩,fun y a e=>?_,?_,fun y a e=>?_,(fun p hp=>by cases hp),I.hok.laid old (Nat.le_refl _) new,?_⟩
  ·have hi:n≤i:=by
    apply Nat.le_of_not_lt
    intro hi
    rw [List.getElem?_append_left (by rw [List.length_replicate]; exact hi),List.getElem?_replicate,if_pos hi] at e2
    cases e2
   have e0':M[i - n]?=some y:=by
    have:(xs++M)[i]?=some y:=e1
    rw [List.getElem?_append_right (by rw [hn]; exact hi),hn] at this
    exact this
   have e2':σ[i - n]?=some (some v):=by
    rw [List.getElem?_append_right (by rw [List.length_replicate]; exact hi),List.length_replicate] at e2
    exact e2
   have hy:y∈M:=List.mem_of_getElem? e0'
   have hl:scope.names.lookup y=some .free:=by
    have hv:∃j,scope.names.lookup y=some j∧(j=.local∨j=.cell∨j=.free):=by
     rcases e3 with e3 | e3 | e3
     ·obtain⟨j,hj,e⟩:=jbi e3
      rcases e with e | e
      ·exact⟨j,hj,.inl e⟩
      ·exact⟨j,hj,.inr (.inr e.1)⟩
     ·obtain⟨j,hj,e⟩:=jbi e3
      rcases e with e | e
      ·exact⟨j,hj,.inr (.inl e)⟩
      ·exact⟨j,hj,.inr (.inr e.1)⟩
     ·obtain⟨j,hj,e⟩:=jbi e3
      rcases e with e | e
      ·exact⟨j,hj,.inr (.inr e)⟩
      ·exact⟨j,hj,.inr (.inr e.1)⟩
    obtain⟨j,hj,hk⟩:=hv
    rcases c.around y hy with z | z | z
    ·rw [z] at hj; cases hj
    ·exact z
    ·rw [z] at hj; cases hj
     rcases hk with hk | hk | hk <;> cases hk
   have hcell:=c.free _ (mem_of_lookup hl) rfl
   have e1':X.N[i - n]?=some y:=(c.same _ _ e0').resolve_right fun z=>by rw [hl] at z; cases z
   obtain⟨m,hm,hloc⟩:=I.loc
   obtain⟨u,r,lk⟩:=hloc (i - n) y v e1' e2' (.inr (.inl hcell))
   refine⟨u,r,.inr ⟨?_,?_⟩⟩
   ·rcases e3 with e3 | e3 | e3
    ·obtain⟨j,hj,e⟩:=jbi e3
     rw [hl] at hj; cases hj
     rcases e with e | e
     ·cases e
     ·cases e.2
    ·exact .inl e3
    ·exact .inr e3
   ·rcases lk with⟨hk,_⟩ | ⟨_,a,ha,z⟩
    ·have hk':X.env.kindOf y=some .local:=hk
     rw [hcell] at hk'; cases hk'
    ·obtain⟨a',ha'⟩:=jgo (cs:=[]) (mem_of_lookup hl) ⟨a,ha⟩
     have:a'=a:=by have q:=jev ha'; rw [ha] at q; exact(Option.some.inj q).symm
     subst this
     obtain⟨o,ho,hd⟩:=z
     refine⟨a',?_,o,old _ _ ho,hd⟩
     show (cellsFrom (H2.objs.size+1) scope.names (jbO X.env scope.names [])).lookup y=some a'
     rw [jyU fun k hk e=>?_]
     ·exact ha'
     ·subst e
      have:=c.cells _ hk rfl
      rw [hl] at this; cases this
  ·rcases jeJ e with z | z
   ·exact⟨none,(cok.empty _ _ (PySem.mem_of_lookup z)).1⟩
   ·obtain⟨v,o,ho,hd⟩:=I.cell y a (jev z.2)
    exact⟨v,o,old _ _ ho,hd⟩
  ·show j1 H s.heap.objs.size (.lst []) H2.objs.size=none
   rw [jO (Ne.symm hDC)]
   exact I.hok.fresh hle
  ·rcases jeJ e with z | z
   ·have hge:=(jhQ z).2
    have hne:a≠s.heap.objs.size:=Nat.ne_of_gt (Nat.lt_of_lt_of_le (Nat.lt_succ_of_le hle) hge)
    rw [jO hne]
    exact I.hok.fresh (Nat.le_trans hle (Nat.le_of_succ_le hge))
   ·have ha:=jev z.2
    have hne:a≠s.heap.objs.size:=by obtain⟨v,q⟩:=I.cell y a ha; exact Nat.ne_of_lt q.lt
    rw [jO hne]
    exact I.freeC y a ha
  ·show (List.replicate n none++σ).length=(xs++M).length
   rw [List.length_append,List.length_append,List.length_replicate,hn,I.len,c.len]
 have t1:tn 0 h₁:=T.keep 0 _ _ t0 fun b hb o e=>old b o e
 have fpn:∀b∈fp,(j1 H s.heap.objs.size (.lst [])) b=none:=fun b hb=>by rw [jO (Nat.ne_of_lt (hlt b hb))]; exact(hf b hb).1
 have stat:∀{H':Hp},(∀b∈fp,H' b=none)->∀b∈fp,jf5 (jaq X xs M scope H2.objs.size s H fp) [] H' b:=fun hn b hb =>
  ⟨hn b hb,(ok.exf b hb).1,ok.exfs b hb,.inl hb,(ok.exf b hb).2,(fun p hp=>by cases hp)⟩
 obtain⟨W,⟨m0,w0⟩,turn⟩:=hw _ H2.objs.size hD
 have loop:codeAny (model X.prog X.w) X.A (.compLoop (.ListComp elt [⟨target,iter,ifs,0⟩] scope pos) 0 (.ref it) (.ref s.heap.objs.size) (compEnvC scope (cellsFrom (H2.objs.size+1) scope.names (jbO X.env scope.names [])) H2.objs.size X.env)) (RR (.ref s.heap.objs.size) H2.objs.size) { s with heap:=h₁ }:=by
  refine jvq (EE:=EE H2.objs.size) (fun m s'=>∃i ys H',Inv (jaq X xs M scope H2.objs.size s H fp) [] (List.replicate n none++σ) H' s'∧tn i s'.heap∧(∀b∈fp,H' b=none)∧W i m ys H') ?_ (fun e s' z=>hEE _ _ e s' hle z) m0 ⟨0,[],_,I4,t1,fpn,w0⟩
  rintro m s3 ⟨i,ys,H3,I3,t3,f3,w3⟩
  obtain⟨hD3,alt⟩:=turn i m ys H3 w3
  rcases alt with⟨stop,fin⟩ | ⟨go,step⟩
  ·refine jQ (T.done (jaq X xs M scope H2.objs.size s H fp) rfl rfl rfl hc i [] s3 _ H3 _ I3 (stat f3) t3 stop) fun r s4 qZ=>?_
   obtain⟨hr,I5⟩:=qZ
   subst hr
   exact hR _ _ ys H3 s4 hD hle hD3 fin I5
  ·refine jQ (T.item (jaq X xs M scope H2.objs.size s H fp) rfl rfl rfl hc i [] s3 _ H3 _ I3 (stat f3) t3 go) fun r s4 qZ=>?_
   obtain⟨u,hr,h4⟩:=qZ
   subst hr
   refine jQ h4 fun _ s5 qZ=>?_
   obtain⟨x,H5,I5,r5,y5,t5,f5⟩:=qZ
   have I5':=I5.pinned (stat f5) (T.obj _ _ t5)
   refine jQ (hg H2.objs.size _ s5 _ H5 x u _ I5' r5 (step x H5 y5)) fun _ s6 qZ=>?_
   obtain⟨σ6,H6,I6,⟨la,lb⟩,q6⟩:=qZ
   refine jQ (PTs.run (ht H2.objs.size) I6 q6) fun k s7 qZ=>?_
   obtain⟨H7,I7,q7⟩:=qZ
   have again:∀{H8:Hp} {s8:Shared} {ys':List V},Inv (jaq X xs M scope H2.objs.size s H fp) ([]++jkp fp s5.heap) σ6 H8 s8->(∃m',m'<m∧W (i+1) m' ys' H8)->∃m',m'<m∧∃i ys H',Inv (jaq X xs M scope H2.objs.size s H fp) [] (List.replicate n none++σ) H' s8∧tn i s8.heap∧(∀b∈fp,H' b=none)∧W i m' ys H':=by
    intro H8 s8 ys' I8 ⟨m',lt,w8⟩
    have pin8:∀b∈fp,∀o,s5.heap.get? b=some o->s8.heap.get? b=some o∧H8 b=none:=fun b hb o e =>
     have z:=I8.pin (b,o) (List.mem_append_right _ (List.mem_append_right _ (jjo hb e)))
     ⟨z.1,z.2.1⟩
    refine⟨m',lt,i+1,ys',H8,?_,T.keep _ _ _ t5 fun b hb o e=>(pin8 b hb o e).1,fun b hb=>?_,w8⟩
    ·refine I8.unpinned.weak (by rw [List.length_append,List.length_replicate,la]) fun j v e=>?_
     by_cases hj:j<n
     ·rw [List.getElem?_append_left (by rw [List.length_replicate]; exact hj),List.getElem?_replicate,if_pos hj] at e
      cases e
     ·rw [List.getElem?_append_right (by rw [List.length_replicate]; omega),List.length_replicate] at e
      have:=lb (j - n)
      rw [show n+(j - n)=j by omega] at this
      rw [this]; exact e
    ·obtain⟨o,e,d⟩:=T.obj _ _ t5 b hb
     exact(pin8 b hb o e).2
   cases k with
   | false =>
    simp only [Bool.false_eq_true,if_false] at q7 ⊢
    exact again I7 q7
   | true =>
    simp only [if_true] at q7 ⊢
    refine jQ (he H2.objs.size _ s7 _ H7 _ (I7.wish _) q7) fun y s8 qZ=>?_
    obtain⟨v8,H8,I8,r8,e8,l8,w8⟩:=qZ
    have I8:=I8.unwish
    refine jQ (ju2 (X:=jaq X xs M scope H2.objs.size s H fp) _ s8 _ H8 (.ref s.heap.objs.size) [v8] _ [y] (fun v H9=>∃m',m'<m∧W (i+1) m' (ys++[v8]) H9) I8 rfl (.cons r8 .nil) ⟨_,ys,v8,rfl,rfl,e8,l8,w8⟩) fun _ s9 ⟨v9,H9,I9,_,w9⟩=>again I9 w9
 exact codeAny_compStart_list loop (T.self _ 0 _ _ _ t1 loop)
theorem jwv {RR:Value->Addr->Result->Shared->Prop}{Fin:Addr->List V->Hp->Prop}(c:jn3 X xs M scope)(hn:xs.length=n)(hc:X.calm=true)(I:Inv X pins σ H s)(T:jmT X.prog X.w X.K target J fp it tn)(t0:tn 0 s.heap)(hf:∀b∈fp,jf5 X pins H b)
  (hg:∀C,PG (jaq X xs M scope C s H fp) target (g C)) (ht:∀C,PTs (jaq X xs M scope C s H fp) ifs (tt C)) (he:∀C,PE (jaq X xs M scope C s H fp) elt (te C))
  (hw:∀D C,H D=none->lcW n J (g C) (tt C) (te C) σ D (Fin D) (j1 H D (.lst [])))
  (hR:∀D C ys H' s',H D=none->s.heap.objs.size≤C->H' D=some (.lst ys)->Fin D ys H'->Inv (jaq X xs M scope C s H fp) [] (List.replicate n none++σ) H' s'->RR (.ref D) C (.ok .next) s') :
  wpAny (model X.prog X.w) X.A (newList []) (fun acc s₃=>wpAny (model X.prog X.w) X.A (newFunctionEnv scope X.env.globals (jbO X.env scope.names []) [] X.env.qual none .none (some X.env)) (fun cenv s₄ =>
   codeAny (model X.prog X.w) X.A (.compStart (.ListComp elt [⟨target,iter,ifs,0⟩] scope pos) 0 (.ref it) acc { cenv with scope:=relabel scope X.env }) (RR acc cenv.locals) s₄) X.xe s₃) X.xe s :=
 jQ (jqc (EE:=fun _ _ _=>False) c hn hc I T t0 hf hg ht he (fun _ _ _ _ _ z=>z.elim) hw hR) fun _ _ h=>jQ h fun _ _ q=>q.2
end
section
variable {X:Cx}{pins:List (Addr×Obj)}{σ σ':L2.St}{H H':Hp}{s s':Shared}{xs M:List Str}{scope:Scope}{target elt iter:Expr}{ifs:List Expr}{pos:Pos}{g:Addr->Shared->Hp->List Addr->TG}{tt:Addr->Shared->Hp->List Addr->TT}{te:Addr->Shared->Hp->List Addr->TE}{fp:List Addr}{n:Nat}{C:Addr}{wi:TI}
theorem jmJ {h':Heap}(I:Inv X pins σ H s)(I':Inv (jaq X xs M scope C s H fp) [] σ' H' s')(hf:∀b∈fp,jf5 X pins H b)(hC:s.heap.objs.size≤C)(sb:Heap.SameBut C s'.heap h'):Inv X pins σ H' { s' with heap:=h' }:=by
 have hCn:H' C=none:=I'.free
 have u:=I'.base
 have ne:∀b o,s.heap.get? b=some o->b≠C:=fun b o e=>Nat.ne_of_lt (Nat.lt_of_lt_of_le (Heap.lt_size e) hC)
 have u':Un (frs X.stack) fp H H' s.heap h' :=
  ⟨fun b o e n hb hx=>sb.extBut b o (ne b o e) (u.keep b o e n hb hx),fun b o e n hb hx=>let ⟨sl,q⟩:=u.slot b o e n hb hx; ⟨sl,sb.extBut b _ (ne b o e) q⟩,fun b o e n hx=>u.free b o e n hx,
   fun b o e hx=>let ⟨o',q⟩:=u.there b o e hx; ⟨o',sb.extBut b _ (ne b o e) q⟩,u.tups,u.frzs,u.tbls⟩
 have hok:HOk X.prog X.w H' h':=fun b o e=>(I'.hok b o e).stay (fun c v hc q=>sb.extBut c v (fun z=>by
  subst z
  rcases hc with z | z
  ·rw [←z,hCn] at e; cases e
  ·rw [hCn] at z; cases z) q) (fun _ q=>q) fun _ _ q=>q
 exact I.call' (ch:=fp) (s':={ s' with heap:=h' }) I'.os u' hok I'.bare fun b hb=>⟨(hf b hb).2.2.2.1,(hf b hb).2.1,(hf b hb).2.2.2.2.1,(hf b hb).2.2.2.2.2⟩
def tLc (n:Nat)(wi:TI)(g:Addr->Shared->Hp->List Addr->TG)(tt:Addr->Shared->Hp->List Addr->TT)(te:Addr->Shared->Hp->List Addr->TE):TE:=fun σ H Q=>wi σ H fun J H1=>∀D C s fp,H1 D=none->lcW n J (g C s H1 fp) (tt C s H1 fp) (te C s H1 fp) σ D (fun _ H'=>Q (.ref D) H') (j1 H1 D (.lst []))
theorem js3 (hk:jjv scope X.env xs M X.N=true)(hn:xs.length=n)(hc:X.calm=true)(hi:PI X target iter wi)
  (hg:∀C s H fp,PG (jaq X xs M scope C s H fp) target (g C s H fp)) (ht:∀C s H fp,PTs (jaq X xs M scope C s H fp) ifs (tt C s H fp)) (he:∀C s H fp,PE (jaq X xs M scope C s H fp) elt (te C s H fp))
  (hs:∀x,foldedSetIterable iter X.env x=pure x:=by intro _; rfl):PE X (.ListComp elt [⟨target,iter,ifs,0⟩] scope pos) (tLc n wi g tt te):=by
 intro pins s σ H Q I h
 have c:=jvs hk
 rw [eval_ListComp]
 refine wpAny_comprehension_free (use:=none) rfl hs (jnP (jkU I c)) c.kind c.loc (jQ (hi pins s σ H _ I h) fun v s1 h1=>jQ h1 fun itv s2 h2=>?_)
 obtain⟨it,fp,tn,J,H2,e,I2,T,st2,f2,rd⟩:=h2
 subst e
 refine jwv (RR:=compPost (model X.prog X.w) X.A X.xe none (EP X pins σ Q)) (Fin:=fun D _ H'=>Q (.ref D) H') c hn hc I2 T st2 f2 (fun C=>hg C _ _ _) (fun C=>ht C _ _ _) (fun C=>he C _ _ _) (fun D C hD=>rd D C s2 fp hD) ?_
 intro D C ys H' s' hD hC hys fin I'
 obtain⟨m,hm,_⟩:=I'.loc
 exact⟨m,hm,fun h' sb=>⟨.ref D,H',jmJ I2 I' f2 hC sb,rfl,fin⟩⟩
end
def PGN (X:Cx)(n:Nat)(tg:Expr)(g:G3):Prop:=∃g2,PG X tg g2∧∀B S H σ ρ d v Ψ (Q:L2.St->Hp->Prop),ER X.K B S H σ ρ->Rep X.K S H d v->g d ρ Ψ ->
 (∀ρ' σ',Ψ ρ'->ER X.K B S H σ' ρ'->σ'.length=σ.length->(∀j,σ'[n+j]?=σ[n+j]?)->Q σ' H)->g2 v σ H Q
section
variable {X:Cx}{e:Expr}{es:List Expr}{pos:Pos}{n:Nat}
theorem jaL {i:Nat}{x:Str}(hin:i<n)(hN:X.N.Nodup)(hi:X.N[i]?=some x)(hx:Loc X.env.scope x)(hf:X.fn x=true∨X.env.scope.names.lookup x=some .local:=by first | exact .inl rfl | exact .inr rfl | assumption):PGN X n (.Name x pos) (gN i) :=
 ⟨_,js8 hN hi hx hf,fun B S H σ ρ d v Ψ Q er r h k=>k _ _ h (er.put r) (by rw [List.length_set]) fun j=>by rw [List.getElem?_set_ne (by omega)]⟩
end
def PBs (X:Cx)(ifs:List Expr)(t:B3):Prop:=(ifs=[]∧t=fun _ Φ=>Φ true)∨∃c,ifs=[c]∧PB X c t
theorem jbh {X:Cx}:PBs X [] (fun _ Φ=>Φ true):=.inl ⟨rfl,rfl⟩
theorem PBs.ex {X:Cx}{ifs:List Expr}{t:B3}(h:PBs X ifs t):∃t2,PTs X ifs t2∧∀B S H σ ρ Φ (Q:Bool->Hp->Prop),ER X.K B S H σ ρ->t ρ Φ->(∀b H',Φ b->Same H H'->Q b H')->t2 σ H Q:=by
 rcases h with⟨rfl,rfl⟩ | ⟨c,rfl,t2,h,w⟩
 ·exact⟨_,.inl ⟨rfl,rfl⟩,fun B S H σ ρ Φ Q er q hd=>hd true H q (Same.refl _)⟩
 ·exact⟨t2,.inr ⟨c,rfl,h⟩,w⟩
def jhy (g:G3)(tt:B3)(te:E3)(ρ:jN):List D->List D->(List D->Prop)->Prop
 | [],acc,Φ=>Φ acc
 | d::ds,acc,Φ=>g d ρ fun ρ1=>tt ρ1 fun k=>if k=true then te ρ1 fun y=>acc.length<sizeLine∧jhy g tt te ρ ds (acc++[y]) Φ else jhy g tt te ρ ds acc Φ
abbrev jb4 (n:Nat)(ti:A3)(g:G3)(tt:B3)(te:E3):A3:=fun ρ Φ=>ti ρ fun ds=>jhy g tt te (List.replicate n .un++ρ) ds [] Φ
section
variable {K:PySem.W.Frag}{B:Bs}{S:Addr->Prop}{H:Hp}{σ:L2.St}{ρ:jN}
theorem ER.shift (er:ER K B S H σ ρ)(n:Nat):ER K B S H (List.replicate n none++σ) (List.replicate n .un++ρ):=by
 have sh:∀{i:Nat} {x:Sl},x≠.un->(List.replicate n Sl.un++ρ)[i]?=some x->n≤i∧ρ[i - n]?=some x:=fun {i x} hx e=>by
  by_cases hi:i<n
  ·rw [List.getElem?_append_left (by rw [List.length_replicate]; exact hi),List.getElem?_replicate,if_pos hi] at e
   exact absurd (Option.some.inj e).symm hx
  ·rw [List.getElem?_append_right (by rw [List.length_replicate]; omega),List.length_replicate] at e
   exact⟨by omega,e⟩
 have bk:∀{i:Nat},n≤i->(List.replicate n (none:Option V)++σ)[i]?=σ[i - n]?:=fun {i} hi=>by
  rw [List.getElem?_append_right (by rw [List.length_replicate]; omega),List.length_replicate]
 exact {
  len:=by rw [List.length_append,List.length_append,List.length_replicate,List.length_replicate,er.len]
  same:=er.same
  sub:=er.sub
  ok0:=er.ok0
  ok:=er.ok
  val:=fun i d q=>by
   obtain⟨hi,q⟩:=sh (x:=.val d) (fun z=>by cases z) q
   obtain⟨v,e,r⟩:=er.val _ d q
   exact⟨v,(bk hi).trans e,r⟩
  own:=fun i d q=>by
   obtain⟨hi,q⟩:=sh (x:=.own d) (fun z=>by cases z) q
   obtain⟨a,xs,e,r⟩:=er.own _ d q
   exact⟨a,xs,(bk hi).trans e,r⟩
  uq:=fun i j a ds es q1 q2 e1 e2=>by
   obtain⟨h1,q1⟩:=sh (x:=.own ds) (fun z=>by cases z) q1
   obtain⟨h2,q2⟩:=sh (x:=.own es) (fun z=>by cases z) q2
   rw [bk h1] at e1
   rw [bk h2] at e2
   have:=er.uq _ _ a ds es q1 q2 e1 e2
   omega
  dct:=fun i ks d q=>by
   obtain⟨hi,q⟩:=sh (x:=.dct ks d) (fun z=>by cases z) q
   obtain⟨a,e,r⟩:=er.dct _ ks d q
   exact⟨a,(bk hi).trans e,r⟩
  dq:=fun i j a ks ds ks' ds' q1 q2 e1 e2=>by
   obtain⟨h1,q1⟩:=sh (x:=.dct ks ds) (fun z=>by cases z) q1
   obtain⟨h2,q2⟩:=sh (x:=.dct ks' ds') (fun z=>by cases z) q2
   rw [bk h1] at e1
   rw [bk h2] at e2
   have:=er.dq _ _ a ks ds ks' ds' q1 q2 e1 e2
   omega
  rf:=fun i v q=>by
   obtain⟨hi,q⟩:=sh (x:=.raw v) (fun z=>by cases z) q
   exact(bk hi).trans (er.rf _ v q)
  rwx:=fun i v q=>by
   obtain⟨hi,q⟩:=sh (x:=.row v) (fun z=>by cases z) q
   obtain⟨a,e,h0⟩:=er.rwx _ v q
   exact⟨a,(bk hi).trans e,h0⟩
  gh:=er.gh }
theorem ER.gather {p:Addr}{xs:List V}(er:ER K B S H σ ρ)(hp:H p=none):ER K B (fun b=>S b∨b=p) (j1 H p (.lst xs)) σ ρ:=by
 have sm:=jbf (o:=.lst xs) hp
 have hL:∀b ys,LR K S H b ys->LR K (fun b=>S b∨b=p) (j1 H p (.lst xs)) b ys:=fun b ys q=>by
  rcases q with⟨n,q⟩ | q
  ·have hb:b≠p:=by
    rintro rfl
    rcases q with q | ⟨o,q⟩ <;> rw [hp] at q <;> cases q
   refine .inl ⟨fun z=>z.elim n hb,?_⟩
   rcases q with q | ⟨o,q⟩
   ·exact .inl (sm _ _ q)
   ·exact .inr ⟨o,sm _ _ q⟩
  ·exact .inr q
 have mv:∀{c:D} {w:V},Rep K S H c w->Rep K (fun b=>S b∨b=p) (j1 H p (.lst xs)) c w:=fun {c w} q=>Rep.map (jf4 sm) hL c w q
 have mvs:∀{c:List D} {w:List V},Reps K S H c w->Reps K (fun b=>S b∨b=p) (j1 H p (.lst xs)) c w:=fun {c w} q=>Reps.map (jf4 sm) hL c w q
 exact {
  len:=er.len
  same:=er.same.trans sm
  sub:=fun b h=>.inl (er.sub b h)
  ok0:=er.ok0
  ok:=fun b h=>by
   by_cases hb:b=p
   ·subst hb; exact⟨_,jaA⟩
   ·obtain⟨o,e⟩:=er.ok b (h.resolve_right hb)
    exact⟨o,sm _ _ e⟩
  val:=fun j c q=>let ⟨w,e,r'⟩:=er.val j c q; ⟨w,e,mv r'⟩
  own:=fun j c q=>let ⟨b,zs,e,hs,hz,hl,r'⟩:=er.own j c q; ⟨b,zs,e,.inl hs,hz,sm _ _ hl,mvs r'⟩
  dct:=fun j ks ds q=>let ⟨b,e,hs,hz,r'⟩:=er.dct j ks ds q; ⟨b,e,.inl hs,hz,r'.map mvs (jO (r'.ne' hp))⟩
  dq:=er.dq
  rf:=er.rf
  rwx:=er.rwx
  uq:=er.uq
  gh:=fun q hq=>mv (er.gh q hq) }
theorem jh4 {p:Addr}{xs ys:List V}(hs:S p)(hl:H p=some (.lst xs)):(∀b zs,SqT K H b zs->SqT K (j1 H p (.lst ys)) b zs)∧(∀b zs,LR K S H b zs->LR K S (j1 H p (.lst ys)) b zs):=by
 refine⟨fun b zs q=>?_,fun b zs q=>?_⟩
 ·rcases q with (q | ⟨o,q⟩) | q
  ·exact .inl (.inl (by rw [jO (jiE q hl (fun z=>by cases z))]; exact q))
  ·exact .inl (.inr ⟨o,by rw [jO (jiE q hl (fun z=>by cases z))]; exact q⟩)
  ·exact .inr q
 ·rcases q with⟨n,q⟩ | q
  ·have hb:b≠p:=fun z=>n (z▸hs)
   refine .inl ⟨n,?_⟩
   rcases q with q | ⟨o,q⟩
   ·exact .inl (by rw [jO hb]; exact q)
   ·exact .inr ⟨o,by rw [jO hb]; exact q⟩
  ·exact .inr q
theorem ER.grow {p:Addr}{xs ys:List V}(er:ER K B S H σ ρ)(hs:S p)(h0:B.H0 p=none)(hl:H p=some (.lst xs))(hno:∀(i:Nat) ds,ρ[i]?=some (.own ds)->σ[i]?≠some (some (.ref p))):ER K B S (j1 H p (.lst ys)) σ ρ:=by
 obtain⟨hT,hL⟩:=jh4 (K:=K) (ys:=ys) hs hl
 have mv:∀{c:D} {w:V},Rep K S H c w->Rep K S (j1 H p (.lst ys)) c w:=fun {c w} q=>Rep.map hT hL c w q
 have mvs:∀{c:List D} {w:List V},Reps K S H c w->Reps K S (j1 H p (.lst ys)) c w:=fun {c w} q=>Reps.map hT hL c w q
 exact {
  len:=er.len
  same:=fun b o e=>by rw [jO (jaM e h0)]; exact er.same b o e
  sub:=er.sub
  ok0:=er.ok0
  ok:=fun b h=>by
   by_cases hb:b=p
   ·subst hb; exact⟨_,jaA⟩
   ·obtain⟨o,e⟩:=er.ok b h
    exact⟨o,by rw [jO hb]; exact e⟩
  val:=fun j c q=>let ⟨w,e,r'⟩:=er.val j c q; ⟨w,e,mv r'⟩
  own:=fun j c q=>by
   obtain⟨b,zs,e,hsb,hz,hlb,r'⟩:=er.own j c q
   have hb:b≠p:=fun z=>hno j c q (z▸e)
   exact⟨b,zs,e,hsb,hz,by rw [jO hb]; exact hlb,mvs r'⟩
  dct:=fun j ks ds q=>let ⟨b,e,hs,hz,r'⟩:=er.dct j ks ds q; ⟨b,e,hs,hz,r'.map mvs (jO (r'.ne hl))⟩
  dq:=er.dq
  rf:=er.rf
  rwx:=er.rwx
  uq:=er.uq
  gh:=fun q hq=>mv (er.gh q hq) }
end
section
variable {X:Cx}{xs M:List Str}{scope:Scope}{target elt iter:Expr}{ifs:List Expr}{pos:Pos}{ti:A3}{g:G3}{tt:B3}{te:E3}{n:Nat}
theorem jxk {g2:TG}{tt2:TT}{te2:TE}{K:PySem.W.Frag}(wg:∀B S H σ ρ d v Ψ (Q:L2.St->Hp->Prop),ER K B S H σ ρ->Rep K S H d v->g d ρ Ψ->(∀ρ' σ',Ψ ρ'->ER K B S H σ' ρ'->σ'.length=σ.length->(∀j,σ'[n+j]?=σ[n+j]?)->Q σ' H)->g2 v σ H Q)
  (wt:∀B S H σ ρ Φ (Q:Bool->Hp->Prop),ER K B S H σ ρ->tt ρ Φ->(∀b H',Φ b->Same H H'->Q b H')->tt2 σ H Q) (we:∀B S H σ ρ Φ Q,ER K B S H σ ρ->te ρ Φ->Hand K S H Φ Q->te2 σ H Q)
  {B:Bs} {S:Addr->Prop} {H:Hp} {σ:L2.St} {ρ:jN} {Φ:List D->Prop} {J:It} {hs:List (D×V)} {ds:List D} {p:Addr} {Q:VK} {Fin:List V->Hp->Prop} (er:ER K B S H σ ρ) (rv:∀p∈hs,Rep K S H p.1 p.2) (wk:∀S H,ER K { B with gh:=hs++B.gh } S H σ ρ->J.stop ds.length H∧∀(i:Nat),i<ds.length->J.go i H∧∀x H',J.yld i H x H'->Same H H'∧∃e,ds[i]?=some e∧Rep K S H' e x) (hp:H p=none)
  (h:jhy g tt te (List.replicate n .un++ρ) ds [] Φ) (hd:jux K S H Φ Q) (hF:∀ys H',Q (.ref p) H'->Fin ys H'):lcW n J g2 tt2 te2 σ p Fin (j1 H p (.lst [])):=by
 have hno:∀(i:Nat) es,ρ[i]?=some (.own es)->σ[i]?≠some (some (.ref p)):=fun i es q z=>by
  obtain⟨a,zs,e,_,_,hl,_⟩:=er.own i es q
  rw [e] at z; cases z
  rw [hp] at hl; cases hl
 have h0:B.H0 p=none:=er.same.free hp
 refine⟨fun i m ys H1=>m=ds.length - i∧i≤ds.length∧H1 p=some (.lst ys)∧(∀b o,H b=some o->H1 b=some o)∧∃acc,ER K { B with gh:=hs++B.gh } (fun b=>S b∨b=p) H1 σ ρ∧Reps K (fun b=>S b∨b=p) H1 acc ys∧jhy g tt te (List.replicate n .un++ρ) (ds.drop i) acc Φ,
  ⟨_,rfl,Nat.zero_le _,jaA,jbf hp,[],(er.holds rv).gather hp,Reps.nil,h⟩,?_⟩
 rintro i m ys H1 ⟨rfl,hi,hl,sm,acc,er1,ra,hc⟩
 refine⟨hl,?_⟩
 obtain⟨wstop,wgo⟩:=wk _ H1 er1
 by_cases hlt:i<ds.length
 ·obtain⟨go,yl⟩:=wgo i hlt
  rw [List.drop_eq_getElem_cons hlt] at hc
  refine .inr ⟨go,fun x H2 y=>?_⟩
  obtain⟨sy,e',ee,re⟩:=yl x H2 y
  rw [List.getElem?_eq_getElem hlt] at ee
  cases ee
  have er1:=er1.go sy
  have hl:=sy _ _ hl
  have sm:∀b o,H b=some o->H2 b=some o:=fun b o e=>sy _ _ (sm b o e)
  have ra:=ra.same sy
  have er1':=er1.shift n
  refine wg _ _ _ _ _ _ x _ _ er1' re hc fun ρ1 σ1 h1 er2 l1 l2=>⟨⟨by rw [l1,List.length_append,List.length_replicate],fun j=>?_⟩,wt _ _ _ _ _ _ _ er2 h1 fun k H3 hk s3=>?_⟩
  ·rw [l2 j,List.getElem?_append_right (by rw [List.length_replicate]; omega),List.length_replicate,Nat.add_sub_cancel_left]
  ·cases k with
   | false =>
    simp only [Bool.false_eq_true,if_false] at hk ⊢
    exact⟨_,by omega,rfl,hlt,s3 _ _ hl,fun b o e=>s3 _ _ (sm b o e),acc,er1.go s3,ra.same s3,hk⟩
   | true =>
    simp only [if_true] at hk ⊢
    refine we _ _ _ _ _ _ _ (er2.go s3) hk fun y u H4 hy s4 ry=>?_
    have s34:=s3.trans s4
    have hl4:=s34 _ _ hl
    have er4:=er1.go s34
    refine⟨hl4,by rw [←ra.len]; exact hy.1,_,by omega,rfl,hlt,jaA,fun b o e=>?_,acc++[y],er4.grow (.inr rfl) h0 hl4 hno,?_,hy.2⟩
    ·have hb:b≠p:=jaM e hp
     rw [jO hb]
     exact s34 _ _ (sm b o e)
    ·obtain⟨hT,hL⟩:=jh4 (K:=K) (S:=fun b=>S b∨b=p) (ys:=ys++[u]) (.inr rfl) hl4
     exact Reps.map hT hL _ _ ((ra.same s34).app (Reps.cons ry Reps.nil))
 ·have hi':i=ds.length:=by omega
  subst hi'
  rw [List.drop_length] at hc
  refine .inl ⟨wstop,hF ys H1 ?_⟩
  -- the heap without the gathered list
  have eH:j1 (fun b=>if b=p then none else H1 b) p (.lst ys)=H1:=by
   funext b
   by_cases hb:b=p
   ·subst hb; rw [jaA,hl]
   ·rw [jO hb]; simp only [hb,if_false]
  have hT:∀b zs,SqT K H1 b zs->SqT K (fun b=>if b=p then none else H1 b) b zs:=fun b zs q=>by
   rcases q with (q | ⟨o,q⟩) | q
   ·exact .inl (.inl (by simp only [jiE q hl (fun z=>by cases z),if_false]; exact q))
   ·exact .inl (.inr ⟨o,by simp only [jiE q hl (fun z=>by cases z),if_false]; exact q⟩)
   ·exact .inr q
  have hL:∀b zs,LR K (fun b=>S b∨b=p) H1 b zs->LR K S (fun b=>if b=p then none else H1 b) b zs:=fun b zs q=>by
   rcases q with⟨n,q⟩ | q
   ·have hb:b≠p:=fun z=>n (.inr z)
    refine .inl ⟨fun z=>n (.inl z),?_⟩
    rcases q with q | ⟨o,q⟩
    ·exact .inl (by simp only [hb,if_false]; exact q)
    ·exact .inr ⟨o,by simp only [hb,if_false]; exact q⟩
   ·exact .inr q
  have:=hd acc ys p (fun b=>if b=p then none else H1 b) hc (fun b o e=>by simp only [jaM e hp,if_false]; exact sm b o e) (by simp) (Reps.map hT hL _ _ ra)
  rw [eH] at this
  exact this
theorem jwW {g2:TG}{tt2:TT}{te2:TE}{K:PySem.W.Frag}(wg:∀B S H σ ρ d v Ψ (Q:L2.St->Hp->Prop),ER K B S H σ ρ->Rep K S H d v->g d ρ Ψ->(∀ρ' σ',Ψ ρ'->ER K B S H σ' ρ'->σ'.length=σ.length->(∀j,σ'[n+j]?=σ[n+j]?)->Q σ' H)->g2 v σ H Q)
  (wt:∀B S H σ ρ Φ (Q:Bool->Hp->Prop),ER K B S H σ ρ->tt ρ Φ->(∀b H',Φ b->Same H H'->Q b H')->tt2 σ H Q) (we:∀B S H σ ρ Φ Q,ER K B S H σ ρ->te ρ Φ->Hand K S H Φ Q->te2 σ H Q)
  {B:Bs} {S:Addr->Prop} {H:Hp} {σ:L2.St} {ρ:jN} {Φ:List D->Prop} {J:It} {hs:List (D×V)} {ds:List D} {p:Addr} {Q:VK} {Fin:List V->Hp->Prop} (er:ER K B S H σ ρ) (rv:∀p∈hs,Rep K S H p.1 p.2) (wk:jqO K J hs ds) (hp:H p=none)
  (h:jhy g tt te (List.replicate n .un++ρ) ds [] Φ) (hd:jux K S H Φ Q) (hF:∀ys H',Q (.ref p) H'->Fin ys H'):lcW n J g2 tt2 te2 σ p Fin (j1 H p (.lst [])) :=
 jxk wg wt we er rv (fun S H er=>wk S H fun p hp=>er.gh p (List.mem_append_left _ hp)) hp h hd hF
theorem jbe (hk:jjv scope X.env xs M X.N=true)(hn:xs.length=n)(hc:X.calm=true)(hi:PID X target iter ti)
  (hg:∀C s H fp,PGN (jaq X xs M scope C s H fp) n target g) (ht:∀C s H fp,PBs (jaq X xs M scope C s H fp) ifs tt) (he:∀C s H fp,PD (jaq X xs M scope C s H fp) elt te)
  (hs:∀x,foldedSetIterable iter X.env x=pure x:=by intro _; rfl):PF X (.ListComp elt [⟨target,iter,ifs,0⟩] scope pos) (jb4 n ti g tt te):=by
 obtain⟨wi,hi,ww⟩:=hi
 have ht':=fun C s H fp=>(ht C s H fp).ex
 refine⟨_,js3 hk hn hc hi (fun C s H fp=>(hg C s H fp).choose_spec.1) (fun C s H fp=>(ht' C s H fp).choose_spec.1) (fun C s H fp=>(he C s H fp).choose_spec.1) hs,fun B S H σ ρ Φ Q er q hd=>?_⟩
 refine ww B S H σ ρ _ _ er q fun ds J hs H1 hΦ s1 rv wk D C s fp hD=>?_
 exact jwW (hg C s H1 fp).choose_spec.2 (ht' C s H1 fp).choose_spec.2 (he C s H1 fp).choose_spec.2 (er.go s1) rv wk hD hΦ (Q:=Q) (fun es zs p H2 p1 s2 hp r=>hd es zs p H2 p1 (s1.trans s2) hp r) fun _ _ z=>z
end
theorem jbK:bootBuiltins "len"=some (.builtin "len"):=by decide +kernel
theorem jAq:bootBuiltins "abs"=some (.builtin "abs"):=by decide +kernel
theorem jAe:bootBuiltins "max"=some (.builtin "max"):=by decide +kernel
theorem juU:bootBuiltins "sum"=some (.builtin "sum"):=by decide +kernel
theorem jr1:bootBuiltins "all"=some (.builtin "all"):=by decide +kernel
theorem jt:bootBuiltins "isinstance"=some (.builtin "isinstance"):=by decide +kernel
theorem jA0:bootBuiltins "int"=some (.type "int"):=by decide +kernel
theorem jhN:bootBuiltins "str"=some (.type "str"):=by decide +kernel
theorem jdv:bootBuiltins "tuple"=some (.type "tuple"):=by decide +kernel
theorem jfE {α:Type}(xs:List α)(n:Nat):atI xs (n:Int)=xs[n]?:=by
 cases h:xs[n]? with
 | some v=>exact jze h
 | none =>
  have h':=List.getElem?_eq_none_iff.mp h
  unfold atI ixN
  rw [if_pos (by omega),if_neg (by omega)]
  rfl
theorem jeY {α:Type}(xs:List α):atI xs 0=xs[0]?:=jfE xs 0
theorem jxW {α:Type}(xs:List α):atI xs 1=xs[1]?:=jfE xs 1
theorem jwU {i j:Int}(h:0<j):i.fmod j=i % j:=Int.fmod_eq_emod_of_nonneg i (Int.le_of_lt h)
theorem jwy {n:Nat}(h:n≤1000):n≤sizeLine:=Nat.le_of_lt (jgW h)
def Bd (k:Nat)(i:Int):Prop:=i.natAbs<2^k
theorem Bd.mono {k l:Nat}{i:Int}(h:Bd k i)(hl:k≤l):Bd l i:=Nat.lt_of_lt_of_le h (Nat.pow_le_pow_right (by decide) hl)
theorem Bd.neg {k:Nat}{i:Int}(h:Bd k i):Bd k (-i):=by unfold Bd; rw [Int.natAbs_neg]; exact h
theorem Bd.add {k l:Nat}{i j:Int}(h:Bd k i)(g:Bd l j):Bd (max k l+1) (i+j):=by
 unfold Bd at *
 have h1:i.natAbs<2^max k l:=Nat.lt_of_lt_of_le h (Nat.pow_le_pow_right (by decide) (Nat.le_max_left ..))
 have h2:j.natAbs<2^max k l:=Nat.lt_of_lt_of_le g (Nat.pow_le_pow_right (by decide) (Nat.le_max_right ..))
 have h3:=Int.natAbs_add_le i j
 rw [Nat.pow_succ]
 omega
theorem Bd.sub {k l:Nat}{i j:Int}(h:Bd k i)(g:Bd l j):Bd (max k l+1) (i - j):=by rw [Int.sub_eq_add_neg]; exact h.add g.neg
theorem Bd.mul {k l:Nat}{i j:Int}(h:Bd k i)(g:Bd l j):Bd (k+l) (i * j):=by
 unfold Bd at *
 rw [Int.natAbs_mul,Nat.pow_add]
 exact Nat.mul_lt_mul_of_lt_of_lt h g
theorem Bd.bits {k:Nat}{i:Int}(h:Bd k i):Builtin.Int.intBits i≤k:=by
 unfold Builtin.Int.intBits
 split
 ·exact Nat.zero_le _
 ·rename_i hz
  have h0:i.natAbs≠0:=by
   intro z
   apply hz
   have:i=0:=Int.natAbs_eq_zero.mp z
   simp [this]
  exact(Nat.log2_lt h0).mpr h
theorem jcP {k l:Nat}{i j:Int}(h:Bd k i)(g:Bd l j)(hk:k+l≤134217728):IntMulOk i j:=IntMulOk.of_le h.bits g.bits hk
theorem jhb {k:Nat}{i j:Int}(h0:j≠0)(h:Bd k j)(hk:k≤9000):CD i j:=by
 refine⟨h0,?_⟩
 have hz:j.natAbs≠0:=fun z=>h0 (Int.natAbs_eq_zero.mp z)
 exact Nat.lt_of_lt_of_le ((Nat.log2_lt hz).mpr h) hk
theorem jBj {k:Nat}{i:Int}(n:Nat)(h:i.natAbs≤n)(hn:n<2^k):Bd k i:=Nat.lt_of_le_of_lt h hn
theorem jAh {i j:Int}(h:decide (j≠0∧j.natAbs<1073741824)=true):CD i j:=by
 have h:=of_decide_eq_true h
 exact jhb (k:=30) h.1 h.2 (by decide)
section
variable {X:Cx}{tg:Expr}
theorem jv0 (hc:X.calm=true):jcS X (.builtin "sum") (fun xs H Q=>∃(p:Addr) (ns:List Int),xs=[.ref p]∧SqL X.K H p (ns.map V.int)∧Q (.int ns.sum) H):=by
 intro pins s σ H xs us Q I r h
 obtain⟨p,ns,rfl,hq,q⟩:=h
 obtain⟨u,rfl,rx⟩:=jfN r
 cases rx
 obtain⟨its,r',pl,hz⟩:=I.list hq
 have hi:IntsAre its ns:=ji8 r'
 obtain⟨xs,hxs⟩:=hi.allInts.items
 have hl:=pl.isList
 have e1:(numsOf its).sum=ns.sum:=by rw [hi.numsOf]
 rw [hxs] at hl
 have e2:numsOf its=numsOf (intItems xs).toList:=by rw [←hxs]
 refine sum_intListG (I.ok.hd hc) hl fun h' tk t' kp=>⟨.int ns.sum,H,I.kept kp,⟨t',?_⟩,q⟩
 rw [preSum_eq,List.take_of_length_le (by simp),←e1,e2,nums_intItems]
abbrev jwZ:jV
 | [.lst ds],Φ=>∃ns:List Int,ds=ns.map .int∧Φ (.int ns.sum)
 | _,_=>False
theorem jxY (hc:X.calm=true):jeR X (.builtin "sum") jwZ:=⟨_,jv0 hc,fun S H ds vs Φ Q so r h hd=>by
 match ds,h with
 | [.lst ds],⟨ns,e,h⟩ =>
  subst e
  simp only [Reps] at r
  obtain⟨v,_,rfl,rv,rfl⟩:=r
  obtain⟨a,xs,rfl,lr,rs⟩:=j3 rv
  have:=rs.intsV
  subst this
  exact⟨a,ns,rfl,lr.sq,hd _ _ H h (Same.refl _) Rep.int⟩⟩
theorem jcq {k:Nat}{i:Int}(h:decide (i.natAbs<2^k)=true):Bd k i:=by unfold Bd; exact of_decide_eq_true h
theorem jv {n:Nat}(k:Nat)(h:n=k)(hk:k≤1000):n≤sizeLine:=by subst h; exact jwy hk
theorem jag {n:Nat}(k:Nat)(h:n=k)(hk:k≤1000):n<sizeLine:=by subst h; exact jgW hk
theorem jzL {i j:Int}(h:decide (0≤j∧j≤1000000∧i.natAbs<18446744073709551616)=true):jug i j:=let h:=of_decide_eq_true h; ⟨h.1,h.2.1,h.2.2⟩
theorem tst {A B:Prop}{b:Bool}(h1:b=true->A)(h2:b=false->B):if b=true then A else B:=by
 cases b with
 | true=>rw [if_pos rfl]; exact h1 rfl
 | false=>rw [if_neg Bool.false_ne_true]; exact h2 rfl
theorem tT {A B:Prop}{b:Bool}(h:b=true)(a:A):if b=true then A else B:=by rw [if_pos h]; exact a
theorem tF {A B:Prop}{b:Bool}(h:b=false)(a:B):if b=true then A else B:=by subst h; rw [if_neg Bool.false_ne_true]; exact a
theorem jeu {te:E3}{ρ:jN}{Φ:List D->Prop}(f:D->D):∀(ds acc:List D),acc.length+ds.length≤1000->(∀d∈ds,∀Ψ:D->Prop,Ψ (f d)->te (ρ.set 0 (.val d)) Ψ)->Φ (acc++ds.map f)->jhy (gN 0) (fun _ Φ=>Φ true) te ρ ds acc Φ
 | [],acc,_,_,h=>by rw [List.map_nil,List.append_nil] at h; exact h
 | d::ds,acc,hl,hs,h=>by
  refine hs d List.mem_cons_self _ ⟨jgW (by simp only [List.length_cons] at hl; omega),?_⟩
  refine jeu f ds (acc++[f d]) (by simp only [List.length_cons,List.length_append,List.length_nil] at hl ⊢; omega) (fun e he=>hs e (List.mem_cons_of_mem _ he)) ?_
  rw [List.append_assoc,List.singleton_append]
  exact h
end
mutual
def jF:D->D->Bool
 | .non,.non=>true
 | .bl a,.bl b=>a == b
 | .bl a,.int b=>(if a then 1 else 0) == b
 | .int a,.bl b=>a == (if b then 1 else 0)
 | .int a,.int b=>a == b
 | .str a,.str b=>a == b
 | .tup xs,.tup ys=>jcJ xs ys
 | .lst xs,.lst ys=>jcJ xs ys
 | _,_=>false
def jcJ:List D->List D->Bool
 | [],[]=>true
 | x::xs,y::ys=>jF x y&&jcJ xs ys
 | _,_=>false
end
mutual
def dep:D->Nat
 | .tup xs=>jgj xs+1
 | .lst xs=>jgj xs+1
 | _=>0
def jgj:List D->Nat
 | []=>0
 | x::xs=>max (dep x) (jgj xs)
end
theorem jhF:∀{ds:List D} {i:Nat} {d:D},ds[i]?=some d->dep d≤jgj ds
 | [],i,d,h=>by simp at h
 | c::ds,0,d,h=>by simp at h; subst h; simp only [jgj]; exact Nat.le_max_left _ _
 | c::ds,i+1,d,h=>by simp only [jgj]; exact Nat.le_trans (jhF (i:=i) (by simpa using h)) (Nat.le_max_right _ _)
mutual
theorem jf9:∀d:D,jF d d=true
 | .non=>by simp only [jF]
 | .bl b=>by simp [jF]
 | .int i=>by simp [jF]
 | .str x=>by simp [jF]
 | .tup ds=>by simp only [jF]; exact jk2 ds
 | .lst ds=>by simp only [jF]; exact jk2 ds
theorem jk2:∀ds:List D,jcJ ds ds=true
 | []=>by simp only [jcJ]
 | d::ds=>by simp only [jcJ,jf9 d,jk2 ds,Bool.and_self]
end
theorem jmV:∀{xs ys:List D},xs.length≠ys.length->jcJ xs ys=false
 | [],[],h=>absurd rfl h
 | [],_::_,_=>by simp only [jcJ]
 | _::_,[],_=>by simp only [jcJ]
 | x::xs,y::ys,h=>by
  simp only [jcJ]
  rw [jmV (xs:=xs) (ys:=ys) (by simpa using h),Bool.and_false]
theorem jiH:∀{xs ys:List D},xs.length=ys.length->(List.range xs.length).all (fun j=>jF (xs.getD j .non) (ys.getD j .non))=jcJ xs ys
 | [],[],_=>by simp [jcJ]
 | x::xs,y::ys,h=>by
  rw [List.length_cons,List.range_succ_eq_map,List.all_cons,List.all_map]
  simp only [jcJ]
  rw [←jiH (xs:=xs) (ys:=ys) (by simpa using h)]
  rfl
section
variable {X:Cx}{pins:List (Addr×Obj)}{σ:L2.St}{H:Hp}{s:Shared}{S:Addr->Prop}
theorem jsq {a:Addr}{xs ys:List V}(I:Inv X pins σ H s)(h:SqT X.K H a xs)(h':SqL X.K H a ys):False:=by
 obtain⟨its,_,p,_⟩:=I.tuple h
 obtain⟨its2,_,p2,_⟩:=I.list h'
 obtain⟨o,e,c,_⟩:=p
 obtain⟨o2,n2,e2,c2,_⟩:=p2
 rw [e] at e2; cases e2
 rw [c] at c2
 exact absurd c2 (by decide)
mutual
theorem jlz (I:Inv X pins σ H s):∀(d d':D) (v:V),Rep X.K S H d v->Rep X.K S H d' v->d=d'
 | .non,d',v,h,h'=>by cases jao h; cases d' <;> simp [Rep] at h' ⊢
 | .bl b,d',v,h,h'=>by cases jaz h; cases d' <;> simp [Rep] at h' ⊢; exact h'
 | .int b,d',v,h,h'=>by cases j5 h; cases d' <;> simp [Rep] at h' ⊢; exact h'
 | .str b,d',v,h,h'=>by cases jaG h; cases d' <;> simp [Rep] at h' ⊢; exact h'
 | .tup ds,d',v,h,h'=>by
  obtain⟨a,xs,rfl,q,rs⟩:=jad h
  cases d' with
  | tup es =>
   obtain⟨a',xs',e,q',rs'⟩:=jad h'
   cases e
   have:=I.tuple_inj q q'
   subst this
   rw [jmK I ds es xs rs rs']
  | lst es =>
   obtain⟨a',xs',e,q',rs'⟩:=j3 h'
   cases e
   exact(jsq I q q'.sq).elim
  | _=>simp [Rep] at h'
 | .lst ds,d',v,h,h'=>by
  obtain⟨a,xs,rfl,q,rs⟩:=j3 h
  cases d' with
  | lst es =>
   obtain⟨a',xs',e,q',rs'⟩:=j3 h'
   cases e
   have:=I.list_inj q.sq q'.sq
   subst this
   rw [jmK I ds es xs rs rs']
  | tup es =>
   obtain⟨a',xs',e,q',rs'⟩:=jad h'
   cases e
   exact(jsq I q' q.sq).elim
  | _=>simp [Rep] at h'
theorem jmK (I:Inv X pins σ H s):∀(d d':List D) (v:List V),Reps X.K S H d v->Reps X.K S H d' v->d=d'
 | [],d',v,h,h'=>by
  simp only [Reps] at h; subst h
  cases d' with
  | nil=>rfl
  | cons c cs=>simp [Reps] at h'
 | c::cs,d',v,h,h'=>by
  simp only [Reps] at h
  obtain⟨x,r,rfl,q,t⟩:=h
  cases d' with
  | nil=>simp [Reps] at h'
  | cons e es =>
   simp only [Reps] at h'
   obtain⟨x',r',e',q',t'⟩:=h'
   cases e'
   rw [jlz I c e x q q',jmK I cs es r t t']
end
def RcQ (ne:Bool)(A:Around)(s:Shared)(u v:Value)(b:Bool):Prop:=if ne then SeqAt.RcNeAt A s u v (!b) else SeqAt.RcAt A s u v b
theorem jra {A:Around}(its its2:List Value)(xs ys:List V)(ds es:List D)(r1:Vals xs its)(r2:Vals ys its2)(rs:Reps X.K S H ds xs)(rs':Reps X.K S H es ys)
  (ih:∀(j:Nat) (x y:D) (v v':V) (u u':Value),ds[j]?=some x->Rep X.K S H x v->Rep X.K S H y v'->RelV v u->RelV v' u'->SeqAt.EqAt A s u u' (jF x y)) :
  ∀j (h1:j<its.toArray.size) (h2:j<its2.toArray.size),SeqAt.EqAt A s its.toArray[j] its2.toArray[j] (jF (ds.getD j .non) (es.getD j .non)):=by
 intro j h1 h2
 have k1:j<ds.length:=by rw [rs.len,r1.length]; simpa using h1
 have k2:j<es.length:=by rw [rs'.len,r2.length]; simpa using h2
 obtain⟨v,ev,rv⟩:=rs.get (i:=j) (d:=ds[j]) (by simp [k1])
 obtain⟨v',ev',rv'⟩:=rs'.get (i:=j) (d:=es[j]) (by simp [k2])
 obtain⟨u,eu,ru⟩:=r1.get ev
 obtain⟨u',eu',ru'⟩:=r2.get ev'
 have w1:its.toArray[j]=u:=by
  have:its[j]?=some its.toArray[j]:=by simp at h1 ⊢
  rw [eu] at this; exact(Option.some.inj this).symm
 have w2:its2.toArray[j]=u':=by
  have:its2[j]?=some its2.toArray[j]:=by simp at h2 ⊢
  rw [eu'] at this; exact(Option.some.inj this).symm
 have w3:ds.getD j .non=ds[j]:=by rw [List.getD_eq_getElem?_getD]; simp [k1]
 have w4:es.getD j .non=es[j]:=by rw [List.getD_eq_getElem?_getD]; simp [k2]
 rw [w1,w2,w3,w4]
 exact ih j ds[j] es[j] v v' u u' (by simp [k1]) rv rv' ru ru'
theorem jrp {ne:Bool}{A:Around}{ds es:List D}{a b:Addr}{xs ys:List V}(I:Inv X pins σ H s)(hu:A.units<cLine)(q:SqL X.K H a xs)(q':SqL X.K H b ys)(rs:Reps X.K S H ds xs)(rs':Reps X.K S H es ys)
  (ih:∀(j:Nat) (x y:D) (v v':V) (u u':Value),ds[j]?=some x->Rep X.K S H x v->Rep X.K S H y v'->RelV v u->RelV v' u'->SeqAt.EqAt A.in1 s u u' (jF x y)):RcQ ne A s (.ref a) (.ref b) (jcJ ds es):=by
 obtain⟨its,r1,p1,_⟩:=I.list q
 obtain⟨its2,r2,p2,_⟩:=I.list q'
 have hl1:its.toArray.size=ds.length:=by rw [rs.len,r1.length]; simp
 have hl2:its2.toArray.size=es.length:=by rw [rs'.len,r2.length]; simp
 unfold RcQ
 by_cases hlen:ds.length=es.length
 ·have it:=jra its its2 xs ys ds es r1 r2 rs rs' ih
  have e1:(List.range its.toArray.size).all (fun j=>jF (ds.getD j .non) (es.getD j .non))=jcJ ds es:=by rw [hl1]; exact jiH hlen
  cases ne with
  | false =>
   have:=SeqAt.RcAt.lists p1.isList p2.isList (by rw [hl1,hl2,hlen]) hu it
   rw [e1] at this
   exact this
  | true =>
   have:=SeqAt.RcNeAt.lists p1.isList p2.isList (by rw [hl1,hl2,hlen]) hu it
   rw [e1] at this
   exact this
 ·rw [jmV hlen]
  have hz:(its.toArray.size != its2.toArray.size)=true:=by rw [hl1,hl2]; simpa using hlen
  cases ne with
  | false=>exact SeqAt.RcAt.lists_lengths p1.isList p2.isList hz hu
  | true=>exact SeqAt.RcNeAt.lists_lengths p1.isList p2.isList hz hu
theorem jp1 {ne:Bool}{A:Around}{ds es:List D}{a b:Addr}{xs ys:List V}(I:Inv X pins σ H s)(hu:A.units<cLine)(q:SqT X.K H a xs)(q':SqT X.K H b ys)(rs:Reps X.K S H ds xs)(rs':Reps X.K S H es ys)
  (ih:∀(j:Nat) (x y:D) (v v':V) (u u':Value),ds[j]?=some x->Rep X.K S H x v->Rep X.K S H y v'->RelV v u->RelV v' u'->SeqAt.EqAt A.in1 s u u' (jF x y)):RcQ ne A s (.ref a) (.ref b) (jcJ ds es):=by
 obtain⟨its,r1,p1,_⟩:=I.tuple q
 obtain⟨its2,r2,p2,_⟩:=I.tuple q'
 have hl1:its.toArray.size=ds.length:=by rw [rs.len,r1.length]; simp
 have hl2:its2.toArray.size=es.length:=by rw [rs'.len,r2.length]; simp
 have it:=jra its its2 xs ys ds es r1 r2 rs rs' ih
 have e1:((List.range (min its.toArray.size its2.toArray.size)).all (fun j=>jF (ds.getD j .non) (es.getD j .non))&&its.toArray.size == its2.toArray.size)=jcJ ds es:=by
  rw [hl1,hl2]
  by_cases hlen:ds.length=es.length
  ·rw [←hlen,Nat.min_self,jiH hlen]; simp
  ·rw [jmV hlen]
   have:(ds.length == es.length)=false:=by simpa using hlen
   rw [this,Bool.and_false]
 unfold RcQ
 cases ne with
 | false =>
  have:=SeqAt.RcAt.tuples p1 p2 hu it
  rw [e1] at this
  exact this
 | true =>
  have:=SeqAt.RcNeAt.tuples p1 p2 hu it
  rw [e1] at this
  exact this
theorem jrV (I:Inv X pins σ H s):∀(n:Nat) (x y:D) (v v':V) (u u':Value) (A:Around),dep x≤n->A.units+n<cLine->Rep X.K S H x v->Rep X.K S H y v'->RelV v u->RelV v' u'->SeqAt.EqAt A s u u' (jF x y):=by
 intro n
 induction n with
 | zero =>
  intro x y v v' u u' A hd hu rx ry ru ru'
  cases x with
  | tup ds=>simp only [dep] at hd; omega
  | lst ds=>simp only [dep] at hd; omega
  | non =>
   cases jao rx
   cases (show u=Value.none from ru)
   cases y with
   | non=>cases jao ry; cases (show u'=Value.none from ru'); simp only [jF]; exact SeqAt.EqAt.same _
   | bl b=>cases jaz ry; cases (show u'=Value.bool b from ru'); simp only [jF]; exact SeqAt.EqAt.none_bool b
   | int b=>cases j5 ry; obtain⟨t,rfl⟩:=ru'; simp only [jF]; exact SeqAt.EqAt.none_int b t
   | str b=>cases jaG ry; obtain⟨t,rfl⟩:=ru'; simp only [jF]; exact SeqAt.EqAt.none_str b t
   | tup es =>
    obtain⟨a,xs,rfl,q,rs⟩:=jad ry
    cases (show u'=Value.ref a from ru')
    obtain⟨its,r1,p1,_⟩:=I.tuple q
    simp only [jF]; exact SeqAt.EqAt.none_tuple p1 (by omega)
   | lst es =>
    obtain⟨a,xs,rfl,q,rs⟩:=j3 ry
    cases (show u'=Value.ref a from ru')
    obtain⟨its,r1,p1,_⟩:=I.list q.sq
    simp only [jF]; exact SeqAt.EqAt.none_list p1.isList (by omega)
  | bl a0 =>
   cases jaz rx
   cases (show u=Value.bool a0 from ru)
   cases y with
   | non=>cases jao ry; cases (show u'=Value.none from ru'); simp only [jF]; exact SeqAt.EqAt.bool_none a0
   | bl b=>cases jaz ry; cases (show u'=Value.bool b from ru'); simp only [jF]; exact SeqAt.EqAt.bool_bool a0 b
   | int b=>cases j5 ry; obtain⟨t,rfl⟩:=ru'; simp only [jF]; exact SeqAt.EqAt.bool_int a0 b t
   | str b=>cases jaG ry; obtain⟨t,rfl⟩:=ru'; simp only [jF]; exact SeqAt.EqAt.bool_str a0 b t
   | tup es =>
    obtain⟨a,xs,rfl,q,rs⟩:=jad ry
    cases (show u'=Value.ref a from ru')
    obtain⟨its,r1,p1,_⟩:=I.tuple q
    simp only [jF]; exact SeqAt.EqAt.bool_tuple a0 p1 (by omega)
   | lst es =>
    obtain⟨a,xs,rfl,q,rs⟩:=j3 ry
    cases (show u'=Value.ref a from ru')
    obtain⟨its,r1,p1,_⟩:=I.list q.sq
    simp only [jF]; exact SeqAt.EqAt.bool_list a0 p1.isList (by omega)
  | int a0 =>
   cases j5 rx
   obtain⟨t0,rfl⟩:=ru
   cases y with
   | non=>cases jao ry; cases (show u'=Value.none from ru'); simp only [jF]; exact SeqAt.EqAt.int_none a0 t0
   | bl b=>cases jaz ry; cases (show u'=Value.bool b from ru'); simp only [jF]; exact SeqAt.EqAt.int_bool a0 t0 b
   | int b=>cases j5 ry; obtain⟨t,rfl⟩:=ru'; simp only [jF]; exact SeqAt.EqAt.int_int a0 t0 b t
   | str b=>cases jaG ry; obtain⟨t,rfl⟩:=ru'; simp only [jF]; exact SeqAt.EqAt.int_str a0 t0 b t
   | tup es =>
    obtain⟨a,xs,rfl,q,rs⟩:=jad ry
    cases (show u'=Value.ref a from ru')
    obtain⟨its,r1,p1,_⟩:=I.tuple q
    simp only [jF]; exact SeqAt.EqAt.int_tuple a0 t0 p1 (by omega)
   | lst es =>
    obtain⟨a,xs,rfl,q,rs⟩:=j3 ry
    cases (show u'=Value.ref a from ru')
    obtain⟨its,r1,p1,_⟩:=I.list q.sq
    simp only [jF]; exact SeqAt.EqAt.int_list a0 t0 p1.isList (by omega)
  | str a0 =>
   cases jaG rx
   obtain⟨t0,rfl⟩:=ru
   cases y with
   | non=>cases jao ry; cases (show u'=Value.none from ru'); simp only [jF]; exact SeqAt.EqAt.str_none a0 t0
   | bl b=>cases jaz ry; cases (show u'=Value.bool b from ru'); simp only [jF]; exact SeqAt.EqAt.str_bool a0 t0 b
   | int b=>cases j5 ry; obtain⟨t,rfl⟩:=ru'; simp only [jF]; exact SeqAt.EqAt.str_int a0 t0 b t
   | str b=>cases jaG ry; obtain⟨t,rfl⟩:=ru'; simp only [jF]; exact SeqAt.EqAt.str_str a0 t0 b t
   | tup es =>
    obtain⟨a,xs,rfl,q,rs⟩:=jad ry
    cases (show u'=Value.ref a from ru')
    obtain⟨its,r1,p1,_⟩:=I.tuple q
    simp only [jF]; exact SeqAt.EqAt.str_tuple a0 t0 p1 (by omega)
   | lst es =>
    obtain⟨a,xs,rfl,q,rs⟩:=j3 ry
    cases (show u'=Value.ref a from ru')
    obtain⟨its,r1,p1,_⟩:=I.list q.sq
    simp only [jF]; exact SeqAt.EqAt.str_list a0 t0 p1.isList (by omega)
 | succ n ih =>
  intro x y v v' u u' A hd hu rx ry ru ru'
  by_cases hx:dep x=0
  ·exact(show ∀m,dep x≤m->A.units+m<cLine->(∀(x y:D) (v v':V) (u u':Value) (A:Around),dep x≤m->A.units+m<cLine->Rep X.K S H x v->Rep X.K S H y v'->RelV v u->RelV v' u'->SeqAt.EqAt A s u u' (jF x y))->SeqAt.EqAt A s u u' (jF x y) from fun m h1 h2 ih=>ih x y v v' u u' A h1 h2 rx ry ru ru') n (by omega) (by omega) ih
  ·cases x with
   | non=>exact absurd (by simp only [dep]) hx
   | bl b=>exact absurd (by simp only [dep]) hx
   | int b=>exact absurd (by simp only [dep]) hx
   | str b=>exact absurd (by simp only [dep]) hx
   | tup ds =>
    have hds:jgj ds≤n:=by simp only [dep] at hd; omega
    have ih':∀(j:Nat) (x y:D) (v v':V) (u u':Value),ds[j]?=some x->Rep X.K S H x v->Rep X.K S H y v'->RelV v u->RelV v' u'->SeqAt.EqAt A.in1 s u u' (jF x y) :=
     fun j x y v v' u u' e r1 r2 q1 q2=>ih x y v v' u u' A.in1 (Nat.le_trans (jhF e) hds) (by show A.units+1+n<cLine; omega) r1 r2 q1 q2
    have rx0:=rx
    obtain⟨a,xs,rfl,q,rs⟩:=jad rx
    cases (show u=Value.ref a from ru)
    cases y with
    | non=>cases jao ry; cases (show u'=Value.none from ru'); obtain⟨its,r1,p1,_⟩:=I.tuple q; simp only [jF]; exact SeqAt.EqAt.tuple_none p1 (by omega)
    | bl b=>cases jaz ry; cases (show u'=Value.bool b from ru'); obtain⟨its,r1,p1,_⟩:=I.tuple q; simp only [jF]; exact SeqAt.EqAt.tuple_bool b p1 (by omega)
    | int b=>cases j5 ry; obtain⟨t,rfl⟩:=ru'; obtain⟨its,r1,p1,_⟩:=I.tuple q; simp only [jF]; exact SeqAt.EqAt.tuple_int b t p1 (by omega)
    | str b=>cases jaG ry; obtain⟨t,rfl⟩:=ru'; obtain⟨its,r1,p1,_⟩:=I.tuple q; simp only [jF]; exact SeqAt.EqAt.tuple_str b t p1 (by omega)
    | tup es =>
     have ry0:=ry
     obtain⟨a',xs',rfl,q',rs'⟩:=jad ry
     cases (show u'=Value.ref a' from ru')
     by_cases haa:a=a'
     ·subst haa
      rw [jlz I _ _ _ ry0 rx0,jf9]
      exact SeqAt.EqAt.same _
     ·simp only [jF]
      exact SeqAt.EqAt.of_refs haa (jp1 (ne:=false) I (by omega) q q' rs rs' ih')
    | lst es =>
     obtain⟨a',xs',rfl,q',rs'⟩:=j3 ry
     cases (show u'=Value.ref a' from ru')
     obtain⟨its,r1,p1,_⟩:=I.tuple q
     obtain⟨its2,r2,p2,_⟩:=I.list q'.sq
     simp only [jF]; exact SeqAt.EqAt.tuple_list p1 p2.isList (by omega)
   | lst ds =>
    have hds:jgj ds≤n:=by simp only [dep] at hd; omega
    have ih':∀(j:Nat) (x y:D) (v v':V) (u u':Value),ds[j]?=some x->Rep X.K S H x v->Rep X.K S H y v'->RelV v u->RelV v' u'->SeqAt.EqAt A.in1 s u u' (jF x y) :=
     fun j x y v v' u u' e r1 r2 q1 q2=>ih x y v v' u u' A.in1 (Nat.le_trans (jhF e) hds) (by show A.units+1+n<cLine; omega) r1 r2 q1 q2
    have rx0:=rx
    obtain⟨a,xs,rfl,q,rs⟩:=j3 rx
    cases (show u=Value.ref a from ru)
    cases y with
    | non=>cases jao ry; cases (show u'=Value.none from ru'); obtain⟨its,r1,p1,_⟩:=I.list q.sq; simp only [jF]; exact SeqAt.EqAt.list_none p1.isList (by omega)
    | bl b=>cases jaz ry; cases (show u'=Value.bool b from ru'); obtain⟨its,r1,p1,_⟩:=I.list q.sq; simp only [jF]; exact SeqAt.EqAt.list_bool b p1.isList (by omega)
    | int b=>cases j5 ry; obtain⟨t,rfl⟩:=ru'; obtain⟨its,r1,p1,_⟩:=I.list q.sq; simp only [jF]; exact SeqAt.EqAt.list_int b t p1.isList (by omega)
    | str b=>cases jaG ry; obtain⟨t,rfl⟩:=ru'; obtain⟨its,r1,p1,_⟩:=I.list q.sq; simp only [jF]; exact SeqAt.EqAt.list_str b t p1.isList (by omega)
    | lst es =>
     have ry0:=ry
     obtain⟨a',xs',rfl,q',rs'⟩:=j3 ry
     cases (show u'=Value.ref a' from ru')
     by_cases haa:a=a'
     ·subst haa
      rw [jlz I _ _ _ ry0 rx0,jf9]
      exact SeqAt.EqAt.same _
     ·simp only [jF]
      exact SeqAt.EqAt.of_refs haa (jrp (ne:=false) I (by omega) q.sq q'.sq rs rs' ih')
    | tup es =>
     obtain⟨a',xs',rfl,q',rs'⟩:=jad ry
     cases (show u'=Value.ref a' from ru')
     obtain⟨its,r1,p1,_⟩:=I.list q.sq
     obtain⟨its2,r2,p2,_⟩:=I.tuple q'
     simp only [jF]; exact SeqAt.EqAt.list_tuple p1.isList p2 (by omega)
theorem jyc {ne:Bool}(I:Inv X pins σ H s)(n:Nat)(x y:D)(v v':V)(u u':Value)(A:Around)(hd:dep x≤n)(hu:A.units+n<cLine)(rx:Rep X.K S H x v)(ry:Rep X.K S H y v')(ru:RelV v u)(ru':RelV v' u'):RcQ ne A s u u' (jF x y):=by
 cases x with
 | non =>
  cases jao rx
  cases (show u=Value.none from ru)
  cases y with
  | non=>cases jao ry; cases (show u'=Value.none from ru'); simp only [jF]; cases ne; exact SeqAt.RcAt.none_none; exact SeqAt.RcNeAt.none_none
  | bl b=>cases jaz ry; cases (show u'=Value.bool b from ru'); simp only [jF]; cases ne; exact SeqAt.RcAt.none_bool b; exact SeqAt.RcNeAt.none_bool b
  | int b=>cases j5 ry; obtain⟨t,rfl⟩:=ru'; simp only [jF]; cases ne; exact SeqAt.RcAt.none_int b t; exact SeqAt.RcNeAt.none_int b t
  | str b=>cases jaG ry; obtain⟨t,rfl⟩:=ru'; simp only [jF]; cases ne; exact SeqAt.RcAt.none_str b t; exact SeqAt.RcNeAt.none_str b t
  | tup es =>
   obtain⟨a,xs,rfl,q,rs⟩:=jad ry
   cases (show u'=Value.ref a from ru')
   obtain⟨its,r1,p1,_⟩:=I.tuple q
   simp only [jF]; cases ne; exact SeqAt.RcAt.none_tuple p1 (by omega); exact SeqAt.RcNeAt.none_tuple p1 (by omega)
  | lst es =>
   obtain⟨a,xs,rfl,q,rs⟩:=j3 ry
   cases (show u'=Value.ref a from ru')
   obtain⟨its,r1,p1,_⟩:=I.list q.sq
   simp only [jF]; cases ne; exact SeqAt.RcAt.none_list p1.isList (by omega); exact SeqAt.RcNeAt.none_list p1.isList (by omega)
 | bl a0 =>
  cases jaz rx
  cases (show u=Value.bool a0 from ru)
  cases y with
  | non=>cases jao ry; cases (show u'=Value.none from ru'); simp only [jF]; cases ne; exact SeqAt.RcAt.bool_none a0; exact SeqAt.RcNeAt.bool_none a0
  | bl b=>cases jaz ry; cases (show u'=Value.bool b from ru'); simp only [jF]; cases ne; exact SeqAt.RcAt.bool_bool a0 b; exact SeqAt.RcNeAt.bool_bool a0 b
  | int b=>cases j5 ry; obtain⟨t,rfl⟩:=ru'; simp only [jF]; cases ne; exact SeqAt.RcAt.bool_int a0 b t; exact SeqAt.RcNeAt.bool_int a0 b t
  | str b=>cases jaG ry; obtain⟨t,rfl⟩:=ru'; simp only [jF]; cases ne; exact SeqAt.RcAt.bool_str a0 b t; exact SeqAt.RcNeAt.bool_str a0 b t
  | tup es =>
   obtain⟨a,xs,rfl,q,rs⟩:=jad ry
   cases (show u'=Value.ref a from ru')
   obtain⟨its,r1,p1,_⟩:=I.tuple q
   simp only [jF]; cases ne; exact SeqAt.RcAt.bool_tuple a0 p1 (by omega); exact SeqAt.RcNeAt.bool_tuple a0 p1 (by omega)
  | lst es =>
   obtain⟨a,xs,rfl,q,rs⟩:=j3 ry
   cases (show u'=Value.ref a from ru')
   obtain⟨its,r1,p1,_⟩:=I.list q.sq
   simp only [jF]; cases ne; exact SeqAt.RcAt.bool_list a0 p1.isList (by omega); exact SeqAt.RcNeAt.bool_list a0 p1.isList (by omega)
 | int a0 =>
  cases j5 rx
  obtain⟨t0,rfl⟩:=ru
  cases y with
  | non=>cases jao ry; cases (show u'=Value.none from ru'); simp only [jF]; cases ne; exact SeqAt.RcAt.int_none a0 t0; exact SeqAt.RcNeAt.int_none a0 t0
  | bl b=>cases jaz ry; cases (show u'=Value.bool b from ru'); simp only [jF]; cases ne; exact SeqAt.RcAt.int_bool a0 t0 b; exact SeqAt.RcNeAt.int_bool a0 t0 b
  | int b=>cases j5 ry; obtain⟨t,rfl⟩:=ru'; simp only [jF]; cases ne; exact SeqAt.RcAt.int_int a0 t0 b t; exact SeqAt.RcNeAt.int_int a0 t0 b t
  | str b=>cases jaG ry; obtain⟨t,rfl⟩:=ru'; simp only [jF]; cases ne; exact SeqAt.RcAt.int_str a0 t0 b t; exact SeqAt.RcNeAt.int_str a0 t0 b t
  | tup es =>
   obtain⟨a,xs,rfl,q,rs⟩:=jad ry
   cases (show u'=Value.ref a from ru')
   obtain⟨its,r1,p1,_⟩:=I.tuple q
   simp only [jF]; cases ne; exact SeqAt.RcAt.int_tuple a0 t0 p1 (by omega); exact SeqAt.RcNeAt.int_tuple a0 t0 p1 (by omega)
  | lst es =>
   obtain⟨a,xs,rfl,q,rs⟩:=j3 ry
   cases (show u'=Value.ref a from ru')
   obtain⟨its,r1,p1,_⟩:=I.list q.sq
   simp only [jF]; cases ne; exact SeqAt.RcAt.int_list a0 t0 p1.isList (by omega); exact SeqAt.RcNeAt.int_list a0 t0 p1.isList (by omega)
 | str a0 =>
  cases jaG rx
  obtain⟨t0,rfl⟩:=ru
  cases y with
  | non=>cases jao ry; cases (show u'=Value.none from ru'); simp only [jF]; cases ne; exact SeqAt.RcAt.str_none a0 t0; exact SeqAt.RcNeAt.str_none a0 t0
  | bl b=>cases jaz ry; cases (show u'=Value.bool b from ru'); simp only [jF]; cases ne; exact SeqAt.RcAt.str_bool a0 t0 b; exact SeqAt.RcNeAt.str_bool a0 t0 b
  | int b=>cases j5 ry; obtain⟨t,rfl⟩:=ru'; simp only [jF]; cases ne; exact SeqAt.RcAt.str_int a0 t0 b t; exact SeqAt.RcNeAt.str_int a0 t0 b t
  | str b=>cases jaG ry; obtain⟨t,rfl⟩:=ru'; simp only [jF]; cases ne; exact SeqAt.RcAt.str_str a0 t0 b t; exact SeqAt.RcNeAt.str_str a0 t0 b t
  | tup es =>
   obtain⟨a,xs,rfl,q,rs⟩:=jad ry
   cases (show u'=Value.ref a from ru')
   obtain⟨its,r1,p1,_⟩:=I.tuple q
   simp only [jF]; cases ne; exact SeqAt.RcAt.str_tuple a0 t0 p1 (by omega); exact SeqAt.RcNeAt.str_tuple a0 t0 p1 (by omega)
  | lst es =>
   obtain⟨a,xs,rfl,q,rs⟩:=j3 ry
   cases (show u'=Value.ref a from ru')
   obtain⟨its,r1,p1,_⟩:=I.list q.sq
   simp only [jF]; cases ne; exact SeqAt.RcAt.str_list a0 t0 p1.isList (by omega); exact SeqAt.RcNeAt.str_list a0 t0 p1.isList (by omega)
 | tup ds =>
  obtain⟨m,rfl⟩:∃m,n=m+1:=⟨n - 1,by simp only [dep] at hd; omega⟩
  have hds:jgj ds≤m:=by simp only [dep] at hd; omega
  have ih':∀(j:Nat) (x y:D) (v v':V) (u u':Value),ds[j]?=some x->Rep X.K S H x v->Rep X.K S H y v'->RelV v u->RelV v' u'->SeqAt.EqAt A.in1 s u u' (jF x y) :=
   fun j x y v v' u u' e r1 r2 q1 q2=>jrV I m x y v v' u u' A.in1 (Nat.le_trans (jhF e) hds) (by show A.units+1+m<cLine; omega) r1 r2 q1 q2
  obtain⟨a,xs,rfl,q,rs⟩:=jad rx
  cases (show u=Value.ref a from ru)
  cases y with
  | non=>cases jao ry; cases (show u'=Value.none from ru'); obtain⟨its,r1,p1,_⟩:=I.tuple q; simp only [jF]; cases ne; exact SeqAt.RcAt.tuple_none p1 (by omega); exact SeqAt.RcNeAt.tuple_none p1 (by omega)
  | bl b=>cases jaz ry; cases (show u'=Value.bool b from ru'); obtain⟨its,r1,p1,_⟩:=I.tuple q; simp only [jF]; cases ne; exact SeqAt.RcAt.tuple_bool b p1 (by omega); exact SeqAt.RcNeAt.tuple_bool b p1 (by omega)
  | int b=>cases j5 ry; obtain⟨t,rfl⟩:=ru'; obtain⟨its,r1,p1,_⟩:=I.tuple q; simp only [jF]; cases ne; exact SeqAt.RcAt.tuple_int b t p1 (by omega); exact SeqAt.RcNeAt.tuple_int b t p1 (by omega)
  | str b=>cases jaG ry; obtain⟨t,rfl⟩:=ru'; obtain⟨its,r1,p1,_⟩:=I.tuple q; simp only [jF]; cases ne; exact SeqAt.RcAt.tuple_str b t p1 (by omega); exact SeqAt.RcNeAt.tuple_str b t p1 (by omega)
  | tup es =>
   obtain⟨a',xs',rfl,q',rs'⟩:=jad ry
   cases (show u'=Value.ref a' from ru')
   simp only [jF]
   exact jp1 I (by omega) q q' rs rs' ih'
  | lst es =>
   obtain⟨a',xs',rfl,q',rs'⟩:=j3 ry
   cases (show u'=Value.ref a' from ru')
   obtain⟨its,r1,p1,_⟩:=I.tuple q
   obtain⟨its2,r2,p2,_⟩:=I.list q'.sq
   simp only [jF]; cases ne; exact SeqAt.RcAt.tuple_list p1 p2.isList (by omega); exact SeqAt.RcNeAt.tuple_list p1 p2.isList (by omega)
 | lst ds =>
  obtain⟨m,rfl⟩:∃m,n=m+1:=⟨n - 1,by simp only [dep] at hd; omega⟩
  have hds:jgj ds≤m:=by simp only [dep] at hd; omega
  have ih':∀(j:Nat) (x y:D) (v v':V) (u u':Value),ds[j]?=some x->Rep X.K S H x v->Rep X.K S H y v'->RelV v u->RelV v' u'->SeqAt.EqAt A.in1 s u u' (jF x y) :=
   fun j x y v v' u u' e r1 r2 q1 q2=>jrV I m x y v v' u u' A.in1 (Nat.le_trans (jhF e) hds) (by show A.units+1+m<cLine; omega) r1 r2 q1 q2
  obtain⟨a,xs,rfl,q,rs⟩:=j3 rx
  cases (show u=Value.ref a from ru)
  cases y with
  | non=>cases jao ry; cases (show u'=Value.none from ru'); obtain⟨its,r1,p1,_⟩:=I.list q.sq; simp only [jF]; cases ne; exact SeqAt.RcAt.list_none p1.isList (by omega); exact SeqAt.RcNeAt.list_none p1.isList (by omega)
  | bl b=>cases jaz ry; cases (show u'=Value.bool b from ru'); obtain⟨its,r1,p1,_⟩:=I.list q.sq; simp only [jF]; cases ne; exact SeqAt.RcAt.list_bool b p1.isList (by omega); exact SeqAt.RcNeAt.list_bool b p1.isList (by omega)
  | int b=>cases j5 ry; obtain⟨t,rfl⟩:=ru'; obtain⟨its,r1,p1,_⟩:=I.list q.sq; simp only [jF]; cases ne; exact SeqAt.RcAt.list_int b t p1.isList (by omega); exact SeqAt.RcNeAt.list_int b t p1.isList (by omega)
  | str b=>cases jaG ry; obtain⟨t,rfl⟩:=ru'; obtain⟨its,r1,p1,_⟩:=I.list q.sq; simp only [jF]; cases ne; exact SeqAt.RcAt.list_str b t p1.isList (by omega); exact SeqAt.RcNeAt.list_str b t p1.isList (by omega)
  | lst es =>
   obtain⟨a',xs',rfl,q',rs'⟩:=j3 ry
   cases (show u'=Value.ref a' from ru')
   simp only [jF]
   exact jrp I (by omega) q.sq q'.sq rs rs' ih'
  | tup es =>
   obtain⟨a',xs',rfl,q',rs'⟩:=jad ry
   cases (show u'=Value.ref a' from ru')
   obtain⟨its,r1,p1,_⟩:=I.list q.sq
   obtain⟨its2,r2,p2,_⟩:=I.tuple q'
   simp only [jF]; cases ne; exact SeqAt.RcAt.list_tuple p1.isList p2 (by omega); exact SeqAt.RcNeAt.list_tuple p1.isList p2 (by omega)
end
section
variable {X:Cx}
abbrev jcB:R3:=fun x y Φ=>dep x≤100∧Φ (.bl (jF x y))
abbrev jmq:R3:=fun x y Φ=>dep x≤100∧Φ (.bl (!jF x y))
def rRc (X:Cx)(ne:Bool):R2:=fun u v H Q=>∃S x y,dep x≤100∧Rep X.K S H x u∧Rep X.K S H y v∧Q (.bl (if ne then !jF x y else jF x y)) H
theorem jAp (hu:X.A.units+100<cLine):OpR X (compareOp .Eq) (rRc X false):=by
 intro pins s σ H x y v u Q I rx ry h
 obtain⟨S,d,e,hd,r1,r2,q⟩:=h
 exact jyc (ne:=false) I 100 d e x y v u X.A hd hu r1 r2 rx ry X.prog X.w _ _ ⟨.bl _,H,I,rfl,q⟩
theorem jzD (hu:X.A.units+100<cLine):OpR X (compareOp .NotEq) (rRc X true):=by
 intro pins s σ H x y v u Q I rx ry h
 obtain⟨S,d,e,hd,r1,r2,q⟩:=h
 exact jyc (ne:=true) I 100 d e x y v u X.A hd hu r1 r2 rx ry X.prog X.w _ _ ⟨.bl _,H,I,rfl,q⟩
theorem jbQ (hu:X.A.units+100<cLine):OpD X (compareOp .Eq) jcB:=⟨_,jAp hu,fun S H x y u v Φ Q so rx ry hr hd=>⟨S,x,y,hr.1,rx,ry,hd _ _ H hr.2 (Same.refl _) Rep.bl⟩⟩
theorem jlG (hu:X.A.units+100<cLine):OpD X (compareOp .NotEq) jmq:=⟨_,jzD hu,fun S H x y u v Φ Q so rx ry hr hd=>⟨S,x,y,hr.1,rx,ry,hd _ _ H hr.2 (Same.refl _) Rep.bl⟩⟩
theorem hu3 {A:Around}{k:Nat}(hr:Room k A):A.units+100<cLine:=by have:=hr.un; omega
end
section
variable {X:Cx}
def jx3:D->Bool
 | .non=>true
 | _=>false
abbrev jzC:R3
 | x,.non,Φ=>Φ (.bl (jx3 x))
 | _,_,_=>False
theorem jzp {K:PySem.W.Frag}{S:Addr->Prop}{H:Hp}{x:D}{v:V}(r:Rep K S H x v):decide (v=.non)=jx3 x:=by
 cases x with
 | non=>cases jao r; rfl
 | bl b=>cases jaz r; rfl
 | int b=>cases j5 r; rfl
 | str b=>cases jaG r; rfl
 | tup b=>obtain⟨a,xs,rfl,_⟩:=jad r; rfl
 | lst b=>obtain⟨a,xs,rfl,_⟩:=j3 r; rfl
theorem jBp:OpD X (compareOp .Is) jzC:=⟨_,jz4,fun S H x y u v Φ Q so rx ry hr hd=>by
 cases y <;> first | exact hr.elim | skip
 refine⟨jao ry,?_⟩
 rw [jzp rx]
 exact hd _ _ H hr (Same.refl _) Rep.bl⟩
theorem jjc {k:Nat}{f:Addr}{fd:FuncData}{C:jV}{x:Str}{p pos:Pos}(F:FnOk X.prog X.w X.K X.mg X.base j0 k f fd [] (spD X.K 0 C))(mo:jX C)(hr:Room k X.A)(hg:Gl X x)(hm:X.mg x=some (.ref f))(hk:PySem.W.keepIn X.K (.ref f)=true)(hb:Binds X.K fd [] [])
  (hdb:(x == ("__debug__":Str))=false:=by decide):PD X (.Call (.Name x p) [] [] pos) (jC 0 C jj):=by
 refine⟨_,jwG F hr hg hm hk hb .nil jb5 hdb,fun B S H σ ρ Φ Q er q hd=>?_⟩
 exact⟨[],S,rfl,Reps.nil,er.ok,mo [] Φ _ (fun d hΦ v H' s r'=>hd d v H' hΦ s r') q.2⟩
abbrev jBb:R3
 | .tup ds,.tup es,Φ=>∃ns ms:List Int,ds=ns.map .int∧es=ms.map .int∧Φ (.bl (HT.lexLt ns ms))
 | _,_,_=>False
theorem jBP (hu:X.A.units+100<cLine):OpD X (compareOp .Lt) jBb:=⟨_,jAP (Nat.lt_of_le_of_lt (Nat.le_add_right _ _) hu),fun S H x y u v Φ Q so rx ry hr hd=>by
 match x,y,hr with
 | .tup ds,.tup es,⟨ns,ms,e1,e2,h⟩ =>
  subst e1 e2
  obtain⟨a,xs,rfl,q,rs⟩:=jad rx
  obtain⟨a',xs',rfl,q',rs'⟩:=jad ry
  cases rs.intsV
  cases rs'.intsV
  exact⟨a,a',ns,ms,rfl,rfl,q,q',hd _ _ H h (Same.refl _) Rep.bl⟩⟩
section
open PySem.MeetsSeq PySem.AutoSeq1
theorem jsK (l b:Addr)(items2:Array Value)(n n2:Nat)(dd dd2:Option Addr)(sl sl2:Array (Option Value)) :
  Meets (Builtin.«tuple.__add__» ⟨[.ref l,.ref b],[]⟩) (fun _ R s=>s.heap.get? l=some { cls:=.type "tuple",dict:=dd,data:=.seq #[] n,slots:=sl }∧s.heap.get? b=some { cls:=.type "tuple",dict:=dd2,data:=.seq items2 n2,slots:=sl2 }∧R (.ok (.ret (Value.ref b))) s) :=
 .of_wp fun prog w A R s h=>by obtain⟨hp,g,d,tk,os⟩:=s; obtain⟨hl,hb,h⟩:=h; have f1:=AutoSeq1.idx_int; have f2:=AutoSeq1.sub_tuple_tuple; wp_walk using wpAny_loadPart' hl,wpAny_loadPart' hb; exact⟨_,rfl,h⟩
theorem jwH {prog:Program}{w:World}{A:Around}{E:Value->Shared->Prop}{s:Shared}{t b:Addr}{ws:List Value}{Q:Value->Shared->Prop}(ht:IsTup s.heap t (#[]:Array Value))(hb:IsTup s.heap b ws.toArray)
  (h:Q (.ref b) s):wpAny (model prog w) A (binaryOp .Add (.ref t) (.ref b)) Q E s:=by
 obtain⟨⟨cls,dd,data,sl⟩,ho,hc,n,hd⟩:=id ht
 obtain⟨⟨cls2,dd2,data2,sl2⟩,ho2,hc2,n2,hd2⟩:=id hb
 simp only at hc hd hc2 hd2
 subst hc hd hc2 hd2
 exact concat_meets ⟨_,ho,rfl⟩ ⟨_,ho2,rfl⟩ noFill_tuple_add seq_tuple_add PySem.F.slot_tuple_add PySem.F.entry_tuple_add (PySem.F.args_tuple_add_2 _ _) (jsK t b ws.toArray n n2 dd dd2 sl sl2) ⟨ho,ho2,h⟩
end
abbrev jnR:R3
 | .tup ds,.tup es,Φ=>ds.length+es.length≤sizeLine∧Φ (.tup (ds++es))
 | _,_,_=>False
def jBm (K:PySem.W.Frag):R2:=fun x y H Q=>∃a b ys,x=.ref a∧y=.ref b∧SqT K H a []∧SqT K H b ys∧Q (.ref b) H
theorem op_cat0:OpR X (binaryOp .Add) (jBm X.K):=by
 intro pins s σ H x y v u Q I rx ry h
 obtain⟨a,b,ys,rfl,rfl,ha,hb,q⟩:=h
 cases rx
 cases ry
 obtain⟨its,r1,p1,_⟩:=I.tuple ha
 obtain⟨its2,r2,p2,_⟩:=I.tuple hb
 cases r1
 exact jwH p1 p2 ⟨.ref b,H,I,rfl,q⟩
theorem jne:OpD X (binaryOp .Add) jnR:=⟨_,op_cat0.or jyC,fun S H x y u v Φ Q so rx ry hr hd=>by
 match x,y,hr with
 | .tup ds,.tup es,⟨hz,h⟩ =>
  obtain⟨a,xs,rfl,q,rs⟩:=jad rx
  obtain⟨a',xs',rfl,q',rs'⟩:=jad ry
  cases ds with
  | nil =>
   simp only [Reps] at rs
   subst rs
   exact .inl ⟨a,a',xs',rfl,rfl,q,q',hd _ _ H h (Same.refl _) (Rep.tup q' rs')⟩
  | cons d ds =>
   refine .inr ⟨a,a',xs,xs',rfl,rfl,q,q',?_,by rw [←rs.len,←rs'.len]; exact hz,fun z=>?_,fun z p hp=>hd _ _ _ h (jbf hp) (Rep.newTup hp (rs.app rs'))⟩
   ·rintro rfl
    simp [Reps] at rs
   ·subst z
    have:es=[]:=by
     cases es with
     | nil=>rfl
     | cons _ _=>simp [Reps] at rs'
    subst this
    rw [List.append_nil] at h
    exact hd _ _ H h (Same.refl _) (Rep.tup q rs)⟩
theorem jsk:∀bs:List Bool,(List.range bs.length).all (fun i=>bs.getD i true)=bs.all id
 | []=>rfl
 | b::bs=>by
  rw [List.length_cons,List.range_succ_eq_map,List.all_cons,List.all_map,List.all_cons,←jsk bs]
  rfl
theorem jvW (hc:X.calm=true):jcS X (.builtin "all") (fun xs H Q=>∃(p:Addr) (bs:List Bool),xs=[.ref p]∧SqL X.K H p (bs.map V.bl)∧Q (.bl (bs.all id)) H):=by
 intro pins s σ H xs us Q I r h
 obtain⟨p,bs,rfl,hq,q⟩:=h
 obtain⟨u,rfl,rx⟩:=jfN r
 cases rx
 obtain⟨its,r',pl,hz⟩:=I.list hq
 have hl:=pl.isList
 refine call_all_walk (wpAny_pyIter_list hl ?_)
 have hne:p≠s.heap.objs.size:=by
  rintro rfl
  obtain⟨o,e,_⟩:=hl
  rw [Heap.get?_none_of_le (Nat.le_refl _)] at e
  cases e
 have hlen:its.length=bs.length:=by rw [←r'.length]; simp
 refine⟨_,_,_,_,_,_,fun i=>bs.getD i true,rfl,Walks.list (A:=X.A.in1) (I.ok.hd hc) _ p hne its.toArray,⟨⟨_,Heap.get?_push_size _ rfl,rfl,rfl⟩,hl.at fun o e=>Heap.get?_push_of_some _ e⟩,?_,fun h' tk hk=>?_⟩
 ·intro i v s' Q' E' hv hQ'
  have hv:its[i]?=some v:=by simpa using hv
  have hi:i<bs.length:=by rw [←hlen]; exact(List.getElem?_eq_some_iff.mp hv).1
  obtain⟨u,eu,ru⟩:=r'.get (i:=i) (x:=V.bl bs[i]) (by simp [hi])
  rw [hv] at eu
  cases eu
  cases (show v=Value.bool bs[i] from ru)
  have e:bs.getD i true=bs[i]:=by rw [List.getD_eq_getElem?_getD]; simp [hi]
  have hQ'':Q' (bs.getD i true) s':=hQ'
  rw [e] at hQ''
  exact wpAny_truthy_bool hQ''
 ·refine⟨.bl _,H,I.kept (h':=h') (t':=tk) fun b o e=>?_,rfl,?_⟩
  ·refine hk b o ?_ (Heap.get?_push_of_some _ e)
   intro hb
   have:b=s.heap.objs.size:=by simpa using hb
   subst this
   rw [Heap.get?_none_of_le (Nat.le_refl _)] at e
   cases e
  ·have e:(List.range its.toArray.size).all (fun i=>bs.getD i true)=bs.all id:=by
    rw [List.size_toArray,hlen]
    exact jsk bs
   rw [e]
   exact q
abbrev jr5:jV
 | [.lst ds],Φ=>∃bs:List Bool,ds=bs.map .bl∧Φ (.bl (bs.all id))
 | _,_=>False
theorem Reps.blsV {K:PySem.W.Frag}{S:Addr->Prop}{H:Hp}:∀{ns:List Bool} {vs:List V},Reps K S H (ns.map D.bl) vs->vs=ns.map V.bl
 | [],vs,h=>by simpa only [List.map_nil,Reps] using h
 | n::ns,vs,h=>by
  simp only [List.map_cons,Reps,Rep] at h
  obtain⟨x,r,rfl,rfl,t⟩:=h
  rw [Reps.blsV t,List.map_cons]
theorem juw (hc:X.calm=true):jeR X (.builtin "all") jr5:=⟨_,jvW hc,fun S H ds vs Φ Q so r h hd=>by
 match ds,h with
 | [.lst ds],⟨bs,e,h⟩ =>
  subst e
  simp only [Reps] at r
  obtain⟨v,_,rfl,rv,rfl⟩:=r
  obtain⟨a,xs,rfl,lr,rs⟩:=j3 rv
  have:=rs.blsV
  subst this
  exact⟨a,bs,rfl,lr.sq,hd _ _ H h (Same.refl _) Rep.bl⟩⟩
def jBk (K:PySem.W.Frag)(tl:TE):TI:=fun σ H R=>tl σ H fun x H1=>∃a,x=.ref a∧(((∃xs,SqL K H1 a xs)∧R (Itl K a) H1)∨((∃xs,SqT K H1 a xs)∧R (Itt K a) H1))
theorem jzW {tg l:Expr}{tl:TE}(hl:PE X l tl):PI X tg l (jBk X.K tl):=by
 intro pins s σ H R I h
 refine jQ (hl pins s σ H _ I h) fun v s1 qZ=>?_
 obtain⟨x,H1,I1,r1,q1⟩:=qZ
 obtain⟨a,e,q1⟩:=q1
 subst e
 cases r1
 rcases q1 with⟨⟨xs,hq⟩,q⟩ | ⟨⟨xs,hq⟩,q⟩
 ·obtain⟨its,rv,p,hz⟩:=I1.list hq
  refine wpAny_pyIter_list p.isList ?_
  refine⟨s1.heap.objs.size,[s1.heap.objs.size],_,_,H1,rfl,I1.kept (t':=s1.toks) fun b o e=>Heap.get?_push_of_some _ e,ju4 a _,⟨_,Heap.get?_push_size _ rfl,rfl,rfl⟩,fun b hb=>?_,q⟩
  have e:b=s1.heap.objs.size:=by simpa using hb
  subst e
  exact I1.fpOk (Nat.le_refl _) (I1.hok.fresh (Nat.le_refl _))
 ·obtain⟨its,rv,p,hz⟩:=I1.tuple hq
  refine wpAny_pyIter_tuple (show s1.heap.IsTuple a its.toArray from p) ?_
  refine⟨s1.heap.objs.size,[s1.heap.objs.size],_,_,H1,rfl,I1.kept (t':=s1.toks) fun b o e=>Heap.get?_push_of_some _ e,jt8 a _,⟨_,Heap.get?_push_size _ rfl,rfl,rfl⟩,fun b hb=>?_,q⟩
  have e:b=s1.heap.objs.size:=by simpa using hb
  subst e
  exact I1.fpOk (Nat.le_refl _) (I1.hok.fresh (Nat.le_refl _))
abbrev iLT (te:E3):A3:=fun ρ Φ=>te ρ fun d=>match d with | .lst ds=>Φ ds | .tup ds=>Φ ds | _=>False
theorem jbE {tg e:Expr}{te:E3}(he:PD X e te):PID X tg e (iLT te):=by
 obtain⟨t2,h,w⟩:=he
 refine PID.one ⟨_,jzW h,fun B S H σ ρ Φ R er q k=>w B S H σ ρ _ _ er q fun d v H1 p s r=>?_⟩
 cases d <;> first | exact p.elim | skip
 ·rename_i ds
  obtain⟨a,xs,rfl,lr,rs⟩:=jad r
  refine⟨a,rfl,.inr ⟨⟨xs,lr⟩,k ds _ _ _ H1 p s r fun S2 H2 r2=>?_⟩⟩
  obtain⟨a2,xs2,e2,lr2,rs2⟩:=jad r2
  cases e2
  refine⟨⟨xs2,lr2,by rw [rs2.len]; exact Nat.le_refl _⟩,fun i hi=>?_⟩
  have hi2:i<xs2.length:=by rw [←rs2.len]; exact hi
  refine⟨⟨xs2,xs2[i],lr2,by simp [hi2]⟩,fun x H' y=>?_⟩
  obtain⟨rfl,y⟩:=y
  obtain⟨c,ec,rc⟩:=rs2.getV (y xs2 lr2)
  exact⟨rfl,c,ec,rc⟩
 ·rename_i ds
  obtain⟨a,xs,rfl,lr,rs⟩:=j3 r
  refine⟨a,rfl,.inl ⟨⟨xs,lr.sq⟩,k ds _ _ _ H1 p s r fun S2 H2 r2=>?_⟩⟩
  obtain⟨a2,xs2,e2,lr2,rs2⟩:=j3 r2
  cases e2
  refine⟨⟨xs2,lr2.sq,by rw [rs2.len]; exact Nat.le_refl _⟩,fun i hi=>?_⟩
  have hi2:i<xs2.length:=by rw [←rs2.len]; exact hi
  refine⟨⟨xs2,xs2[i],lr2.sq,by simp [hi2]⟩,fun x H' y=>?_⟩
  obtain⟨rfl,y⟩:=y
  obtain⟨c,ec,rc⟩:=rs2.getV (y xs2 lr2.sq)
  exact⟨rfl,c,ec,rc⟩
end
section
variable {X:Cx}{pos:Pos}
structure jfl (K:PySem.W.Frag)(d:D)(v:V)(u:Value):Prop where
 r:RelV v u
 d:∀S H,Rep K S H d v
theorem jmY {x:Str}{v:V}{u:Value}{d:D}(hg:Gl X x)(hm:X.mg x=some u)(c:jfl X.K d v u)(hdb:(x == ("__debug__":Str))=false:=by decide):PD X (.Name x pos) (dC d) :=
 ⟨_,jib hg hm c.r hdb,fun B S H σ ρ Φ Q er q hd=>hd d v H q (Same.refl _) (c.d S H)⟩
theorem jyH {K:PySem.W.Frag}{f:Addr}{od:Option Addr}{its:Array Value}{n:Nat}{sl:Array (Option Value)}{ns:List Int}(l:K.lookup f=some ⟨.type "tuple",od,.seq its n,sl⟩)(hz:its.size≤sizeLine)(hv:Vals (ns.map V.int) its.toList):jfl K (.tup (ns.map D.int)) (.ref f) (.ref f) :=
 ⟨rfl,fun S H=>Rep.tup (.inr ⟨_,its,n,l,rfl,rfl,hz,hv⟩) (Reps.ints ns)⟩
theorem jbt:Vals [] []:=.nil
theorem jgf {i:Int}{t:Tok}{ns:List Int}{us:List Value}(h:Vals (ns.map V.int) us):Vals ((i::ns).map V.int) (.int i t::us):=.cons ⟨t,rfl⟩ h
end
section
variable {X:Cx}{pins:List (Addr×Obj)}{σ:L2.St}{k:Nat}{f:Addr}{fd:FuncData}{ps:List Str}{C:jV}
theorem Inv.moved {a:Addr}{o:Obj}{H:Hp}{s:Shared}{h':Heap}{jJ:List (Addr×Obj)}(I:Inv X (pins++jJ) σ H s)(hp:(a,o)∈jJ)(ha:X.s₀.heap.objs.size≤a){keep:List (Addr×Obj)}(hk:∀p∈keep,p∈pins++jJ)(hne:∀p∈X.pn++keep,p.1≠a)
  (hs:∀b u,b≠a->s.heap.get? b=some u->h'.get? b=some u):Inv X keep σ H { s with heap:=h' }:=by
 have q:=I.pin (a,o) (List.mem_append_right _ (List.mem_append_right _ hp))
 have I1:Inv X keep σ H s:=I.pins_of fun p z=>I.pin p (List.mem_append_right _ (hk p z))
 refine I1.turned (t':=s.toks) hs q.2.1 q.2.2.1 (.inr ha) (fun x c e z=>?_) hne
 obtain⟨v,u,hu,hd⟩:=I.cell x c e
 rw [z,q.1] at hu
 cases hu
 exact q.2.2.2.2 v hd
theorem jrE {H:Hp}{s:Shared}{u:Value}{x:V}{d:D}{n:Int}{S:Addr->Prop}(F:FnOk X.prog X.w X.K X.mg X.base j0 k f fd ps (spD X.K 1 C))(mo:jX C)(hr:Room (k+1) X.A)(hb:Binds X.K fd ps [])
  (I:Inv X pins σ H s) (r:RelV x u) (rd:Rep X.K S H d x) (so:SOk S H) (hc:C [d] fun e=>e=.int n) :
  wpAny (model X.prog X.w) X.A.in1 (call (.ref f) [u]) (fun v s'=>∃t H',v=.int n t∧Inv X pins σ H' s'∧Same H H') (fun _ _=>False) s:=by
 have h:spD X.K 1 C [x] H (fun v H'=>v=.int n∧Same H H') E0:=⟨[d],S,rfl,Reps.cons rd Reps.nil,so,mo _ _ _ (fun e he v H' s r'=>by
  subst he
  simp only [Rep] at r'
  exact⟨r',s⟩) hc⟩
 have hl:[u].length=ps.length:=F.len _ _ _ _ h
 refine wpAny_call (codeAny_mono (F.run X.A.in1 X.stack s H ⟨[u],[]⟩ [u] [x] _ E0 hr.in1 I.env0.in1 (hb s [u] I.kIn hl) (.cons r .nil) h) fun r s' hq=>?_)
 cases r with
 | error e=>exact False.elim hq
 | ok fl =>
  cases fl with
  | ret u=>
   obtain⟨v,H',I',rv,e,sm⟩:=I.after hq
   subst e
   obtain⟨t,rfl⟩:=rv
   exact⟨t,H',rfl,I',sm⟩
  | next=>exact False.elim hq
  | brk=>exact False.elim hq
  | cont=>exact False.elim hq
variable {l Ia Sa:Addr}{H0:Hp}{xs:List V}{ds:List D}{ks:List Int}{S:Addr->Prop}{R:Result->Shared->Prop}
theorem jvX (F:FnOk X.prog X.w X.K X.mg X.base j0 k f fd ps (spD X.K 1 C))(mo:jX C)(hr:Room (k+1) X.A)(hb:Binds X.K fd ps [])(hcalm:X.calm=true)
  (hq:SqL X.K H0 l xs) (rd:Reps X.K S H0 ds xs) (so:SOk S H0) (hlen:ks.length=xs.length) (hC:∀(i:Nat) d n,ds[i]?=some d->ks[i]?=some n->C [d] fun e=>e=.int n)
  (hSI:Sa≠Ia) (haS:X.s₀.heap.objs.size≤Sa) (haI:X.s₀.heap.objs.size≤Ia) (hnS:∀p∈X.pn++pins,p.1≠Sa) (hnI:∀p∈X.pn++pins,p.1≠Ia)
  (hR:∀(i:Nat) x v n H s,xs[i]?=some x->RelV x v->ks[i]?=some n->(∀m∈ks,m≤n)->Inv X pins σ H s->Same H0 H->R (.ok (.ret v)) s) :
  ∀(r j i:Nat) (H:Hp) (s:Shared) (xb:V) (vb:Value) (nb:Int) (tb:Tok) (c:Nat) (oI:Obj),xs.length - (j+1)=r->j+1≤xs.length ->
   Inv X (pins++[(Sa,seqObj "list" #[vb,.int nb tb] c),(Ia,oI)]) σ H s->Same H0 H->s.heap.IsListIter Ia l (j+1)->xs[i]?=some xb->RelV xb vb->ks[i]?=some nb->(∀(j':Nat) m,j'≤j->ks[j']?=some m->m≤nb) ->
   codeAny (model X.prog X.w) X.A (.builtin "max.loop" ⟨[.ref Ia,.ref f,.ref Sa],[]⟩) R s:=by
 have hname:(toString "max"++toString ".loop":String)="max.loop":=by decide
 intro r
 induction r with
 | zero =>
  intro j i H s xb vb nb tb c oI hrr hj I sm hit hxb rvb hnb hbest
  have hin:j+1=xs.length:=by omega
  have nS:=I.pin (Sa,seqObj "list" #[vb,.int nb tb] c) (by simp)
  obtain⟨its,rv,p,hz⟩:=I.list (sm.seq hq)
  have hl:=rv.length
  refine codeAny_builtin PySem.F.entry_max_loop ?_
  rw [Around.under_plainId PySem.F.plain_max_loop _]
  show wpAny _ X.A.in1 (seqItems? (.ref Sa) >>= _) _ _ _
  refine wpAny_bind (wpAny_seqItems nS.1 rfl ?_)
  show wpAny _ X.A.in1 (tryCatch (pyNext (.ref Ia)) _ >>= _) _ _ _
  refine wpAny_bind (wpAny_tryCatch (wpAny_pyNext_list_end (I.ok.hd hcalm) hit p.isList (by simp; omega) fun h' eb=>?_))
  have I1:Inv X (pins++[(Sa,seqObj "list" #[vb,.int nb tb] c)]) σ H { s with heap:=h' }:=Inv.moved (a:=Ia) (o:=oI) I (by simp) haI (fun p hp=>by
   rcases List.mem_append.mp hp with z | z
   ·exact List.mem_append_left _ z
   ·exact List.mem_append_right _ (by simp at z; simp [z])) (fun p hp=>by
   rcases List.mem_append.mp hp with z | z
   ·exact hnI p (List.mem_append_left _ z)
   ·rcases List.mem_append.mp z with z | z
    ·exact hnI p (List.mem_append_right _ z)
    ·have:p.1=Sa:=by simp at z; rw [z]
     rw [this]; exact hSI) eb
  have nS1:=I1.pin (Sa,seqObj "list" #[vb,.int nb tb] c) (by simp)
  have s1:=Heap.SameBut.update h' Sa (Obj.mapSeq fun _=>(#[]:Array Value))
  show wpAny _ X.A.in1 (updateSeq Sa (fun _=>#[]) >>= _) _ _ _
  refine wpAny_bind ?_
  refine wpAny_updateSeq nS1.1 rfl (wpAny_bind (wpAny_letGo (wpAny_pure ?_)))
  have I2:Inv X pins σ H { s with heap:=h'.update Sa (Obj.mapSeq fun _=>(#[]:Array Value)) }:=Inv.moved (a:=Sa) (o:=seqObj "list" #[vb,.int nb tb] c) I1 (by simp) haS (fun p hp=>List.mem_append_left _ hp) hnS fun b u hbs e=>(s1.2 b hbs).trans e
  refine hR i xb vb nb H _ hxb rvb hnb (fun m hm=>?_) I2 sm
  obtain⟨j',hj',rfl⟩:=List.getElem_of_mem hm
  exact hbest j' _ (by omega) (by simp [hj'])
 | succ r ih =>
  intro j i H s xb vb nb tb c oI hrr hj I sm hit hxb rvb hnb hbest
  have hlt:j+1<xs.length:=by omega
  have nS:=I.pin (Sa,seqObj "list" #[vb,.int nb tb] c) (by simp)
  obtain⟨its,rv,p,hz⟩:=I.list (sm.seq hq)
  have hl:=rv.length
  obtain⟨x,hx⟩:∃x,xs[j+1]?=some x:=⟨xs[j+1],by simp [hlt]⟩
  obtain⟨u,hu,ru⟩:=rv.get hx
  obtain⟨n,hn⟩:∃n,ks[j+1]?=some n:=⟨ks[j+1]'(by omega),by simp⟩
  refine codeAny_builtin PySem.F.entry_max_loop ?_
  rw [Around.under_plainId PySem.F.plain_max_loop _]
  show wpAny _ X.A.in1 (seqItems? (.ref Sa) >>= _) _ _ _
  refine wpAny_bind (wpAny_seqItems nS.1 rfl ?_)
  show wpAny _ X.A.in1 (tryCatch (pyNext (.ref Ia)) _ >>= _) _ _ _
  refine wpAny_bind (wpAny_tryCatch (wpAny_pyNext_list_item hit p.isList (x:=u) (by simpa using hu) fun h' hit' sb=>?_))
  obtain⟨oI',hoI',hoc,hod⟩:=id hit'
  have I0:Inv X (pins++[(Sa,seqObj "list" #[vb,.int nb tb] c)]) σ H { s with heap:=h' }:=Inv.moved (a:=Ia) (o:=oI) I (by simp) haI (fun p hp=>by
   rcases List.mem_append.mp hp with z | z
   ·exact List.mem_append_left _ z
   ·exact List.mem_append_right _ (by simp at z; simp [z])) (fun p hp=>by
   rcases List.mem_append.mp hp with z | z
   ·exact hnI p (List.mem_append_left _ z)
   ·rcases List.mem_append.mp z with z | z
    ·exact hnI p (List.mem_append_right _ z)
    ·have:p.1=Sa:=by simp at z; rw [z]
     rw [this]; exact hSI) fun b u hbs e=>(sb.2 b hbs).trans e
  have nI:=I.pin (Ia,oI) (by simp)
  have I1:Inv X (pins++[(Sa,seqObj "list" #[vb,.int nb tb] c),(Ia,oI')]) σ H { s with heap:=h' }:=I0.pins_of fun p hp=>by
   rcases List.mem_append.mp hp with z | z
   ·exact I0.pin p (List.mem_append_right _ (List.mem_append_left _ z))
   ·rcases List.mem_cons.mp z with rfl | z
    ·exact I0.pin _ (by simp)
    ·rw [List.mem_singleton.mp z]
     exact⟨hoI',nI.2.1,nI.2.2.1,nI.2.2.2.1,fun v z=>by rw [hod] at z; cases z⟩
  obtain⟨d,hd,rdx⟩:=rd.getV hx
  show wpAny _ X.A.in1 (tryCatch (holding [u] (call (.ref f) [u])) _ >>= _) _ _ _
  refine wpAny_bind (wpAny_tryCatch (wpAny_holding (wpAny_mono (jrE F mo hr hb I1 ru (rdx.same sm) (so.same sm) (hC _ _ _ hd hn)) (fun w s2 he=>?_) fun _ _ hF=>hF.elim)))
  obtain⟨t2,H2,rfl,I2,sm2⟩:=he
  have sm':=sm.trans sm2
  have nS2:=I2.pin (Sa,seqObj "list" #[vb,.int nb tb] c) (by simp)
  have nI2:=I2.pin (Ia,oI') (by simp)
  have hit2:s2.heap.IsListIter Ia l (j+1+1):=⟨oI',nI2.1,hoc,hod⟩
  show wpAny _ X.A.in1 (tryCatch (holding [u,.int n t2] (richCompare .Gt (.int n t2) (.int nb tb) >>= _)) _ >>= _) _ _ _
  refine wpAny_bind (wpAny_tryCatch (wpAny_holding (wpAny_bind (CmpOf.ints_gt (prog:=X.prog) (w:=X.w) (A:=X.A.in1) (P:=fun i v=>∃t,v=.int (if i=0 then n else nb) t) (fun i=>if i=0 then n else nb) (fun i v h=>h) 0 1 _ _ _ _ _ ⟨t2,rfl⟩ ⟨tb,rfl⟩ ?_))))
  refine wpAny_bind (wpAny_holding (wpAny_truthy_bool ?_))
  refine wpAny_bind (wpAny_letGo (wpAny_pure ?_))
  have e01:(if (0:Nat)=0 then n else nb)=n:=rfl
  have e11:(if (1:Nat)=0 then n else nb)=nb:=rfl
  simp only [e01,e11,if_true]
  by_cases hb':n > nb
  ·have s1:=Heap.SameBut.update s2.heap Sa (Obj.mapSeq fun _=>#[u,.int n t2])
   obtain⟨c2,hc2⟩:∃c2,(s2.heap.update Sa (Obj.mapSeq fun _=>#[u,.int n t2])).get? Sa=some (seqObj "list" #[u,.int n t2] c2):=⟨_,get?_update_seq nS2.1 fun _=>#[u,.int n t2]⟩
   simp only [hb',decide_true,if_true]
   refine wpAny_bind ?_
   refine wpAny_updateSeq nS2.1 rfl (wpAny_bind (wpAny_letGo ?_))
   rw [hname]
   have I3:Inv X (pins++[(Ia,oI')]) σ H2 { s2 with heap:=s2.heap.update Sa (Obj.mapSeq fun _=>#[u,.int n t2]) }:=Inv.moved (a:=Sa) (o:=seqObj "list" #[vb,.int nb tb] c) I2 (by simp) haS (fun p hp=>by
    rcases List.mem_append.mp hp with z | z
    ·exact List.mem_append_left _ z
    ·exact List.mem_append_right _ (by simp at z; simp [z])) (fun p hp=>by
    rcases List.mem_append.mp hp with z | z
    ·exact hnS p (List.mem_append_left _ z)
    ·rcases List.mem_append.mp z with z | z
     ·exact hnS p (List.mem_append_right _ z)
     ·have:p.1=Ia:=by simp at z; rw [z]
      rw [this]; exact hSI.symm) fun b u hbs e=>(s1.2 b hbs).trans e
   have I4:Inv X (pins++[(Sa,seqObj "list" #[u,.int n t2] c2),(Ia,oI')]) σ H2 { s2 with heap:=s2.heap.update Sa (Obj.mapSeq fun _=>#[u,.int n t2]) }:=I3.pins_of fun p hp=>by
    rcases List.mem_append.mp hp with z | z
    ·exact I3.pin p (List.mem_append_right _ (List.mem_append_left _ z))
    ·rcases List.mem_cons.mp z with rfl | z
     ·exact⟨hc2,nS2.2.1,nS2.2.2.1,nS2.2.2.2.1,fun v z=>by cases z⟩
     ·rw [List.mem_singleton.mp z]
      exact I3.pin _ (by simp)
   refine wpAny_pure ⟨plainId_quiet PySem.F.plain_max_loop _,ih (j+1) (j+1) H2 _ x u n t2 c2 oI' (by omega) hlt I4 sm' ⟨oI',(s1.2 Ia hSI.symm).trans nI2.1,hoc,hod⟩ hx ru hn fun j' m hj' hm=>?_⟩
   by_cases e:j'=j+1
   ·subst e
    rw [hn] at hm; cases hm; omega
   ·have:=hbest j' m (by omega) hm
    omega
  ·have hb'':decide (n > nb)=false:=decide_eq_false hb'
   simp only [hb'',Bool.false_eq_true,if_false]
   refine wpAny_bind (wpAny_letGo ?_)
   rw [hname]
   refine wpAny_pure ⟨plainId_quiet PySem.F.plain_max_loop _,ih (j+1) i H2 _ xb vb nb tb c oI' (by omega) hlt I2 sm' hit2 hxb rvb hnb fun j' m hj' hm=>?_⟩
   by_cases e:j'=j+1
   ·subst e
    rw [hn] at hm; cases hm; omega
   ·exact hbest j' m (by omega) hm
theorem jwp {H:Hp}{s:Shared}{Q:VK}{E:Value->Shared->Prop}(F:FnOk X.prog X.w X.K X.mg X.base j0 k f fd ps (spD X.K 1 C))(mo:jX C)(hr:Room (k+1) X.A)(hb:Binds X.K fd ps [])(hcalm:X.calm=true)
  (I:Inv X pins σ H s) (hq:SqL X.K H l xs) (rd:Reps X.K S H ds xs) (so:SOk S H) (hlen:ks.length=xs.length) (hne:0<xs.length) (hC:∀(i:Nat) d n,ds[i]?=some d->ks[i]?=some n->C [d] fun e=>e=.int n)
  (hQ:∀(i:Nat) x n H',xs[i]?=some x->ks[i]?=some n->(∀m∈ks,m≤n)->Same H H'->Q x H') :
  wpAny (model X.prog X.w) X.A (call (.builtin "max") [.ref l] [(Str.ofString "key",.ref f)]) (EP X pins σ Q) E s:=by
 have hname:(toString "max"++toString ".loop":String)="max.loop":=by decide
 obtain⟨its,rv,p,hz⟩:=I.list hq
 refine kmk_tree PySem.F.kind_max PySem.F.plain_max PySem.F.entry_max (kmk_max_key _ _) ?_
 show wpAny _ X.A.in1 (Builtin.Builtins.bindParams "max" ["key","default"] 0 ⟨[],[(Str.ofString "key",.ref f)]⟩ >>= _) _ _ s
 refine wpAny_bind (wpAny_of_eq (show Builtin.Builtins.bindParams "max" ["key","default"] 0 ⟨[],[(Str.ofString "key",.ref f)]⟩=pure [some (.ref f),none] from rfl) ?_)
 refine wpAny_bind (wpAny_pure ?_)
 refine wpAny_bind (wpAny_pyIter_list p.isList ?_)
 refine wpAny_bind (wpAny_newList ?_ (Nat.zero_le _))
 rw [hname]
 refine wpAny_pure ⟨plainId_quiet PySem.F.plain_max_loop _,?_⟩
 have hS:(s.heap.push { cls:=.type "list_iterator",data:=.fields #[.ref l,.int 0 0] }).objs.size=s.heap.objs.size+1:=size_push' ..
 generalize hSa:(s.heap.push { cls:=.type "list_iterator",data:=.fields #[.ref l,.int 0 0] }).objs.size=Sa at hS ⊢
 generalize hIa:s.heap.objs.size=Ia at hS
 have gI:((s.heap.push { cls:=.type "list_iterator",data:=.fields #[.ref l,.int 0 0] }).push (seqObj "list" #[] 0)).get? Ia=some { cls:=.type "list_iterator",data:=.fields #[.ref l,.int 0 0] }:=by
  rw [←hIa]; exact Heap.get?_push_of_some _ (Heap.get?_push_size _ rfl)
 have gS:((s.heap.push { cls:=.type "list_iterator",data:=.fields #[.ref l,.int 0 0] }).push (seqObj "list" #[] 0)).get? Sa=some (seqObj "list" #[] 0):=by
  rw [←hSa]; exact Heap.get?_push_size _ rfl
 have old:∀b o,s.heap.get? b=some o->((s.heap.push { cls:=.type "list_iterator",data:=.fields #[.ref l,.int 0 0] }).push (seqObj "list" #[] 0)).get? b=some o:=fun b o e=>Heap.get?_push_of_some _ (Heap.get?_push_of_some _ e)
 change codeAny _ _ _ _ { s with heap:=(s.heap.push { cls:=.type "list_iterator",data:=.fields #[.ref l,.int 0 0] }).push (seqObj "list" #[] 0) }
 generalize (s.heap.push { cls:=.type "list_iterator",data:=.fields #[.ref l,.int 0 0] }).push (seqObj "list" #[] 0)=h1 at gI gS old ⊢
 have hSI:Sa≠Ia:=by omega
 have szI:s.heap.objs.size≤Ia:=by omega
 have szS:s.heap.objs.size≤Sa:=by omega
 have haI:=Nat.le_trans I.sz szI
 have haS:=Nat.le_trans I.sz szS
 have hn:∀a,s.heap.objs.size≤a->∀q∈X.pn++pins,q.1≠a:=fun a ha q hq z=>by
  have:=Heap.lt_size (I.pin q hq).1
  rw [z] at this
  exact absurd (Nat.lt_of_lt_of_le this (hIa▸ha)) (Nat.lt_irrefl _)
 have Ih:Inv X pins σ H { s with heap:=h1 }:=I.kept (t':=s.toks) old
 have I0:Inv X (pins++[(Sa,seqObj "list" #[] 0),(Ia,{ cls:=.type "list_iterator",data:=.fields #[.ref l,.int 0 0] })]) σ H { s with heap:=h1 }:=Ih.pins_of fun q hq=>by
  rcases List.mem_append.mp hq with z | z
  ·exact Ih.pin q (List.mem_append_right _ z)
  ·rcases List.mem_cons.mp z with rfl | z
   ·exact⟨gS,I.hok.fresh szS,Nat.ne_of_gt (Nat.lt_of_lt_of_le I.lt szS),I.nofs szS,fun v z=>by cases z⟩
   ·rw [List.mem_singleton.mp z]
    exact⟨gI,I.hok.fresh szI,Nat.ne_of_gt (Nat.lt_of_lt_of_le I.lt szI),I.nofs szI,fun v z=>by cases z⟩
 have hit:({ s with heap:=h1 }:Shared).heap.IsListIter Ia l 0:=⟨_,gI,rfl,rfl⟩
 generalize ({ s with heap:=h1 }:Shared)=s1 at I0 hit ⊢
 clear Ih gI gS old
 obtain⟨its,rv,p,hz⟩:=I0.list hq
 obtain⟨x,hx⟩:∃x,xs[0]?=some x:=⟨xs[0],by simp [hne]⟩
 obtain⟨u,hu,ru⟩:=rv.get hx
 obtain⟨n,hnn⟩:∃n,ks[0]?=some n:=⟨ks[0]'(by omega),by simp⟩
 have nS:=I0.pin (Sa,seqObj "list" #[] 0) (by simp)
 have nI:=I0.pin (Ia,{ cls:=.type "list_iterator",data:=.fields #[.ref l,.int 0 0] }) (by simp)
 refine codeAny_builtin PySem.F.entry_max_loop ?_
 rw [Around.under_plainId PySem.F.plain_max_loop _]
 show wpAny _ X.A.in1 (seqItems? (.ref _) >>= _) _ _ _
 refine wpAny_bind (wpAny_seqItems nS.1 rfl ?_)
 show wpAny _ X.A.in1 (tryCatch (pyNext (.ref Ia)) _ >>= _) _ _ _
 refine wpAny_bind (wpAny_tryCatch (wpAny_pyNext_list_item hit p.isList (x:=u) (by simpa using hu) fun h' hit' sb=>?_))
 obtain⟨oI',hoI',hoc,hod⟩:=id hit'
 have I1:Inv X (pins++[(Sa,seqObj "list" #[] 0)]) σ H { s1 with heap:=h' }:=Inv.moved (a:=Ia) (o:={ cls:=.type "list_iterator",data:=.fields #[.ref l,.int 0 0] }) I0 (by simp) haI (fun p hp=>by
  rcases List.mem_append.mp hp with z | z
  ·exact List.mem_append_left _ z
  ·exact List.mem_append_right _ (by simp at z; simp [z])) (fun p hp=>by
  rcases List.mem_append.mp hp with z | z
  ·exact hn Ia szI p (List.mem_append_left _ z)
  ·rcases List.mem_append.mp z with z | z
   ·exact hn Ia szI p (List.mem_append_right _ z)
   ·have:p.1=Sa:=by simp at z; rw [z]
    rw [this]; exact hSI) fun b u hbs e=>(sb.2 b hbs).trans e
 have I2:Inv X (pins++[(Sa,seqObj "list" #[] 0),(Ia,oI')]) σ H { s1 with heap:=h' }:=I1.pins_of fun p hp=>by
  rcases List.mem_append.mp hp with z | z
  ·exact I1.pin p (List.mem_append_right _ (List.mem_append_left _ z))
  ·rcases List.mem_cons.mp z with rfl | z
   ·exact I1.pin _ (by simp)
   ·rw [List.mem_singleton.mp z]
    exact⟨hoI',nI.2.1,nI.2.2.1,nI.2.2.2.1,fun v z=>by rw [hod] at z; cases z⟩
 obtain⟨d,hd,rdx⟩:=rd.getV hx
 show wpAny _ X.A.in1 (tryCatch (holding [u] (call (.ref f) [u])) _ >>= _) _ _ _
 refine wpAny_bind (wpAny_tryCatch (wpAny_holding (wpAny_mono (jrE F mo hr hb I2 ru rdx so (hC _ _ _ hd hnn)) (fun w s2 he=>?_) fun _ _ hF=>hF.elim)))
 obtain⟨t2,H2,rfl,I3,sm2⟩:=he
 have nS2:=I3.pin (Sa,seqObj "list" #[] 0) (by simp)
 have nI2:=I3.pin (Ia,oI') (by simp)
 have sb1:=Heap.SameBut.update s2.heap Sa (Obj.mapSeq fun _=>#[u,.int n t2])
 obtain⟨c2,hc2⟩:∃c2,(s2.heap.update Sa (Obj.mapSeq fun _=>#[u,.int n t2])).get? Sa=some (seqObj "list" #[u,.int n t2] c2):=⟨_,get?_update_seq nS2.1 fun _=>#[u,.int n t2]⟩
 show wpAny _ X.A.in1 (updateSeq Sa (fun _=>#[u,.int n t2]) >>= _) _ _ _
 refine wpAny_bind ?_
 refine wpAny_updateSeq nS2.1 rfl ?_
 rw [hname]
 have I4:Inv X (pins++[(Ia,oI')]) σ H2 { s2 with heap:=s2.heap.update Sa (Obj.mapSeq fun _=>#[u,.int n t2]) }:=Inv.moved (a:=Sa) (o:=seqObj "list" #[] 0) I3 (by simp) haS (fun p hp=>by
  rcases List.mem_append.mp hp with z | z
  ·exact List.mem_append_left _ z
  ·exact List.mem_append_right _ (by simp at z; simp [z])) (fun p hp=>by
  rcases List.mem_append.mp hp with z | z
  ·exact hn Sa szS p (List.mem_append_left _ z)
  ·rcases List.mem_append.mp z with z | z
   ·exact hn Sa szS p (List.mem_append_right _ z)
   ·have:p.1=Ia:=by simp at z; rw [z]
    rw [this]; exact hSI.symm) fun b u hbs e=>(sb1.2 b hbs).trans e
 have I5:Inv X (pins++[(Sa,seqObj "list" #[u,.int n t2] c2),(Ia,oI')]) σ H2 { s2 with heap:=s2.heap.update Sa (Obj.mapSeq fun _=>#[u,.int n t2]) }:=I4.pins_of fun p hp=>by
  rcases List.mem_append.mp hp with z | z
  ·exact I4.pin p (List.mem_append_right _ (List.mem_append_left _ z))
  ·rcases List.mem_cons.mp z with rfl | z
   ·exact⟨hc2,nS2.2.1,nS2.2.2.1,nS2.2.2.2.1,fun v z=>by cases z⟩
   ·rw [List.mem_singleton.mp z]
    exact I4.pin _ (by simp)
 refine wpAny_pure ⟨plainId_quiet PySem.F.plain_max_loop _,jvX F mo hr hb hcalm hq rd so hlen hC hSI haS haI (hn Sa szS) (hn Ia szI) (fun i x v n H' s' hx rx hk hm I' sm=>?_) _ 0 0 H2 _ x u n t2 c2 oI' rfl (by omega) I5 sm2 ⟨oI',(sb1.2 Ia hSI.symm).trans nI2.1,hoc,hod⟩ hx ru hnn fun j' m hj' hm=>?_⟩
 ·exact⟨x,H',I',rx,hQ i x n H' hx hk hm sm⟩
 ·obtain rfl:j'=0:=by omega
  rw [hnn] at hm; cases hm; exact Int.le_refl _
end
section
variable {X:Cx}{k:Nat}{f:Addr}{fd:FuncData}{ps:List Str}{C:jV}{x y:Str}{p py kpos pos:Pos}{e:Expr}{te:E3}
abbrev jx4 (C:jV)(te:E3):E3:=fun ρ Φ=>te ρ fun d=>match d with
 | .lst ds=>∃ks:List Int,ds≠[]∧ks.length=ds.length∧(∀(i:Nat) d n,ds[i]?=some d->ks[i]?=some n->C [d] fun r=>r=.int n)∧∀(i:Nat) d n,ds[i]?=some d->ks[i]?=some n->(∀m∈ks,m≤n)->Φ d
 | _=>False
theorem jyJ (F:FnOk X.prog X.w X.K X.mg X.base j0 k f fd ps (spD X.K 1 C))(mo:jX C)(hr:Room (k+1) X.A)(hb:Binds X.K fd ps [])(hcalm:X.calm=true)
  (hg:Gl X x) (hm:X.mg x=none) (hv:bootBuiltins x=some (.builtin "max")) (hgy:Gl X y) (hmy:X.mg y=some (.ref f)) (ha:PD X e te)
  (hn:x≠"__name__":=by decide) (hdb:(x == ("__debug__":Str))=false:=by decide) (hdy:(y == ("__debug__":Str))=false:=by decide)
  (he:backTo pos (starEach [e] X.env)=(false,eval e X.env)::backTo pos (starEach [] X.env):=by rfl)
  (hplain:(backTo pos (starEach [e] X.env)).any (·.1)=false:=by rfl) (hs:starEach [e] X.env=(false,eval e X.env)::starEach [] X.env:=by rfl):PD X (.Call (.Name x p) [e] [⟨some (Str.ofString "key"),.Name y py,kpos⟩] pos) (jx4 C te):=by
 obtain⟨t2,h,w⟩:=ha
 refine⟨fun σ H Q=>jnf t2 jkq σ H fun vs H1=>∃(l:Addr) (xs:List V) (ds:List D) (ks:List Int) (S:Addr->Prop),vs=[.ref l]∧SqL X.K H1 l xs∧Reps X.K S H1 ds xs∧SOk S H1∧ks.length=xs.length∧0<xs.length∧(∀(i:Nat) d n,ds[i]?=some d->ks[i]?=some n->C [d] fun e=>e=.int n) ∧
  ∀(i:Nat) z n H',xs[i]?=some z->ks[i]?=some n->(∀m∈ks,m≤n)->Same H1 H'->Q z H',?_,?_⟩
 ·intro pins s σ H Q I hw
  refine wpAny_Call_Name_kw (jka I hg hm hv ?_ hn hdb)
  refine PyProof.Rows.callWith_kw ?_ he hplain
  refine jQ (jaZ h jca hs pos pins s σ H _ I hw) fun us s1 qZ=>?_
  obtain⟨vs,H1,I1,r1,l,xs,ds,ks,S,e1,hq,rd,so,hl,hne,hC,hQ⟩:=qZ
  subst e1
  obtain⟨u,rfl,ru⟩:=jfN r1
  cases ru
  refine jQ (jy9 (nm:=some (Str.ofString "key")) (kpos:=kpos) (jib (pos:=py) hgy hmy (v:=.ref f) rfl hdy) jz2 pos pins s1 σ H1 (fun zs H2=>zs=[.ref f]∧H2=H1) I1 ⟨rfl,rfl⟩) fun ws s2 qZ=>?_
  obtain⟨zs,H2,I2,rz,ez,eh⟩:=qZ
  subst ez eh
  obtain⟨u,rfl,ru⟩:=jfN rz
  cases ru
  exact jwp F mo hr hb hcalm I2 hq rd so hl hne hC hQ
 ·intro B S H σ ρ Φ Q er q hd
  refine w B S H σ ρ _ _ er q fun d v H1 hm s1 r=>?_
  match d,hm with
  | .lst ds,⟨ks,hne,hl,hC,hΦ⟩ =>
   obtain⟨a,xs,rfl,lr,rs⟩:=j3 r
   have len:=rs.len
   refine⟨a,xs,ds,ks,S,rfl,lr.sq,rs,er.ok.same s1,by rw [hl,len],?_,hC,fun i z n H' hz hn hx sm=>?_⟩
   ·rw [←len]; cases ds with
    | nil=>exact absurd rfl hne
    | cons _ _=>simp
   ·obtain⟨d,hd',rd⟩:=rs.getV hz
    exact hd d z H' (hΦ i d n hd' hn hx) (s1.trans sm) (rd.same sm)
end
def jCS (h:Heap)(a l:Addr)(i:Int):Prop:=∃o,h.get? a=some o∧o.cls=.type "reversed"∧o.data=.fields #[.ref l,rawInt i]
def jCV:Bool->Heap->Addr->Addr->Nat->Prop
 | true,h,it,l,k=>h.IsListIter it l k
 | false,h,it,l,k=>h.IsTupleIter it l k
def jCT:Bool->Heap->Addr->Array Value->Prop
 | true,h,l,xs=>h.IsList l xs
 | false,h,l,xs=>h.IsTuple l xs
inductive Mv (fp:List Addr):Heap->Heap->Prop
 | refl (h:Heap):Mv fp h h
 | step {h h1 h2:Heap} (b:Addr):Mv fp h h1->b∈fp->(∀c o,c≠b->h1.get? c=some o->h2.get? c=some o)->Mv fp h h2
def SqB (K:PySem.W.Frag):Bool->Hp->Addr->List V->Prop
 | true,H,a,xs=>SqL K H a xs
 | false,H,a,xs=>SqT K H a xs
theorem apart (n l m:Nat)(k1:l<n)(k2:m<n):ZipApart (n+4) (n+2) (n+3) n (n+1) l m:=by
 have f:∀{a b:Nat},a<b->a≠b:=fun h=>Nat.ne_of_lt h
 have g:∀{a b:Nat},b<a->a≠b:=fun h=>Nat.ne_of_gt h
 exact⟨f (by omega),f (by omega),f (by omega),f (by omega),f (by omega),g (by omega),g (by omega),g (by omega),g (by omega),f (by omega),f (by omega),f (by omega),f (by omega),f (by omega),f (by omega),f (by omega),f (by omega),f (by omega)⟩
section
variable {prog:Program}{w:World}{A:Around}{E:Value->Shared->Prop}{h:Heap}{g:Array GenState}{d:Drawn}{t:Nat}{os:OsState}{a C:Addr}{o:Obj}{K:PySem.W.Frag}
structure XCls (K:PySem.W.Frag)(C:Addr):Prop where
 cls:(PySem.W.clsIn K C).isSome=true
 ga:PySem.W.findIn K (.ref C) "__getattribute__"=some (some (.builtin "BaseException.__getattribute__"))
 gn:PySem.W.findIn K (.ref C) "__getattr__"=some none
 cl:PySem.W.findIn K (.ref C) "__class__"=some (some (.builtin "object.__class__"))
 mo:PySem.W.mroIn K C (.type "object")=some true
 mb:PySem.W.mroIn K C (.type "BaseException")=some true
theorem jyz {R:Result->Shared->Prop}{tp:Value}(X:K.In h)(c:XCls K C)(hx:h.get? a=some o)(hc:o.cls=.ref C)(hq:R (.ok (.ret (.ref C))) ⟨h,g,d,t,os⟩) :
  codeAny (model prog w) A (.call (.builtin "getset_descriptor.__get__") ⟨[.builtin "object.__class__",.ref a,tp],[]⟩) R ⟨h,g,d,t,os⟩:=by
 have hT5:(⟨h,g,d,t,os⟩:Shared).TypeIs (.builtin "object.__class__") "getset_descriptor":=F.typeOf_object_class
 have L1:=PySem.W.looks_mroIn (M:=model prog w) X c.mo
 have ow:=F.owner_object_class
 refine codeAny_call_builtin F.slot_gs_get.plain F.entry_gs_get (F.slot_gs_get.check _ _ _ _ _ _ _ _ hT5 (F.args_gs_get _ _ _) ?_)
 repeat (any_goals (first | assumption | (with_reducible refine wpAny_loadPart_at hx ?_; rw [hc]) | (rw [ow]; with_reducible refine L1.at ?_) | wp_step))
 refine⟨Code.quiet_builtin _ (by decide +kernel),codeAny_builtin F.entry_object_class ?_⟩
 repeat (any_goals (first | assumption | (with_reducible refine wpAny_loadPart_at hx ?_; rw [hc]) | wp_step))
theorem jvk {tk:Tok}{Q:Fin->Shared->Prop}(X:K.In h)(c:XCls K C)(hx:h.get? a=some o)(hc:o.cls=.ref C)
  (hq:Q (.done (.ret (.ref C))) ⟨h,g,d,t,os⟩) :
  wpAny (model prog w) A (Builtin.«object.__getattribute__» ⟨[.ref a,.str "__class__" tk],[]⟩) Q E ⟨h,g,d,t,os⟩:=by
 have hT5:(⟨h,g,d,t,os⟩:Shared).TypeIs (.builtin "object.__class__") "getset_descriptor":=F.typeOf_object_class
 have f5:=F.typeOf_object_class
 have f6:=F.slot_gs_get.lookup
 have f7:=F.slot_gs_set.lookup
 have L:=PySem.W.looks_findIn (M:=model prog w) X c.cl
 repeat (any_goals (first | assumption | (with_reducible refine wpAny_loadPart_at hx ?_; rw [hc]) | with_reducible refine L.at ?_ | wp_step))
 refine jyz X c hx hc ?_
 repeat (any_goals (first | assumption | wp_step))
theorem jv7 {M:Model}{nameV:Value}{Q:Unit->Shared->Prop}(X:K.In h)(c:XCls K C)
  (hx:h.get? a=some o) (hc:o.cls=.ref C) (hq:Q () ⟨h,g,d,t,os⟩):wpAny M A (checkBuiltinCall "BaseException.__getattribute__" ⟨[.ref a,nameV],[]⟩) Q E ⟨h,g,d,t,os⟩:=by
 have hk:builtinKind "BaseException.__getattribute__"=some .slot:=by decide +kernel
 have hsplit:splitId "BaseException.__getattribute__"=some ("BaseException","__getattribute__"):=by decide +kernel
 have L:=PySem.W.looks_mroIn (M:=M) X c.mb
 have ha:=F.args_bexc_ga (.ref a) nameV
 simp only [checkBuiltinCall,hk,hsplit]
 refine wpAny_bind ?_
 ·unfold isInstance
  repeat (first | (with_reducible refine wpAny_loadPart_at hx ?_; rw [hc]) | with_reducible refine L.at ?_ | wp_step)
  exact hq
theorem jwJ {tk:Tok}{R:Result->Shared->Prop}(X:K.In h)(c:XCls K C)(hx:h.get? a=some o)(hc:o.cls=.ref C)(hq:R (.ok (.ret (.ref C))) ⟨h,g,d,t,os⟩) :
  codeAny (model prog w) A (.call (.builtin "BaseException.__getattribute__") ⟨[.ref a,.str "__class__" tk],[]⟩) R ⟨h,g,d,t,os⟩ :=
 codeAny_call_builtin F.excAttr_ValueError.ga.plain F.entry_bexc_ga (jv7 X c hx hc (jvk X c hx hc hq))
theorem jz8 {tk:Tok}{Q:Value->Shared->Prop}(X:K.In h)(c:XCls K C)(hx:h.get? a=some o)(hc:o.cls=.ref C)(hq:Q (.ref C) ⟨h,g,d,t,os⟩) :
  wpAny (model prog w) A (getAttrBy (.ref a) (.str "__class__" tk) false) Q E ⟨h,g,d,t,os⟩:=by
 have f3:=F.excAttr_ValueError.ga.bind (.ref a)
 have hx2:(Value.builtin "BaseException.__getattribute__" == Value.builtin "object.__getattribute__")=false:=by decide +kernel
 have hx1:(onTheHeap (Value.ref C)&&Value.builtin "BaseException.__getattribute__" == Value.builtin "object.__getattribute__")=false:=by rw [hx2]; rfl
 have L1:=PySem.W.looks_findIn (M:=model prog w) X c.ga
 have L2:=PySem.W.looks_findIn (M:=model prog w) X c.gn
 repeat (any_goals (first | assumption | (with_reducible refine wpAny_loadPart_at hx ?_; rw [hc]) | with_reducible refine L1.at ?_ | with_reducible refine L2.at ?_ | wp_step))
 refine jwJ X c hx hc ?_
 repeat (any_goals (first | assumption | wp_step))
theorem jww {Q:Option Value->Shared->Prop}(X:K.In h)(c:XCls K C)(hx:h.get? a=some o)(hc:o.cls=.ref C)(hq:Q (some (.ref C)) ⟨h,g,d,t+1,os⟩) :
  wpAny (model prog w) A (getAttr? (.ref a) "__class__") Q E ⟨h,g,d,t,os⟩:=by
 unfold getAttr? getAttrBy?
 repeat (any_goals (first | assumption | with_reducible apply jz8 X c hx hc | wp_step))
theorem jwj (c:XCls K C):PySem.W.KitX K (.ref a) (.ref C) (fun h=>∃o,h.get? a=some o∧o.cls=.ref C) where
 ty:=fun _ _ _ ⟨o,hx,hc⟩=>by rw [←hc]; exact(PySem.W.Looks.ld hx).andThen .now
 it:=fun _ _ X _=>by
  obtain⟨cd,hcD⟩:=Option.isSome_iff_exists.mp c.cls
  unfold PySem.W.clsIn at hcD
  split at hcD
  ·rename_i c' d' cd' sl' ho
   intro A' Q' E' s' k q
   unfold isType loadHead
   exact wpAny_bind (wpAny_loadPart (k _ _ (X _ _ ho)) (wpAny_pure q))
  ·cases hcD
 ne:=fun h tp dd its n sl X htp=>by
  obtain⟨cd,hcD⟩:=Option.isSome_iff_exists.mp c.cls
  refine Bool.eq_false_iff.mpr fun q=>?_
  have e:C=tp:=Value.ref.inj (beq_iff_eq.mp q)
  subst e
  unfold PySem.W.clsIn at hcD
  split at hcD
  ·rename_i c' d' cd' sl' ho
   have z:=(X _ _ ho).symm.trans htp
   cases z
  ·cases hcD
 ca:=fun {_ _ _ _ _ s} X ⟨o,hx,hc⟩ k=>by
  obtain⟨h,g,d,t,os⟩:=s
  exact jww X c hx hc k
end
theorem jw1 {P:Program}{w:World}{H:Hp}{h:Heap}{a:Addr}{o:HO}(x:ObjOk P w H h a o):∃u,h.get? a=some u:=by
 induction o with
 | lst xs=>obtain⟨z,its,n,r,e⟩:=x; exact⟨_,e⟩
 | tup xs=>obtain⟨z,its,r,ob,e,c⟩:=x; exact⟨_,e⟩
 | dK kvs=>obtain⟨z,y,vs,r,ob,es,ep,e,c⟩:=x; exact⟨_,e⟩
 | dT kvs=>obtain⟨z,y,xs,r,ob,es,ep,e,c⟩:=x; exact⟨_,e⟩
 | set S n=>obtain⟨ob,es,ep,t,e,c⟩:=x; exact⟨_,e⟩
 | ins C dx fs=>obtain⟨d,z,ne,e,r⟩:=x; exact⟨_,e⟩
 | own y=>obtain⟨ob,e⟩:=x; exact⟨_,e⟩
 | xd fs=>obtain⟨mA,⟨od,es,ep,e,c⟩,r⟩:=x; exact⟨_,e⟩
 | rng lo hi=>obtain⟨t,u,v,e⟩:=x; exact⟨_,e⟩
 | frz ob u ih=>obtain⟨e,q⟩:=x; exact⟨_,e⟩
 | tbl ps=>exact⟨_,x⟩
 | met f y=>exact⟨_,x⟩
 | ext φ=>obtain⟨p,⟨o,e⟩,st⟩:=x; exact⟨_,e⟩
structure FlyB (P:Program)(w:World)(l:List Env)(H H':Hp)(h h' B:Heap)(e C:Addr)(a0:Value):Prop where
 fl:Heap.FlyingW B l e (.ref C) a0 h'
 hok:HOk P w H' B
 keep:∀b o,h.get? b=some o->H b=none->b∉frs l->B.get? b=some o
 slot:∀b o,h.get? b=some o->H b=none->b∈frs l->∃sl,h'.get? b=some { o with slots:=sl }
 free:∀b o,h.get? b=some o->H b=none->H' b=none
 there:∀b o,h.get? b=some o->b∉frs l->∃o',B.get? b=some o'
 tups:∀b xs,H b=some (.tup xs)->H' b=some (.tup xs)
 frzs:∀b o u,H b=some (.frz o u)->H' b=some (.frz o u)
 tbls:∀b ps,H b=some (.tbl ps)->∃more,H' b=some (.tbl (ps++more))
 he:H' e=none
section
variable {P:Program}{w:World}{l:List Env}{H H':Hp}{h h' h'' B:Heap}{e C:Addr}{a0:Value}
theorem FlyB.un (f:FlyB P w l H H' h h' B e C a0):Un (frs l) [] H H' h h' where
 keep:=fun b o q n hb _=>f.fl.1 _ _ (f.keep b o q n hb)
 slot:=fun b o q n hb _=>f.slot b o q n hb
 free:=fun b o q n _=>f.free b o q n
 there:=fun b o q _=>by
  by_cases hb:b∈frs l
  ·obtain⟨_,o',ho,_⟩:=f.fl.2.2.1.mem hb
   exact⟨o',ho⟩
  ·obtain⟨o',ho⟩:=f.there b o q hb
   exact⟨o',f.fl.1 _ _ ho⟩
 tups:=f.tups
 frzs:=f.frzs
 tbls:=f.tbls
theorem FlyB.hk (f:FlyB P w l H H' h h' B e C a0):HOk P w H' h':=f.hok.kept f.fl.1
theorem FlyB.go (f:FlyB P w l H H' h h' B e C a0)(x:Heap.FlyingW B l e (.ref C) a0 h'')(u:h'.UpToSlots h''):FlyB P w l H H' h h'' B e C a0 where
 fl:=x
 hok:=f.hok
 keep:=f.keep
 slot:=fun b o q n hb=>by
  obtain⟨sl,e1⟩:=f.slot b o q n hb
  obtain⟨_,o',ho,hd⟩:=f.fl.2.2.1.mem hb
  rw [e1] at ho; cases ho
  obtain⟨sl',e2⟩:=u b _ e1 hd
  exact⟨sl',e2⟩
 free:=f.free
 there:=f.there
 tups:=f.tups
 frzs:=f.frzs
 tbls:=f.tbls
 he:=f.he
end
def CXC (P:Program)(w:World):CXT:=fun outer H s E e s'=>∃ea C H' B a0,e=.ref ea∧s'.os=s.os∧AllBare s'.gens∧FlyB P w outer H H' s.heap s'.heap B ea C a0∧E (.ref C) none H'
section
variable {X:Cx}{pins:List (Addr×Obj)}{σ:L2.St}{H1:Hp}{s1:Shared}{h':Heap}{e C:Addr}{vs:List Value}{Q:Unit->Shared->Prop}{E:Value->Shared->Prop}
theorem jjV (I:Inv X pins σ H1 s1)(hst:X.stack=X.env::X.outer)(hfr:X.env.frame=some X.env.locals)(hex:X.ex=[])(m:Heap.MadeExcOf s1.heap h' e (.ref C) vs)
  (hQ:∀h'' B a0,FlyB X.prog X.w X.outer X.H₀ H1 X.s₀.heap h'' B e C a0->Q () { s1 with heap:=h'' }):wpAny (model X.prog X.w) X.A (leaving X.env (.ref e)) Q E { s1 with heap:=h' }:=by
 have hA:X.A.frames=some (X.env::X.outer):=by rw [I.ok.frames,hst]
 have hl:s1.heap.FunFrames (PySem.W.hideAll s1.heap (frs (X.env::X.outer))) (X.env::X.outer) :=
  PySem.W.funFrames_hide (hst▸I.stack) fun env he b hb=>List.mem_filterMap.mpr ⟨env,he,hb⟩
 have nex:∀b:Addr,b∉X.ex:=fun b z=>by rw [hex] at z; cases z
 have ns:∀b o,X.s₀.heap.get? b=some o->b∉frs X.outer->b∉frs (X.env::X.outer):=fun b o q n z=>by
  unfold frs at z
  rw [List.filterMap_cons,hfr] at z
  rcases List.mem_cons.mp z with z | z
  ·exact absurd (Nat.lt_of_lt_of_le (Heap.lt_size q) I.ok.above) (by rw [z]; exact Nat.lt_irrefl _)
  ·exact n z
 have nH:∀b u,H1 b=some u->b∉frs (X.env::X.outer):=fun b u q z=>by
  have:=I.stkFree b (hst▸z)
  rw [q] at this; cases this
 refine wpAny_leaves_madeW (s:={ s1 with heap:=h' }) (base:=PySem.W.hideAll s1.heap (frs (X.env::X.outer))) (h:=s1.heap) hA hfr (fun b o q=>PySem.W.of_hideAll _ q) hl m fun h'' t x1 x2 x3 x4=>?_
 refine hQ h'' _ _ ⟨x1,fun a o q=>?_,fun b o q n hb=>?_,fun b o q n hb=>?_,fun b o q n=>I.base.free b o q n (nex b),fun b o q hb=>?_,I.base.tups,I.base.frzs,I.base.tbls,?_⟩
 ·refine(I.hok a o q).stay (fun b u hb r=>PySem.W.hideAll_get _ r ?_) (fun _ q=>q) fun _ _ q=>q
  rcases hb with rfl | hb
  ·exact nH _ _ q
  ·exact nH _ _ hb
 ·exact PySem.W.hideAll_get _ (I.base.keep b o q n hb (nex b)) (ns b o q hb)
 ·obtain⟨sl,e1⟩:=I.base.slot b o q n hb (nex b)
  obtain⟨_,o',ho,hd⟩:=I.ok.funs.mem hb
  rw [q] at ho; cases ho
  obtain⟨sl',e2⟩:=x4 b _ (m.keeps _ _ e1) hd
  exact⟨sl',e2⟩
 ·obtain⟨o',e1⟩:=I.base.there b o q (nex b)
  exact⟨o',PySem.W.hideAll_get _ e1 (ns b o q hb)⟩
 ·cases q:H1 e with
  | none=>rfl
  | some u =>
   obtain⟨ob,z⟩:=jw1 (I.hok e u q)
   rw [m.new] at z; cases z
end
abbrev bmV:List Value:=[.type "ValueError",.type "Exception",.type "BaseException",.type "object"]
theorem jzd {K:PySem.W.Frag}{h:Heap}{C:Addr}{bmB:List Value}{newId:String}(X:K.In h)(q:PySem.W.excIn K C bmB newId=true) :
  ∃bm N nm q bs hdct sn sub ab col dd k0 k1 k2 k3 k5 mN,h.get? C=some (excClassObj nm q C N bs bm hdct sn sub ab col dd k0 k1 k2 k3 k5 newId)∧h.Ns N mN∧mN "__init__"=none∧OwnTail h bmB bm:=by
 unfold PySem.W.excIn at q
 split at q
 next dd cd sl ho =>
  split at q
  next C' bm k0 k1 k2 k3 n k5 hm hs =>
   simp only [Bool.and_eq_true,beq_iff_eq,Bool.not_eq_true'] at q
   obtain⟨⟨⟨⟨⟨e1,e2⟩,hdel⟩,ht⟩,hok⟩,hni⟩:=q
   subst e1 e2
   cases cd with
   | mk nm bs mro ns qn hd sn sub ab col del =>
    dsimp only at hm hdel hok hni
    subst hm hdel
    have hsl:sl=#[k0,k1,k2,k3,some (.builtin n),k5]:=by
     cases sl with
     | mk l=>exact congrArg Array.mk hs
    subst hsl
    exact⟨bm,ns,nm,qn,bs,hd,sn,sub,ab,col,dd,k0,k1,k2,k3,k5,_,X _ _ ho,.of_isNs (PySem.W.isNs_of_in X hok),PySem.W.nsMap_none_of_in X hok hni,PySem.W.tail_of_in X ht⟩
  ·cases q
 ·cases q
section
variable {X:Cx}{x:Str}{C:Addr}{e₀:Expr}{jJ:List Expr}{np cpos pos:Pos}{ta:TA}{R:Hp->Prop}
theorem jxG (hc:X.calm=true)(hg:Gl X x)(hm:X.mg x=some (.ref C))(hq:PySem.W.excIn X.K C bmV "ValueError.__new__"=true)(ha:PA X (e₀::jJ) ta)
  (hR:∀pins σ H1 s1 e h' vs,Inv X pins σ H1 s1->R H1->Heap.MadeExcOf s1.heap h' e (.ref C) vs->X.xe (.ref e) { s1 with heap:=h' })
  (hdb:(x == ("__debug__":Str))=false:=by decide) (he:starEach (e₀::jJ) X.env=(false,eval e₀ X.env)::starEach jJ X.env:=by rfl) (hpl:(backTo cpos (starEach jJ X.env)).any (·.1)=false:=by rfl) :
  PS X (.Raise (some (.Call (.Name x np) (e₀::jJ) [] cpos)) none pos) (fun _ σ H=>ta σ H fun vs H1=>vs.length≤sizeLine∧R H1):=by
 intro pins s σ H D I h
 obtain⟨tl,N,nm,q,bs,hdct,sn,sub,ab,col,dd,k0,k1,k2,k3,k5,mN,hC,hN,hni,T⟩:=jzd I.ok.mod.kin hq
 refine wpAny_Raise_call_subT (C:=C) (nm:=nm) (q:=q) (N:=N) (bs:=bs) (bm:=tl) (hdct:=hdct) (sn:=sn) (sub:=sub) (ab:=ab) (col:=col) (dd:=dd) (k0:=k0) (k1:=k1) (k2:=k2) (k3:=k3) (k5:=k5)
  F.excBase_ValueError (mN:=mN) (T.hasType F.excBase_ValueError.hasBase) (I.ok.hd hc) (by rw [he]; show (false||(backTo cpos (starEach jJ X.env)).any (·.1))=false; rw [hpl]; rfl) hni (jdY I hg hm ⟨rfl,?_⟩ hdb)
 have hh:=ha cpos pins s σ H _ I h
 rw [he] at hh ⊢
 exact Calls.evalArgs_plain (wpAny_mono hh (fun us s2 ⟨vs,H1,I1,r,z,q⟩=>⟨rfl,by show us.length≤_; rw [←r.length]; exact z,I1.bk _ _ hC,hN.keeps I1.bk,T.keeps I1.bk,fun h' e m=>hR pins σ H1 s2 e h' us I1 q m⟩) fun _ _ y=>y)
end
def PRD (X:Cx)(R:Hp->Prop)(st:Stmt)(t:jN->Prop):Prop:=∃t2,PS X st t2∧∀B S H σ ρ D',ER X.K B S H σ ρ->t ρ->(∀H1,Same B.H0 H1->R H1)->t2 D' σ H
def jkf (X:Cx)(R:Hp->Prop)(st:List Stmt)(t:jN->Prop):Prop:=∃t2,PSs X st t2∧∀B S H σ ρ D',ER X.K B S H σ ρ->t ρ->(∀H1,Same B.H0 H1->R H1)->t2 D' σ H
section
variable {X:Cx}{R:Hp->Prop}{st:Stmt}{jJ as bs:List Stmt}{t u:jN->Prop}{ts us:S3}{c:Expr}{tc:B3}{pos:Pos}
theorem jyq (h:PRD X R st t):jkf X R [st] t:=by
 obtain⟨t2,h,w⟩:=h
 exact⟨_,jeH h,w⟩
abbrev jnN (ts:S3)(u:jN->Prop):jN->Prop:=fun ρ=>ts (fun f=>match f with | .nx ρ'=>u ρ' | _=>False) ρ
theorem jmC (h:PSD X st ts)(g:jkf X R jJ u):jkf X R (st::jJ) (jnN ts u):=by
 obtain⟨t2,h,w⟩:=h; obtain⟨u2,g,z⟩:=g
 exact⟨_,jbX h g,fun B S H σ ρ D' er q r=>w B S H σ ρ _ _ er q ⟨fun ρ' S' H' σ' p er'=>z B S' H' σ' ρ' D' er' p r,fun _ _ _ _ p=>p.elim,fun _ _ _ _ p=>p.elim,fun _ _ _ p=>p.elim⟩⟩
theorem jdW {x:Str}{C:Addr}{e₀:Expr}{es:List Expr}{np cpos:Pos}{ta:A3}(hc:X.calm=true)(hg:Gl X x)(hm:X.mg x=some (.ref C))(hq:PySem.W.excIn X.K C bmV "ValueError.__new__"=true)(ha:PAD X (e₀::es) ta)
  (hR:∀pins σ H1 s1 e h' vs,Inv X pins σ H1 s1->R H1->Heap.MadeExcOf s1.heap h' e (.ref C) vs->X.xe (.ref e) { s1 with heap:=h' })
  (hdb:(x == ("__debug__":Str))=false:=by decide) (he:starEach (e₀::es) X.env=(false,eval e₀ X.env)::starEach es X.env:=by rfl) (hpl:(backTo cpos (starEach es X.env)).any (·.1)=false:=by rfl) :
  PRD X R (.Raise (some (.Call (.Name x np) (e₀::es) [] cpos)) none pos) (fun ρ=>ta ρ fun ds=>ds.length≤sizeLine):=by
 obtain⟨t2,h,w⟩:=ha
 refine⟨_,jxG hc hg hm hq h hR hdb he hpl,fun B S H σ ρ D' er q r=>w B S H σ ρ _ _ er q fun ds vs H1 p s1 rr=>⟨by rw [←rr.len]; exact p,r H1 (er.same.trans s1)⟩⟩
end
section
variable {X:Cx}{R:Hp->Prop}{jJ bs:List Stmt}{u:jN->Prop}{ta:A3}{us:S3}{c:Expr}{tc:B3}{pos:Pos}{st:Stmt}
abbrev rIf (tc:B3)(ta:A3)(us:S3)(u:jN->Prop):jN->Prop:=fun ρ=>tc ρ fun k=>if k=true then ta ρ fun ds=>ds.length≤sizeLine else jnN us u ρ
theorem jhY (hc:PB X c tc)(ha:PRD X R st (fun ρ=>ta ρ fun ds=>ds.length≤sizeLine))(hb:jhk X bs us)(hr:jkf X R jJ u):jkf X R (.If c [st] bs pos::jJ) (rIf tc ta us u):=by
 obtain⟨c2,h,w⟩:=hc; obtain⟨t2,ha,wa⟩:=ha; obtain⟨u2,hb,wb⟩:=hb; obtain⟨v2,hr,wr⟩:=hr
 refine⟨_,jbX (jlo h (jeH ha) hb) hr,fun B S H σ ρ D' er q r=>w B S H σ ρ _ _ er q fun k H1 hk s1=>?_⟩
 cases k with
 | true =>
  rw [if_pos rfl] at hk ⊢
  exact wa B S H1 σ ρ _ (er.go s1) hk r
 | false =>
  rw [if_neg (by decide)] at hk ⊢
  exact wb B S H1 σ ρ _ _ (er.go s1) hk ⟨fun ρ' S' H' σ' p er'=>wr B S' H' σ' ρ' D' er' p r,fun _ _ _ _ p=>p.elim,fun _ _ _ _ p=>p.elim,fun _ _ _ p=>p.elim⟩
end
def spR (K:PySem.W.Frag)(n:Nat)(C:Addr)(Pre:List D->Prop):Sp:=fun vs H _ E=>∃ds S,ds.length=n∧Reps K S H ds vs∧SOk S H∧Pre ds∧∀H',Same H H'->E (.ref C) none H'
section
variable {P:Program}{w:World}{K:PySem.W.Frag}{mg:Str->Option Value}{base:Heap}
theorem jnC {x qual:Str}{st:Stmt}{f:Addr}{fd:FuncData}{N ps:List Str}{k:Nat}{C:Addr}{Pre:List D->Prop}(F:Fun K x qual st f fd)(S:jx N ps (ji st))
  (body:∀(cdv:Value) (A:Around) (outer:List Env) (s:Shared) (H:Hp) (E:XK),Room k (A.deeper (envOfC qual (ji st) s.heap.objs.size f cdv)) ->
   (∀pins σ H1 s1 e h' vs,Inv (jbU (CXC P w) P w K mg base N qual (ji st) f cdv A outer s H E) pins σ H1 s1->E (.ref C) none H1->Heap.MadeExcOf s1.heap h' e (.ref C) vs->(jbU (CXC P w) P w K mg base N qual (ji st) f cdv A outer s H E).xe (.ref e) { s1 with heap:=h' }) ->
   ∃t,jkf (jbU (CXC P w) P w K mg base N qual (ji st) f cdv A outer s H E) (fun H1=>E (.ref C) none H1) (jan st) t∧∀ds,ds.length=ps.length->Pre ds->t (jz N.length ds)) :
  FnOk P w K mg base (CXC P w) (k+1) f fd ps (spR K ps.length C Pre):=by
 obtain⟨oc,od,kV,doc,pm,an,cdv,ct,osl,rfl,lk,hcd⟩:=F.ex
 refine jun lk hcd S (fun vs H Q E h=>?_) (fun A outer s H vs Q E hr h=>?_)
 ·obtain⟨ds,S,hl,r,_⟩:=h
  rw [←r.len]; exact hl
 ·obtain⟨t,⟨t2,ht,wt⟩,rd⟩:=body cdv A outer s H E hr fun pins σ H1 s1 e h' vs I hE m =>
   jjV I rfl rfl rfl m fun h'' B a0 fly=>⟨e,C,H1,B,a0,rfl,I.os,I.bare,fly,hE⟩
  obtain⟨ds,S,hl,r,so,hp,hE⟩:=h
  exact⟨t2,ht,wt ⟨S,H,[]⟩ S H (L2.jbq N vs) (jz N.length ds) _ (jms r so) (rd ds hl hp) hE⟩
end
theorem jdq:bootBuiltins "ValueError"=some (.type "ValueError"):=by decide +kernel
theorem jR {K:PySem.W.Frag}{C:Addr}{v:Value}{r:Bool}(h:PySem.W.mroIn K C v=some r):(PySem.W.clsIn K C).isSome=true:=by
 unfold PySem.W.mroIn at h
 cases q:PySem.W.clsIn K C with
 | none=>rw [q] at h; cases h
 | some cd=>rfl
theorem jtM {K:PySem.W.Frag}{C D:Addr}{v:Value}{r b:Bool}(hD:PySem.W.mroIn K D v=some r)(ht:PySem.W.typeIn K (.ref D)=some (.type "type"))(hm:PySem.W.mroIn K C (.ref D)=some b):PySem.W.kitCls K (.ref C) (.ref D)=some b:=by
 have z:((PySem.W.clsIn K D).isSome&&PySem.W.typeIn K (.ref D) == some (.type "type"))=true:=by rw [jR hD,ht]; rfl
 show (if ((PySem.W.clsIn K D).isSome&&PySem.W.typeIn K (.ref D) == some (.type "type"))=true then PySem.W.subIn K (.ref C) (.ref D) else none)=some b
 rw [if_pos z]; exact hm
theorem jlv {K:PySem.W.Frag}{C D:Addr}{v:Value}{r:Bool}(hD:PySem.W.mroIn K D v=some r)(ht:PySem.W.typeIn K (.ref D)=some (.type "type"))(hm:PySem.W.mroIn K C (.ref D)=some true):PySem.W.kitOne K (.ref C) (.ref D)=some true:=by
 unfold PySem.W.kitOne
 split
 ·rfl
 ·exact jtM hD ht hm
theorem jai {K:PySem.W.Frag}{C D:Addr}{v:Value}{r:Bool}(hC:PySem.W.mroIn K C (.ref C)=some true)(hD:PySem.W.mroIn K D v=some r)(ht:PySem.W.typeIn K (.ref D)=some (.type "type"))(hm:PySem.W.mroIn K C (.ref D)=some false):PySem.W.kitOne K (.ref C) (.ref D)=some false:=by
 unfold PySem.W.kitOne
 split
 ·rename_i q
  have e:=Value.ref.inj (beq_iff_eq.mp q)
  subst e
  rw [hC] at hm; cases hm
 ·exact jtM hD ht hm
theorem jiV {K:PySem.W.Frag}{C:Addr}{T:String}{b:Bool}(ht:PySem.W.kitMeta T=true)(hm:PySem.W.mroIn K C (.type T)=some b):PySem.W.kitOne K (.ref C) (.type T)=some b:=by
 unfold PySem.W.kitOne
 split
 ·rename_i q; exact Value.noConfusion (beq_iff_eq.mp q)
 ·show (if PySem.W.kitMeta T=true then PySem.W.subIn K (.ref C) (.type T) else none)=some b
  rw [if_pos ht]; exact hm
theorem all_nil {P:Addr->Prop}:∀D∈([]:List Addr),P D:=fun _ h=>by cases h
theorem all_cons {P:Addr->Prop}{D:Addr}{l:List Addr}(h:P D)(t:∀D∈l,P D):∀E∈D::l,P E:=fun E hE=>by
 rcases List.mem_cons.mp hE with rfl | hE
 ·exact h
 ·exact t E hE
theorem jcE:PySem.W.kitMeta "ValueError"=true:=by decide +kernel
abbrev jkI (X:Cx)(ea:Addr)(oe:Obj):Cx:={ X with A:=X.A.mark (some (.ref ea)),calm:=false,pn:=(ea,oe)::X.pn,xe:=fun _ _=>False }
def PBX (X:Cx)(i:Nat)(ea:Addr)(e:Expr)(b:Bool):Prop:=∃t2,PE X e t2∧∀σ H Q,σ[i]?=some (some (.ref ea))->(∀H',Same H H'->Q (.bl b) H')->t2 σ H Q
section
variable {X:Cx}{i:Nat}{ea C:Addr}{oe:Obj}{x y n:Str}{p py pn pos ps:Pos}{b b':Bool}{a a2:Expr}
theorem jq7 (hp:(ea,oe)∈X.pn)(c:XCls X.K C)(hc:oe.cls=.ref C):jcS X (.builtin "isinstance") (fun xs H Q=>∃cv,xs=[.ref ea,cv]∧∃b,(∀u,RelV cv u->PySem.W.kitOne X.K (.ref C) u=some b)∧Q (.bl b) H):=fun pins s σ H xs us Q I rs ⟨cv,e1,b,hk,q⟩=>by
 subst e1
 obtain⟨u,u2,rfl,r1,r2⟩:=jxM rs
 cases (show u=Value.ref ea from r1)
 have z:=(I.pin (ea,oe) (List.mem_append_left _ hp)).1
 exact PySem.W.kia_one (jwj c) I.kIn ⟨oe,z,hc⟩ (hk u2 r2) (fun z=>by cases z) fun tk=>⟨.bl b,H,I.tok tk,rfl,q⟩
theorem jY {D:Addr}(hp:(ea,oe)∈X.pn)(c:XCls X.K C)(hc:oe.cls=.ref C)(hg:Gl X x)(hm:X.mg x=none)(hv:bootBuiltins x=some (.builtin "isinstance"))(hn:X.N[i]?=some n)(hvi:Vis X.env.scope n)
  (hgy:Gl X y) (hmy:X.mg y=some (.ref D)) (hk:PySem.W.kitOne X.K (.ref C) (.ref D)=some b) (hnn:x≠"__name__":=by decide) (hdb:(x == ("__debug__":Str))=false:=by decide)
  (hdn:(n == ("__debug__":Str))=false:=by decide) (hdc:(n == ("__classdict__":Str))=false:=by decide) (hdy:(y == ("__debug__":Str))=false:=by decide)
  (he:starEach [.Name n pn,.Name y py] X.env=[(false,eval (.Name n pn) X.env),(false,eval (.Name y py) X.env)]:=by rfl) (he2:starEach [.Name y py] X.env=[(false,eval (.Name y py) X.env)]:=by rfl) :
  PBX X i ea (.Call (.Name x p) [.Name n pn,.Name y py] [] pos) b:=by
 refine⟨_,jjy (jq7 hp c hc) hg hm hv (jaZ (jsj hn hvi hdn hdc) (jaZ (jib hgy hmy (show RelV (.ref D) (.ref D) from rfl) hdy) jca he2) (by rw [he,he2])) hnn hdb (by rw [he,he2]) (by rw [he2]; rfl),fun σ H Q hs q=>?_⟩
 exact⟨_,hs,.ref D,rfl,b,fun u r=>by cases (show u=Value.ref D from r); exact hk,q H (Same.refl _)⟩
theorem jjA {T:String}(hp:(ea,oe)∈X.pn)(c:XCls X.K C)(hc:oe.cls=.ref C)(hg:Gl X x)(hm:X.mg x=none)(hv:bootBuiltins x=some (.builtin "isinstance"))(hn:X.N[i]?=some n)(hvi:Vis X.env.scope n)
  (hgy:Gl X y) (hmy:X.mg y=none) (hvy:bootBuiltins y=some (.type T)) (hk:PySem.W.kitOne X.K (.ref C) (.type T)=some b) (hnn:x≠"__name__":=by decide) (hdb:(x == ("__debug__":Str))=false:=by decide)
  (hdn:(n == ("__debug__":Str))=false:=by decide) (hdc:(n == ("__classdict__":Str))=false:=by decide) (hny:y≠"__name__":=by decide) (hdy:(y == ("__debug__":Str))=false:=by decide)
  (he:starEach [.Name n pn,.Name y py] X.env=[(false,eval (.Name n pn) X.env),(false,eval (.Name y py) X.env)]:=by rfl) (he2:starEach [.Name y py] X.env=[(false,eval (.Name y py) X.env)]:=by rfl) :
  PBX X i ea (.Call (.Name x p) [.Name n pn,.Name y py] [] pos) b:=by
 refine⟨_,jjy (jq7 hp c hc) hg hm hv (jaZ (jsj hn hvi hdn hdc) (jaZ (js5 hgy hmy hvy (show RelV (.ty T) (.type T) from rfl) hny hdy) jca he2) (by rw [he,he2])) hnn hdb (by rw [he,he2]) (by rw [he2]; rfl),fun σ H Q hs q=>?_⟩
 exact⟨_,hs,.ty T,rfl,b,fun u r=>by cases (show u=Value.type T from r); exact hk,q H (Same.refl _)⟩
inductive jtZ (X:Cx):List Expr->List Addr->Prop where
 | nil:jtZ X [] []
 | cons {y:Str} {py:Pos} {D:Addr} {es:List Expr} {Ds:List Addr} (hg:Gl X y) (hm:X.mg y=some (.ref D)) (hd:(y == ("__debug__":Str))=false) (he:starEach (.Name y py::es) X.env=(false,eval (.Name y py) X.env)::starEach es X.env) (r:jtZ X es Ds):jtZ X (.Name y py::es) (D::Ds)
end
theorem jvt {M:Model}{A:Around}{E:Value->Shared->Prop}{K:PySem.W.Frag}{h:Heap}{g:Array GenState}{d:Drawn}{t:Nat}{os:OsState}{e C D:Addr}{oe:Obj}{b:Bool}{Q:Bool->Shared->Prop}
  (X:K.In h) (hcD:(PySem.W.clsIn K D).isSome=true) (htD:PySem.W.typeIn K (.ref D)=some (.type "type")) (hbD:PySem.W.mroIn K D (.type "BaseException")=some true) (hs:PySem.W.mroIn K C (.ref D)=some b)
  (he:h.get? e=some oe) (hcls:oe.cls=.ref C) (hq:Q b ⟨h,g,d,t,os⟩):wpAny M A (excMatches (.ref e) (.ref D)) Q E ⟨h,g,d,t,os⟩:=by
 have f:=tc_notTuple
 have L1:=PySem.W.looks_mroIn (M:=M) X hbD
 have L2:=PySem.W.looks_mroIn (M:=M) X hs
 obtain⟨cd,hc⟩:=Option.isSome_iff_exists.mp hcD
 unfold PySem.W.clsIn at hc
 split at hc
 next c' d' cd' sl' ho =>
  have hD:=X _ _ ho
  have ht:c'=.type "type":=by
   have z:Option.map (fun x=>x.cls) (List.lookup D K)=some (Value.type "type"):=htD
   rw [ho] at z
   exact Option.some.inj z
  subst ht
  unfold excMatches
  repeat (first | (with_reducible refine wpAny_loadPart_at he ?_; rw [hcls]) | with_reducible refine wpAny_loadPart_at hD ?_ | with_reducible refine L1.at ?_ | with_reducible refine L2.at ?_ | wp_step)
  cases b <;> (repeat wp_step) <;> exact hq
 ·cases hc
section
variable {X:Cx}{pins:List (Addr×Obj)}{σ:L2.St}{H:Hp}{s:Shared}
theorem jwb {M:Model}{A:Around}{E:Value->Shared->Prop}{i:Nat}{n:Str}{pos:Pos}{Q:Unit->Shared->Prop}(I:Inv X pins σ H s)(hN:X.N.Nodup)(hi:X.N[i]?=some n)(hk:X.env.kindOf n=some .local)
  (hq:∀s',Inv X pins (σ.set i none) H s'->Q () s'):wpAny M A (do bindName X.env n .none; unbindBehindTheSuite X.env n pos) Q E s:=by
 obtain⟨m,hn,hl⟩:=id I.loc
 have hcls:(X.env.scope.kind == .class||(X.env.scope.kind == .module&&X.env.locals != X.env.globals))=false:=by rw [I.ok.kind]; rfl
 refine wpAny_nameGoes_keeps hk hn hcls fun h' v hn' hs=>?_
 obtain⟨oL,_,_,hoL,_⟩:=id hn
 refine hq _ ⟨I.ok,I.os,I.bare,⟨fun b o e n hb hx=>?_,fun b o e n hb hx=>?_,I.base.free,fun b o e hx=>?_,I.base.tups,I.base.frzs,I.base.tbls⟩,⟨_,hn',fun j y v' e1 e2 e3=>?_⟩,fun y c e=>?_,I.free,I.freeC,fun p hp=>?_,fun b ob e=>?_,by simpa using I.len⟩
 ·exact(hs.2 b (Nat.ne_of_lt (Nat.lt_of_lt_of_le (Heap.lt_size e) I.ok.above))).trans (I.base.keep b o e n hb hx)
 ·obtain⟨sl,e1⟩:=I.base.slot b o e n hb hx
  exact⟨sl,(hs.2 b (Nat.ne_of_lt (Nat.lt_of_lt_of_le (Heap.lt_size e) I.ok.above))).trans e1⟩
 ·obtain⟨o',e1⟩:=I.base.there b o e hx
  exact⟨o',(hs.2 b (Nat.ne_of_lt (Nat.lt_of_lt_of_le (Heap.lt_size e) I.ok.above))).trans e1⟩
 ·by_cases hj:j=i
  ·subst hj
   have hiσ:j<σ.length:=by rw [I.len]; exact(List.getElem?_eq_some_iff.mp hi).1
   rw [List.getElem?_set_self hiσ] at e2
   cases e2
  ·rw [List.getElem?_set_ne (Ne.symm hj)] at e2
   obtain⟨u',r',q⟩:=hl j y v' e1 e2 e3
   refine⟨u',r',?_⟩
   rcases q with⟨k,e⟩ | ⟨k,c,e,z⟩
   ·refine .inl ⟨k,?_⟩
    have:y≠n:=fun e=>hj (jmL hN e1 (e▸hi))
    simp [this,e]
   ·exact .inr ⟨k,c,e,z.sameBut hs (I.cne y c e)⟩
 ·obtain⟨w',z⟩:=I.cell y c e
  exact⟨w',z.sameBut hs (I.cne y c e)⟩
 ·obtain⟨e,n,ne,nf,d⟩:=I.pin p hp
  exact⟨(hs.2 p.1 ne).trans e,n,ne,nf,d⟩
 ·refine(I.hok b ob e).stay (fun c w' hc q=>(hs.2 c ?_).trans q) (fun _ q=>q) fun _ _ q=>q
  rintro rfl
  rcases hc with rfl | hc
  ·rw [I.free] at e; cases e
  ·rw [I.free] at hc; cases hc
end
theorem ER.any {K:PySem.W.Frag}{B:Bs}{S:Addr->Prop}{H:Hp}{σ:L2.St}{ρ:jN}{i:Nat}{v:Option V}(er:ER K B S H σ ρ)(h:ρ[i]?=some .un):ER K B S H (σ.set i v) ρ where
 len:=by rw [List.length_set]; exact er.len
 same:=er.same
 sub:=er.sub
 ok0:=er.ok0
 ok:=er.ok
 val:=fun j c q=>by
  have:i≠j:=by rintro rfl; rw [h] at q; cases q
  rw [List.getElem?_set_ne this]; exact er.val j c q
 own:=fun j c q=>by
  have:i≠j:=by rintro rfl; rw [h] at q; cases q
  rw [List.getElem?_set_ne this]; exact er.own j c q
 uq:=fun j k a ds es q1 q2 q3 q4=>by
  have n1:i≠j:=by rintro rfl; rw [h] at q1; cases q1
  have n2:i≠k:=by rintro rfl; rw [h] at q2; cases q2
  rw [List.getElem?_set_ne n1] at q3
  rw [List.getElem?_set_ne n2] at q4
  exact er.uq j k a ds es q1 q2 q3 q4
 dct:=fun j ks c q=>by
  have:i≠j:=by rintro rfl; rw [h] at q; cases q
  rw [List.getElem?_set_ne this]; exact er.dct j ks c q
 dq:=fun j k a ks ds ks' ds' q1 q2 q3 q4=>by
  have n1:i≠j:=by rintro rfl; rw [h] at q1; cases q1
  have n2:i≠k:=by rintro rfl; rw [h] at q2; cases q2
  rw [List.getElem?_set_ne n1] at q3
  rw [List.getElem?_set_ne n2] at q4
  exact er.dq j k a ks ds ks' ds' q1 q2 q3 q4
 rf:=fun j v q=>by
  have:i≠j:=by rintro rfl; rw [h] at q; cases q
  rw [List.getElem?_set_ne this]; exact er.rf j v q
 rwx:=fun j v q=>by
  have:i≠j:=by rintro rfl; rw [h] at q; cases q
  rw [List.getElem?_set_ne this]; exact er.rwx j v q
 gh:=er.gh
theorem jvU {X:Cx}{pins:List (Addr×Obj)}{σ:L2.St}{H:Hp}{s:Shared}{ea:Addr}{oe:Obj}(I:Inv X pins σ H s)(h1:s.heap.get? ea=some oe)(h2:H ea=none)(h3:ea≠X.env.locals)(h4:ea∉X.fs)(h5:∀v,oe.data≠.cell v):Inv (jkI X ea oe) pins σ H s :=
 ⟨⟨I.ok.mod,I.ok.kind,I.ok.glob,I.ok.blt,I.ok.above,I.ok.inj,I.ok.has,I.ok.cab,(fun z=>Bool.noConfusion z),I.ok.frames,I.ok.stk,I.ok.exf,I.ok.bs,I.ok.bsz,I.ok.noex,I.ok.exfs,I.ok.funs,I.ok.frf⟩,
  I.os,I.bare,I.base,I.loc,I.cell,I.free,I.freeC,fun p hp=>by
   rcases List.mem_cons.mp (show p∈(ea,oe)::(X.pn++pins) from hp) with rfl | hp
   ·exact⟨h1,h2,h3,h4,h5⟩
   ·exact I.pin p hp,I.hok,I.len⟩
theorem jBR {X:Cx}{pins:List (Addr×Obj)}{σ:L2.St}{H:Hp}{s:Shared}{ea:Addr}{oe:Obj}(ok:X.Ok)(I:Inv (jkI X ea oe) pins σ H s):Inv X pins σ H s :=
 ⟨ok,I.os,I.bare,I.base,I.loc,I.cell,I.free,I.freeC,fun p hp=>I.pin p (List.mem_cons_of_mem _ hp),I.hok,I.len⟩
def PDX (X:Cx)(i:Nat)(ea:Addr)(e:Expr)(t:E3):Prop:=∃t2,PE X e t2∧∀B S H σ ρ Φ Q,ER X.K B S H σ ρ->σ[i]?=some (some (.ref ea))->t ρ Φ->Hand X.K S H Φ Q->t2 σ H Q
def juy (X:Cx)(i:Nat)(ea:Addr)(es:List Expr)(t:A3):Prop:=∃t2,PA X es t2∧∀B S H σ ρ Φ (Q:List V->Hp->Prop),ER X.K B S H σ ρ->σ[i]?=some (some (.ref ea))->t ρ Φ->(∀ds vs H',Φ ds->Same H H'->Reps X.K S H' ds vs->Q vs H')->t2 σ H Q
section
variable {X:Cx}{i j:Nat}{ea:Addr}{x:Str}{e a b:Expr}{es:List Expr}{bv:Bool}{te ta tb:E3}{tr:A3}{jJ:List Stmt}{pos pos':Pos}
theorem jbx (h:PD X e te):PDX X i ea e te:=let ⟨t2,h,w⟩:=h; ⟨t2,h,fun B S H σ ρ Φ Q er _ q hd=>w B S H σ ρ Φ Q er q hd⟩
theorem jar (h:PBX X i ea e bv):PDX X i ea e (dC (.bl bv)):=let ⟨t2,h,w⟩:=h; ⟨t2,h,fun B S H σ ρ Φ Q er hs q hd=>w σ H Q hs fun H' s=>hd _ _ H' q s Rep.bl⟩
theorem jbs:juy X i ea [] jj:=⟨_,jca,fun B S H σ ρ Φ Q er _ h hd=>hd [] [] H h (Same.refl _) Reps.nil⟩
theorem jG (ha:PDX X i ea e te)(hr:juy X i ea es tr)(hs:starEach (e::es) X.env=(false,eval e X.env)::starEach es X.env:=by rfl):juy X i ea (e::es) (jc te tr):=by
 obtain⟨t2,h,w⟩:=ha; obtain⟨u2,g,z⟩:=hr
 exact⟨_,jaZ h g hs,fun B S H σ ρ Φ Q er hv q hd=>w B S H σ ρ _ _ er hv q fun d v H1 hk s1 r=>z B S H1 σ ρ _ _ (er.go s1) hv hk fun ds vs H2 h2 s2 r2=>hd _ _ H2 h2 (s1.trans s2) (Reps.cons (r.same s2) r2)⟩
theorem jbP (h:juy X i ea es tr):PDX X i ea (.List es pos) (dF (jam tr)):=by
 obtain⟨t2,h,w⟩:=h
 exact⟨_,jrW h,fun B S H σ ρ Φ Q er hv q hd=>w B S H σ ρ _ _ er hv q fun ds vs H1 hk s1 r=>⟨by rw [←r.len]; exact hk.1,fun p hp=>hd _ _ _ hk.2 (s1.trans (jbf hp)) (Rep.newLst (er.ok.same s1) hp r)⟩⟩
theorem jdS (ha:PDX X i ea a ta)(hb:PDX X i ea b tb):PDX X i ea (.BinOp a .Add b pos) (dF (ja7 ta tb)):=by
 obtain⟨t2,h,w⟩:=ha; obtain⟨u2,g,z⟩:=hb
 refine⟨_,juA jtn h g,fun B S H σ ρ Φ Q er hv q hd=>w B S H σ ρ _ _ er hv q fun x u H1 p1 s1 r1=>z B S H1 σ ρ _ _ (er.go s1) hv p1 fun y v H2 p2 s2 r2=>?_⟩
 match x,y,p2 with
 | .lst ds,.lst es,p2 =>
  obtain⟨a,xs,rfl,lr,rs⟩:=j3 (r1.same s2)
  obtain⟨a',xs',rfl,lr',rs'⟩:=j3 r2
  exact⟨a,a',xs,xs',rfl,rfl,lr.sq,lr'.sq,by rw [←rs.len,←rs'.len]; exact p2.1,fun p hp=>hd _ _ _ p2.2 ((s1.trans s2).trans (jbf hp)) (Rep.newLst (er.ok.same (s1.trans s2)) hp (rs.app rs'))⟩
def jgy (X:Cx)(i:Nat)(ea:Addr)(st:List Stmt)(t:S3):Prop :=
 ∃t2,PSs X st t2∧∀B S H σ ρ Φ D',ER X.K B S H σ ρ->σ[i]?=some (some (.ref ea))->t Φ ρ->(∀H' σ' ρ',Φ (.nx ρ')->ER X.K B S H' σ' ρ'->D'.nx σ' H')->t2 D' σ H
theorem jgU:jgy X i ea [] jau:=⟨_,jh9,fun B S H σ ρ Φ D' er hs q k=>k H σ ρ q er⟩
abbrev jbG (j:Nat)(te:E3)(u:S3):S3:=fun Φ ρ=>te ρ fun d=>u Φ (ρ.set j (.val d))
theorem jap {ts:S3}(hij:j≠i)(hN:X.N.Nodup)(hj:X.N[j]?=some x)(hx:Loc X.env.scope x)(he:PDX X i ea e te)(hr:jgy X i ea jJ ts)(hs:swapsWith e (some (.Name x pos')) pos.line X.env=pure false:=by rfl)
  (hf:X.fn x=true∨X.env.scope.names.lookup x=some .local:=by first | exact .inl rfl | exact .inr rfl | assumption):jgy X i ea (.Assign [.Name x pos'] e pos::jJ) (jbG j te ts):=by
 obtain⟨t2,h,w⟩:=he
 obtain⟨u2,g,z⟩:=hr
 refine⟨_,jbX (jkT hN hj hx h hs hf) g,fun B S H σ ρ Φ D' er hv q k=>w B S H σ ρ _ _ er hv q fun d v H1 p s1 r1=>?_⟩
 exact z B S H1 _ _ Φ D' ((er.go s1).put r1) (by rw [List.getElem?_set_ne hij]; exact hv) p k
end
abbrev jxI (i:Nat)(Φ:F3->Prop):F3->Prop:=fun f=>match f with | .nx ρ=>ρ[i]?=some .un∧Φ (.nx ρ) | _=>False
section
variable {X:Cx}{k i:Nat}{f C D ea:Addr}{fd:FuncData}{ps:List Str}{Pre:List D3.D->Prop}{x y n:Str}{p pos pos' py hp hp0 tp pt:Pos}{e:Expr}{es cs:List Expr}{b₀:Stmt}{suite suite0:List Stmt}{ta:A3}{ts:S3}{Ds:List Addr}{cx:Nat}
theorem jwN {pins:List (Addr×Obj)}{s1 s':Shared}{σ:L2.St}{H1 H':Hp}{Bh:Heap}{a0:Value}{S:Addr->Prop}{B:Bs}{ρ:jN}{Ψ:F3->Prop}{D':jgs}(hst:X.stack=X.env::X.outer)(hfr:X.env.frame=some X.env.locals)
  (hgy:Gl X y) (hmy:X.mg y=some (.ref D)) (hcD:(PySem.W.clsIn X.K D).isSome=true) (htD:PySem.W.typeIn X.K (.ref D)=some (.type "type")) (hbD:PySem.W.mroIn X.K D (.type "BaseException")=some true) (hsD:PySem.W.mroIn X.K C (.ref D)=some true)
  (hN:X.N.Nodup) (hi:X.N[i]?=some n) (hkn:X.env.scope.names.lookup n=some .local) (hsu:∀ea oe,oe.cls=.ref C->jgy (jkI X ea oe) i ea (b₀::suite) ts)
  (I1:Inv X pins σ H1 s1) (hos:s'.os=s1.os) (hbr:AllBare s'.gens) (fly5:FlyB X.prog X.w X.stack H1 H' s1.heap s'.heap Bh ea C a0) (er:ER X.K B S H' σ ρ) (hu1:ρ[i]?=some .un) (hts:ts (jxI i Ψ) ρ)
  (kn:∀H2 σ2 ρ2,Ψ (.nx ρ2)->ER X.K B S H2 σ2 ρ2->D'.nx σ2 H2) (hdy:(y == ("__debug__":Str))=false:=by decide) :
  wpAny (model X.prog X.w) X.A (handleBy (.ref ea) X.env [.ExceptHandler (some (.Name y py)) (some n) (b₀::suite) hp]) (SP X pins D') X.xe s':=by
 have I5:Inv X pins σ H' s':=I1.call' hos fly5.un fly5.hk hbr (fun _ z=>by cases z)
 have nL:∀{hh:Heap} {oe:Obj} {vs:Array Value},hh.FunFrames Bh X.stack->hh.get? ea=some oe->oe.data=.fields vs->ea∉frs X.stack:=fun hf h1 h2 z=>by
  obtain⟨_,o,ho,hd⟩:=hf.mem z
  rw [h1] at ho; cases ho; exact hd _ h2
 refine wpAny_handleBy_cons (codeAny_handlers_test ?_) (by intro q; cases q)
 obtain⟨oe,vs6,he6,hcl6,hd6,_⟩:=fly5.fl.first
 have nf:=nL fly5.fl.2.2.1 he6 hd6
 have ne:ea≠X.env.locals:=fun z=>nf (by rw [hst]; unfold frs; rw [List.filterMap_cons,hfr,z]; exact List.mem_cons_self)
 have nfs:ea∉X.fs:=fun z=>nf (by rw [hst]; unfold frs; rw [List.filterMap_cons,hfr]; exact List.mem_cons_of_mem _ z)
 have I6:Inv (jkI X ea oe) pins σ H' s':=jvU I5 he6 fly5.he ne nfs (fun v z=>by rw [hd6] at z; cases z)
 refine jdY (X:=jkI X ea oe) I6 hgy hmy ?_ hdy
 obtain⟨_,g',d',t',o'⟩:=s'
 refine jvt I5.kIn hcD htD hbD hsD he6 hcl6 ?_
 refine codeAny_handlers_suite_as ?_
 refine lands_againW fly5.fl fun h₇ hfl₇ hsm₇=>?_
 have fly7:=fly5.go hfl₇ hsm₇
 have I7:Inv X pins σ H' ⟨h₇,g',d',t',o'⟩:=I1.call' (s':=⟨h₇,g',d',t',o'⟩) hos fly7.un fly7.hk hbr (fun _ z=>by cases z)
 obtain⟨oe7,vs7,he7,hcl7,hd7,_⟩:=fly7.fl.first
 have I8:Inv (jkI X ea oe7) pins σ H' ⟨h₇,g',d',t',o'⟩:=jvU I7 he7 fly7.he ne nfs (fun v z=>by rw [hd7] at z; cases z)
 obtain⟨u2,hu,wu⟩:=hsu ea oe7 hcl7
 refine jmH (X:=jkI X ea oe7) I8 hN hi (.inl hkn) (show RelV (.ref ea) (.ref ea) from rfl) (fun s9 I9=>?_) (.inr hkn)
 have hiσ:i<σ.length:=by rw [I1.len]; exact(List.getElem?_eq_some_iff.mp hi).1
 have er':ER X.K B S H' (σ.set i (some (.ref ea))) ρ:=er.any hu1
 refine wpAny_mono (hu pins s9 _ H' { nx:=fun σ2 H2=>∃ρ2,(ρ2[i]?=some .un∧Ψ (.nx ρ2))∧ER X.K B S H2 σ2 ρ2,bk:=fun _ _=>False,ct:=fun _ _=>False,rt:=fun _ _=>False } I9 (wu B S H' _ ρ _ _ er' (List.getElem?_set_self hiσ) hts fun H2 σ2 ρ2 p z=>⟨ρ2,p,z⟩)) (fun fl s10 q=>?_) fun _ _ z=>z.elim
 cases fl with
 | next =>
  obtain⟨σ2,H2,I10,ρ2,⟨hu2,hp2⟩,er2⟩:=q
  refine jwb (jBR I1.ok I10) hN hi hkn fun s11 I11=>?_
  exact⟨_,H2,I11,kn H2 _ ρ2 hp2 (er2.any hu2)⟩
 | brk=>obtain⟨_,_,_,z⟩:=q; exact z.elim
 | cont=>obtain⟨_,_,_,z⟩:=q; exact z.elim
 | ret u=>obtain⟨_,_,_,_,_,z⟩:=q; exact z.elim
end
section
variable {X:Cx}{pins:List (Addr×Obj)}{σ:L2.St}{H H':Hp}{s s':Shared}{e C:Addr}{B:Heap}{a0:Value}{Q:Unit->Shared->Prop}{E:Value->Shared->Prop}
theorem jmn (I:Inv X pins σ H s)(hst:X.stack=X.env::X.outer)(hfr:X.env.frame=some X.env.locals)(hex:X.ex=[])(f:FlyB X.prog X.w X.stack H H' s.heap s'.heap B e C a0)
  (hQ:∀h'',FlyB X.prog X.w X.outer X.H₀ H' X.s₀.heap h'' B e C a0->Q () { s' with heap:=h'' }):wpAny (model X.prog X.w) X.A (leaving X.env (.ref e)) Q E s':=by
 have hA:X.A.frames=some (X.env::X.outer):=by rw [I.ok.frames,hst]
 have nex:∀b:Addr,b∉X.ex:=fun b z=>by rw [hex] at z; cases z
 have ns:∀b o,X.s₀.heap.get? b=some o->b∉frs X.outer->b∉frs X.stack:=fun b o q n z=>by
  rw [hst] at z
  unfold frs at z
  rw [List.filterMap_cons,hfr] at z
  rcases List.mem_cons.mp z with z | z
  ·exact absurd (Nat.lt_of_lt_of_le (Heap.lt_size q) I.ok.above) (by rw [z]; exact Nat.lt_irrefl _)
  ·exact n z
 have sub:∀b,b∈frs X.outer->b∈frs X.stack:=fun b z=>by
  rw [hst]; unfold frs; rw [List.filterMap_cons,hfr]; exact List.mem_cons_of_mem _ z
 have fl0:=f.fl
 rw [hst] at fl0
 refine wpAny_leaves_onW hA hfr fl0 fun h'' x1 x2=>hQ h'' ⟨x1,f.hok,fun b o q n hb=>?_,fun b o q n hb=>?_,fun b o q n=>?_,fun b o q hb=>?_,fun b xs q=>f.tups b xs (I.base.tups b xs q),fun b o u q=>f.frzs b o u (I.base.frzs b o u q),fun b ps q=>?_,f.he⟩
 ·exact f.keep b o (I.base.keep b o q n hb (nex b)) (I.base.free b o q n (nex b)) (ns b o q hb)
 ·obtain⟨sl,e1⟩:=I.base.slot b o q n hb (nex b)
  obtain⟨sl',e2⟩:=f.slot b _ e1 (I.base.free b o q n (nex b)) (sub b hb)
  obtain⟨_,o',ho,hd⟩:=I.ok.funs.mem hb
  rw [q] at ho; cases ho
  obtain⟨sl'',e3⟩:=x2 b _ e2 hd
  exact⟨sl'',e3⟩
 ·obtain⟨o',e1⟩:=I.base.there b o q (nex b)
  exact f.free b o' e1 (I.base.free b o q n (nex b))
 ·obtain⟨o',e1⟩:=I.base.there b o q (nex b)
  exact f.there b o' e1 (ns b o q hb)
 ·obtain⟨m1,e1⟩:=I.base.tbls b ps q
  obtain⟨m2,e2⟩:=f.tbls b _ e1
  exact⟨m1++m2,by rw [e2,Array.append_assoc]⟩
end
def jlt (X:Cx)(R:Hp->Prop)(C:Addr):Prop:=∀(pins:List (Addr×Obj)) (σ:L2.St) (H H':Hp) (s s':Shared) (e:Addr) (B:Heap) (a0:Value),Inv X pins σ H s->s'.os=s.os->AllBare s'.gens->FlyB X.prog X.w X.stack H H' s.heap s'.heap B e C a0->R H'->X.xe (.ref e) s'
def PRE (X:Cx)(R:Hp->Prop)(e:Expr)(t:jN->Prop):Prop:=∃t2,PE X e t2∧∀B S H σ ρ Q,ER X.K B S H σ ρ->t ρ->(∀H1,Same B.H0 H1->R H1)->t2 σ H Q
section
variable {X:Cx}{R:Hp->Prop}{C f:Addr}{k:Nat}{fd:FuncData}{ps:List Str}{Pre:List D3.D->Prop}{x:Str}{e a:Expr}{es:List Expr}{p pos pos':Pos}{ta:A3}{t:jN->Prop}
theorem jfY (hP:jlt X R C)(F:FnOk X.prog X.w X.K X.mg X.base (CXC X.prog X.w) k f fd ps (spR X.K ps.length C Pre))(hr:Room k X.A)(hg:Gl X x)(hm:X.mg x=some (.ref f))(hk:PySem.W.keepIn X.K (.ref f)=true)(hb:Binds X.K fd ps [])
  (ha:PAD X (a::es) ta) (hdb:(x == ("__debug__":Str))=false:=by decide) (he:starEach (a::es) X.env=(false,eval a X.env)::starEach es X.env:=by rfl) (hpl:(backTo pos (starEach es X.env)).any (·.1)=false:=by rfl) :
  PRE X R (.Call (.Name x p) (a::es) [] pos) (fun ρ=>ta ρ fun ds=>ds.length=ps.length∧Pre ds):=by
 obtain⟨t2,h,w⟩:=ha
 refine⟨fun σ H Q=>t2 σ H fun vs H1=>∃ds S,ds.length=ps.length∧Reps X.K S H1 ds vs∧SOk S H1∧Pre ds∧∀H',Same H1 H'->R H',?_,?_⟩
 ·intro pins s σ H Q I hh
  refine wpAny_Call_Name_kw (jdY I hg hm ?_ hdb)
  refine PySem.W.callWith_K (h₀:=X.base) I.ok.mod.kin hk (jQ (h pos pins s σ H _ I hh) fun us s1 ⟨vs,H1,I1,r,ds,S,hl,rr,so,hpre,hR⟩=>⟨I1.kIn,?_⟩) he hpl
  have hl2:us.length=ps.length:=by rw [←r.length,←rr.len]; exact hl
  refine wpAny_call (codeAny_mono (F.run X.A X.stack s1 H1 ⟨us,[]⟩ us vs (fun _ _=>False) (fun c _ H'=>c=.ref C∧R H') hr I1.env0 ?_ r ⟨ds,S,hl,rr,so,hpre,fun H' s=>⟨rfl,hR H' s⟩⟩) fun res s' hq=>?_)
  ·have z:=hb s1 us I1.kIn (by rw [List.append_nil]; exact hl2)
   rw [List.append_nil] at z; exact z
  cases res with
  | ok fl =>
   cases fl with
   | ret u=>obtain⟨_,_,_,_,_,_,_,z⟩:=hq; exact z.elim
   | next=>exact False.elim hq
   | brk=>exact False.elim hq
   | cont=>exact False.elim hq
  | error ev =>
   obtain⟨ea,C',H',Bh,a0,rfl,hos,hbr,fly,hc,hr'⟩:=hq
   cases hc
   exact hP pins σ H1 H' s1 s' ea Bh a0 I1 hos hbr fly hr'
 ·intro B S H σ ρ Q er q r
  exact w B S H σ ρ _ _ er q fun ds vs H1 p1 s1 r1=>⟨ds,S,p1.1,r1,er.ok.same s1,p1.2,fun H' s2=>r H' (er.same.trans (s1.trans s2))⟩
theorem jy7 (h:PRE X R e t):PRD X R (.Return (some e) pos) t:=by
 obtain⟨t2,h,w⟩:=h
 exact⟨_,jnY h,fun B S H σ ρ D' er q r=>w B S H σ ρ _ er q r⟩
end
section
variable {P:Program}{w:World}{K:PySem.W.Frag}{mg:Str->Option Value}{base:Heap}
theorem jAF {x qual:Str}{st:Stmt}{f:Addr}{fd:FuncData}{N ps:List Str}{k:Nat}{C:Addr}{Pre:List D->Prop}(F:Fun K x qual st f fd)(S:jx N ps (ji st))
  (body:∀(cdv:Value) (A:Around) (outer:List Env) (s:Shared) (H:Hp) (E:XK),Room k (A.deeper (envOfC qual (ji st) s.heap.objs.size f cdv)) ->
   (∀pins σ H1 s1 e h' vs,Inv (jbU (CXC P w) P w K mg base N qual (ji st) f cdv A outer s H E) pins σ H1 s1->E (.ref C) none H1->Heap.MadeExcOf s1.heap h' e (.ref C) vs->(jbU (CXC P w) P w K mg base N qual (ji st) f cdv A outer s H E).xe (.ref e) { s1 with heap:=h' }) ->
   jlt (jbU (CXC P w) P w K mg base N qual (ji st) f cdv A outer s H E) (fun H1=>E (.ref C) none H1) C ->
   ∃t,jkf (jbU (CXC P w) P w K mg base N qual (ji st) f cdv A outer s H E) (fun H1=>E (.ref C) none H1) (jan st) t∧∀ds,ds.length=ps.length->Pre ds->t (jz N.length ds)) :
  FnOk P w K mg base (CXC P w) (k+1) f fd ps (spR K ps.length C Pre) :=
 jnC F S fun cdv A outer s H E hr hR=>body cdv A outer s H E hr hR fun pins σ H1 H' s1 s' e B a0 I hos hbr fly hE =>
  jmn I rfl rfl rfl fly fun h'' fly'=>⟨e,C,H',B,a0,rfl,hos.trans I.os,hbr,fly',hE⟩
end
@[elab_as_elim] theorem len_0 {α:Type} {P:List α->Prop}:∀us:List α,us.length=0->P []->P us
 | [],_,h=>h
@[elab_as_elim] theorem len_1 {α:Type} {P:List α->Prop}:∀us:List α,us.length=1->(∀a,P [a])->P us
 | [a],_,h=>h a
@[elab_as_elim] theorem len_2 {α:Type} {P:List α->Prop}:∀us:List α,us.length=2->(∀a b,P [a,b])->P us
 | [a,b],_,h=>h a b
@[elab_as_elim] theorem len_3 {α:Type} {P:List α->Prop}:∀us:List α,us.length=3->(∀a b c,P [a,b,c])->P us
 | [a,b,c],_,h=>h a b c
@[elab_as_elim] theorem len_4 {α:Type} {P:List α->Prop}:∀us:List α,us.length=4->(∀a b c d,P [a,b,c,d])->P us
 | [a,b,c,d],_,h=>h a b c d
@[elab_as_elim] theorem len_5 {α:Type} {P:List α->Prop}:∀us:List α,us.length=5->(∀a b c d e,P [a,b,c,d,e])->P us
 | [a,b,c,d,e],_,h=>h a b c d e
section
open PySem.W
def jB6 {α:Type}(n:Nat)(P:α->Prop):KasT α->Prop
 | .ret a=>P a
 | .ask i j k=>i<n∧j<n∧∀b,jB6 n P (k b)
def PR (n:Nat)(p:Array Nat):Prop:=p.Perm (List.toArray (List.range n))
end
section
open PySem.SeqAt
open PySem.AutoSeq1 (wpAny_loadPart')
open PySem.MeetsSeq PySem.MeetsSeq2 PySem.MeetsSeq3
inductive Ord:Nat->D->Prop where
 | int (i:Int):Ord 0 (.int i)
 | tup {n:Nat} {ds:List D} (h:∀d∈ds,Ord n d):Ord (n+1) (.tup ds)
end
section
open PySem.W
variable {X:Cx}{pins:List (Addr×Obj)}{σ:L2.St}{H:Hp}{s:Shared}{S:Addr->Prop}
end
section
open PySem.SeqAt
open PySem.AutoSeq1 (wpAny_loadPart')
open PySem.MeetsSeq PySem.MeetsSeq2 PySem.MeetsSeq3
open HT
variable {X:Cx}
end
section
variable {X:Cx}{pins:List (Addr×Obj)}{σ:L2.St}{H:Hp}{s:Shared}{S:Addr->Prop}
def unV:Value->Option V
 | .none=>some .non
 | .bool b=>some (.bl b)
 | .int i _=>some (.int i)
 | .str x _=>some (.str x)
 | .bytes b _=>some (.byt b)
 | .float b _=>some (.flt b)
 | .ref a=>some (.ref a)
 | .type n=>some (.ty n)
 | _=>none
theorem jti {v:V}{u:Value}(h:RelV v u):unV u=some v:=by
 cases v <;> simp only [L2.RelV] at h <;> first | (subst h; rfl) | (obtain⟨t,rfl⟩:=h; rfl)
theorem jwO {v v':V}{u:Value}(h:RelV v u)(h':RelV v' u):v=v':=Option.some.inj ((jti h).symm.trans (jti h'))
def eqW (K:PySem.W.Frag)(S:Addr->Prop)(H:Hp)(x:D)(u:Value):Bool :=
 open Classical in if h:∃d v,Rep K S H d v∧RelV v u then jF (choose h) x else false
theorem jrr (I:Inv X pins σ H s){d x:D}{v:V}{u:Value}(r:Rep X.K S H d v)(ru:RelV v u):eqW X.K S H x u=jF d x:=by
 have h:∃d v,Rep X.K S H d v∧RelV v u:=⟨d,v,r,ru⟩
 unfold eqW
 rw [dif_pos h]
 obtain⟨v',r',ru'⟩:=Classical.choose_spec h
 cases jwO ru ru'
 rw [jlz I _ _ _ r r']
theorem jof (I:Inv X pins σ H s){x:D}{vx:V}{ux:Value}{A:Around}(hu:A.units+100<cLine)(rx:Rep X.K S H x vx)(rux:RelV vx ux):∀{ds:List D} {xs:List V} {us:List Value},(∀d∈ds,dep d≤90)->Reps X.K S H ds xs->Vals xs us->∀u∈us,SeqAt.EqAt A.in1 s u ux (eqW X.K S H x u)
 | [],xs,us,_,r,v,u,hu'=>by
  simp only [Reps] at r; subst r; cases v; cases hu'
 | d::ds,xs,us,hd,r,v,u,hu'=>by
  simp only [Reps] at r
  obtain⟨y,ys,rfl,ry,r⟩:=r
  cases v with
  | cons h v =>
   rcases List.mem_cons.mp hu' with rfl | hu'
   ·rw [jrr I ry h]
    exact jrV I 90 d x y vx _ ux A.in1 (hd d List.mem_cons_self) (by show A.units+1+90<cLine; omega) ry rx h rux
   ·exact jof I hu rx rux (fun d h=>hd d (List.mem_cons_of_mem _ h)) r v u hu'
end
section
variable {K:PySem.W.Frag}{B:Bs}{S:Addr->Prop}{H:Hp}{σ:L2.St}{ρ:jN}
theorem ER.hide {F:Addr->Prop}{H2:Hp}(er:ER K B S H σ ρ)(s:Same H H2)(hF:∀b,F b->H b=none∧∃o,H2 b=some o):ER K B (fun b=>S b∨F b) H2 σ ρ:=by
 have hT:=jf4 (K:=K) s
 have hL:∀b xs,LR K S H b xs->LR K (fun b=>S b∨F b) H2 b xs:=fun b xs q=>by
  rcases q with⟨n,q⟩ | q
  ·have nF:¬F b:=fun z=>by
    have:=(hF b z).1
    rcases q with q | ⟨o,q⟩ <;> (rw [this] at q; cases q)
   refine .inl ⟨fun z=>z.elim n nF,?_⟩
   rcases q with q | ⟨o,q⟩
   ·exact .inl (s _ _ q)
   ·exact .inr ⟨o,s _ _ q⟩
  ·exact .inr q
 have mv:∀{c:D} {w:V},Rep K S H c w->Rep K (fun b=>S b∨F b) H2 c w:=fun {c w} q=>Rep.map hT hL c w q
 have mvs:∀{c:List D} {w:List V},Reps K S H c w->Reps K (fun b=>S b∨F b) H2 c w:=fun {c w} q=>Reps.map hT hL c w q
 exact {
  len:=er.len
  same:=er.same.trans s
  sub:=fun b h=>.inl (er.sub b h)
  ok0:=er.ok0
  ok:=fun b h=>h.elim (fun h=>let ⟨o,e⟩:=er.ok b h; ⟨o,s _ _ e⟩) fun h=>(hF b h).2
  val:=fun j c q=>let ⟨w,e,r⟩:=er.val j c q; ⟨w,e,mv r⟩
  own:=fun j c q=>let ⟨a,xs,e,h1,h2,h3,r⟩:=er.own j c q; ⟨a,xs,e,.inl h1,h2,s _ _ h3,mvs r⟩
  dct:=fun j ks ds q=>let ⟨b,e,hs,hz,r'⟩:=er.dct j ks ds q; ⟨b,e,.inl hs,hz,r'.map mvs (let ⟨o,ho,_⟩:=r'.isO; (s _ _ ho).trans ho.symm)⟩
  dq:=er.dq
  rf:=er.rf
  rwx:=er.rwx
  uq:=er.uq
  gh:=fun p hp=>mv (er.gh p hp) }
structure In2 (B:Bs)(S:Addr->Prop)(H:Hp)(a:Addr)(bs:List Addr)(rows:List (List Int)):Prop where
 sa:S a
 a0:B.H0 a=none
 ha:H a=some (.lst (bs.map V.ref))
 na:a∉bs
 nd:bs.Nodup
 len:bs.length=rows.length
 inn:∀(m:Nat) b ns,bs[m]?=some b->rows[m]?=some ns->S b∧B.H0 b=none∧H b=some (.lst (ns.map V.int))
structure jCQ (B:Bs)(S:Addr->Prop)(H:Hp)(σ:L2.St)(ρ:jN)(i:Nat)(rows:List (List Int)):Prop where
 un:ρ[i]?=some .un
 no:∀(j:Nat) ds,ρ[j]?≠some (.own ds)
 at':∃a bs,σ[i]?=some (some (.ref a))∧In2 B S H a bs rows
end
abbrev S3o:=(F3->Prop)->jN->List (List Int)->Prop
abbrev K3o:=jN->List (List Int)->Prop
abbrev U3o:=K3o->jN->List (List Int)->Prop
mutual
def NoL:D->Prop
 | .lst _=>False
 | .tup ds=>ja4 ds
 | _=>True
def ja4:List D->Prop
 | []=>True
 | d::ds=>NoL d∧ja4 ds
end
section
variable {K:PySem.W.Frag}{S S':Addr->Prop}{H:Hp}
mutual
theorem Rep.noL:∀(d:D) (v:V),NoL d->Rep K S H d v->Rep K S' H d v
 | .non,v,_,h=>by simpa only [Rep] using h
 | .bl b,v,_,h=>by simpa only [Rep] using h
 | .int i,v,_,h=>by simpa only [Rep] using h
 | .str x,v,_,h=>by simpa only [Rep] using h
 | .tup ds,v,n,h=>by
  simp only [Rep] at h ⊢
  obtain⟨a,xs,e,q,r⟩:=h
  exact⟨a,xs,e,q,Reps.noL ds xs (by simpa only [NoL] using n) r⟩
 | .lst ds,v,n,h=>by simp only [NoL] at n
theorem Reps.noL:∀(ds:List D) (vs:List V),ja4 ds->Reps K S H ds vs->Reps K S' H ds vs
 | [],vs,_,h=>by simpa only [Reps] using h
 | d::ds,vs,n,h=>by
  simp only [ja4] at n
  simp only [Reps] at h ⊢
  obtain⟨x,r,e,q,t⟩:=h
  exact⟨x,r,e,Rep.noL d x n.1 q,Reps.noL ds r n.2 t⟩
end
theorem jtJ:∀{ds:List D},(∀d∈ds,NoL d)->ja4 ds
 | [],_=>by simp only [ja4]
 | d::ds,h=>by simp only [ja4]; exact⟨h d List.mem_cons_self,jtJ fun e he=>h e (List.mem_cons_of_mem _ he)⟩
end
abbrev frz (i:Nat)(ρ:jN):jN:=match ρ[i]? with | some (.own ds)=>ρ.set i (.val (.lst ds)) | _=>ρ
def del (H:Hp)(p:Addr):Hp:=fun b=>if b=p then none else H b
end D3
set_option Elab.async false
set_option linter.all false
set_option maxRecDepth 100000
set_option maxHeartbeats 4000000
namespace PySem
open Sem (wp)
end PySem
namespace D3
open PySem PySem.Spec PyProof.Rows L2
section
open PySem.SeqAt
open PySem.AutoSeq1 (wpAny_loadPart')
open PySem.MeetsSeq PySem.MeetsSeq2 PySem.MeetsSeq3
def RcX (op:CmpOp)(A:Around)(s:Shared)(y x:Value)(c:Bool):Prop:=∀(prog:Program) (w:World) (E:Value->Shared->Prop) (Q:Value->Shared->Prop),Q (.bool c) s->wpAny (model prog w) A (richCompare op y x) Q E s
inductive jqY (op:CmpOp)(A:Around)(s:Shared)(g:Nat->Nat->Bool):List Value->List Value->Bool->Prop where
 | nil {ws:List Value}:jqY op A s g [] ws (g 0 ws.length)
 | nil' {vs:List Value}:jqY op A s g vs [] (g vs.length 0)
 | eq {v w:Value} {vs ws:List Value} {c:Bool}:EqAt A s v w true->jqY op A s g vs ws c->jqY op A s g (v::vs) (w::ws) c
 | ne {v w:Value} {vs ws:List Value} {c:Bool}:EqAt A s v w false->RcX op A s v w c->jqY op A s g (v::vs) (w::ws) c
end
section
open PySem.W
variable {X:Cx}{pins:List (Addr×Obj)}{σ:L2.St}{H:Hp}{s:Shared}{S:Addr->Prop}
end
end D3
set_option Elab.async false
set_option linter.all false
set_option maxRecDepth 100000
set_option maxHeartbeats 4000000
namespace D3
open PySem PySem.Spec PyProof.Rows
section
variable {prog:Program}{w:World}{K:Type}[DecidableEq K](k1:HeapKind prog w K)
inductive jru (h:Heap):List K->List Value->Prop
 | nil:jru h [] []
 | cons {k:K} {b:Addr} {ks:List K} {vs:List Value}:k1.is h k b->jru h ks vs->jru h (k::ks) (.ref b::vs)
def jCG (h:Heap)(ks:List K)(a:Addr):Prop:=∃o items n,h.get? a=some o∧o.cls=.type "tuple"∧o.data=.seq items n∧jru k1 h ks items.toList
variable {k1}
variable {A:Around}{E:Value->Shared->Prop}{s:Shared}
end
def DE (h:Heap)(d:Addr)(es:Array DictEntry)(ep:Nat):Prop:=∃o,h.get? d=some o∧o.ExactDict∧o.data=.dict es ep
section
open PySem.W
end
end D3
set_option Elab.async false
set_option linter.all false
set_option maxRecDepth 100000
set_option maxHeartbeats 4000000
namespace D3
open PySem PySem.Spec PyProof.Rows L2
def z3:List (List (List Int))->List Addr->List Value->List (List (List Int)×Addr×Value)
 | k::ks,b::bs,u::us=>(k,b,u)::z3 ks bs us
 | _,_,_=>[]
section
variable {X:Cx}{pins:List (Addr×Obj)}{σ:L2.St}{H:Hp}{s:Shared}{S:Addr->Prop}
theorem jqR {P:Program}{w:World}:∀{ns:List Int} {us:List Value},Vals (ns.map V.int) us->ItemsAre (intKind P w) ns us
 | [],us,h=>by cases h; exact .nil
 | n::ns,us,h=>by
  cases h with
  | cons h t =>
   obtain⟨tk,rfl⟩:=h
   exact .cons (by show Value.isInt n (.int n tk)=true; simp [Value.isInt]) (jqR t)
theorem is1 (I:Inv X pins σ H s){ns:List Int}{v:V}{u:Value}(r:Rep X.K S H (.tup (ns.map .int)) v)(ru:RelV v u):∃b,u=.ref b∧(tupleKind (intKind X.prog X.w)).is s.heap ns b:=by
 obtain⟨b,xs,rfl,q,rs⟩:=jad r
 cases rs.intsV
 cases (show u=Value.ref b from ru)
 obtain⟨its,rv,⟨o,ho,hc,n,hd⟩,_⟩:=I.tuple q
 exact⟨b,rfl,o,its.toArray,n,ho,hc,hd,by rw [List.toList_toArray]; exact jqR rv⟩
theorem its2 (I:Inv X pins σ H s):∀{kk:List (List Int)} {xs:List V} {us:List Value},Reps X.K S H (kk.map fun ns=>.tup (ns.map .int)) xs->Vals xs us->jru (tupleKind (intKind X.prog X.w)) s.heap kk us
 | [],xs,us,r,v=>by
  simp only [List.map_nil,Reps] at r
  subst r; cases v; exact .nil
 | ns::kk,xs,us,r,v=>by
  simp only [List.map_cons,Reps] at r
  obtain⟨x,xs,rfl,rx,r⟩:=r
  cases v with
  | cons h v =>
   obtain⟨b,rfl,hb⟩:=is1 I rx h
   exact .cons hb (its2 I r v)
end
section
open PySem.W
variable {X:Cx}{pins:List (Addr×Obj)}{σ:L2.St}{H:Hp}{s:Shared}{S:Addr->Prop}
end
section
open PySem.SeqAt
open PySem.AutoSeq1 (wpAny_loadPart')
open PySem.MeetsSeq PySem.MeetsSeq2 PySem.MeetsSeq3
end
section
open PySem.W
end
section
variable {X:Cx}{a b o e:Expr}{es:List Expr}{ta tb to te:E3}{pos apos cpos:Pos}{x:Str}{p:Pos}
abbrev jcf:R3
 | .str i,.str j,Φ=>i.length+j.length≤sizeLine∧Φ (.str (i++j))
 | _,_,_=>False
theorem jbT:OpD X (binaryOp .Add) jcf:=⟨_,jus,fun S H x y u v Φ Q so rx ry hr hd=>by
 match x,y,hr with
 | .str i,.str j,hr =>
  simp only [Rep] at rx ry
  subst rx; subst ry
  exact⟨i,j,rfl,rfl,hr.1,hd _ _ H hr.2 (Same.refl _) Rep.str⟩⟩
def inT (i j:Str):Bool:=!(Builtin.Str.occurrences j i 0 j.length 1).isEmpty
abbrev jwo:R3
 | .str i,.str j,Φ=>Φ (.bl (inT i j))
 | _,_,_=>False
theorem jBt:OpD X (compareOp .In) jwo:=⟨_,jvh,fun S H x y u v Φ Q so rx ry hr hd=>by
 match x,y,hr with
 | .str i,.str j,hr =>
  simp only [Rep] at rx ry
  subst rx; subst ry
  exact⟨i,j,rfl,rfl,hd _ _ H hr (Same.refl _) Rep.bl⟩⟩
abbrev jo7:jV
 | [.int i],Φ=>i.natAbs.log2<1920∧Φ (.str (toString i))
 | _,_=>False
theorem jqC:jeR X (.type "str") jo7:=⟨_,jqQ,fun S H ds vs Φ Q so r h hd=>by
 match ds,h with
 | [.int i],h =>
  simp only [Reps,Rep] at r
  obtain⟨v,_,rfl,rfl,rfl⟩:=r
  exact⟨i,rfl,h.1,hd _ _ H h.2 (Same.refl _) Rep.str⟩⟩
abbrev jtO:jV
 | [.str z],Φ=>z.length≤sizeLine∧Φ (.int z.length)
 | _,_=>False
theorem jvP:jeR X (.builtin "len") jtO:=⟨_,jsn,fun S H ds vs Φ Q so r h hd=>by
 match ds,h with
 | [.str z],h =>
  simp only [Reps,Rep] at r
  obtain⟨v,_,rfl,rfl,rfl⟩:=r
  exact⟨z,rfl,h.1,hd _ _ H h.2 (Same.refl _) Rep.int⟩⟩
abbrev jA7:R3
 | .str z,.int i,Φ=>z.length≤sizeLine∧onS (atI z.cps.toList i) fun c=>Φ (.str ⟨#[c]⟩)
 | _,_,_=>False
theorem jzY (ha:PD X a ta)(hb:PD X b tb)(hs:joi b):PD X (.Subscript a b pos) (jg jA7 ta tb):=by
 obtain⟨ta2,ha,wa⟩:=ha; obtain⟨tb2,hb,wb⟩:=hb
 refine⟨_,jya jAn ha hb hs,two wa wb fun S H x y u v Φ Q so rx ry hr hd=>?_⟩
 match x,y,hr with
 | .str z,.int i,hr =>
  simp only [Rep] at rx ry
  subst rx; subst ry
  obtain⟨c,ec,hc⟩:=jrZ hr.2
  exact⟨z,i,c,rfl,rfl,hr.1,ec,hd _ _ H hc (Same.refl _) Rep.str⟩
def MtD (X:Cx)(id:String)(r3:R3):Prop:=∃r,MtR X id r∧∀S H x y u v Φ Q,SOk S H->Rep X.K S H x u->Rep X.K S H y v->r3 x y Φ->Hand X.K S H Φ Q->r u [v] H Q
abbrev dMt (r:R3)(to te:E3):E3:=fun ρ Φ=>to ρ fun x=>match x with | .str z=>te ρ fun y=>r (.str z) y Φ | _=>False
theorem jj8 {name:Str}{id:String}{r:R3}(slot:Slot "str" name id)(hty:typeOf (.builtin id)=pure (.type "method_descriptor"))(hm:MtD X id r)(ho:PD X o to)(he:PD X e te)
  (hbase:attributeBase o name X.env (eval o X.env)=eval o X.env:=by rfl)
  (hfew:((backTo cpos (starEach [e] X.env)).all (fun x=>!x.1)&&(backToKw cpos (keywordEach [] X.env)).all (fun x=>x.1.isSome)
  &&decide (([e]:List Expr).length+([]:List Keyword).length+(if ([]:List Keyword).isEmpty then 0 else 1)<30))=true:=by rfl)
  (hline:(apos.endLine == cpos.line)=true:=by rfl) (hs:starEach [e] X.env=(false,eval e X.env)::starEach [] X.env:=by rfl) :
  PD X (.Call (.Attribute o name apos) [e] [] cpos) (dMt r to te):=by
 obtain⟨r2,hm,wr⟩:=hm; obtain⟨t1,ho,w1⟩:=ho; obtain⟨t2,he,w2⟩:=he
 refine⟨_,juC PySem.F.plainAttrs_str slot hty hm ho (jaZ he jca hs) hbase hfew hline hs rfl,fun B S H σ ρ Φ Q er q hd=>w1 B S H σ ρ _ _ er q fun d v H1 p1 s1 r1=>?_⟩
 match d,p1,r1 with
 | .str z,p1,r1 =>
  simp only [Rep] at r1
  subst r1
  exact⟨rfl,w2 B S H1 σ ρ _ _ (er.go s1) p1 fun y u H2 p2 s2 r2'=>wr S H2 _ _ _ _ Φ Q ((er.ok.same s1).same s2) Rep.str r2' p2 (hd.go (s1.trans s2))⟩
abbrev joB:R3
 | .str i,.str j,Φ=>Φ (.bl (Txt.startswith i j))
 | _,_,_=>False
theorem jqP:MtD X "str.startswith" joB:=by
 refine⟨fun x xs H Q=>∃i j,x=.str i∧xs=[.str j]∧Q (.bl (Txt.startswith i j)) H,fun pins s σ H x xs v us Q I rx rv h=>?_,fun S H x y u v Φ Q so rx ry hr hd=>?_⟩
 ·obtain⟨i,j,rfl,rfl,q⟩:=h
  obtain⟨t,rfl⟩:=rx
  obtain⟨u,rfl,ru⟩:=rv.one
  obtain⟨t',rfl⟩:=ru
  exact SC.startswith ⟨.bl _,H,I,rfl,q⟩
 ·match x,y,hr with
  | .str i,.str j,hr =>
   simp only [Rep] at rx ry
   subst rx; subst ry
   exact⟨i,j,rfl,rfl,hd _ _ H hr (Same.refl _) Rep.bl⟩
theorem jpD {K:PySem.W.Frag}{S:Addr->Prop}{H:Hp}:∀{ys:List Str} {vs:List V},Reps K S H (ys.map .str) vs->vs=ys.map V.str
 | [],vs,h=>by simpa only [List.map_nil,Reps] using h
 | y::ys,vs,h=>by
  simp only [List.map_cons,Reps,Rep] at h
  obtain⟨x,r,rfl,rfl,h⟩:=h
  rw [jpD h]; rfl
theorem jmd {K:PySem.W.Frag}{S:Addr->Prop}{H:Hp}:∀(ys:List Str),Reps K S H (ys.map .str) (ys.map V.str)
 | []=>Reps.nil
 | y::ys=>Reps.cons Rep.str (jmd ys)
theorem jkS:∀{ys:List Str} {us:List Value},Vals (ys.map V.str) us->StrsAre us ys
 | [],us,h=>by cases h; exact .nil
 | y::ys,us,h=>by
  cases h with
  | cons r h =>
   obtain⟨t,rfl⟩:=r
   exact .cons y t (jkS h)
theorem jpQ:∀(l:List (Str×Tok)),Vals ((l.map (·.1)).map V.str) (strValues l)
 | []=>.nil
 | p::l=>.cons ⟨p.2,rfl⟩ (jpQ l)
abbrev jqD:R3
 | .str i,.lst ds,Φ=>∃ys:List Str,ds=ys.map .str∧(ys.map (·.length)).sum+ys.length * i.length≤16777216∧Φ (.str (Txt.join i ys))
 | _,_,_=>False
theorem jrC:MtD X "str.join" jqD:=by
 refine⟨fun x xs H Q=>∃i p ys,x=.str i∧xs=[.ref p]∧SqL X.K H p (ys.map V.str)∧(ys.map (·.length)).sum+ys.length * i.length≤16777216∧Q (.str (Txt.join i ys)) H,fun pins s σ H x xs v us Q I rx rv h=>?_,fun S H x y u v Φ Q so rx ry hr hd=>?_⟩
 ·obtain⟨i,p,ys,rfl,rfl,hq,hz,q⟩:=h
  obtain⟨t,rfl⟩:=rx
  obtain⟨u,rfl,ru⟩:=rv.one
  cases ru
  obtain⟨its,vi,pl,_⟩:=I.list hq
  exact join_list pl.isList (jkS vi) hz fun t' k=>⟨.str _,H,I.tok _,⟨_,rfl⟩,q⟩
 ·match x,y,hr with
  | .str i,.lst ds,hr =>
   simp only [Rep] at rx
   subst rx
   obtain⟨ys,rfl,hz,hΦ⟩:=hr
   obtain⟨p,xs,rfl,lr,rs⟩:=j3 ry
   cases jpD rs
   exact⟨i,p,ys,rfl,rfl,lr.sq,hz,hd _ _ H hΦ (Same.refl _) Rep.str⟩
open PySem.Builtin PySem.Builtin.Str in
theorem jA3 {prog:Program}{w:World}{A:Around}{E:Value->Shared->Prop}{s:Shared}{x y:Str}{t u:Tok}{Q:Value->Shared->Prop}(hy:(y.length == 0)=false)
  (h:∀(l:List (Str×Tok)) (k:Nat),l.map (·.1)=Txt.split x y->Q (.ref s.heap.objs.size) { s with heap:=s.heap.push { cls:=.type "list",data:=.seq (strValues l).toArray },toks:=k })
  (hsz:x.length+2≤sizeLine):wpAny (model prog w) A (call (.builtin "str.split") [.str x t,.str y u]) Q E s:=by
 have hn:(partsBetween x (occurrences x y 0 x.length (x.length+1)) y.length).length≤sizeLine:=by
  have e1:=StrLaws.occ_length_le x y 0 x.length (x.length+1)
  rw [length_partsBetween]; omega
 cases h1:(decide (x.length<y.length)||decide (strKind x<strKind y)) with
 | true=>exact call_meets F.slot_str_split (typeIs_str _ _ _) F.entry_str_split (F.args_str_split_2 _ _) (meets_str_split_cannot_occur x y t u h1) (h [(x,t)] s.toks (if_pos h1).symm)
 | false =>
  cases hf:(occurrences x y 0 x.length (x.length+1)).isEmpty with
  | true=>exact call_meets F.slot_str_split (typeIs_str _ _ _) F.entry_str_split (F.args_str_split_2 _ _) (meets_str_split_not_found x y t u h1 hy hf) (h [(x,t)] s.toks ((if_neg (ne_true_of_eq_false h1)).trans (if_pos hf)).symm)
  | false =>
   refine call_meets F.slot_str_split (typeIs_str _ _ _) F.entry_str_split (F.args_str_split_2 _ _) (meets_str_split_sep x y t u h1 hy hf (by omega) hn) ?_
   have:=h (numbered s.toks (partsBetween x (occurrences x y 0 x.length (x.length+1)) y.length)) (s.toks+(partsBetween x (occurrences x y 0 x.length (x.length+1)) y.length).length) ((numbered_texts _ _).trans ((if_neg (ne_true_of_eq_false h1)).trans (if_neg (ne_true_of_eq_false hf))).symm)
   rw [←strsFrom_eq] at this
   exact this
abbrev jj3 (to te:E3):A3:=fun ρ Φ=>to ρ fun x=>match x with
 | .str z=>te ρ fun y=>match y with | .str c=>z.length+2≤sizeLine∧(c.length == 0)=false∧Φ ((Txt.split z c).map .str) | _=>False
 | _=>False
theorem jxs:MtR X "str.split" (fun x xs H Q=>∃i j,x=.str i∧xs=[.str j]∧i.length+2≤sizeLine∧(j.length == 0)=false∧∀l,H l=none->Q (.ref l) (j1 H l (.lst ((Txt.split i j).map V.str)))):=by
 intro pins s σ H x xs v us Q I rx rv h
 obtain⟨i,j,rfl,rfl,hz,hj,q⟩:=h
 obtain⟨t,rfl⟩:=rx
 obtain⟨u,rfl,ru⟩:=rv.one
 obtain⟨t',rfl⟩:=ru
 refine jA3 hj (fun l k el=>?_) hz
 have kp:∀b o,s.heap.get? b=some o->(s.heap.push { cls:=.type "list",data:=.seq (strValues l).toArray }).get? b=some o:=fun b o e=>Heap.get?_push_of_some _ e
 have wl:((Txt.split i j).map V.str).length≤sizeLine:=by
  rw [List.length_map]
  have:=split_weight i j (by cases e:j.length with | zero=>rw [e] at hj; cases hj | succ n=>omega)
  omega
 have vv:=jpQ l
 rw [el] at vv
 exact⟨.ref s.heap.objs.size,_,I.laid (t':=k) kp (Nat.le_refl _) (show ObjOk X.prog X.w _ _ _ (.lst ((Txt.split i j).map V.str)) from⟨wl,strValues l,0,vv,Heap.get?_push_size _ rfl⟩),rfl,q _ (I.hok.fresh (Nat.le_refl _))⟩
theorem ji7 (ho:PD X o to)(he:PD X e te)
  (hbase:attributeBase o "split" X.env (eval o X.env)=eval o X.env:=by rfl)
  (hfew:((backTo cpos (starEach [e] X.env)).all (fun x=>!x.1)&&(backToKw cpos (keywordEach [] X.env)).all (fun x=>x.1.isSome)
  &&decide (([e]:List Expr).length+([]:List Keyword).length+(if ([]:List Keyword).isEmpty then 0 else 1)<30))=true:=by rfl)
  (hline:(apos.endLine == cpos.line)=true:=by rfl) (hs:starEach [e] X.env=(false,eval e X.env)::starEach [] X.env:=by rfl) :
  PF X (.Call (.Attribute o "split" apos) [e] [] cpos) (jj3 to te):=by
 obtain⟨t1,ho,w1⟩:=ho; obtain⟨t2,he,w2⟩:=he
 refine⟨_,juC PySem.F.plainAttrs_str PySem.F.slot_str_split PySem.F.type_str_split jxs ho (jaZ he jca hs) hbase hfew hline hs rfl,fun B S H σ ρ Φ Q er q hd=>w1 B S H σ ρ _ _ er q fun d v H1 p1 s1 r1=>?_⟩
 match d,p1,r1 with
 | .str z,p1,r1 =>
  simp only [Rep] at r1
  subst r1
  refine⟨rfl,w2 B S H1 σ ρ _ _ (er.go s1) p1 fun y u H2 p2 s2 r2'=>?_⟩
  match y,p2,r2' with
  | .str c,p2,r2' =>
   simp only [Rep] at r2'
   subst r2'
   exact⟨z,c,rfl,rfl,p2.1,p2.2.1,fun l hl=>hd _ _ l H2 p2.2.2 (s1.trans s2) hl (jmd _)⟩
end
section
variable {X:Cx}{a b o e:Expr}{es:List Expr}{ta tb to te:E3}{pos p2 apos cpos:Pos}{x:Str}{p:Pos}
abbrev jxP:jV
 | [.str z],Φ=>z.length≤640∧∃n,PySem.intText? z=some n∧Φ (.int n)
 | _,_=>False
theorem jqm:jcS X (.type "int") (fun xs H Q=>∃z n,xs=[.str z]∧z.length≤640∧PySem.intText? z=some n∧Q (.int n) H):=by
 intro pins s σ H xs us Q I rv h
 obtain⟨z,n,rfl,hl,hn,q⟩:=h
 obtain⟨u,rfl,ru⟩:=rv.one
 obtain⟨t,rfl⟩:=ru
 exact PySem.W.KIN.call_text hn hl ⟨.int n,H,I.tok _,⟨_,rfl⟩,q⟩
theorem jzH:jeR X (.type "int") jxP:=⟨_,jqm,fun S H ds vs Φ Q so r h hd=>by
 match ds,h with
 | [.str z],h =>
  simp only [Reps,Rep] at r
  obtain⟨v,_,rfl,rfl,rfl⟩:=r
  obtain⟨hl,n,hn,hΦ⟩:=h
  exact⟨z,n,rfl,hl,hn,hd _ _ H hΦ (Same.refl _) Rep.int⟩⟩
def jCh:V->Option Int->Option Int->Hp->VK->Prop:=fun x lo hi H Q=>∃z,x=.str z∧z.length≤sizeLine∧Q (.str (Txt.slice z lo hi)) H
theorem jBg:SlR X jCh:=by
 intro pins s σ H x v vl vu lo hi sl Q I rx hs pl pu h
 obtain⟨z,rfl,hz,q⟩:=h
 obtain⟨t,rfl⟩:=rx
 refine⟨"str",_,F.slot_str_getitem.lookup,typeIs_str _ _ _,?_⟩
 have fin:∀t' k,EP X pins σ Q (.str (Txt.slice z lo hi) t') { s with toks:=k }:=fun t' k=>⟨.str _,H,I.tok _,⟨_,rfl⟩,q⟩
 cases pl <;> cases pu
 ·exact wpAny_getItem_str_slice (l:=none) (u:=none) (st:=none) hs rfl (post_val_or_str ⟨Nat.le_trans (Txt.slice_le z _ _) hz,fin⟩)
 ·exact wpAny_getItem_str_slice (l:=none) (u:=some (_,_)) (st:=none) hs rfl (post_val_or_str ⟨Nat.le_trans (Txt.slice_le z _ _) hz,fin⟩)
 ·exact wpAny_getItem_str_slice (l:=some (_,_)) (u:=none) (st:=none) hs rfl (post_val_or_str ⟨Nat.le_trans (Txt.slice_le z _ _) hz,fin⟩)
 ·exact wpAny_getItem_str_slice (l:=some (_,_)) (u:=some (_,_)) (st:=none) hs rfl (post_val_or_str ⟨Nat.le_trans (Txt.slice_le z _ _) hz,fin⟩)
abbrev jAk (te:E3)(tl th:O3):E3:=fun ρ Φ=>te ρ fun d=>tl ρ fun lo=>th ρ fun hi=>match d with | .str z=>z.length≤sizeLine∧Φ (.str (Txt.slice z lo hi)) | _=>False
theorem jvn {lo hi:Option Expr}{tl th:O3}(he:PD X e te)(hl:POD X lo tl)(hu:POD X hi th):PD X (.Subscript e (.Slice lo hi none p2) pos) (jAk te tl th):=by
 obtain⟨t2,h,w⟩:=he; obtain⟨l2,hl,wl⟩:=hl; obtain⟨u2,hu,wu⟩:=hu
 refine⟨_,jxC jBg h hl hu,fun B S H σ ρ Φ Q er q hd=>w B S H σ ρ _ _ er q fun d v H1 p1 s1 r1=>wl B S H1 σ ρ _ _ (er.go s1) p1 fun l H2 p2 s2=>wu B S H2 σ ρ _ _ ((er.go s1).go s2) p2 fun u H3 p3 s3=>?_⟩
 cases d <;> first | exact p3.elim | skip
 simp only [Rep] at r1
 subst r1
 exact⟨_,rfl,p3.1,hd _ _ H3 p3.2 ((s1.trans s2).trans s3) Rep.str⟩
def Its (x:Str):It:=⟨fun i _=>i<x.cps.size,fun i H v H'=>H'=H∧∃c,x.cps[i]?=some c∧v=.str ⟨#[c]⟩,fun i _=>i=x.cps.size⟩
theorem jwF {P:Program}{w:World}{K:PySem.W.Frag}{tg:Expr}{T:String}(hT:T="str_ascii_iterator"∨T="str_iterator")(x:Str)(t:Tok)(it:Addr)
  (W:∀A:Around,A.handled=none->Walks P w A it [it] [it] x.cps.size (SignAt x) (fun i h=>h.IsStrIter it T x t i)):jmT P w K tg (Its x) [it] it (fun i h=>h.IsStrIter it T x t i) where
 mem:=by simp
 obj:=fun i h st b hb=>by
  have e:b=it:=by simpa using hb
  subst e
  obtain⟨o,e,c,d⟩:=st
  exact⟨o,e,fun v z=>by rw [d] at z; cases z⟩
 keep:=fun i h h' st k=>let ⟨o,ho,r⟩:=st; ⟨o,k it (by simp) o ho,r⟩
 item:=by
  intro X hP hw hK hc i pins s σ H E I hf st hg
  subst hP hw hK
  obtain⟨f0,f1,f2,f3,f4,f5⟩:=hf it (by simp)
  refine(W X.A (I.ok.hd hc)).item i s _ E hg st fun v h' tk hP st' kp=>?_
  obtain⟨c,u,ec,rfl⟩:=hP
  have I1:Inv X pins σ H { s with heap:=h',toks:=tk }:=I.turned (t':=tk) (fun b o hb e=>kp b o (by simpa using hb) e) f0 f1 f3 f4 f5
  obtain⟨o,e,c',d⟩:=id st'
  refine⟨_,rfl,jqE (s:={ s with heap:=h',toks:=tk }) e c' d ?_ ⟨.str ⟨#[c]⟩,H,I1,⟨_,rfl⟩,⟨rfl,c,ec,rfl⟩,st',fun b hb=>(hf b hb).1⟩⟩
  rcases hT with rfl | rfl <;> decide
 done:=by
  intro X hP hw hK hc i pins s σ H E I hf st hg
  subst hP hw hK
  obtain⟨f0,f1,f2,f3,f4,f5⟩:=hf it (by simp)
  have hg:i=x.cps.size:=hg
  subst hg
  exact(W X.A (I.ok.hd hc)).done s _ E st fun h' tk kp=>⟨rfl,I.turned (t':=tk) (fun b o hb e=>kp b o (by simpa using hb) e) f0 f1 f3 f4 f5⟩
 self:=fun A i s Q E st h=>by
  rcases hT with rfl | rfl
  ·exact wpAny_pyIter_striter_ascii st h
  ·exact wpAny_pyIter_striter_wide st h
def jB7 (tl:TE):TI:=fun σ H R=>tl σ H fun x H1=>∃z,x=.str z∧R (Its z) H1
theorem jAr {tg l:Expr}{tl:TE}(hl:PE X l tl):PI X tg l (jB7 tl):=by
 intro pins s σ H R I h
 refine jQ (hl pins s σ H _ I h) fun v s1 qZ=>?_
 obtain⟨x,H1,I1,r1,q1⟩:=qZ
 obtain⟨z,rfl,q⟩:=q1
 obtain⟨t,rfl⟩:=r1
 have go:∀(T:String) (hT:T="str_ascii_iterator"∨T="str_iterator") (W:∀A:Around,A.handled=none->Walks X.prog X.w A s1.heap.objs.size [s1.heap.objs.size] [s1.heap.objs.size] z.cps.size (SignAt z) (fun i h=>h.IsStrIter s1.heap.objs.size T z t i)),
   PIE X pins σ tg R (.ref s1.heap.objs.size) { s1 with heap:=s1.heap.push { cls:=.type T,data:=.fields #[.str z t,.int 0 0] } }:=fun T hT W=>by
  refine⟨s1.heap.objs.size,[s1.heap.objs.size],_,_,H1,rfl,I1.kept (t':=s1.toks) fun b o e=>Heap.get?_push_of_some _ e,jwF hT z t _ W,⟨_,Heap.get?_push_size _ rfl,rfl,rfl⟩,fun b hb=>?_,q⟩
  have e:b=s1.heap.objs.size:=by simpa using hb
  subst e
  exact I1.fpOk (Nat.le_refl _) (I1.hok.fresh (Nat.le_refl _))
 cases ha:z.cps.all (·<128)
 ·exact wpAny_pyIter_wide ha (go _ (.inr rfl) fun A hA=>Walks.strWide hA _ z t)
 ·exact wpAny_pyIter_ascii ha (go _ (.inl rfl) fun A hA=>Walks.strAscii hA _ z t)
def jgm (z:Str):List D:=z.cps.toList.map fun c=>.str ⟨#[c]⟩
abbrev jxL (te:E3):A3:=fun ρ Φ=>te ρ fun d=>match d with | .str z=>Φ (jgm z) | _=>False
theorem jyQ {tg:Expr}(he:PD X e te):PID X tg e (jxL te):=by
 obtain⟨t2,h,w⟩:=he
 refine PID.one ⟨_,jAr h,fun B S H σ ρ Φ R er q k=>w B S H σ ρ _ _ er q fun d v H1 p1 s1 r1=>?_⟩
 cases d <;> first | exact p1.elim | skip
 rename_i z
 simp only [Rep] at r1
 subst r1
 have hl:(jgm z).length=z.cps.size:=by unfold jgm; rw [List.length_map,Array.length_toList]
 refine⟨z,rfl,k _ _ (.str z) (.str z) H1 p1 s1 Rep.str fun S' H' _=>⟨hl,fun i hi=>⟨by rw [hl] at hi; exact hi,fun y H2 hy=>?_⟩⟩⟩
 obtain⟨rfl,c,ec,rfl⟩:=hy
 refine⟨rfl,.str ⟨#[c]⟩,?_,Rep.str⟩
 unfold jgm
 rw [List.getElem?_map,Array.getElem?_toList,ec]
 rfl
end
def cp (x:Str):List Nat:=x.cps.toList
theorem jnI {x y:Str}(h:cp x=cp y):x=y:=PyProof.Rows.ext_toList h
theorem jbw (x y:Str):cp (x++y)=cp x++cp y:=PySem.W.KT.app_list x y
theorem jbm (x:Str):(cp x).length=x.length:=Array.length_toList
def jdl (c:Nat):List Str->List Nat
 | []=>[]
 | q::r=>c::cp (Str.join ⟨#[c]⟩ (q::r))
theorem jcc (c:Nat)(p:Str):∀r,cp (Str.join ⟨#[c]⟩ (p::r))=cp p++jdl c r
 | []=>by show cp p=cp p++[]; rw [List.append_nil]
 | q::r=>by
  show cp (p++(⟨#[c]⟩:Str)++Str.join ⟨#[c]⟩ (q::r))=cp p++(c::cp (Str.join ⟨#[c]⟩ (q::r)))
  rw [jbw,jbw,List.append_assoc]
  rfl
theorem jkr (c:Nat):∀(a X:List Nat),c∉a->(X=[]∨∃Y,X=c::Y)->(a++X).takeWhile (· != c)=a∧(a++X).dropWhile (· != c)=X
 | [],X,_,h=>by
  rcases h with rfl | ⟨Y,rfl⟩
  ·exact⟨rfl,rfl⟩
  ·simp
 | d::a,X,n,h=>by
  have hd:d≠c:=fun e=>n (by rw [e]; exact List.mem_cons_self)
  have ih:=jkr c a X (fun z=>n (List.mem_cons_of_mem _ z)) h
  have hb:(d != c)=true:=by simpa using hd
  rw [List.cons_append,List.takeWhile_cons,List.dropWhile_cons,hb]
  exact⟨congrArg (d::·) ih.1,ih.2⟩
theorem jnm (c:Nat):∀r,jdl c r=[]∨∃Y,jdl c r=c::Y
 | []=>.inl rfl
 | q::r=>.inr ⟨_,rfl⟩
theorem jqW (c:Nat):∀{ps qs:List Str},ps≠[]->qs≠[]->(∀p∈ps,c∉cp p)->(∀p∈qs,c∉cp p)->Str.join ⟨#[c]⟩ ps=Str.join ⟨#[c]⟩ qs->ps=qs
 | [],_,h,_,_,_,_=>absurd rfl h
 | _::_,[],_,h,_,_,_=>absurd rfl h
 | p::r,q::s,_,_,hp,hq,e=>by
  have e1:cp p++jdl c r=cp q++jdl c s:=by rw [←jcc,←jcc,e]
  have t1:=jkr c (cp p) _ (hp p List.mem_cons_self) (jnm c r)
  have t2:=jkr c (cp q) _ (hq q List.mem_cons_self) (jnm c s)
  rw [e1] at t1
  have a:=jnI (t1.1.symm.trans t2.1)
  have b:=t1.2.symm.trans t2.2
  subst a
  congr 1
  cases r with
  | nil =>
   cases s with
   | nil=>rfl
   | cons s0 s=>cases b
  | cons r0 r =>
   cases s with
   | nil=>cases b
   | cons s0 s =>
    have b':cp (Str.join ⟨#[c]⟩ (r0::r))=cp (Str.join ⟨#[c]⟩ (s0::s)):=(List.cons.inj b).2
    exact jqW c (fun z=>by cases z) (fun z=>by cases z) (fun u hu=>hp u (List.mem_cons_of_mem _ hu)) (fun u hu=>hq u (List.mem_cons_of_mem _ hu)) (jnI b')
theorem jwD (x:Str)(c:Nat):Txt.split x ⟨#[c]⟩≠[]:=by
 unfold Txt.split
 split
 ·exact fun z=>by cases z
 ·split
  ·exact fun z=>by cases z
  ·rw [StrLaws.partsBetween_eq]
   obtain⟨p,r,e⟩:=StrLaws.partsFrom_ne x (⟨#[c]⟩:Str).length 0 (Builtin.Str.occurrences x ⟨#[c]⟩ 0 x.length (x.length+1))
   rw [e]
   exact fun z=>by cases z
theorem jnv (c:Nat){ps:List Str}(hne:ps≠[])(hf:∀p∈ps,c∉cp p):Txt.split (Str.join ⟨#[c]⟩ ps) ⟨#[c]⟩=ps :=
 jqW c (jwD _ _) hne (fun p hp=>StrLaws.split_free _ c p hp) hf (StrLaws.join_split _ _)
theorem ji2 (x:Str)(ys:List Str):Txt.join x ys=Str.join x ys:=StrLaws.glued_eq_join x ys
theorem jza (x:Str)(c:Nat):inT ⟨#[c]⟩ x=decide (c∈cp x):=StrLaws.found_one x c
end D3
namespace D3
open PySem PySem.Spec PyProof.Rows L2 PySem.NumText
def dgs (m:Nat):List Nat:=(Nat.toDigits 10 m).map Char.toNat
abbrev jaJ (n:Int):Str:=Str.ofString (toString n)
theorem jfg (m:Nat):cp (jaJ (m:Int))=dgs m:=PySem.W.KIN.signs_num m
theorem jjX (m:Nat):cp (jaJ (Int.negSucc m))=45::dgs (m+1):=by
 show (Str.ofString (toString (Int.negSucc m))).cps.toList=_
 rw [signs_ofString]
 have e:(toString (Int.negSucc m)).toList='-'::(Nat.repr (m+1)).toList:=by
  show ("-"++Nat.repr (m+1)).toList=_
  rw [String.toList_append]
  rfl
 rw [e,List.map_cons,Nat.toList_repr]
 rfl
theorem jeF (m:Nat):AllDigits (dgs m):=by
 intro c hc
 obtain⟨ch,hch,e⟩:=List.mem_map.mp hc
 have r:=digit_range (Nat.isDigit_of_mem_toDigits (by decide) (by decide) hch)
 rw [←e]
 exact r
theorem jsl (m:Nat):dgs m≠[]:=fun e=>by
 have h:=toDigits_len_ge 10 m
 rw [List.map_eq_nil_iff.mp e] at h
 exact absurd h (by decide)
theorem joV (m:Nat):digitsVal (dgs m)=m:=PySem.W.KIN.val_back m
theorem jhD {n:Int}{k:Nat}(hk:0<k)(h:n.natAbs<10^k):(jaJ n).length≤k+1∧(dgs n.natAbs).length≤k:=by
 have p:∀m:Nat,m<10^k->(dgs m).length≤k:=fun m hm=>by
  have l:=toString_length_le (v:=(m:Int)) (by omega) hk (by exact_mod_cast hm)
  have e:=jbm (jaJ (m:Int))
  rw [jfg] at e
  rw [e]; exact l
 refine⟨?_,p _ h⟩
 cases n with
 | ofNat m =>
  have:=p m h
  rw [←jbm]
  show (cp (jaJ (m:Int))).length≤_
  rw [jfg]; omega
 | negSucc m =>
  have:=p (m+1) h
  rw [←jbm,jjX,List.length_cons]
  omega
theorem jkk {n:Int}(h:n.natAbs<10^60):PySem.intText? (jaJ n)=some n:=by
 have l:=(jhD (by decide) h).1
 cases n with
 | ofNat m =>
  have e:=intText_digits (x:=jaJ (m:Int)) (by show AllDigits (cp _); rw [jfg]; exact jeF m) (by show cp _≠[]; rw [jfg]; exact jsl m) (Nat.le_trans l (by decide))
  have e2:(jaJ (m:Int)).cps.toList=dgs m:=jfg m
  rw [e2,joV] at e
  exact e
 | negSucc m =>
  have e:=intText_neg (x:=jaJ (Int.negSucc m)) (cs:=dgs (m+1)) (jjX m) (jeF _) (jsl _) (Nat.le_trans l (by decide))
  rw [joV] at e
  exact e
theorem jvS {n:Int}:∀c∈cp (jaJ n),c=45∨(48≤c∧c≤57):=by
 intro c hc
 cases n with
 | ofNat m =>
  have hc:c∈cp (jaJ (m:Int)):=hc
  rw [jfg] at hc
  exact .inr (jeF m c hc)
 | negSucc m =>
  rw [jjX] at hc
  rcases List.mem_cons.mp hc with h | h
  ·exact .inl h
  ·exact .inr (jeF _ c h)
theorem jmA {n:Int}{c:Nat}(h:c<45∨57<c):c∉cp (jaJ n):=fun z=>by
 have:=jvS c z
 omega
theorem jwS {m:Nat}(h:m≠0):∀r,dgs m≠48::r:=fun r e=>by
 have hv:=joV m
 rw [e,digitsVal_zero] at hv
 have ad:AllDigits r:=fun c hc=>jeF m c (by rw [e]; exact List.mem_cons_of_mem _ hc)
 have t:=toDigits_all r ad
 rw [hv] at t
 have l1:(dgs m).length=r.length+1:=by rw [e]; rfl
 have l2:(dgs m).length=(Nat.toDigits 10 m).length:=by unfold dgs; rw [List.length_map]
 have l3:(r.dropWhile (· == 48)).length≤r.length:=(List.dropWhile_sublist _).length_le
 rw [l2,t] at l1
 split at l1
 ·rename_i ed
  have:r.length=0:=by
   have:(['0']:List Char).length=1:=rfl
   omega
  have r0:r=[]:=List.eq_nil_of_length_eq_zero this
  subst r0
  exact h hv.symm
 ·rename_i c s ed
  rw [List.length_map] at l1
  rw [ed] at l3
  omega
end D3
set_option Elab.async false
set_option linter.all false
set_option maxRecDepth 100000
set_option maxHeartbeats 4000000
namespace D3
open PySem PySem.Spec PyProof.Rows L2
section
variable {X:Cx}{a b c:Expr}{ta tb tc:E3}{pos:Pos}{op op':CmpOp}{r r':R3}
abbrev jnF (r r':R3)(ta tb tc:E3):E3:=fun ρ Φ=>ta ρ fun x=>tb ρ fun y=>r x y fun d=>match d with
 | .bl k=>if k=true then tc ρ fun z=>r' y z Φ else Φ (.bl false)
 | _=>False
theorem jy3 {r2 r2':R2}{ta2 tb2 tc2:TE}(wr:∀S H x y u v Φ Q,SOk S H->Rep X.K S H x u->Rep X.K S H y v->r x y Φ->Hand X.K S H Φ Q->r2 u v H Q)(wr':∀S H x y u v Φ Q,SOk S H->Rep X.K S H x u->Rep X.K S H y v->r' x y Φ->Hand X.K S H Φ Q->r2' u v H Q)
  (wa:∀B S H σ ρ Φ Q,ER X.K B S H σ ρ->ta ρ Φ->Hand X.K S H Φ Q->ta2 σ H Q) (wb:∀B S H σ ρ Φ Q,ER X.K B S H σ ρ->tb ρ Φ->Hand X.K S H Φ Q->tb2 σ H Q) (wc:∀B S H σ ρ Φ Q,ER X.K B S H σ ρ->tc ρ Φ->Hand X.K S H Φ Q->tc2 σ H Q) :
  ∀B S H σ ρ Φ Q,ER X.K B S H σ ρ->jnF r r' ta tb tc ρ Φ->Hand X.K S H Φ Q->jvb r2 r2' ta2 tb2 tc2 σ H Q:=fun B S H σ ρ Φ Q er h hd =>
 wa B S H σ ρ _ _ er h fun x u H1 hx s1 rx=>wb B S H1 σ ρ _ _ (er.go s1) hx fun y v H2 hy s2 ry=>wr S H2 x y u v _ _ ((er.ok.same s1).same s2) (rx.same s2) ry hy fun d z H3 hz s3 rz=>by
  cases d <;> first | exact hz.elim | skip
  rename_i k
  refine⟨k,jaz rz,?_⟩
  have er3:=((er.go s1).go s2).go s3
  cases k with
  | false =>
   have hz:Φ (.bl false):=by simpa using hz
   simp only [Bool.false_eq_true,if_false]
   exact hd _ _ H3 hz ((s1.trans s2).trans s3) Rep.bl
  | true =>
   have hz:tc ρ fun z=>r' y z Φ:=by simpa using hz
   simp only [if_true]
   exact wc B S H3 σ ρ _ _ er3 hz fun z' w' H4 h4 s4 r4=>wr' S H4 y z' v w' Φ Q (er3.ok.same s4) ((ry.same s3).same s4) r4 h4 (hd.go (((s1.trans s2).trans s3).trans s4))
theorem jqV (ho:OpD X (compareOp op) r)(ho':OpD X (compareOp op') r')(ha:PD X a ta)(hb:PD X b tb)(hc:PD X c tc)(hm:lastMarks [op,op'] [b,c]=false:=by with_unfolding_all rfl):PD X (.Compare a [op,op'] [b,c] pos) (jnF r r' ta tb tc):=by
 obtain⟨r2,ho,wr⟩:=ho; obtain⟨r2',ho',wr'⟩:=ho'; obtain⟨ta2,ha,wa⟩:=ha; obtain⟨tb2,hb,wb⟩:=hb; obtain⟨tc2,hc,wc⟩:=hc
 exact⟨_,jxt ho ho' ha hb hc hm,jy3 wr wr' wa wb wc⟩
end
theorem jtB {K:PySem.W.Frag}{x:Str}{t:Tok}:jfl K (.str x) (.str x) (.str x t):=⟨⟨t,rfl⟩,fun _ _=>Rep.str⟩
structure Ob where
 q:Addr
 p:Addr
 ks:List Str
 ds:List D
abbrev Wd:=List Ob
def kvs (ks:List Str)(xs:List V):List (Key×V):=(ks.map Sum.inr).zip xs
structure Zc where
 C:Addr
 f:Str
structure ObOk (K:PySem.W.Frag)(Z:Zc)(S:Addr->Prop)(H:Hp)(o:Ob):Prop where
 s:S o.q
 at_:∃xs,H o.q=some (.dK (kvs o.ks xs))∧o.ks.length=xs.length∧Reps K S H o.ds xs
 nd:o.ks.Nodup
 nl:ja4 o.ds
 ins:o.p=o.q∨∃dx,H o.p=some (.ins Z.C dx [(Z.f,.ref o.q)])
structure WOk (K:PySem.W.Frag)(Z:Zc)(S:Addr->Prop)(H:Hp)(W:Wd):Prop where
 ob:∀o∈W,ObOk K Z S H o
 nd:(W.map Ob.q).Nodup
def adr (W:Wd):List (Addr×Addr):=W.map fun o=>(o.q,o.p)
def noDct (ρ:jN):Prop:=∀(i:Nat) ks ds,ρ[i]?≠some (.dct ks ds)
structure EW (K:PySem.W.Frag)(Z:Zc)(B:Bs)(S:Addr->Prop)(H:Hp)(σ:L2.St)(ρ:jN)(W:Wd):Prop where
 er:ER K B S H σ ρ
 w:WOk K Z S H W
 h0:∀o∈W,B.H0 o.q=none
 no:noDct ρ
def SameX (W:Wd)(H H':Hp):Prop:=∀a o,(∀w∈W,a≠w.q)->H a=some o->H' a=some o
section
variable {K:PySem.W.Frag}{Z:Zc}{B:Bs}{S S':Addr->Prop}{H H' H2:Hp}{σ:L2.St}{ρ:jN}{W W':Wd}
theorem SameX.of (h:Same H H'):SameX W H H':=fun a o _ e=>h a o e
theorem SameX.refl:SameX W H H:=fun a o _ e=>e
theorem SameX.trans (h:SameX W H H')(h2:SameX W H' H2):SameX W H H2:=fun a o n e=>h2 a o n (h a o n e)
theorem SameX.adr (e:adr W'=adr W)(h:SameX W' H H'):SameX W H H':=fun a o n=>h a o fun w hw=>by
 have:(w.q,w.p)∈D3.adr W:=by rw [←e]; exact List.mem_map.mpr ⟨w,hw,rfl⟩
 obtain⟨u,hu,eu⟩:=List.mem_map.mp this
 have e1:u.q=w.q:=congrArg Prod.fst eu
 rw [←e1]
 exact n u hu
theorem ObOk.same {o:Ob}(h:ObOk K Z S H o)(s:Same H H'):ObOk K Z S H' o :=
 ⟨h.s,let ⟨xs,e,l,r⟩:=h.at_; ⟨xs,s _ _ e,l,r.same s⟩,h.nd,h.nl,h.ins.imp id fun⟨dx,e⟩=>⟨dx,s _ _ e⟩⟩
theorem WOk.same (h:WOk K Z S H W)(s:Same H H'):WOk K Z S H' W:=⟨fun o ho=>(h.ob o ho).same s,h.nd⟩
theorem WOk.dict (h:WOk K Z S H W):∀w∈W,∃kv,H w.q=some (.dK kv):=fun w hw=>let ⟨xs,e,_⟩:=(h.ob w hw).at_; ⟨_,e⟩
theorem jp3 (hd:∀w∈W,∃kv,H w.q=some (.dK kv))(s:SameX W H H'):∀b xs,SqT K H b xs->SqT K H' b xs:=fun b xs q=>by
 have ne:∀{o:HO},(∀kv,o≠.dK kv)->H b=some o->H' b=some o:=fun {o} n e=>s b o (fun w hw z=>by
  obtain⟨kv,e'⟩:=hd w hw
  rw [z,e'] at e
  cases e
  exact n kv rfl) e
 rcases q with (q | ⟨o,q⟩) | q
 ·exact .inl (.inl (ne (fun _ z=>by cases z) q))
 ·exact .inl (.inr ⟨o,ne (fun _ z=>by cases z) q⟩)
 ·exact .inr q
theorem jsc (hd:∀w∈W,∃kv,H w.q=some (.dK kv))(s:SameX W H H'):∀b xs,LR K S H b xs->LR K S H' b xs:=fun b xs q=>by
 have ne:∀{o:HO},(∀kv,o≠.dK kv)->H b=some o->H' b=some o:=fun {o} n e=>s b o (fun w hw z=>by
  obtain⟨kv,e'⟩:=hd w hw
  rw [z,e'] at e
  cases e
  exact n kv rfl) e
 rcases q with⟨n,q⟩ | q
 ·refine .inl ⟨n,?_⟩
  rcases q with q | ⟨o,q⟩
  ·exact .inl (ne (fun _ z=>by cases z) q)
  ·exact .inr ⟨o,ne (fun _ z=>by cases z) q⟩
 ·exact .inr q
theorem Rep.sameX {d:D}{v:V}(hd:∀w∈W,∃kv,H w.q=some (.dK kv))(s:SameX W H H')(r:Rep K S H d v):Rep K S H' d v:=Rep.map (jp3 hd s) (jsc hd s) d v r
theorem Reps.sameX {d:List D}{v:List V}(hd:∀w∈W,∃kv,H w.q=some (.dK kv))(s:SameX W H H')(r:Reps K S H d v):Reps K S H' d v:=Reps.map (jp3 hd s) (jsc hd s) d v r
theorem ER.goX (er:ER K B S H σ ρ)(no:noDct ρ)(hd:∀w∈W,∃kv,H w.q=some (.dK kv))(h0:∀w∈W,B.H0 w.q=none)(s:SameX W H H')(hd':∀w∈W,∃o,H' w.q=some o):ER K B S H' σ ρ where
 len:=er.len
 same:=fun a o e=>s a o (fun w hw z=>by rw [z,h0 w hw] at e; cases e) (er.same a o e)
 sub:=er.sub
 ok0:=er.ok0
 ok:=fun a h=>by
  obtain⟨o,e⟩:=er.ok a h
  by_cases hq:∃w∈W,a=w.q
  ·obtain⟨w,hw,rfl⟩:=hq
   exact hd' w hw
  ·exact⟨o,s a o (fun w hw z=>hq ⟨w,hw,z⟩) e⟩
 val:=fun i d q=>let ⟨v,a,r⟩:=er.val i d q; ⟨v,a,r.sameX hd s⟩
 own:=fun i ds q=>by
  obtain⟨a,xs,x,y,z,u,r⟩:=er.own i ds q
  refine⟨a,xs,x,y,z,s a _ (fun w hw e=>?_) u,r.sameX hd s⟩
  obtain⟨kv,e'⟩:=hd w hw
  rw [e,e'] at u
  cases u
 uq:=er.uq
 dct:=fun i ks ds q=>absurd q (no i ks ds)
 dq:=fun i _ _ ks ds _ _ q=>absurd q (no i ks ds)
 rf:=er.rf
 rwx:=er.rwx
 gh:=fun p hp=>(er.gh p hp).sameX hd s
theorem EW.go (h:EW K Z B S H σ ρ W)(s:Same H H'):EW K Z B S H' σ ρ W:=⟨h.er.go s,h.w.same s,h.h0,h.no⟩
theorem jnw (e:adr W'=adr W){o:Ob}(ho:o∈W'):∃u∈W,u.q=o.q∧u.p=o.p:=by
 have:(o.q,o.p)∈adr W:=by rw [←e]; exact List.mem_map.mpr ⟨o,ho,rfl⟩
 obtain⟨u,hu,eu⟩:=List.mem_map.mp this
 exact⟨u,hu,congrArg Prod.fst eu,congrArg Prod.snd eu⟩
theorem EW.goX (h:EW K Z B S H σ ρ W)(s:SameX W H H')(e:adr W'=adr W)(w:WOk K Z S H' W'):EW K Z B S H' σ ρ W' where
 er:=h.er.goX h.no h.w.dict h.h0 s fun u hu=>by
  obtain⟨o,ho,eq,_⟩:=jnw e.symm hu
  obtain⟨kv,z⟩:=w.dict o ho
  exact⟨_,eq▸z⟩
 w:=w
 h0:=fun o ho=>by
  obtain⟨u,hu,eq,_⟩:=jnw e ho
  rw [←eq]
  exact h.h0 u hu
 no:=h.no
end
abbrev E4:=jN->Wd->(D->Wd->Prop)->Prop
def jnZ (K:PySem.W.Frag)(Z:Zc)(S:Addr->Prop)(H:Hp)(W:Wd)(Φ:D->Wd->Prop)(Q:VK):Prop:=∀d v H' W',Φ d W'->SameX W H H'->adr W'=adr W->WOk K Z S H' W'->Rep K S H' d v->Q v H'
def PM (X:Cx)(Z:Zc)(e:Expr)(t:E4):Prop:=∃t2,PE X e t2∧∀B S H σ ρ W Φ Q,EW X.K Z B S H σ ρ W->t ρ W Φ->jnZ X.K Z S H W Φ Q->t2 σ H Q
abbrev jae (te:E3):E4:=fun ρ W Φ=>te ρ fun d=>Φ d W
theorem j8 {X:Cx}{Z:Zc}{e:Expr}{te:E3}(h:PD X e te):PM X Z e (jae te):=by
 obtain⟨t2,h,w⟩:=h
 exact⟨t2,h,fun B S H σ ρ W Φ Q ew q hd=>w B S H σ ρ _ _ ew.er q fun d v H' p s r=>hd d v H' W p (SameX.of s) rfl (ew.w.same s) r⟩
inductive F4 where
 | nx (ρ:jN) (W:Wd) | bk (ρ:jN) (W:Wd) | ct (ρ:jN) (W:Wd) | rt (d:D) (W:Wd)
abbrev S4:=(F4->Prop)->jN->Wd->Prop
structure EndW (K:PySem.W.Frag)(Z:Zc)(B:Bs)(W:Wd)(Φ:F4->Prop)(D':jgs):Prop where
 nx:∀ρ S H σ W',Φ (.nx ρ W')->EW K Z B S H σ ρ W'->adr W'=adr W->D'.nx σ H
 bk:∀ρ S H σ W',Φ (.bk ρ W')->EW K Z B S H σ ρ W'->adr W'=adr W->D'.bk σ H
 ct:∀ρ S H σ W',Φ (.ct ρ W')->EW K Z B S H σ ρ W'->adr W'=adr W->D'.ct σ H
 rt:∀d v S H W',Φ (.rt d W')->Same B.H0 H->Rep K B.S0 H d v->WOk K Z S H W'->adr W'=adr W->D'.rt v H
def PSW (X:Cx)(Z:Zc)(st:Stmt)(t:S4):Prop:=∃t2,PS X st t2∧∀B S H σ ρ W Φ D',EW X.K Z B S H σ ρ W->t Φ ρ W->EndW X.K Z B W Φ D'->t2 D' σ H
def jf1 (X:Cx)(Z:Zc)(sts:List Stmt)(t:S4):Prop:=∃t2,PSs X sts t2∧∀B S H σ ρ W Φ D',EW X.K Z B S H σ ρ W->t Φ ρ W->EndW X.K Z B W Φ D'->t2 D' σ H
def jce (B:Bs)(H:Hp)(W:Wd):Hp:=fun a=>match H a with
 | some (.lst _)=>B.H0 a
 | some (.dK kv)=>if a∈W.map Ob.q then some (.dK kv) else B.H0 a
 | o=>o
def jgL (B:Bs)(H:Hp)(W:Wd):Bs:=⟨fun a=>B.S0 a∨∃w∈W,a=w.q,jce B H W,B.gh⟩
section
variable {K:PySem.W.Frag}{Z:Zc}{B:Bs}{S S':Addr->Prop}{H H':Hp}{σ σ':L2.St}{ρ ρ':jN}{W:Wd}
theorem jqa (hb:Same B.H0 H):Same (jce B H W) H:=fun a o e=>by
 unfold jce at e
 split at e
 ·exact hb a o e
 ·rename_i kv ea
  split at e
  ·cases e; exact ea
  ·exact hb a o e
 ·exact e
theorem jfP (hb:Same B.H0 H):Same B.H0 (jce B H W):=fun a o e=>by
 unfold jce
 have:=hb a o e
 split
 ·exact e
 ·rename_i kv ea
  split
  ·rw [this] at ea; cases ea; rfl
  ·exact e
 ·exact this
theorem joS {a:Addr}{o:HO}(e:H a=some o)(n1:∀xs,o≠.lst xs)(n2:∀kv,o≠.dK kv):jce B H W a=some o:=by
 unfold jce
 rw [e]
 cases o <;> first | rfl | exact absurd rfl (n1 _) | exact absurd rfl (n2 _)
theorem jvj:∀o∈W,∀kv,H o.q=some (.dK kv)->jce B H W o.q=some (.dK kv):=fun o ho kv e=>by
 unfold jce
 rw [e]
 exact if_pos (List.mem_map.mpr ⟨o,ho,rfl⟩)
theorem jxm (s:Same (jce B H W) H'):∀b xs,SqT K H b xs->SqT K H' b xs:=fun b xs q=>by
 rcases q with (q | ⟨o,q⟩) | q
 ·exact .inl (.inl (s _ _ (joS q (fun _ z=>by cases z) fun _ z=>by cases z)))
 ·exact .inl (.inr ⟨o,s _ _ (joS q (fun _ z=>by cases z) fun _ z=>by cases z)⟩)
 ·exact .inr q
mutual
theorem Rep.tups (hT:∀b xs,SqT K H b xs->SqT K H' b xs):∀(d:D) (v:V),NoL d->Rep K S H d v->Rep K S' H' d v
 | .non,v,_,h=>by simpa only [Rep] using h
 | .bl b,v,_,h=>by simpa only [Rep] using h
 | .int i,v,_,h=>by simpa only [Rep] using h
 | .str x,v,_,h=>by simpa only [Rep] using h
 | .tup ds,v,n,h=>by
  simp only [Rep] at h ⊢
  obtain⟨a,xs,e,q,r⟩:=h
  exact⟨a,xs,e,hT a xs q,Reps.tups hT ds xs (by simpa only [NoL] using n) r⟩
 | .lst ds,v,n,h=>by simp only [NoL] at n
theorem Reps.tups (hT:∀b xs,SqT K H b xs->SqT K H' b xs):∀(ds:List D) (vs:List V),ja4 ds->Reps K S H ds vs->Reps K S' H' ds vs
 | [],vs,_,h=>by simpa only [Reps] using h
 | d::ds,vs,n,h=>by
  simp only [ja4] at n
  simp only [Reps] at h ⊢
  obtain⟨x,r,e,q,t⟩:=h
  exact⟨x,r,e,Rep.tups hT d x n.1 q,Reps.tups hT ds r n.2 t⟩
end
theorem EW.lend (h:EW K Z B S H σ ρ W):ER K (jgL B H W) S H σ ρ where
 len:=h.er.len
 same:=jqa h.er.same
 sub:=fun a z=>z.elim (h.er.sub a) fun⟨w,hw,e⟩=>e▸(h.w.ob w hw).s
 ok0:=fun a z=>by
  rcases z with z | ⟨w,hw,rfl⟩
  ·obtain⟨o,e⟩:=h.er.ok0 a z
   exact⟨o,jfP h.er.same a o e⟩
  ·obtain⟨kv,e⟩:=h.w.dict w hw
   exact⟨_,jvj w hw kv e⟩
 ok:=h.er.ok
 val:=h.er.val
 own:=fun i ds q=>by
  obtain⟨a,xs,x,y,z,u,r⟩:=h.er.own i ds q
  refine⟨a,xs,x,y,?_,u,r⟩
  show jce B H W a=none
  unfold jce
  rw [u]
  exact z
 uq:=h.er.uq
 dct:=fun i ks ds q=>absurd q (h.no i ks ds)
 dq:=fun i _ _ ks ds _ _ q=>absurd q (h.no i ks ds)
 rf:=h.er.rf
 rwx:=fun i vs q=>let ⟨a,e,h0⟩:=h.er.rwx i vs q; ⟨a,e,jfP h.er.same a _ h0⟩
 gh:=h.er.gh
theorem WOk.back (h:WOk K Z S H W)(s:Same (jce B H W) H')(hq:∀w∈W,S' w.q):WOk K Z S' H' W :=
 ⟨fun o ho=>by
  have ok:=h.ob o ho
  obtain⟨xs,e,l,r⟩:=ok.at_
  exact⟨hq o ho,⟨xs,s _ _ (jvj o ho _ e),l,Reps.tups (jxm s) _ _ ok.nl r⟩,ok.nd,ok.nl,ok.ins.imp id fun⟨dx,e⟩=>⟨dx,s _ _ (joS e (fun _ z=>by cases z) fun _ z=>by cases z)⟩⟩,h.nd⟩
theorem EW.back (h:EW K Z B S H σ ρ W)(er:ER K (jgL B H W) S' H' σ' ρ')(no:noDct ρ'):EW K Z B S' H' σ' ρ' W where
 er:={
  len:=er.len
  same:=fun a o e=>er.same a o (jfP h.er.same a o e)
  sub:=fun a z=>er.sub a (.inl z)
  ok0:=h.er.ok0
  ok:=er.ok
  val:=er.val
  own:=fun i ds q=>by
   obtain⟨a,xs,x,y,z,u,r⟩:=er.own i ds q
   refine⟨a,xs,x,y,?_,u,r⟩
   cases e:B.H0 a with
   | none=>rfl
   | some o =>
    have:(jgL B H W).H0 a=some o:=jfP h.er.same a o e
    rw [this] at z; cases z
  uq:=er.uq
  dct:=fun i ks ds q=>absurd q (no i ks ds)
  dq:=fun i _ _ ks ds _ _ q=>absurd q (no i ks ds)
  rf:=er.rf
  rwx:=fun i vs q=>by
   obtain⟨a,e,h0⟩:=er.rwx i vs q
   refine⟨a,e,?_⟩
   have h0:jce B H W a=some (.lst vs):=h0
   have ha:H a=some (.lst vs):=jqa h.er.same a _ h0
   unfold jce at h0
   rw [ha] at h0
   exact h0
  gh:=er.gh }
 w:=h.w.back er.same fun w hw=>er.sub _ (.inr ⟨w,hw,rfl⟩)
 h0:=h.h0
 no:=no
end
def ndS:Sl->Bool
 | .dct _ _=>false
 | _=>true
theorem jy {ρ:jN}(h:ρ.all ndS=true):noDct ρ:=fun i ks ds e=>by
 have:=List.all_eq_true.mp h _ (List.mem_of_getElem? e)
 cases this
theorem noDct.set {ρ:jN}{i:Nat}{d:D}(h:noDct ρ):noDct (ρ.set i (.val d)):=fun j ks ds e=>by
 rw [List.getElem?_set] at e
 split at e
 ·split at e <;> cases e
 ·exact h j ks ds e
section
variable {X:Cx}{Z:Zc}{st:Stmt}{sts jJ as bs:List Stmt}{e c:Expr}{te:E3}{tm:E4}{tc:B3}{t u:S4}{t3:S3}{pos:Pos}
abbrev jqA (Φ:F4->Prop)(W:Wd):F3->Prop
 | .nx ρ=>noDct ρ∧Φ (.nx ρ W)
 | .bk ρ=>noDct ρ∧Φ (.bk ρ W)
 | .ct ρ=>noDct ρ∧Φ (.ct ρ W)
 | .rt d=>Φ (.rt d W)
abbrev jay (t:S3):S4:=fun Φ ρ W=>t (jqA Φ W) ρ
theorem jwB {B:Bs}{S:Addr->Prop}{H:Hp}{σ:L2.St}{ρ:jN}{W:Wd}{Φ:F4->Prop}{D':jgs}(ew:EW X.K Z B S H σ ρ W)(ok:EndW X.K Z B W Φ D'):juD X.K (jgL B H W) (jqA Φ W) D' where
 nx:=fun ρ' S' H' σ' p er=>ok.nx ρ' S' H' σ' W p.2 (ew.back er p.1) rfl
 bk:=fun ρ' S' H' σ' p er=>ok.bk ρ' S' H' σ' W p.2 (ew.back er p.1) rfl
 ct:=fun ρ' S' H' σ' p er=>ok.ct ρ' S' H' σ' W p.2 (ew.back er p.1) rfl
 rt:=fun d v H' p s r=>ok.rt d v (jgL B H W).S0 H' W p (fun a o e=>s a o (jfP ew.er.same a o e)) (r.sub fun a z=>.inl z) (ew.w.back s fun w hw=>.inr ⟨w,hw,rfl⟩) rfl
theorem jT (h:PSD X st t3):PSW X Z st (jay t3):=by
 obtain⟨t2,h,w⟩:=h
 exact⟨t2,h,fun B S H σ ρ W Φ D' ew q ok=>w _ S H σ ρ _ D' ew.lend q (jwB ew ok)⟩
abbrev jx6 (u:S4)(Φ:F4->Prop):F4->Prop
 | .nx ρ W=>u Φ ρ W
 | f=>Φ f
abbrev ja8 (t u:S4):S4:=fun Φ ρ W=>t (jx6 u Φ) ρ W
abbrev jjr:S4:=fun Φ ρ W=>Φ (.nx ρ W)
theorem jfR:jf1 X Z [] jjr:=⟨_,jh9,fun B S H σ ρ W Φ D' ew q ok=>ok.nx ρ S H σ W q ew rfl⟩
theorem ja5 (h:PSW X Z st t):jf1 X Z [st] t:=by
 obtain⟨t2,h,w⟩:=h
 exact⟨_,jeH h,w⟩
theorem j9 (h1:PSW X Z st t)(h2:jf1 X Z jJ u):jf1 X Z (st::jJ) (ja8 t u):=by
 obtain⟨t2,h,w⟩:=h1; obtain⟨u2,g,z⟩:=h2
 refine⟨_,jbX h g,fun B S H σ ρ W Φ D' ew q ok=>w B S H σ ρ W _ _ ew q ⟨fun ρ' S' H' σ' W' p ew' e=>?_,fun ρ' S' H' σ' W' p ew' e=>ok.bk ρ' S' H' σ' W' p ew' e,fun ρ' S' H' σ' W' p ew' e=>ok.ct ρ' S' H' σ' W' p ew' e,fun d v S' H' W' p s r wk e=>ok.rt d v S' H' W' p s r wk e⟩⟩
 exact z B S' H' σ' ρ' W' Φ D' ew' p ⟨fun ρ2 S2 H2 σ2 W2 p2 ew2 e2=>ok.nx ρ2 S2 H2 σ2 W2 p2 ew2 (e2.trans e),fun ρ2 S2 H2 σ2 W2 p2 ew2 e2=>ok.bk ρ2 S2 H2 σ2 W2 p2 ew2 (e2.trans e),fun ρ2 S2 H2 σ2 W2 p2 ew2 e2=>ok.ct ρ2 S2 H2 σ2 W2 p2 ew2 (e2.trans e),fun d v S2 H2 W2 p2 s r wk e2=>ok.rt d v S2 H2 W2 p2 s r wk (e2.trans e)⟩
abbrev B4:=jN->Wd->(Bool->Wd->Prop)->Prop
def PMB (X:Cx)(Z:Zc)(e:Expr)(t:B4):Prop:=∃t2,PT X e t2∧∀B S H σ ρ W Φ (Q:Bool->Hp->Prop),EW X.K Z B S H σ ρ W->t ρ W Φ->(∀b H' W',Φ b W'->SameX W H H'->adr W'=adr W->WOk X.K Z S H' W'->Q b H')->t2 σ H Q
abbrev jd0 (tc:B3):B4:=fun ρ W Φ=>tc ρ fun b=>Φ b W
theorem jcI (h:PB X e tc):PMB X Z e (jd0 tc):=by
 obtain⟨t2,h,w⟩:=h
 exact⟨t2,h,fun B S H σ ρ W Φ Q ew q hd=>w B S H σ ρ _ _ ew.er q fun b H' p s=>hd b H' W p (SameX.of s) rfl (ew.w.same s)⟩
abbrev wIf (tc:B4)(t u:S4):S4:=fun Φ ρ W=>tc ρ W fun b W'=>if b=true then t Φ ρ W' else u Φ ρ W'
theorem EndW.adr {K:PySem.W.Frag}{B:Bs}{W W':Wd}{Φ:F4->Prop}{D':jgs}(ok:EndW K Z B W Φ D')(e:D3.adr W'=D3.adr W):EndW K Z B W' Φ D' :=
 ⟨fun ρ2 S2 H2 σ2 W2 p2 ew2 e2=>ok.nx ρ2 S2 H2 σ2 W2 p2 ew2 (e2.trans e),fun ρ2 S2 H2 σ2 W2 p2 ew2 e2=>ok.bk ρ2 S2 H2 σ2 W2 p2 ew2 (e2.trans e),fun ρ2 S2 H2 σ2 W2 p2 ew2 e2=>ok.ct ρ2 S2 H2 σ2 W2 p2 ew2 (e2.trans e),fun d v S2 H2 W2 p2 s r wk e2=>ok.rt d v S2 H2 W2 p2 s r wk (e2.trans e)⟩
theorem jgl {tb:B4}(hc:PMB X Z c tb)(ha:jf1 X Z as t)(hb:jf1 X Z bs u):PSW X Z (.If c as bs pos) (wIf tb t u):=by
 obtain⟨c2,h,w⟩:=hc; obtain⟨t2,ha,wa⟩:=ha; obtain⟨u2,hb,wb⟩:=hb
 refine⟨_,jlo h ha hb,fun B S H σ ρ W Φ D' ew q ok=>w B S H σ ρ W _ _ ew q fun b H' W' p s e wk=>?_⟩
 have ew':=ew.goX s e wk
 cases b with
 | true =>
  have p:t Φ ρ W':=by simpa using p
  simp only [if_true]
  exact wa B S H' σ ρ W' Φ _ ew' p (ok.adr e)
 | false =>
  have p:u Φ ρ W':=by simpa using p
  simp only [Bool.false_eq_true,if_false]
  exact wb B S H' σ ρ W' Φ _ ew' p (ok.adr e)
abbrev juP (tm:E4):S4:=fun Φ ρ W=>tm ρ W fun d W'=>Φ (.rt d W')
theorem jov (h:PM X Z e tm):PSW X Z (.Return (some e) pos) (juP tm):=by
 obtain⟨t2,h,w⟩:=h
 exact⟨_,jnY h,fun B S H σ ρ W Φ D' ew q ok=>w B S H σ ρ W _ _ ew q fun d v H' W' p s e wk r=>ok.rt d v S H' W' p (ew.goX s e wk).er.same (r.sub ew.er.sub) wk e⟩
abbrev jt6 (i:Nat)(tm:E4):S4:=fun Φ ρ W=>tm ρ W fun d W'=>Φ (.nx (ρ.set i (.val d)) W')
theorem EW.put {K:PySem.W.Frag}{B:Bs}{S:Addr->Prop}{H:Hp}{σ:L2.St}{ρ:jN}{W:Wd}{i:Nat}{d:D}{v:V}(h:EW K Z B S H σ ρ W)(r:Rep K S H d v):EW K Z B S H (σ.set i (some v)) (ρ.set i (.val d)) W:=⟨h.er.put r,h.w,h.h0,h.no.set⟩
theorem joh {i:Nat}{x:Str}{pos':Pos}(hN:X.N.Nodup)(hi:X.N[i]?=some x)(hx:Loc X.env.scope x)(he:PM X Z e tm)(hs:swapsWith e (some (.Name x pos')) pos.line X.env=pure false:=by rfl)
  (hf:X.fn x=true∨X.env.scope.names.lookup x=some .local:=by first | exact .inl rfl | exact .inr rfl | assumption):PSW X Z (.Assign [.Name x pos'] e pos) (jt6 i tm):=by
 obtain⟨t2,h,w⟩:=he
 exact⟨_,jkT hN hi hx h hs hf,fun B S H σ ρ W Φ D' ew q ok=>w B S H σ ρ W _ _ ew q fun d v H' W' p s e wk r=>ok.nx _ S H' _ W' p ((ew.goX s e wk).put r) e⟩
abbrev jtW (tm:E4):S4:=fun Φ ρ W=>tm ρ W fun _ W'=>Φ (.nx ρ W')
theorem jrR (he:PM X Z e tm)(hs:swapsWith e none pos.line X.env=pure false:=by rfl):PSW X Z (.Expr e pos) (jtW tm):=by
 obtain⟨t2,h,w⟩:=he
 exact⟨_,jzx h hs,fun B S H σ ρ W Φ D' ew q ok=>w B S H σ ρ W _ _ ew q fun d v H' W' p s e wk r=>ok.nx _ S H' _ W' p (ew.goX s e wk) e⟩
end
def jmZ (K:PySem.W.Frag)(S:Addr->Prop)(H:Hp):Sl->V->Prop
 | .val d,v=>Rep K S H d v
 | .raw u,v=>v=u
 | _,_=>False
inductive RepsA (K:PySem.W.Frag)(S:Addr->Prop)(H:Hp):List Sl->List V->Prop
 | nil:RepsA K S H [] []
 | cons {a:Sl} {v:V} {as:List Sl} {vs:List V}:jmZ K S H a v->RepsA K S H as vs->RepsA K S H (a::as) (v::vs)
section
variable {K:PySem.W.Frag}{Z:Zc}{S S':Addr->Prop}{H H':Hp}{W W':Wd}
theorem RepsA.len:∀{as:List Sl} {vs:List V},RepsA K S H as vs->as.length=vs.length
 | _,_,.nil=>rfl
 | _,_,.cons _ r=>by rw [List.length_cons,List.length_cons,r.len]
theorem RepsA.get:∀{as:List Sl} {vs:List V},RepsA K S H as vs->∀(i:Nat) a,as[i]?=some a->∃v,vs[i]?=some v∧jmZ K S H a v
 | _,_,.nil,i,a,e=>by cases e
 | _,_,.cons (v:=v) h r,0,a,e=>by cases e; exact⟨v,rfl,h⟩
 | _,_,.cons h r,i+1,a,e=>r.get i a e
end
abbrev AA:=jN->(List Sl->Prop)->Prop
abbrev jhl:=List Sl->Wd->(D->Wd->Prop)->Prop
def ji3 (C:jhl):Prop:=∀as W (Φ Ψ:D->Wd->Prop),(∀d W',Φ d W'->Ψ d W')->C as W Φ->C as W Ψ
def spW (K:PySem.W.Frag)(Z:Zc)(n:Nat)(C:jhl):Sp:=fun vs H Q _=>∃as S W,as.length=n∧RepsA K S H as vs∧SOk S H∧WOk K Z S H W∧C as W fun d W'=>∀v H',SameX W H H'->adr W'=adr W->WOk K Z S H' W'->Rep K S H' d v->Q v H'
abbrev jbr (Φ:D->Wd->Prop):F4->Prop
 | .nx _ W=>Φ .non W
 | .rt d W=>Φ d W
 | _=>False
def ja0 (n:Nat)(as:List Sl):jN:=as++List.replicate (n - as.length) .un
def jhh (H:Hp)(W:Wd):Hp:=fun a=>if a∈W.map Ob.q then none else H a
section
variable {K:PySem.W.Frag}{Z:Zc}{S S':Addr->Prop}{H H':Hp}{W W':Wd}
theorem jvE:Same (jhh H W) H:=fun a o e=>by
 unfold jhh at e
 split at e
 ·cases e
 ·exact e
theorem joO {a:Addr}(h:∀w∈W,a≠w.q):jhh H W a=H a:=if_neg fun z=>by
 obtain⟨w,hw,e⟩:=List.mem_map.mp z
 exact h w hw e.symm
theorem jBd {w:Ob}(h:w∈W):jhh H W w.q=none:=if_pos (List.mem_map.mpr ⟨w,h,rfl⟩)
def jq0 (S:Addr->Prop)(W:Wd):Addr->Prop:=fun a=>S a∧∀w∈W,a≠w.q
theorem jcd {n:Nat}{as:List Sl}{i:Nat}{s:Sl}(e:(ja0 n as)[i]?=some s)(hs:s≠.un):as[i]?=some s:=by
 unfold ja0 at e
 rw [List.getElem?_append] at e
 split at e
 ·exact e
 ·rw [List.getElem?_replicate] at e
  split at e
  ·cases e; exact absurd rfl hs
  ·cases e
theorem jr8 {N:List Str}{vs:List V}{i:Nat}{v:V}(e:vs[i]?=some v):(L2.jbq N vs)[i]?=some (some v):=by
 unfold L2.jbq
 have hi:i<vs.length:=(List.getElem?_eq_some_iff.mp e).1
 rw [List.getElem?_append_left (by rw [List.length_map]; exact hi),List.getElem?_map,e]
 rfl
theorem jro {as:List Sl}{vs:List V}{N:List Str}(r:RepsA K S H as vs)(so:SOk S H)(w:WOk K Z S H W):EW K Z ⟨jq0 S W,jhh H W,[]⟩ S H (L2.jbq N vs) (ja0 N.length as) W where
 er:={
  len:=by
   unfold L2.jbq ja0
   rw [List.length_append,List.length_append,List.length_map,List.length_replicate,List.length_replicate,r.len]
  same:=jvE
  sub:=fun a z=>z.1
  ok0:=fun a z=>by
   obtain⟨o,e⟩:=so a z.1
   exact⟨o,by show jhh H W a=some o; rw [joO z.2]; exact e⟩
  ok:=so
  val:=fun i d q=>by
   obtain⟨v,ev,rv⟩:=r.get i _ (jcd q (fun z=>by cases z))
   exact⟨v,jr8 ev,rv⟩
  own:=fun i ds q=>by
   obtain⟨v,ev,rv⟩:=r.get i _ (jcd q (fun z=>by cases z))
   exact rv.elim
  uq:=fun i j a ds es q=>by
   obtain⟨v,ev,rv⟩:=r.get i _ (jcd q (fun z=>by cases z))
   exact rv.elim
  dct:=fun i ks ds q=>by
   obtain⟨v,ev,rv⟩:=r.get i _ (jcd q (fun z=>by cases z))
   exact rv.elim
  dq:=fun i j a ks ds ks' ds' q=>by
   obtain⟨v,ev,rv⟩:=r.get i _ (jcd q (fun z=>by cases z))
   exact rv.elim
  rf:=fun i v q=>by
   obtain⟨u,eu,ru⟩:=r.get i _ (jcd q (fun z=>by cases z))
   cases (show u=v from ru)
   exact jr8 eu
  rwx:=fun i vs q=>by
   obtain⟨v,ev,rv⟩:=r.get i _ (jcd q (fun z=>by cases z))
   exact rv.elim
  gh:=fun p hp=>by cases hp }
 w:=w
 h0:=fun o ho=>jBd ho
 no:=fun i ks ds q=>by
  obtain⟨v,ev,rv⟩:=r.get i _ (jcd q (fun z=>by cases z))
  exact rv.elim
theorem WOk.out (h:WOk K Z S' H W')(hq:∀w∈W',S w.q):WOk K Z S H W':=⟨fun o ho=>by
 have ok:=h.ob o ho
 obtain⟨xs,e,l,r⟩:=ok.at_
 exact⟨hq o ho,⟨xs,e,l,Reps.noL _ _ ok.nl r⟩,ok.nd,ok.nl,ok.ins⟩,h.nd⟩
theorem Rep.out {d:D}{v:V}(hd:∀w∈W,∃kv,H w.q=some (.dK kv))(r:Rep K (jq0 S W) H d v):Rep K S H d v:=by
 refine Rep.map (fun _ _ q=>q) (fun b xs q=>?_) d v r
 rcases q with⟨n,q⟩ | q
 ·refine .inl ⟨fun z=>n ⟨z,fun w hw e=>?_⟩,q⟩
  obtain⟨kv,e'⟩:=hd w hw
  rw [←e] at e'
  rcases q with q | ⟨o,q⟩ <;> (rw [e'] at q; cases q)
 ·exact .inr q
end
section
variable {P:Program}{w:World}{K:PySem.W.Frag}{mg:Str->Option Value}{base:Heap}{Z:Zc}
theorem jn6 {x qual:Str}{st:Stmt}{f:Addr}{fd:FuncData}{N ps:List Str}{k:Nat}{C:jhl}(mo:ji3 C)(F:Fun K x qual st f fd)(S:jx N ps (ji st))
  (body:∀(cdv:Value) (A:Around) (outer:List Env) (s:Shared) (H:Hp) (E:XK),Room k (A.deeper (envOfC qual (ji st) s.heap.objs.size f cdv)) ->
   ∃t,jf1 (jbU j0 P w K mg base N qual (ji st) f cdv A outer s H E).nox Z (jan st) t∧∀as W Φ,as.length=ps.length->C as W Φ->t (jbr Φ) (ja0 N.length as) W) :
  FnOk P w K mg base j0 (k+1) f fd ps (spW K Z ps.length C):=by
 refine F.ok S (fun vs H Q E h=>?_) (fun cdv A outer s H vs Q E hr h=>?_)
 ·obtain⟨as,S,W,hl,r,_⟩:=h
  rw [←r.len]; exact hl
 ·obtain⟨t,⟨t2,ht,wt⟩,rd⟩:=body cdv A outer s H E hr
  obtain⟨as,S,W,hl,r,so,wk,hc⟩:=h
  have fin:∀d v S' H' W',(∀v H',SameX W H H'->adr W'=adr W->WOk K Z S H' W'->Rep K S H' d v->Q v H')->Same (jhh H W) H'->Rep K (jq0 S W) H' d v->WOk K Z S' H' W'->adr W'=adr W->Q v H':=fun d v S' H' W' h s r' wk' e=>by
   have hq:∀u∈W',S u.q:=fun u hu=>by
    obtain⟨o,ho,eq,_⟩:=jnw e hu
    rw [←eq]
    exact(wk.ob o ho).s
   have hd:∀u∈W,∃kv,H' u.q=some (.dK kv):=fun u hu=>by
    obtain⟨o,ho,eq,_⟩:=jnw e.symm hu
    rw [←eq]
    exact wk'.dict o ho
   exact h v H' (fun a o n ea=>s a o (by rw [joO n]; exact ea)) e (wk'.out hq) (r'.out hd)
  refine⟨t2,ht,wt ⟨jq0 S W,jhh H W,[]⟩ S H (L2.jbq N vs) (ja0 N.length as) W _ _ (jro r so wk) (rd as W _ hl hc) ⟨fun ρ S' H' σ W' p ew e=>fin .non .non S' H' W' p ew.er.same Rep.non ew.w e,fun _ _ _ _ _ p=>p.elim,fun _ _ _ _ _ p=>p.elim,fun d v S' H' W' p s r' wk' e=>fin d v S' H' W' p s r' wk' e⟩⟩
end
section
variable {α:Type}
def jP:List Str->List α->Str->Option α
 | k::ks,d::ds,x=>if k=x then some d else jP ks ds x
 | _,_,_=>none
def jfK (ks:List Str)(x:Str):List Str:=if x∈ks then ks else ks++[x]
def jfo:List Str->List α->Str->α->List α
 | k::ks,d::ds,x,v=>(if k=x then v else d)::jfo ks ds x v
 | _,_,_,_=>[]
def jc1 (ks:List Str)(ds:List α)(x:Str)(v:α):List α:=if x∈ks then jfo ks ds x v else ds++[v]
def jkt (ks:List Str)(x:Str):List Str:=ks.filter fun k=>decide (k≠x)
def jbJ:List Str->List α->Str->List α
 | k::ks,d::ds,x=>if k=x then jbJ ks ds x else d::jbJ ks ds x
 | _,_,_=>[]
end
theorem jlF:∀(ks:List Str) (xs:List V) (x:Str),jdz (kvs ks xs) (Sum.inr x:Key)=jP ks xs x
 | [],_,_=>rfl
 | _::_,[],_=>rfl
 | k::ks,v::xs,x=>by
  have ih:=jlF ks xs x
  unfold jdz kvs at ih ⊢
  simp only [List.map_cons,List.zip_cons_cons,List.find?_cons,jP]
  by_cases h:k=x
  ·subst h; simp
  ·have:¬(Sum.inr k:Key)=Sum.inr x:=fun z=>h (Sum.inr.inj z)
   simp only [this,decide_false,h,if_false]
   exact ih
theorem jtz:∀{ks:List Str} {xs:List V} {x:Str},ks.length=xs.length->((kvs ks xs).any fun kv=>decide (kv.1=(Sum.inr x:Key)))=decide (x∈ks)
 | [],_,_,_=>by simp [kvs]
 | k::ks,[],_,h=>by cases h
 | k::ks,v::xs,x,h=>by
  have ih:=jtz (x:=x) (Nat.succ.inj h)
  unfold kvs at ih ⊢
  simp only [List.map_cons,List.zip_cons_cons,List.any_cons,ih,List.mem_cons]
  by_cases e:x=k
  ·subst e; simp
  ·have e':¬k=x:=fun z=>e z.symm
   simp [e,e']
theorem jzh {ks:List Str}{xs:List V}{x:Str}{v:V}(h:ks.length=xs.length):jey (kvs ks xs) (Sum.inr x:Key) v=kvs (jfK ks x) (jc1 ks xs x v):=by
 unfold jey
 rw [jtz h]
 unfold jfK jc1
 by_cases e:x∈ks
 ·rw [if_pos (decide_eq_true e),if_pos e,if_pos e]
  clear e
  induction ks generalizing xs with
  | nil=>rfl
  | cons k ks ih =>
   cases xs with
   | nil=>cases h
   | cons y xs =>
    have:=ih (Nat.succ.inj h)
    unfold kvs at this ⊢
    simp only [List.map_cons,List.zip_cons_cons,jfo]
    rw [this]
    by_cases e:k=x
    ·subst e; simp
    ·have:¬(Sum.inr k:Key)=Sum.inr x:=fun z=>e (Sum.inr.inj z)
     simp [e,this]
 ·rw [if_neg (by rw [decide_eq_false e]; exact Bool.false_ne_true),if_neg e,if_neg e]
  unfold kvs
  rw [List.map_append,List.zip_append (by rw [List.length_map]; exact h)]
  rfl
theorem jrm:∀(ks:List Str) (xs:List V) (x:Str),ks.length=xs.length->jjf (kvs ks xs) (Sum.inr x:Key)=kvs (jkt ks x) (jbJ ks xs x)
 | [],_,_,_=>rfl
 | _::_,[],_,h=>by cases h
 | k::ks,v::xs,x,h=>by
  have ih:=jrm ks xs x (Nat.succ.inj h)
  unfold jjf kvs jkt at ih ⊢
  simp only [List.map_cons,List.zip_cons_cons,List.filter_cons,jbJ]
  by_cases e:k=x
  ·subst e; simp only [ne_eq,not_true_eq_false,decide_false,Bool.false_eq_true,if_false,if_true]; exact ih
  ·have:¬(Sum.inr k:Key)=Sum.inr x:=fun z=>e (Sum.inr.inj z)
   simp only [ne_eq,this,e,not_false_eq_true,decide_true,if_true,if_false,List.map_cons,List.zip_cons_cons]
   rw [ih]
section
variable {K:PySem.W.Frag}{S:Addr->Prop}{H:Hp}
theorem jiZ:∀{ks:List Str} {ds:List D} {xs:List V} {x:Str} {d:D},Reps K S H ds xs->jP ks ds x=some d->∃v,jP ks xs x=some v∧Rep K S H d v
 | [],_,_,_,_,_,e=>by cases e
 | _::_,[],_,_,_,_,e=>by cases e
 | k::ks,c::ds,xs,x,d,r,e=>by
  simp only [Reps] at r
  obtain⟨v,vs,rfl,rv,r⟩:=r
  unfold jP at e ⊢
  split at e
  ·rename_i h; cases e; rw [if_pos h]; exact⟨v,rfl,rv⟩
  ·rename_i h; rw [if_neg h]; exact jiZ r e
theorem jpz:∀{ks:List Str} {ds:List D} {xs:List V} {x:Str} {d:D} {v:V},Reps K S H ds xs->Rep K S H d v->Reps K S H (jfo ks ds x d) (jfo ks xs x v)
 | [],_,_,_,_,_,_,_=>Reps.nil
 | _::_,[],xs,_,_,_,r,_=>by
  simp only [Reps] at r
  subst r
  exact Reps.nil
 | k::ks,c::ds,xs,x,d,v,r,rd=>by
  simp only [Reps] at r
  obtain⟨u,vs,rfl,ru,r⟩:=r
  unfold jfo
  refine Reps.cons ?_ (jpz r rd)
  split
  ·exact rd
  ·exact ru
theorem ju3 {ks:List Str}{ds:List D}{xs:List V}{x:Str}{d:D}{v:V}(r:Reps K S H ds xs)(rd:Rep K S H d v):Reps K S H (jc1 ks ds x d) (jc1 ks xs x v):=by
 unfold jc1
 split
 ·exact jpz r rd
 ·exact r.app (Reps.cons rd Reps.nil)
theorem jkj:∀{ks:List Str} {ds:List D} {xs:List V} {x:Str},Reps K S H ds xs->Reps K S H (jbJ ks ds x) (jbJ ks xs x)
 | [],_,_,_,_=>Reps.nil
 | _::_,[],xs,_,r=>by
  simp only [Reps] at r
  subst r
  exact Reps.nil
 | k::ks,c::ds,xs,x,r=>by
  simp only [Reps] at r
  obtain⟨u,vs,rfl,ru,r⟩:=r
  unfold jbJ
  split
  ·exact jkj r
  ·exact Reps.cons ru (jkj r)
theorem jw9 {α:Type}{ks:List Str}{ds:List α}{x:Str}{v:α}(h:ks.length=ds.length):(jfK ks x).length=(jc1 ks ds x v).length:=by
 have e:∀(ks:List Str) (ds:List α),ks.length=ds.length->(jfo ks ds x v).length=ks.length:=by
  intro ks
  induction ks with
  | nil=>intro ds _; rfl
  | cons k ks ih =>
   intro ds h
   cases ds with
   | nil=>cases h
   | cons d ds=>simp only [jfo,List.length_cons,ih ds (Nat.succ.inj h)]
 unfold jfK jc1
 split
 ·exact(e ks ds h).symm
 ·rw [List.length_append,List.length_append,h]; rfl
theorem jpB {α:Type}{x:Str}:∀{ks:List Str} {ds:List α},ks.length=ds.length->(jkt ks x).length=(jbJ ks ds x).length
 | [],_,_=>rfl
 | _::_,[],h=>by cases h
 | k::ks,d::ds,h=>by
  have ih:=jpB (x:=x) (ks:=ks) (ds:=ds) (Nat.succ.inj h)
  unfold jkt at ih ⊢
  simp only [List.filter_cons,jbJ]
  by_cases e:k=x
  ·simp only [e,ne_eq,not_true_eq_false,decide_false,Bool.false_eq_true,if_false,if_true]
   rw [←e]
   rw [←e] at ih
   exact ih
  ·simp only [e,ne_eq,not_false_eq_true,decide_true,if_true,if_false,List.length_cons,ih]
theorem jy4 {ks:List Str}{x:Str}(h:ks.Nodup):(jfK ks x).Nodup:=by
 unfold jfK
 split
 ·exact h
 ·rename_i n
  refine List.nodup_append.mpr ⟨h,List.nodup_cons.mpr ⟨List.not_mem_nil,List.nodup_nil⟩,fun a ha b hb e=>?_⟩
  rw [List.mem_singleton.mp hb] at e
  exact n (e▸ha)
theorem jwV {ds:List D}(h:ja4 ds):∀d∈ds,NoL d:=by
 induction ds with
 | nil=>intro d hd; cases hd
 | cons c ds ih =>
  simp only [ja4] at h
  intro d hd
  rcases List.mem_cons.mp hd with rfl | hd
  ·exact h.1
  ·exact ih h.2 d hd
theorem jzm {ks:List Str}{x:Str}{v:D}(hv:NoL v):∀{ds:List D},ja4 ds->ja4 (jfo ks ds x v):=by
 induction ks with
 | nil=>intro ds _; simp only [jfo,ja4]
 | cons k ks ih =>
  intro ds h
  cases ds with
  | nil=>simp only [jfo,ja4]
  | cons d ds =>
   simp only [ja4] at h
   simp only [jfo,ja4]
   refine⟨?_,ih h.2⟩
   split
   ·exact hv
   ·exact h.1
theorem jyX {ks:List Str}{x:Str}{v:D}{ds:List D}(hv:NoL v)(h:ja4 ds):ja4 (jc1 ks ds x v):=by
 unfold jc1
 split
 ·exact jzm hv h
 ·refine jtJ fun d hd=>?_
  rcases List.mem_append.mp hd with hd | hd
  ·exact jwV h d hd
  ·rw [List.mem_singleton.mp hd]; exact hv
theorem jzn {ks:List Str}{x:Str}:∀{ds:List D},ja4 ds->ja4 (jbJ ks ds x):=by
 induction ks with
 | nil=>intro ds _; simp only [jbJ,ja4]
 | cons k ks ih =>
  intro ds h
  cases ds with
  | nil=>simp only [jbJ,ja4]
  | cons d ds =>
   simp only [ja4] at h
   simp only [jbJ]
   split
   ·exact ih h.2
   ·simp only [ja4]; exact⟨h.1,ih h.2⟩
end
def jex (W:Wd)(o:Ob):Wd:=W.map fun u=>if u.q=o.q then o else u
def Ob.put (o:Ob)(x:Str)(d:D):Ob:={ o with ks:=jfK o.ks x,ds:=jc1 o.ks o.ds x d }
def Ob.drop (o:Ob)(x:Str):Ob:={ o with ks:=jkt o.ks x,ds:=jbJ o.ks o.ds x }
section
variable {K:PySem.W.Frag}{Z:Zc}{B:Bs}{S:Addr->Prop}{H:Hp}{σ:L2.St}{ρ:jN}{W:Wd}
theorem jA6:∀{W:Wd} {o u:Ob},(W.map Ob.q).Nodup->o∈W->u∈W->u.q=o.q->u=o
 | [],_,_,_,h,_,_=>by cases h
 | w::W,o,u,nd,ho,hu,e=>by
  have nd':=List.nodup_cons.mp nd
  rcases List.mem_cons.mp ho with h1 | h1
  ·rcases List.mem_cons.mp hu with h2 | h2
   ·rw [h1,h2]
   ·exact absurd (List.mem_map.mpr ⟨u,h2,by rw [e,h1]⟩) nd'.1
  ·rcases List.mem_cons.mp hu with h2 | h2
   ·exact absurd (List.mem_map.mpr ⟨o,h1,by rw [←e,h2]⟩) nd'.1
   ·exact jA6 nd'.2 h1 h2 e
theorem jmM {o o':Ob}(nd:(W.map Ob.q).Nodup)(ho:o∈W)(e1:o'.q=o.q)(e2:o'.p=o.p):adr (jex W o')=adr W:=by
 unfold adr jex
 rw [List.map_map]
 refine List.map_congr_left fun u hu=>?_
 show ((if u.q=o'.q then o' else u).q,(if u.q=o'.q then o' else u).p)=(u.q,u.p)
 split
 ·rename_i h
  have:=jA6 nd ho hu (h.trans e1)
  rw [this,e1,e2]
 ·rfl
theorem jzy {o o':Ob}(nd:(W.map Ob.q).Nodup)(ho:o∈W)(e1:o'.q=o.q)(e2:o'.p=o.p):(jex W o').map Ob.q=W.map Ob.q:=by
 have:=congrArg (List.map Prod.fst) (jmM nd ho e1 e2)
 unfold adr at this
 rw [List.map_map,List.map_map] at this
 exact this
theorem WOk.set {o o':Ob}{xs:List V}(h:WOk K Z S H W)(ho:o∈W)(e1:o'.q=o.q)(e2:o'.p=o.p)(nd:o'.ks.Nodup)(nl:ja4 o'.ds)(l:o'.ks.length=xs.length)(r:Reps K S H o'.ds xs) :
  WOk K Z S (j1 H o.q (.dK (kvs o'.ks xs))) (jex W o')∧SameX W H (j1 H o.q (.dK (kvs o'.ks xs))):=by
 have sx:SameX W H (j1 H o.q (.dK (kvs o'.ks xs))):=fun a u n e=>by rw [jO (n o ho)]; exact e
 refine⟨⟨fun u hu=>?_,by rw [jzy h.nd ho e1 e2]; exact h.nd⟩,sx⟩
 have insx:∀v:Ob,v∈W->(v.p=v.q∨∃dx,j1 H o.q (.dK (kvs o'.ks xs)) v.p=some (.ins Z.C dx [(Z.f,.ref v.q)])):=fun v hv=>(h.ob v hv).ins.imp id fun⟨dx,e⟩=>⟨dx,by
  have:v.p≠o.q:=fun z=>by
   obtain⟨kv,e'⟩:=h.dict o ho
   rw [z,e'] at e
   cases e
  rw [jO this]; exact e⟩
 obtain⟨v,hv,ev⟩:=List.mem_map.mp hu
 by_cases hq:v.q=o'.q
 ·rw [if_pos hq] at ev
  subst ev
  have hi:=insx o ho
  rw [←e1,←e2] at hi
  have s:=(h.ob o ho).s
  rw [←e1] at s
  refine⟨s,⟨xs,?_,l,r.sameX h.dict sx⟩,nd,nl,?_⟩
  ·rw [e1]; exact jaA
  ·rw [e1] at hi ⊢; exact hi
 ·rw [if_neg hq] at ev
  subst ev
  have ok:=h.ob v hv
  obtain⟨ys,e,l',r'⟩:=ok.at_
  refine⟨ok.s,⟨ys,?_,l',r'.sameX h.dict sx⟩,ok.nd,ok.nl,insx v hv⟩
  rw [jO (fun z=>hq (by rw [z,e1]))]; exact e
end
abbrev Q4:=jN->Wd->(Ob->Prop)->Prop
def PQ (X:Cx)(Z:Zc)(e:Expr)(g:D3.Q4):Prop:=∃t2,PE X e t2∧∀B S H σ ρ W Φ Q,EW X.K Z B S H σ ρ W->g ρ W Φ->(∀o∈W,Φ o->Q (.ref o.q) H)->t2 σ H Q
section
variable {X:Cx}{Z:Zc}{e k v:Expr}{g:D3.Q4}{tk tv:E3}{pos pos' apos cpos:Pos}
abbrev jmU (i:Nat):D3.Q4:=fun ρ W Φ=>match ρ[i]? with | some (.raw (.ref p))=>∃o∈W,o.p=p∧o.p≠o.q∧Φ o | _=>False
theorem jhK {i:Nat}(he:PE X e (jgq i))(c:Cls X.K Z.C)(n:NoAttr X.K Z.C Z.f)(hb:attributeBase e Z.f X.env (eval e X.env)=eval e X.env):PQ X Z (.Attribute e Z.f pos) (jmU i):=by
 refine⟨_,jAU he hb,fun B S H σ ρ W Φ Q ew q k=>?_⟩
 unfold jmU at q
 split at q
 ·rename_i p e0
  obtain⟨o,ho,rfl,hpq,hΦ⟩:=q
  obtain⟨dx,ei⟩:=(ew.w.ob o ho).ins.resolve_left hpq
  exact⟨.ref o.p,ew.er.rf i _ e0,o.p,Z.C,dx,_,.ref o.q,rfl,ei,c,n,by rw [List.lookup_cons,beq_self_eq_true],k o ho hΦ⟩
 ·exact q.elim
theorem ju5 {K:PySem.W.Frag}{S:Addr->Prop}{H:Hp}{o:Ob}(h:ObOk K Z S H o)(x:Str):∃r,DGet H o.q (.str x) r∧r.isSome=decide (x∈o.ks)∧∀d,jP o.ks o.ds x=some d->∃v,r=some v∧Rep K S H d v:=by
 obtain⟨xs,e,l,rs⟩:=h.at_
 refine⟨_,DGet.k (k:=Sum.inr x) e,?_,fun d hd=>?_⟩
 ·rw [jlF]
  have:∀(ks:List Str) (xs:List V),ks.length=xs.length->(jP ks xs x).isSome=decide (x∈ks):=by
   intro ks
   induction ks with
   | nil=>intro xs _; simp [jP]
   | cons k ks ih =>
    intro xs h
    cases xs with
    | nil=>cases h
    | cons v xs =>
     unfold jP
     by_cases e:k=x
     ·simp [e]
     ·have e':¬x=k:=fun z=>e z.symm
      rw [if_neg e,ih xs (Nat.succ.inj h)]
      simp [e']
  exact this _ _ l
 ·rw [jlF]
  exact jiZ rs hd
abbrev jwq (tk:E3)(g:D3.Q4)(neg:Bool):B4:=fun ρ W Φ=>tk ρ fun d=>match d with | .str x=>g ρ W fun o=>Φ (neg ^^ decide (x∈o.ks)) W | _=>False
theorem jp6 (hu:X.A.units+1<cLine)(hk:PD X k tk)(hg:PQ X Z e g)(h1:behindInMarks .NotIn e=false:=by first | exact jri _ (by decide) (by decide) | rfl):PMB X Z (.Compare k [.NotIn] [e] pos) (jwq tk g true):=by
 obtain⟨t1,hk,wk⟩:=hk; obtain⟨t2,hg,wg⟩:=hg
 refine⟨_,jAb (jvJ hu hk hg) h1,fun B S H σ ρ W Φ Q ew q hd=>wk B S H σ ρ _ _ ew.er q fun d v H1 p s r=>?_⟩
 cases d <;> first | exact p.elim | skip
 rename_i x
 simp only [Rep] at r
 subst r
 refine wg B S H1 σ ρ W _ _ (ew.go s) p fun o ho hΦ=>?_
 obtain⟨r,hr,hs,_⟩:=ju5 ((ew.go s).w.ob o ho) x
 refine⟨o.q,r,rfl,hr,!r.isSome,rfl,?_⟩
 rw [hs]
 rw [Bool.true_xor] at hΦ
 exact hd _ H1 W hΦ (SameX.of s) rfl (ew.w.same s)
abbrev jzT (g:D3.Q4)(tk:E3):E4:=fun ρ W Φ=>g ρ W fun o=>tk ρ fun d=>match d with | .str x=>∃c,jP o.ks o.ds x=some c∧Φ c W | _=>False
theorem jBf (hu:X.A.units+1<cLine)(hg:PQ X Z e g)(hk:PD X k tk)(hs:jmt k):PM X Z (.Subscript e k pos) (jzT g tk):=by
 obtain⟨t1,hk,wk⟩:=hk; obtain⟨t2,hg,wg⟩:=hg
 refine⟨_,jyx hu hg hk hs,fun B S H σ ρ W Φ Q ew q hd=>wg B S H σ ρ W _ _ ew q fun o ho hΦ=>wk B S H σ ρ _ _ ew.er hΦ fun d v H1 p s r=>?_⟩
 cases d <;> first | exact p.elim | skip
 rename_i x
 simp only [Rep] at r
 subst r
 obtain⟨c,ec,hc⟩:=p
 obtain⟨r,hr,_,hv⟩:=ju5 ((ew.go s).w.ob o ho) x
 obtain⟨v,rfl,rv⟩:=hv c ec
 exact⟨o.q,v,rfl,hr,hd c v H1 W hc (SameX.of s) rfl (ew.w.same s) rv⟩
abbrev jz0 (g:D3.Q4)(tk:E3):E4:=fun ρ W Φ=>g ρ W fun o=>tk ρ fun d=>match d with | .str x=>∃c,jP o.ks o.ds x=some c∧Φ c (jex W (o.drop x)) | _=>False
theorem jAc (hg:PQ X Z e g)(hk:PD X k tk)(m:M1 X e "pop" apos k cpos):PM X Z (.Call (.Attribute e "pop" apos) [k] [] cpos) (jz0 g tk):=by
 obtain⟨t1,hk,wk⟩:=hk; obtain⟨t2,hg,wg⟩:=hg
 refine⟨_,jws hg hk m,fun B S H σ ρ W Φ Q ew q hd=>wg B S H σ ρ W _ _ ew q fun o ho hΦ=>?_⟩
 obtain⟨kv,ekv⟩:=ew.w.dict o ho
 refine⟨o.q,rfl,.inl ⟨kv,.inl ekv⟩,wk B S H σ ρ _ _ ew.er hΦ fun d v H1 p s r=>?_⟩
 cases d <;> first | exact p.elim | skip
 rename_i x
 simp only [Rep] at r
 subst r
 obtain⟨c,ec,hc⟩:=p
 have ew2:=ew.go s
 have okb:=ew2.w.ob o ho
 obtain⟨xs,e,l,rs⟩:=okb.at_
 obtain⟨y,ey,ry⟩:=jiZ rs ec
 obtain⟨hw,sx⟩:=ew2.w.set (o':=o.drop x) (xs:=jbJ o.ks xs x) ho rfl rfl (okb.nd.filter _) (jzn okb.nl) (jpB l) (jkj rs)
 have ea:=jmM (o':=o.drop x) ew2.w.nd ho rfl rfl
 refine⟨_,Sum.inr x,y,e,rfl,by rw [jlF]; exact ey,?_⟩
 rw [jrm _ _ _ l]
 exact hd c y _ _ hc ((SameX.of s).trans sx) ea hw (ry.sameX ew2.w.dict sx)
end
abbrev ju7 (k:(F4->Prop)->jN->Wd->Prop)(Φ:F4->Prop):F4->Prop
 | .nx ρ W=>k Φ ρ W
 | .ct ρ W=>k Φ ρ W
 | .bk ρ W=>Φ (.nx ρ W)
 | .rt d W=>Φ (.rt d W)
def jhs (g:G3)(tb:S4):List D->(F4->Prop)->jN->Wd->Prop
 | [],Φ,ρ,W=>Φ (.nx ρ W)
 | d::ds,Φ,ρ,W=>g d ρ fun ρ1=>noDct ρ1∧tb (ju7 (jhs g tb ds) Φ) ρ1 W
section
variable {K:PySem.W.Frag}{Z:Zc}{B:Bs}{S:Addr->Prop}{H:Hp}{σ:L2.St}{ρ:jN}{W:Wd}{hs:List (D×V)}
theorem EW.holds (h:EW K Z B S H σ ρ W)(r:∀p∈hs,Rep K S H p.1 p.2):EW K Z { B with gh:=hs++B.gh } S H σ ρ W:=⟨h.er.holds r,h.w,h.h0,h.no⟩
theorem EW.unholds (h:EW K Z { B with gh:=hs++B.gh } S H σ ρ W):EW K Z B S H σ ρ W:=⟨h.er.unholds,h.w,h.h0,h.no⟩
end
section
variable {X:Cx}{Z:Zc}{tg iter e c a b:Expr}{jJ:List Expr}{body:List Stmt}{ti:A3}{g:G3}{tb:S4}{te:E3}{tm:E4}{tA tB':B4}{pos:Pos}
abbrev juK (ti:A3)(g:G3)(tb:S4):S4:=fun Φ ρ W=>ti ρ fun ds=>jhs g tb ds Φ ρ W
theorem jow (hp:PassesOwn (model X.prog X.w) X.A X.env X.xe)(hc:X.calm=true)(hi:PID X tg iter ti)(hg:PGD X tg g)(hb:jf1 X Z body tb)
  (hfs:∀x,foldedSetIterable iter X.env x=pure x:=by intro _; rfl):PSW X Z (.For tg iter body [] pos) (juK ti g tb):=by
 obtain⟨wi,hi,ww⟩:=hi; obtain⟨g2,hg,wg⟩:=hg; obtain⟨b2,hb,wb⟩:=hb
 refine⟨_,jvO hp hc hi hg hb hfs,fun B S H σ ρ W Φ D' ew q ok=>ww B S H σ ρ _ _ ew.er q fun ds J hs H1 hΦ s1 rv wk=>?_⟩
 refine⟨fun i m σ' H'=>m=ds.length - i∧i≤ds.length∧∃S' ρ' W',adr W'=adr W∧EW X.K Z { B with gh:=hs++B.gh } S' H' σ' ρ' W'∧jhs g tb (ds.drop i) Φ ρ' W',⟨_,rfl,Nat.zero_le _,S,ρ,W,rfl,(ew.go s1).holds rv,hΦ⟩,?_⟩
 rintro i m σ' H' ⟨rfl,hi,S',ρ',W',ea,ew',hf⟩
 have rg:=fun p (hp:p∈hs)=>ew'.er.gh p (List.mem_append_left _ hp)
 obtain⟨wstop,wgo⟩:=wk S' H' rg
 by_cases hlt:i<ds.length
 ·obtain⟨go,yl⟩:=wgo i hlt
  rw [List.drop_eq_getElem_cons hlt] at hf
  refine .inr ⟨go,fun σ2 H2=>∃S2 ρ2 W2,adr W2=adr W∧EW X.K Z { B with gh:=hs++B.gh } S2 H2 σ2 ρ2 W2∧jhs g tb (ds.drop (i+1)) Φ ρ2 W2,fun σ2 H2 h2=>⟨_,by omega,rfl,hlt,h2⟩,fun x H2 y=>?_⟩
  obtain⟨sy,e',ee,re⟩:=yl x H2 y
  rw [List.getElem?_eq_getElem hlt] at ee
  cases ee
  refine wg _ S' _ σ' ρ' _ x _ _ (ew'.er.go sy) re hf fun ρ1 σ1 h1 er1=>wb _ S' _ σ1 ρ1 W' _ _ ⟨er1,ew'.w.same sy,ew'.h0,h1.1⟩ h1.2 ⟨fun ρ2 S2 H2 σ2 W2 p ew2 e2=>⟨S2,ρ2,W2,e2.trans ea,ew2,p⟩,fun ρ2 S2 H2 σ2 W2 p ew2 e2=>ok.nx ρ2 S2 H2 σ2 W2 p ew2.unholds (e2.trans ea),fun ρ2 S2 H2 σ2 W2 p ew2 e2=>⟨S2,ρ2,W2,e2.trans ea,ew2,p⟩,fun c u S2 H2 W2 p s2 r2 wk2 e2=>ok.rt c u S2 H2 W2 p s2 r2 wk2 (e2.trans ea)⟩
 ·have hi':i=ds.length:=by omega
  subst hi'
  rw [List.drop_length] at hf
  exact .inl ⟨wstop,ok.nx ρ' S' H' σ' W' hf ew'.unholds ea⟩
abbrev mOp (r:R3)(tm:E4)(te:E3):E4:=fun ρ W Φ=>tm ρ W fun d W'=>te ρ fun e=>r d e fun z=>Φ z W'
theorem juQ {op:CmpOp}{r:R3}(ho:OpD X (compareOp op) r)(ha:PM X Z a tm)(hb:PD X b te)(hm:behindInMarks op b=false):PM X Z (.Compare a [op] [b] pos) (mOp r tm te):=by
 obtain⟨r2,ho,wr⟩:=ho; obtain⟨ta2,ha,wa⟩:=ha; obtain⟨tb2,hb,wb⟩:=hb
 refine⟨_,jtF ho ha hb hm,fun B S H σ ρ W Φ Q ew q hd=>wa B S H σ ρ W _ _ ew q fun d v H1 W1 p1 s1 e1 wk1 r1=>?_⟩
 have ew1:=ew.goX s1 e1 wk1
 exact wb B S H1 σ ρ _ _ ew1.er p1 fun y u H2 p2 s2 r2'=>wr S H2 d y v u _ Q (ew1.er.ok.same s2) (r1.same s2) r2' p2 fun z x H3 p3 s3 r3=>hd z x H3 W1 p3 (s1.trans (SameX.of (s2.trans s3))) e1 (wk1.same (s2.trans s3)) r3
abbrev mT (tm:E4):B4:=fun ρ W Φ=>tm ρ W fun d W'=>match d with | .bl k=>Φ k W' | _=>False
theorem jyN {t2:TE}(w:∀B S H σ ρ W Φ Q,EW X.K Z B S H σ ρ W->tm ρ W Φ->jnZ X.K Z S H W Φ Q->t2 σ H Q) :
  ∀B S H σ ρ W Φ (Q:Bool->Hp->Prop),EW X.K Z B S H σ ρ W->mT tm ρ W Φ->(∀b H' W',Φ b W'->SameX W H H'->adr W'=adr W->WOk X.K Z S H' W'->Q b H')->jt7 t2 σ H Q:=fun B S H σ ρ W Φ Q ew h hd =>
 w B S H σ ρ W _ _ ew h fun d v H' W' p s e wk r=>by
  cases d <;> first | exact p.elim | skip
  exact⟨_,jaz r,hd _ H' W' p s e wk⟩
theorem jfU {op:CmpOp}{r:R3}(ho:OpD X (compareOp op) r)(ha:PM X Z a tm)(hb:PD X b te)(hm:behindInMarks op b=false):PMB X Z (.Compare a [op] [b] pos) (mT (mOp r tm te)):=by
 obtain⟨r2,ho,wr⟩:=ho; obtain⟨ta2,ha,wa⟩:=ha; obtain⟨tb2,hb,wb⟩:=hb
 refine⟨_,jlw ho ha hb hm,jyN fun B S H σ ρ W Φ Q ew q hd=>wa B S H σ ρ W _ _ ew q fun d v H1 W1 p1 s1 e1 wk1 r1=>?_⟩
 have ew1:=ew.goX s1 e1 wk1
 exact wb B S H1 σ ρ _ _ ew1.er p1 fun y u H2 p2 s2 r2'=>wr S H2 d y v u _ Q (ew1.er.ok.same s2) (r1.same s2) r2' p2 fun z x H3 p3 s3 r3=>hd z x H3 W1 p3 (s1.trans (SameX.of (s2.trans s3))) e1 (wk1.same (s2.trans s3)) r3
end
def PWM (X:Cx)(Z:Zc)(e:Expr)(t:B4):Prop:=∃t2,PW X e t2∧∀B S H σ ρ W Φ (Q:Bool->Hp->Prop),EW X.K Z B S H σ ρ W->t ρ W Φ->(∀b H' W',Φ b W'->SameX W H H'->adr W'=adr W->WOk X.K Z S H' W'->Q b H')->t2 σ H Q
section
variable {X:Cx}{Z:Zc}{a b:Expr}{jJ:List Expr}{tA tB':B4}{pos:Pos}
theorem PWM.pmb {e:Expr}{t:B4}(h:PWM X Z e t):PMB X Z e t:=let ⟨t2,h,w⟩:=h; ⟨t2,h.pt,w⟩
theorem jyP (ha:PMB X Z a tA):PWM X Z (.BoolOp .Or [a] pos) tA:=let ⟨t2,h,w⟩:=ha; ⟨t2,jvd h,w⟩
abbrev jzJ (t u:B4):B4:=fun ρ W Φ=>t ρ W fun k W'=>if k=true then Φ true W' else u ρ W' Φ
theorem jAv (ha:PMB X Z a tA)(hb:PWM X Z (.BoolOp .Or (b::jJ) pos) tB'):PWM X Z (.BoolOp .Or (a::b::jJ) pos) (jzJ tA tB'):=by
 obtain⟨t2,h,w⟩:=ha; obtain⟨u2,g,z⟩:=hb
 refine⟨_,jxR h g,fun B S H σ ρ W Φ Q ew q hd=>w B S H σ ρ W _ _ ew q fun k H1 W1 hk s1 e1 wk1=>?_⟩
 cases k with
 | true =>
  have hk:Φ true W1:=by simpa using hk
  simp only [if_true]
  exact hd true H1 W1 hk s1 e1 wk1
 | false =>
  have hk:tB' ρ W1 Φ:=by simpa using hk
  simp only [Bool.false_eq_true,if_false]
  exact z B S H1 σ ρ W1 _ _ (ew.goX s1 e1 wk1) hk fun k2 H2 W2 h2 s2 e2 wk2=>hd k2 H2 W2 h2 (s1.trans (s2.adr e1)) (e2.trans e1) wk2
end
theorem ER.putRaw {K:PySem.W.Frag}{B:Bs}{S:Addr->Prop}{H:Hp}{σ:L2.St}{ρ:jN}{i:Nat}{v:V}(er:ER K B S H σ ρ):ER K B S H (σ.set i (some v)) (ρ.set i (.raw v)):=by
 have g:∀{j:Nat} {x:Sl},(∀u,x≠.raw u)->(ρ.set i (.raw v))[j]?=some x->i≠j∧ρ[j]?=some x:=fun {j x} hx e=>by
  by_cases hij:i=j
  ·subst hij
   rw [List.getElem?_set] at e
   split at e
   ·split at e
    ·cases e; exact absurd rfl (hx _)
    ·cases e
   ·rename_i z; exact absurd rfl z
  ·rw [List.getElem?_set_ne hij] at e
   exact⟨hij,e⟩
 exact {
  len:=by rw [List.length_set,List.length_set]; exact er.len
  same:=er.same
  sub:=er.sub
  ok0:=er.ok0
  ok:=er.ok
  val:=fun j c q=>by
   obtain⟨h,q⟩:=g (fun _ z=>by cases z) q
   rw [List.getElem?_set_ne h]; exact er.val j c q
  own:=fun j c q=>by
   obtain⟨h,q⟩:=g (fun _ z=>by cases z) q
   rw [List.getElem?_set_ne h]; exact er.own j c q
  uq:=fun j k b c c' q1 q2 e1 e2=>by
   obtain⟨h1,q1⟩:=g (fun _ z=>by cases z) q1
   obtain⟨h2,q2⟩:=g (fun _ z=>by cases z) q2
   rw [List.getElem?_set_ne h1] at e1
   rw [List.getElem?_set_ne h2] at e2
   exact er.uq j k b c c' q1 q2 e1 e2
  dct:=fun j ks ds q=>by
   obtain⟨h,q⟩:=g (fun _ z=>by cases z) q
   rw [List.getElem?_set_ne h]; exact er.dct j ks ds q
  dq:=fun j k b ks ds ks' ds' q1 q2 e1 e2=>by
   obtain⟨h1,q1⟩:=g (fun _ z=>by cases z) q1
   obtain⟨h2,q2⟩:=g (fun _ z=>by cases z) q2
   rw [List.getElem?_set_ne h1] at e1
   rw [List.getElem?_set_ne h2] at e2
   exact er.dq j k b ks ds ks' ds' q1 q2 e1 e2
  rf:=fun j u q=>by
   by_cases hij:i=j
   ·subst hij
    rw [List.getElem?_set] at q
    split at q
    ·split at q
     ·rename_i hl; cases q; rw [List.getElem?_set_self (by rw [er.len]; exact hl)]
     ·cases q
    ·rename_i z; exact absurd rfl z
   ·rw [List.getElem?_set_ne hij] at q ⊢
    exact er.rf j u q
  rwx:=fun j vs q=>by
   obtain⟨h,q⟩:=g (fun _ z=>by cases z) q
   rw [List.getElem?_set_ne h]; exact er.rwx j vs q
  gh:=er.gh }
theorem noDct.raw {ρ:jN}{i:Nat}{v:V}(h:noDct ρ):noDct (ρ.set i (.raw v)):=fun j ks ds e=>by
 rw [List.getElem?_set] at e
 split at e
 ·split at e <;> cases e
 ·exact h j ks ds e
abbrev jm8 (Φ:F4->Prop):F4->Prop
 | .nx ρ W=>∃o W',W=o::W'∧Φ (.nx ρ W')
 | .bk ρ W=>∃o W',W=o::W'∧Φ (.bk ρ W')
 | .ct ρ W=>∃o W',W=o::W'∧Φ (.ct ρ W')
 | .rt d W=>∃o W',W=o::W'∧Φ (.rt d W')
section
variable {K:PySem.W.Frag}{Z:Zc}{B:Bs}{S:Addr->Prop}{H H':Hp}{σ:L2.St}{ρ:jN}{W W':Wd}
theorem WOk.tail {o:Ob}(h:WOk K Z S H (o::W)):WOk K Z S H W:=⟨fun u hu=>h.ob u (List.mem_cons_of_mem _ hu),(List.nodup_cons.mp h.nd).2⟩
theorem EW.tail {o:Ob}(h:EW K Z B S H σ ρ (o::W)):EW K Z B S H σ ρ W:=⟨h.er,h.w.tail,fun u hu=>h.h0 u (List.mem_cons_of_mem _ hu),h.no⟩
theorem jjq {o o':Ob}(e:adr (o'::W')=adr (o::W)):adr W'=adr W:=by
 unfold adr at e ⊢
 rw [List.map_cons,List.map_cons] at e
 exact(List.cons.inj e).2
theorem EndW.new {Φ:F4->Prop}{D':jgs}{o:Ob}(ok:EndW K Z B W Φ D'):EndW K Z B (o::W) (jm8 Φ) D' where
 nx:=fun ρ S H σ W1 p ew e=>by
  obtain⟨o',W',rfl,p⟩:=p
  exact ok.nx ρ S H σ W' p ew.tail (jjq e)
 bk:=fun ρ S H σ W1 p ew e=>by
  obtain⟨o',W',rfl,p⟩:=p
  exact ok.bk ρ S H σ W' p ew.tail (jjq e)
 ct:=fun ρ S H σ W1 p ew e=>by
  obtain⟨o',W',rfl,p⟩:=p
  exact ok.ct ρ S H σ W' p ew.tail (jjq e)
 rt:=fun d v S H W1 p s r wk e=>by
  obtain⟨o',W',rfl,p⟩:=p
  exact ok.rt d v S H W' p s r wk.tail (jjq e)
theorem EW.new {o:Ob}(h:EW K Z B S H σ ρ W)(s:Same H H')(hq:H o.q=none)(eq:H' o.q=some (.dK []))(e1:o.ks=[])(e2:o.ds=[])(hi:o.p=o.q∨∃dx,H' o.p=some (.ins Z.C dx [(Z.f,.ref o.q)])):EW K Z B (fun b=>S b∨b=o.q) H' σ ρ (o::W) where
 er:=h.er.hide (F:=fun b=>b=o.q) s fun b e=>by rw [e]; exact⟨hq,_,eq⟩
 w:=⟨fun u hu=>by
  rcases List.mem_cons.mp hu with rfl | hu
  ·refine⟨.inr rfl,⟨[],?_,by rw [e1]; rfl,by rw [e2]; exact Reps.nil⟩,by rw [e1]; exact List.nodup_nil,by rw [e2]; simp only [ja4],hi⟩
   rw [e1]; exact eq
  ·have ok:=(h.w.ob u hu).same s
   obtain⟨xs,e,l,r⟩:=ok.at_
   exact⟨.inl ok.s,⟨xs,e,l,Reps.noL _ _ ok.nl r⟩,ok.nd,ok.nl,ok.ins⟩,List.nodup_cons.mpr ⟨(fun z=>by
  obtain⟨u,hu,e⟩:=List.mem_map.mp z
  obtain⟨kv,ek⟩:=h.w.dict u hu
  rw [e,hq] at ek
  cases ek),h.w.nd⟩⟩
 h0:=fun u hu=>by
  rcases List.mem_cons.mp hu with rfl | hu
  ·cases e0:B.H0 u.q with
   | none=>rfl
   | some z=>rw [h.er.same _ _ e0] at hq; cases hq
  ·exact h.h0 u hu
 no:=h.no
end
def juS (Z:Zc):Sp:=fun vs H Q _=>∃x dx,vs=[.ref x]∧H x=some (.ins Z.C dx [])∧∀q,H q=none->Q .non (j1 (j1 H q (.dK [])) x (.ins Z.C dx [(Z.f,.ref q)]))
section
variable {X:Cx}{Z:Zc}{jJ:List Stmt}{u:S4}{pos pos':Pos}{e:Expr}
abbrev jz7 (i:Nat)(u:S4):S4:=fun Φ ρ W=>∀p q,p≠q->q∉W.map Ob.q->u (jm8 Φ) (ρ.set i (.raw (.ref p))) (⟨q,p,[],[]⟩::W)
theorem jzk {i:Nat}{x:Str}(hN:X.N.Nodup)(hi:X.N[i]?=some x)(hx:Loc X.env.scope x)(he:PE X e (jxT Z.C (juS Z) [] E0 jkq))(h2:jf1 X Z jJ u)(hs:swapsWith e (some (.Name x pos')) pos.line X.env=pure false:=by rfl)
  (hf:X.fn x=true∨X.env.scope.names.lookup x=some .local:=by first | exact .inl rfl | exact .inr rfl | assumption):jf1 X Z (.Assign [.Name x pos'] e pos::jJ) (jz7 i u):=by
 obtain⟨u2,g,z⟩:=h2
 refine⟨_,jbX (jkT hN hi hx he hs hf) g,fun B S H σ ρ W Φ D' ew q ok=>?_⟩
 intro p dx hp hdx hne
 refine⟨p,dx,rfl,jaA,fun a ha=>⟨rfl,?_⟩⟩
 have hap:a≠p:=fun e=>by rw [e,jaA] at ha; cases ha
 have had:a≠dx:=fun e=>by rw [e,jO hne,jaA] at ha; cases ha
 rw [jO hap,jO had] at ha
 have sm:Same H (j1 (j1 (j1 (j1 H dx (.own p)) p (.ins Z.C dx [])) a (.dK [])) p (.ins Z.C dx [(Z.f,.ref a)])):=fun b o e=>by
  have h1:b≠p:=jaM e hp
  have h2:b≠a:=jaM e ha
  have h3:b≠dx:=jaM e hdx
  rw [jO h1,jO h2,jO h1,jO h3]
  exact e
 have ew1:=ew.new (o:=⟨a,p,[],[]⟩) sm ha (by show j1 _ p _ a=_; rw [jO hap]; exact jaA) rfl rfl (.inr ⟨dx,jaA⟩)
 exact z B _ _ _ _ _ _ D' ⟨ew1.er.putRaw,ew1.w,ew1.h0,ew1.no.raw⟩ (q p a (fun e=>hap e.symm) (List.nodup_cons.mp ew1.w.nd).1) ok.new
end
abbrev jou (Φ:D->Prop):F4->Prop
 | .nx _ _=>Φ .non
 | .rt d _=>Φ d
 | _=>False
section
variable {P:Program}{w:World}{K:PySem.W.Frag}{mg:Str->Option Value}{base:Heap}{Z:Zc}
theorem jrB {n:Nat}{ds:List D}:noDct (jz n ds):=fun i ks d q=>by
 unfold jz at q
 rw [List.getElem?_append] at q
 split at q
 ·rw [List.getElem?_map] at q
  cases e:ds[i]? with
  | none=>rw [e] at q; cases q
  | some c=>rw [e] at q; cases q
 ·rw [List.getElem?_replicate] at q
  split at q <;> cases q
theorem jAw {x qual:Str}{st:Stmt}{f:Addr}{fd:FuncData}{N ps:List Str}{k:Nat}{C:jV}(F:Fun K x qual st f fd)(S:jx N ps (ji st))
  (body:∀(cdv:Value) (A:Around) (outer:List Env) (s:Shared) (H:Hp) (E:XK),Room k (A.deeper (envOfC qual (ji st) s.heap.objs.size f cdv)) ->
   ∃t,jf1 (jbU j0 P w K mg base N qual (ji st) f cdv A outer s H E).nox Z (jan st) t∧∀ds Φ,ds.length=ps.length->C ds Φ->t (jou Φ) (jz N.length ds) []) :
  FnOk P w K mg base j0 (k+1) f fd ps (spD K ps.length C):=by
 refine F.ok S (fun vs H Q E h=>?_) (fun cdv A outer s H vs Q E hr h=>?_)
 ·obtain⟨ds,S,hl,r,_⟩:=h
  rw [←r.len]; exact hl
 ·obtain⟨t,⟨t2,ht,wt⟩,rd⟩:=body cdv A outer s H E hr
  obtain⟨ds,S,hl,r,so,hc⟩:=h
  refine⟨t2,ht,wt ⟨S,H,[]⟩ S H (L2.jbq N vs) (jz N.length ds) [] (jou fun d=>∀v H',Same H H'->Rep K S H' d v->Q v H') _ ⟨jms r so,⟨(fun o ho=>by cases ho),List.nodup_nil⟩,(fun o ho=>by cases ho),jrB⟩ (rd ds _ hl hc) ⟨?_,?_,?_,?_⟩⟩
  ·intro ρ S' H' σ' W' h ew e
   exact h .non H' ew.er.same Rep.non
  ·intro ρ S' H' σ' W' h ew e
   exact h.elim
  ·intro ρ S' H' σ' W' h ew e
   exact h.elim
  ·intro d v S' H' W' h s r' wk e
   exact h v H' s r'
end
def jja (g:G3)(te:E4)(ρ:jN):List D->List D->Wd->(D->Wd->Prop)->Prop
 | [],acc,W,Φ=>Φ (.lst acc) W
 | d::ds,acc,W,Φ=>g d ρ fun ρ1=>noDct ρ1∧te ρ1 W fun y W'=>acc.length<sizeLine∧jja g te ρ ds (acc++[y]) W' Φ
abbrev jx9 (n:Nat)(ti:A3)(g:G3)(te:E4):E4:=fun ρ W Φ=>ti ρ fun ds=>jja g te (List.replicate n .un++ρ) ds [] W Φ
section
variable {K:PySem.W.Frag}{Z:Zc}{B:Bs}{S:Addr->Prop}{H:Hp}{σ:L2.St}{ρ:jN}{W:Wd}
theorem noDct.shift (h:noDct ρ)(n:Nat):noDct (List.replicate n .un++ρ):=fun i ks ds e=>by
 rw [List.getElem?_append] at e
 split at e
 ·rw [List.getElem?_replicate] at e
  split at e <;> cases e
 ·exact h _ ks ds e
theorem EW.gather {p:Addr}{xs:List V}(h:EW K Z B S H σ ρ W)(hp:H p=none):EW K Z B (fun b=>S b∨b=p) (j1 H p (.lst xs)) σ ρ W :=
 ⟨h.er.gather hp,(h.w.same (jbf hp)).out fun w hw=>.inl (h.w.ob w hw).s,h.h0,h.no⟩
theorem EW.grow {p:Addr}{xs ys:List V}(h:EW K Z B S H σ ρ W)(hs:S p)(h0:B.H0 p=none)(hl:H p=some (.lst xs))(hno:∀(i:Nat) ds,ρ[i]?=some (.own ds)->σ[i]?≠some (some (.ref p))):EW K Z B S (j1 H p (.lst ys)) σ ρ W:=by
 refine⟨h.er.grow hs h0 hl hno,⟨fun o ho=>?_,h.w.nd⟩,h.h0,h.no⟩
 have ok:=h.w.ob o ho
 obtain⟨xs',e,l,r⟩:=ok.at_
 obtain⟨hT,hL⟩:=jh4 (K:=K) (ys:=ys) hs hl
 refine⟨ok.s,⟨xs',?_,l,Reps.map hT hL _ _ r⟩,ok.nd,ok.nl,ok.ins.imp id fun⟨dx,e⟩=>⟨dx,?_⟩⟩
 ·rw [jO (jiE e hl fun z=>by cases z)]; exact e
 ·rw [jO (jiE e hl fun z=>by cases z)]; exact e
theorem EW.shift (h:EW K Z B S H σ ρ W)(n:Nat):EW K Z B S H (List.replicate n none++σ) (List.replicate n .un++ρ) W:=⟨h.er.shift n,h.w,h.h0,h.no.shift n⟩
end
theorem jw8 {K:PySem.W.Frag}{Z:Zc}{n:Nat}{g:G3}{te:E4}{g2:TG}{te2:TE}
  (wg:∀B S H σ ρ d v Ψ (Q:L2.St->Hp->Prop),ER K B S H σ ρ->Rep K S H d v->g d ρ Ψ->(∀ρ' σ',Ψ ρ'->ER K B S H σ' ρ'->σ'.length=σ.length->(∀j,σ'[n+j]?=σ[n+j]?)->Q σ' H)->g2 v σ H Q)
  (we:∀B S H σ ρ W Φ Q,EW K Z B S H σ ρ W->te ρ W Φ->jnZ K Z S H W Φ Q->te2 σ H Q)
  {B:Bs} {S:Addr->Prop} {H:Hp} {σ:L2.St} {ρ:jN} {W:Wd} {Φ:D->Wd->Prop} {J:It} {hs:List (D×V)} {ds:List D} {p:Addr} {Q:VK} {Fin:List V->Hp->Prop}
  (ew:EW K Z B S H σ ρ W) (rv:∀p∈hs,Rep K S H p.1 p.2) (wk:jqO K J hs ds) (hp:H p=none) (h:jja g te (List.replicate n .un++ρ) ds [] W Φ) (hd:jnZ K Z S H W Φ Q) (hF:∀ys H',Q (.ref p) H'->Fin ys H') :
  lcW n J g2 (fun _ H Q=>Q true H) te2 σ p Fin (j1 H p (.lst [])):=by
 have hno:∀(i:Nat) es,ρ[i]?=some (.own es)->σ[i]?≠some (some (.ref p)):=fun i es q z=>by
  obtain⟨a,zs,e,_,_,hl,_⟩:=ew.er.own i es q
  rw [e] at z; cases z
  rw [hp] at hl; cases hl
 have h0:B.H0 p=none:=ew.er.same.free hp
 have nS:¬S p:=ew.er.ok.free hp
 refine⟨fun i m ys H1=>m=ds.length - i∧i≤ds.length∧H1 p=some (.lst ys)∧∃acc W1,adr W1=adr W∧SameX W H H1∧EW K Z { B with gh:=hs++B.gh } (fun b=>S b∨b=p) H1 σ ρ W1∧Reps K (fun b=>S b∨b=p) H1 acc ys∧jja g te (List.replicate n .un++ρ) (ds.drop i) acc W1 Φ,
  ⟨_,rfl,Nat.zero_le _,jaA,[],W,rfl,SameX.of (jbf hp),(ew.holds rv).gather hp,Reps.nil,h⟩,?_⟩
 rintro i m ys H1 ⟨rfl,hi,hl,acc,W1,ea,sx,ew1,ra,hc⟩
 refine⟨hl,?_⟩
 obtain⟨wstop,wgo⟩:=wk _ H1 fun p hp=>ew1.er.gh p (List.mem_append_left _ hp)
 by_cases hlt:i<ds.length
 ·obtain⟨go,yl⟩:=wgo i hlt
  rw [List.drop_eq_getElem_cons hlt] at hc
  refine .inr ⟨go,fun x H2 y=>?_⟩
  obtain⟨sy,e',ee,re⟩:=yl x H2 y
  rw [List.getElem?_eq_getElem hlt] at ee
  cases ee
  have ew1:=ew1.go sy
  have hl:=sy _ _ hl
  have sx:=sx.trans (SameX.of sy)
  have ra:=ra.same sy
  have ew1':=ew1.shift n
  refine wg _ _ _ _ _ _ x _ _ ew1'.er re hc fun ρ1 σ1 h1 er2 l1 l2=>⟨⟨by rw [l1,List.length_append,List.length_replicate],fun j=>?_⟩,?_⟩
  ·rw [l2 j,List.getElem?_append_right (by rw [List.length_replicate]; omega),List.length_replicate,Nat.add_sub_cancel_left]
  ·simp only [if_true]
   have ew2:EW K Z _ _ H2 σ1 ρ1 W1:=⟨er2,ew1.w,ew1.h0,h1.1⟩
   refine we _ _ _ _ _ _ _ _ ew2 h1.2 fun y u H4 W4 hy s4 e4 wk4 ry=>?_
   have hl4:H4 p=some (.lst ys):=s4 _ _ (fun w hw z=>by
    obtain⟨kv,ek⟩:=ew1.w.dict w hw
    rw [←z,hl] at ek
    cases ek) hl
   have ew4:=ew1.goX s4 e4 wk4
   refine⟨hl4,by rw [←ra.len]; exact hy.1,_,by omega,rfl,hlt,jaA,acc++[y],W4,e4.trans ea,?_,ew4.grow (.inr rfl) h0 hl4 hno,?_,hy.2⟩
   ·intro a o n e
    rw [jO (jaM e hp)]
    exact(sx.trans (s4.adr ea)) a o n e
   ·obtain⟨hT,hL⟩:=jh4 (K:=K) (S:=fun b=>S b∨b=p) (ys:=ys++[u]) (.inr rfl) hl4
    exact Reps.map hT hL _ _ ((ra.sameX ew1.w.dict s4).app (Reps.cons ry Reps.nil))
 ·have hi':i=ds.length:=by omega
  subst hi'
  rw [List.drop_length] at hc
  refine .inl ⟨wstop,hF ys H1 (hd (.lst acc) (.ref p) H1 W1 hc sx ea (ew1.w.out fun w hw=>?_) (Rep.lst (.inl ⟨nS,.of hl⟩) (ra.sub fun b z=>.inl z)))⟩
  obtain⟨o,ho,eq,_⟩:=jnw ea hw
  rw [←eq]
  exact(ew.w.ob o ho).s
section
variable {X:Cx}{Z:Zc}{xs M:List Str}{scope:Scope}{target elt iter:Expr}{pos:Pos}{ti:A3}{g:G3}{te:E4}{n:Nat}
theorem jyK (hk:jjv scope X.env xs M X.N=true)(hn:xs.length=n)(hc:X.calm=true)(hi:PID X target iter ti)
  (hg:∀C s H fp,PGN (jaq X xs M scope C s H fp) n target g) (he:∀C s H fp,PM (jaq X xs M scope C s H fp) Z elt te)
  (hs:∀x,foldedSetIterable iter X.env x=pure x:=by intro _; rfl):PM X Z (.ListComp elt [⟨target,iter,[],0⟩] scope pos) (jx9 n ti g te):=by
 obtain⟨wi,hi,ww⟩:=hi
 refine⟨_,js3 hk hn hc hi (fun C s H fp=>(hg C s H fp).choose_spec.1) (fun C s H fp=>.inl ⟨rfl,rfl⟩) (fun C s H fp=>(he C s H fp).choose_spec.1) hs,fun B S H σ ρ W Φ Q ew q hd=>?_⟩
 refine ww B S H σ ρ _ _ ew.er q fun ds J hs H1 hΦ s1 rv wk D C s fp hD=>?_
 exact jw8 (hg C s H1 fp).choose_spec.2 (he C s H1 fp).choose_spec.2 (ew.go s1) rv wk hD hΦ (Q:=Q) (fun d v H2 W2 p1 s2 e2 wk2 r=>hd d v H2 W2 p1 ((SameX.of s1).trans s2) e2 wk2 r) fun _ _ z=>z
end
structure CDct (P:Program)(w:World)(K:PySem.W.Frag)(a:Addr)(ks:List Str)(us:List Value):Prop where
 sys:(a == sysModules)=false
 at_:∃o es ep,K.lookup a=some o∧o.ExactDict∧o.data=.dict es ep∧KeysOf (jaN P w) es∧Pairs (jaN P w) es.toList ((ks.map Sum.inr).zip us)
 nd:ks.Nodup
 len:ks.length=us.length
section
variable {P:Program}{w:World}{K:PySem.W.Frag}{a:Addr}{ks:List Str}{us:List Value}
theorem jAj {ks:List Str}{us:List Value}(nd:ks.Nodup)(l:ks.length=us.length):((((ks.map Sum.inr:List Key).zip us).map (·.1))).Nodup:=by
 have e:((ks.map Sum.inr:List Key).zip us).map (·.1)=ks.map Sum.inr:=by
  rw [List.map_fst_zip]
  rw [List.length_map,l]
  exact Nat.le_refl _
 rw [e]
 exact List.Pairwise.map _ (fun a b h z=>h (Sum.inr.inj z)) nd
theorem CDct.dict (c:CDct P w K a ks us){h:Heap}(k:K.In h):h.DictOf (jaN P w) a ((ks.map Sum.inr).zip us):=by
 obtain⟨o,es,ep,l,x,d,ko,pa⟩:=c.at_
 exact⟨o,es,ep,k a o l,x,d,ko,pa,jAj c.nd c.len⟩
theorem jeO:∀{ks:List Str} {us:List Value} {x:Str},ks.length=us.length->valueAt ((ks.map Sum.inr:List Key).zip us) (Sum.inr x)=jP ks us x
 | [],_,_,_=>rfl
 | _::_,[],_,h=>by cases h
 | k::ks,u::us,x,h=>by
  have ih:=jeO (x:=x) (Nat.succ.inj h)
  unfold valueAt at ih ⊢
  simp only [List.map_cons,List.zip_cons_cons,List.find?_cons,jP]
  by_cases e:k=x
  ·subst e; simp
  ·have:¬(Sum.inr k:Key)=Sum.inr x:=fun z=>e (Sum.inr.inj z)
   simp only [this,decide_false,e,if_false]
   exact ih
theorem jbW {α:Type}{x:Str}:∀{ks:List Str} {us:List α},ks.length=us.length->(jP ks us x).isSome=decide (x∈ks)
 | [],_,_=>by simp [jP]
 | _::_,[],h=>by cases h
 | k::ks,u::us,h=>by
  unfold jP
  by_cases e:k=x
  ·simp [e]
  ·have e':¬x=k:=fun z=>e z.symm
   rw [if_neg e,jbW (Nat.succ.inj h)]
   simp [e']
end
section
variable {X:Cx}{Z:Zc}{a:Addr}{ks:List Str}{us:List Value}{k e:Expr}{es:List Expr}{tk:E3}{x:Str}{pos p p2:Pos}
abbrev jkO (ks:List Str)(neg:Bool)(tk:E3):E3:=fun ρ Φ=>tk ρ fun d=>match d with | .str z=>Φ (.bl (neg ^^ decide (z∈ks))) | _=>False
theorem jzQ (c:CDct X.prog X.w X.K a ks us):OpR X (compareOp .In) (fun u v H Q=>∃z,u=.str z∧v=.ref a∧Q (.bl (decide (z∈ks))) H):=by
 intro pins s σ H x y v u Q I rx ry h
 obtain⟨z,rfl,rfl,q⟩:=h
 cases (show u=Value.ref a from ry)
 have dd:=c.dict I.kIn
 refine wpAny_in_of (jg5 (k:=Sum.inr z) rx) c.sys dd.mapOf ?_
 rw [jeO c.len,jbW c.len]
 exact⟨.bl _,H,I.tok _,rfl,q⟩
theorem jv6 (c:CDct X.prog X.w X.K a ks us):OpR X (compareOp .NotIn) (fun u v H Q=>∃z,u=.str z∧v=.ref a∧Q (.bl (!decide (z∈ks))) H):=by
 intro pins s σ H x y v u Q I rx ry h
 obtain⟨z,rfl,rfl,q⟩:=h
 cases (show u=Value.ref a from ry)
 have dd:=c.dict I.kIn
 refine wpAny_notIn_of (jg5 (k:=Sum.inr z) rx) c.sys dd.mapOf ?_
 rw [jeO c.len,jbW c.len]
 exact⟨.bl _,H,I.tok _,rfl,q⟩
theorem job (c:CDct X.prog X.w X.K a ks us)(hk:PD X k tk)(hg:Gl X x)(hm:X.mg x=some (.ref a))(hdb:(x == ("__debug__":Str))=false:=by decide)(hb:behindInMarks .In (.Name x p)=false:=by rfl) :
  PB X (.Compare k [.In] [.Name x p] pos) (dT (jkO ks false tk)):=by
 obtain⟨t2,hk,wk⟩:=hk
 refine⟨_,jlw (jzQ c) hk (jib hg hm (show RelV (.ref a) (.ref a) from rfl) hdb) hb,jno fun B S H σ ρ Φ Q er q hd=>wk B S H σ ρ _ _ er q fun d v H1 p1 s1 r1=>?_⟩
 cases d <;> first | exact p1.elim | skip
 rename_i z
 simp only [Rep] at r1
 subst r1
 have p1:Φ (.bl (false ^^ decide (z∈ks))):=p1
 rw [Bool.false_xor] at p1
 exact⟨_,rfl,rfl,hd _ _ H1 p1 s1 Rep.bl⟩
theorem jpq (c:CDct X.prog X.w X.K a ks us)(hk:PD X k tk)(hg:Gl X x)(hm:X.mg x=some (.ref a))(hdb:(x == ("__debug__":Str))=false:=by decide)(hb:behindInMarks .NotIn (.Name x p)=false:=by rfl) :
  PB X (.Compare k [.NotIn] [.Name x p] pos) (dT (jkO ks true tk)):=by
 obtain⟨t2,hk,wk⟩:=hk
 refine⟨_,jlw (jv6 c) hk (jib hg hm (show RelV (.ref a) (.ref a) from rfl) hdb) hb,jno fun B S H σ ρ Φ Q er q hd=>wk B S H σ ρ _ _ er q fun d v H1 p1 s1 r1=>?_⟩
 cases d <;> first | exact p1.elim | skip
 rename_i z
 simp only [Rep] at r1
 subst r1
 have p1:Φ (.bl (true ^^ decide (z∈ks))):=p1
 rw [Bool.true_xor] at p1
 exact⟨_,rfl,rfl,hd _ _ H1 p1 s1 Rep.bl⟩
def juz (a:Addr)(ks:List Str)(vs:List V)(tk:TE):TE:=fun σ H Q=>tk σ H fun y H1=>∃z v,y=.str z∧jP ks vs z=some v∧Q v H1
theorem jpI:∀{ks:List Str} {vs:List V} {us:List Value} {z:Str} {v:V},Vals vs us->jP ks vs z=some v->∃u,jP ks us z=some u∧RelV v u
 | [],_,_,_,_,_,e=>by cases e
 | _::_,_,_,_,_,.nil,e=>by cases e
 | k::ks,_,_,z,v,.cons r t,e=>by
  unfold jP at e ⊢
  split at e
  ·rename_i h; cases e; rw [if_pos h]; exact⟨_,rfl,r⟩
  ·rename_i h; rw [if_neg h]; exact jpI t e
theorem joJ {vs:List V}{tk2:TE}(c:CDct X.prog X.w X.K a ks us)(hv:Vals vs us)(hk:PE X k tk2)(hg:Gl X x)(hm:X.mg x=some (.ref a))(hs:jmt k)(hdb:(x == ("__debug__":Str))=false:=by decide) :
  PE X (.Subscript (.Name x p) k pos) (juz a ks vs tk2):=by
 intro pins s σ H Q I h
 refine jtc PySem.F.slot_dict_getitem.lookup hs (jdY I hg hm (jQ (hk pins s σ H _ I h) fun iv s2 qZ=>?_) hdb)
 obtain⟨y,H2,I2,ry,z,v,ey,ev,q⟩:=qZ
 subst ey
 have dd:=c.dict I2.kIn
 obtain⟨u,eu,ru⟩:=jpI hv ev
 refine⟨dd.typeIs,wpAny_getItem_of (jg5 (k:=Sum.inr z) ry) dd.mapOf (by rw [jeO c.len]; exact eu) ⟨v,H2,I2.tok _,ru,q⟩⟩
abbrev jlC (ks:List Str)(ds:List D)(tk:E3):E3:=fun ρ Φ=>tk ρ fun d=>match d with | .str z=>∃c,jP ks ds z=some c∧Φ c | _=>False
theorem jhO {vs:List V}{ds:List D}(c:CDct X.prog X.w X.K a ks us)(hv:Vals vs us)(hr:∀S H,Reps X.K S H ds vs)(hk:PD X k tk)(hg:Gl X x)(hm:X.mg x=some (.ref a))(hs:jmt k)(hdb:(x == ("__debug__":Str))=false:=by decide) :
  PD X (.Subscript (.Name x p) k pos) (jlC ks ds tk):=by
 obtain⟨t2,hk,wk⟩:=hk
 refine⟨_,joJ c hv hk hg hm hs hdb,fun B S H σ ρ Φ Q er q hd=>wk B S H σ ρ _ _ er q fun d v H1 p1 s1 r1=>?_⟩
 cases d <;> first | exact p1.elim | skip
 rename_i z
 simp only [Rep] at r1
 subst r1
 obtain⟨c',ec,hc⟩:=p1
 obtain⟨u,eu,ru⟩:=jiZ (hr S H1) ec
 exact⟨z,u,rfl,eu,hd _ _ H1 hc s1 ru⟩
structure Fns (X:Cx)(k:Nat)(vs:List V)(Cs:List jV):Prop where
 len:vs.length=Cs.length
 fn:∀(i:Nat) v C,vs[i]?=some v->Cs[i]?=some C->∃f fd ps,v=.ref f∧ps.length=1∧FnOk X.prog X.w X.K X.mg X.base j0 k f fd ps (spD X.K ps.length C)∧jX C∧PySem.W.keepIn X.K (.ref f)=true∧Binds X.K fd ps []
theorem jto {α β:Type}{z:Str}:∀{ks:List Str} {xs:List α} {ys:List β} {y:β},xs.length=ys.length->jP ks ys z=some y->∃(i:Nat) (x:α),xs[i]?=some x∧ys[i]?=some y∧jP ks xs z=some x
 | [],_,_,_,_,e=>by cases e
 | _::_,_,[],_,_,e=>by cases e
 | _::_,[],_::_,_,h,_=>by cases h
 | k::ks,x::xs,y'::ys,y,h,e=>by
  unfold jP at e
  split at e
  ·rename_i hk; cases e; exact⟨0,x,rfl,rfl,by unfold jP; rw [if_pos hk]⟩
  ·rename_i hk
   obtain⟨i,u,e1,e2,e3⟩:=jto (Nat.succ.inj h) e
   exact⟨i+1,u,e1,e2,by unfold jP; rw [if_neg hk]; exact e3⟩
abbrev jr2 (ks:List Str)(Cs:List jV)(tk te:E3):E3:=fun ρ Φ=>tk ρ fun d=>match d with | .str z=>∃C,jP ks Cs z=some C∧te ρ fun c=>C [c] Φ | _=>False
theorem jsb {n:Nat}{vs:List V}{Cs:List jV}{te:E3}(c:CDct X.prog X.w X.K a ks us)(hv:Vals vs us)(hF:Fns X n vs Cs)(hr:Room n X.A)(hk:PD X k tk)(he:PD X e te)(hg:Gl X x)(hm:X.mg x=some (.ref a))(hs:jmt k)(hdb:(x == ("__debug__":Str))=false:=by decide)
  (hst:starEach [e] X.env=(false,eval e X.env)::starEach [] X.env:=by rfl)
  (hc:eval (.Call (.Subscript (.Name x p) k p2) [e] [] pos) X.env=(do callWith pos (←eval (.Subscript (.Name x p) k p2) X.env) [] (backTo pos (starEach [e] X.env)) (backToKw pos (keywordEach [] X.env))):=by rfl) :
  PD X (.Call (.Subscript (.Name x p) k p2) [e] [] pos) (jr2 ks Cs tk te):=by
 obtain⟨t1,hk,wk⟩:=hk; obtain⟨t2,he,we⟩:=he
 refine⟨fun σ H Q=>juz a ks vs t1 σ H fun v H1=>∃f fd ps C,v=.ref f∧ps.length=1∧FnOk X.prog X.w X.K X.mg X.base j0 n f fd ps (spD X.K ps.length C)∧PySem.W.keepIn X.K (.ref f)=true∧Binds X.K fd ps []∧jnf t2 jkq σ H1 fun vs' H2=>spD X.K ps.length C (vs'++[]) H2 Q E0,?_,?_⟩
 ·intro pins s σ H Q I h
  refine Call_ (jQ (joJ c hv hk hg hm hs hdb pins s σ H _ I h) fun u s1 qZ=>?_) hc
  obtain⟨v,H1,I1,rv,f,fd,ps,C,ev,hl,F,kp,hb,q⟩:=qZ
  subst ev
  cases (show u=Value.ref f from rv)
  refine PySem.W.callWith_K (first:=[]) (h₀:=X.base) I.ok.mod.kin kp (jQ ((jaZ he jca hst) pos pins s1 σ H1 _ I1 q) fun us' s2 ⟨vs',H2,I2,r,q2⟩=>⟨I2.kIn,?_⟩) hst rfl
  exact jm5 F hr hb .nil jb5 I2 r q2
 ·intro B S H σ ρ Φ Q er q hd
  refine wk B S H σ ρ _ _ er q fun d v H1 p1 s1 r1=>?_
  cases d <;> first | exact p1.elim | skip
  rename_i z
  simp only [Rep] at r1
  subst r1
  obtain⟨C,eC,p1⟩:=p1
  obtain⟨i,v,e1,e2,e3⟩:=jto hF.len eC
  obtain⟨f,fd,ps,ev,hl,F,mo,kp,hb⟩:=hF.fn i v C e1 e2
  refine⟨z,v,rfl,e3,f,fd,ps,C,ev,hl,F,kp,hb,we B S H1 σ ρ _ _ (er.go s1) p1 fun c' y H2 p2 s2 r2=>?_⟩
  exact⟨[c'],S,by rw [hl]; rfl,Reps.cons r2 Reps.nil,(er.ok.same s1).same s2,mo [c'] Φ _ (fun d hΦ v' H' s r'=>hd d v' H' hΦ ((s1.trans s2).trans s) r') p2⟩
end
def jiY (w:World):List (Str×Tok×Value)->List DictEntry
 | []=>[]
 | e::r=>⟨PyData.keyHash w.params e.1,.str e.1 e.2.1,e.2.2⟩::jiY w r
theorem jrl {P:Program}{w:World}:∀(l:List (Str×Tok×Value)),∀e∈jiY w l,∃k,(jaN P w).is k e.key=true∧e.hash=(jaN P w).hash k
 | [],_,h=>by cases h
 | x::r,e,h=>by
  rcases List.mem_cons.mp h with h | h
  ·subst h
   exact⟨Sum.inr x.1,(jj5 x.1 x.2.1),rfl⟩
  ·exact jrl r e h
theorem jpX {P:Program}{w:World}:∀(l:List (Str×Tok×Value)),Pairs (jaN P w) (jiY w l) (((l.map (·.1)).map Sum.inr).zip (l.map (·.2.2)))
 | []=>.nil
 | x::r=>Pairs.cons (e:=⟨PyData.keyHash w.params x.1,.str x.1 x.2.1,x.2.2⟩) (kv:=(Sum.inr x.1,x.2.2)) (jj5 x.1 x.2.1) rfl (jpX r)
theorem jo1 {P:Program}{w:World}{K:PySem.W.Frag}{a:Addr}{n:Nat}(l:List (Str×Tok×Value))(hl:K.lookup a=some ⟨.type "dict",none,.dict (jiY w l).toArray n,#[]⟩)(hs:(a == sysModules)=false)(nd:(l.map (·.1)).Nodup) :
  CDct P w K a (l.map (·.1)) (l.map (·.2.2)) :=
 ⟨hs,⟨_,_,_,hl,⟨rfl,rfl,rfl⟩,rfl,fun e he=>jrl l e (by simpa using he),by simpa using jpX l⟩,nd,by rw [List.length_map,List.length_map]⟩
abbrev AM:=jN->Wd->(List Sl->Wd->Prop)->Prop
def PAM (X:Cx)(Z:Zc)(es:List Expr)(t:AM):Prop:=∃t2,PA X es t2∧∀B S H σ ρ W Φ (Q:List V->Hp->Prop),EW X.K Z B S H σ ρ W->t ρ W Φ->(∀as vs H' W',Φ as W'->SameX W H H'->adr W'=adr W->WOk X.K Z S H' W'->RepsA X.K S H' as vs->Q vs H')->t2 σ H Q
abbrev jaE:AM:=fun _ W Φ=>Φ [] W
abbrev jah (tm:E4)(ta:AM):AM:=fun ρ W Φ=>tm ρ W fun d W'=>ta ρ W' fun as W2=>Φ (.val d::as) W2
abbrev jg9 (i:Nat)(ta:AM):AM:=fun ρ W Φ=>match ρ[i]? with | some (.raw v)=>ta ρ W fun as W'=>Φ (.raw v::as) W' | _=>False
abbrev AV:=jN->Wd->(List D->Wd->Prop)->Prop
def PAV (X:Cx)(Z:Zc)(es:List Expr)(t:AV):Prop:=∃t2,PA X es t2∧∀B S H σ ρ W Φ (Q:List V->Hp->Prop),EW X.K Z B S H σ ρ W->t ρ W Φ->(∀ds vs H' W',Φ ds W'->SameX W H H'->adr W'=adr W->WOk X.K Z S H' W'->Reps X.K S H' ds vs->Q vs H')->t2 σ H Q
abbrev jup:AV:=fun _ W Φ=>Φ [] W
abbrev jkh (tm:E4)(ta:AV):AV:=fun ρ W Φ=>tm ρ W fun d W'=>ta ρ W' fun ds W2=>Φ (d::ds) W2
section
variable {X:Cx}{Z:Zc}{e:Expr}{es:List Expr}{tm:E4}{ta:AM}{tv:AV}
theorem jat:PAM X Z [] jaE:=⟨_,jca,fun B S H σ ρ W Φ Q ew q k=>k [] [] H W q SameX.refl rfl ew.w .nil⟩
theorem jac (he:PM X Z e tm)(ha:PAM X Z es ta)(hs:starEach (e::es) X.env=(false,eval e X.env)::starEach es X.env:=by rfl):PAM X Z (e::es) (jah tm ta):=by
 obtain⟨t2,h,w⟩:=he; obtain⟨u2,g,z⟩:=ha
 exact⟨_,jaZ h g hs,fun B S H σ ρ W Φ Q ew q k=>w B S H σ ρ W _ _ ew q fun d v H1 W1 p s1 e1 wk1 r1=>z B S H1 σ ρ W1 _ _ (ew.goX s1 e1 wk1) p fun as vs H2 W2 p2 s2 e2 wk2 r2=>k _ _ H2 W2 p2 (s1.trans (s2.adr e1)) (e2.trans e1) wk2 (.cons (show jmZ X.K S H2 (.val d) v from r1.sameX wk1.dict s2) r2)⟩
theorem jfQ {i:Nat}(he:PE X e (jgq i))(ha:PAM X Z es ta)(hs:starEach (e::es) X.env=(false,eval e X.env)::starEach es X.env:=by rfl):PAM X Z (e::es) (jg9 i ta):=by
 obtain⟨u2,g,z⟩:=ha
 refine⟨_,jaZ he g hs,fun B S H σ ρ W Φ Q ew q k=>?_⟩
 unfold jg9 at q
 split at q
 ·rename_i v e0
  exact⟨v,ew.er.rf i v e0,z B S H σ ρ W _ _ ew q fun as vs H2 W2 p2 s2 e2 wk2 r2=>k _ _ H2 W2 p2 s2 e2 wk2 (.cons (show jmZ X.K S H2 (.raw v) v from rfl) r2)⟩
 ·exact q.elim
theorem jtl:PAV X Z [] jup:=⟨_,jca,fun B S H σ ρ W Φ Q ew q k=>k [] [] H W q SameX.refl rfl ew.w Reps.nil⟩
theorem jiJ (he:PM X Z e tm)(ha:PAV X Z es tv)(hs:starEach (e::es) X.env=(false,eval e X.env)::starEach es X.env:=by rfl):PAV X Z (e::es) (jkh tm tv):=by
 obtain⟨t2,h,w⟩:=he; obtain⟨u2,g,z⟩:=ha
 exact⟨_,jaZ h g hs,fun B S H σ ρ W Φ Q ew q k=>w B S H σ ρ W _ _ ew q fun d v H1 W1 p s1 e1 wk1 r1=>z B S H1 σ ρ W1 _ _ (ew.goX s1 e1 wk1) p fun as vs H2 W2 p2 s2 e2 wk2 r2=>k _ _ H2 W2 p2 (s1.trans (s2.adr e1)) (e2.trans e1) wk2 (Reps.cons (r1.sameX wk1.dict s2) r2)⟩
end
abbrev jgv (n:Nat)(C:jhl)(ta:AM):E4:=fun ρ W Φ=>ta ρ W fun as W'=>as.length=n∧C as W' Φ
abbrev jbu (i:Nat)(n:Nat)(C:jhl)(ta:AM):E4:=fun ρ W Φ=>match ρ[i]? with | some (.raw v)=>(∃o∈W,v=.ref o.p∧o.p≠o.q)∧ta ρ W fun as W'=>as.length+1=n∧C (.raw v::as) W' Φ | _=>False
abbrev jx0 (g:D3.Q4)(tk:E3)(tv:E4):S4:=fun Φ ρ W=>tv ρ W fun c W1=>g ρ W1 fun o=>tk ρ fun d=>match d with | .str x=>NoL c∧o.ks.length<sizeLine∧Φ (.nx ρ (jex W1 (o.put x c))) | _=>False
section
variable {X:Cx}{Z:Zc}{k:Nat}{f:Addr}{fd:FuncData}{ps:List Str}{C:jhl}{C3:jV}{x:Str}{p pos pos' apos:Pos}{a b e o kx v:Expr}{es:List Expr}{ta:AM}{tv:AV}{tm tn:E4}{g:D3.Q4}{tk:E3}
theorem jez (F:FnOk X.prog X.w X.K X.mg X.base j0 k f fd ps (spW X.K Z ps.length C))(mo:ji3 C)(hr:Room k X.A)(hg:Gl X x)(hm:X.mg x=some (.ref f))(hk:PySem.W.keepIn X.K (.ref f)=true)(hb:Binds X.K fd ps [])
  (ha:PAM X Z (e::es) ta) (hdb:(x == ("__debug__":Str))=false:=by decide) (he:starEach (e::es) X.env=(false,eval e X.env)::starEach es X.env:=by rfl) (hpl:(backTo pos (starEach es X.env)).any (·.1)=false:=by rfl) :
  PM X Z (.Call (.Name x p) (e::es) [] pos) (jgv ps.length C ta):=by
 obtain⟨t2,h,w⟩:=ha
 refine⟨_,jtx F hr hg hm hk hb .nil jb5 h hdb he hpl,fun B S H σ ρ W Φ Q ew q hd=>w B S H σ ρ W _ _ ew q fun as vs H1 W1 hc s1 e1 wk1 r=>?_⟩
 rw [List.append_nil]
 exact⟨as,S,W1,hc.1,r,(ew.goX s1 e1 wk1).er.ok,wk1,mo as W1 Φ _ (fun d W' hΦ v H' s e wk r'=>hd d v H' W' hΦ (s1.trans (s.adr e1)) (e.trans e1) wk r') hc.2⟩
theorem jbI {i:Nat}{m:Str}(hf:(m == Z.f)=false)(mo:ji3 C)(ha:PAM X Z (e::es) ta)
  (hpe:∀t2,PA X (e::es) t2->PE X (.Call (.Attribute o m apos) (e::es) [] pos) (jxQ Z.C m (spW X.K Z ps.length C) [] E0 (jgq i) t2)):PM X Z (.Call (.Attribute o m apos) (e::es) [] pos) (jbu i ps.length C ta):=by
 obtain⟨t2,h,w⟩:=ha
 refine⟨_,hpe t2 h,fun B S H σ ρ W Φ Q ew q hd=>?_⟩
 unfold jbu at q
 split at q
 ·rename_i v e0
  obtain⟨⟨o,ho,rfl,hpq⟩,q⟩:=q
  obtain⟨dx,ei⟩:=(ew.w.ob o ho).ins.resolve_left hpq
  refine⟨.ref o.p,ew.er.rf i _ e0,o.p,dx,_,rfl,ei,?_,w B S H σ ρ W _ _ ew q fun as vs H1 W1 hc s1 e1 wk1 r=>?_⟩
  ·rw [List.lookup_cons,hf]; rfl
  ·rw [List.append_nil]
   exact⟨.raw (.ref o.p)::as,S,W1,hc.1,.cons (show jmZ X.K S H1 (.raw (.ref o.p)) (.ref o.p) from rfl) r,(ew.goX s1 e1 wk1).er.ok,wk1,mo _ W1 Φ _ (fun d W' hΦ v H' s e wk r'=>hd d v H' W' hΦ (s1.trans (s.adr e1)) (e.trans e1) wk r') hc.2⟩
 ·exact q.elim
theorem jwY (hu:X.A.units+1<cLine)(hg:PQ X Z e g)(hk:PD X kx tk)(hv:PM X Z v tm)(hs:swapsWith v (some (.Subscript e kx pos')) pos.line X.env=pure false:=by rfl):PSW X Z (.Assign [.Subscript e kx pos'] v pos) (jx0 g tk tm):=by
 obtain⟨t1,hk,wk⟩:=hk; obtain⟨t2,hg,wg⟩:=hg; obtain⟨t3,hv,wv⟩:=hv
 refine⟨_,jtb hu hg hk hv hs,fun B S H σ ρ W Φ D' ew q ok=>wv B S H σ ρ W _ _ ew q fun c y H1 W1 p1 s1 e1 wk1 r1=>?_⟩
 have ew1:=ew.goX s1 e1 wk1
 refine wg B S H1 σ ρ W1 _ _ ew1 p1 fun o ho p2=>wk B S H1 σ ρ _ _ ew1.er p2 fun d z H2 p3 s2 r2=>?_
 cases d <;> first | exact p3.elim | skip
 rename_i x
 simp only [Rep] at r2
 subst r2
 have ew2:=ew1.go s2
 have okb:=ew2.w.ob o ho
 obtain⟨xs,e,l,rs⟩:=okb.at_
 obtain⟨hw,sx⟩:=ew2.w.set (o':=o.put x c) (xs:=jc1 o.ks xs x y) ho rfl rfl (jy4 okb.nd) (jyX p3.1 okb.nl) (jw9 l) (ju3 rs (r1.same s2))
 have ea:=jmM (o':=o.put x c) ew2.w.nd ho rfl rfl
 refine⟨o.q,_,rfl,DPut.k (k:=Sum.inr x) e (by unfold kvs; rw [List.length_zip,List.length_map,←l,Nat.min_self]; exact p3.2.1),?_⟩
 rw [jzh l]
 exact ok.nx ρ S _ σ _ p3.2.2 (ew2.goX sx ea hw) (ea.trans e1)
end
section
variable {X:Cx}{k:Nat}{vs:List V}{Cs:List jV}{f:Addr}{fd:FuncData}{ps:List Str}{C:jV}
theorem jtA:Fns X k [] []:=⟨rfl,fun i v C e=>by cases e⟩
theorem jbZ {j:Nat}(F:FnOk X.prog X.w X.K X.mg X.base j0 j f fd ps (spD X.K ps.length C))(hj:j≤k)(hl:ps.length=1)(mo:jX C)(kp:PySem.W.keepIn X.K (.ref f)=true)(hb:Binds X.K fd ps [])(h:Fns X k vs Cs):Fns X k (.ref f::vs) (C::Cs):=by
 refine⟨by rw [List.length_cons,List.length_cons,h.len],fun i v C' e1 e2=>?_⟩
 cases i with
 | zero=>cases e1; cases e2; exact⟨f,fd,ps,rfl,hl,F.mono hj,mo,kp,hb⟩
 | succ i=>exact h.fn i v C' e1 e2
end
theorem jaK {x:Str}{t:Tok}{ns:List Str}{us:List Value}(h:Vals (ns.map V.str) us):Vals ((x::ns).map V.str) (.str x t::us):=.cons ⟨t,rfl⟩ h
theorem Reps.strs {K:PySem.W.Frag}{S:Addr->Prop}{H:Hp}:∀ns:List Str,Reps K S H (ns.map D.str) (ns.map V.str)
 | []=>Reps.nil
 | _::ns=>Reps.cons Rep.str (Reps.strs ns)
theorem jbF {K:PySem.W.Frag}{f:Addr}{od:Option Addr}{its:Array Value}{n:Nat}{sl:Array (Option Value)}{ns:List Str}(l:K.lookup f=some ⟨.type "tuple",od,.seq its n,sl⟩)(hz:its.size≤sizeLine)(hv:Vals (ns.map V.str) its.toList):jfl K (.tup (ns.map D.str)) (.ref f) (.ref f) :=
 ⟨rfl,fun S H=>Rep.tup (.inr ⟨_,its,n,l,rfl,rfl,hz,hv⟩) (Reps.strs ns)⟩
structure jlq (K:PySem.W.Frag)(ds:List D)(vs:List V)(us:List Value):Prop where
 r:Vals vs us
 d:∀S H,Reps K S H ds vs
theorem jwI {K:PySem.W.Frag}:jlq K [] [] []:=⟨.nil,fun _ _=>Reps.nil⟩
theorem jbn {K:PySem.W.Frag}{d:D}{v:V}{u:Value}{ds:List D}{vs:List V}{us:List Value}(c:jfl K d v u)(h:jlq K ds vs us):jlq K (d::ds) (v::vs) (u::us):=⟨.cons c.r h.r,fun S H=>Reps.cons (c.d S H) (h.d S H)⟩
structure jr (K:PySem.W.Frag)(mg:Str->Option Value)(x:Str)(st:Stmt)(f:Addr)(fd:FuncData)(ps:List Str):Prop where
 F:Fun K x x st f fd
 m:mg x=some (.ref f)
 b:Binds K fd ps []
structure jfA (K:PySem.W.Frag)(C:Addr)(m qual:Str)(st:Stmt)(f:Addr)(fd:FuncData)(ps:List Str):Prop where
 F:Fun K m qual st f fd
 h:joY K C m f
 b:Binds K fd ps []
section
variable {K:PySem.W.Frag}{mg:Str->Option Value}{h:Heap}{x qual:Str}{st:Stmt}{f C:Addr}{oc:Value}{od an:Option Addr}{osl:Array (Option Value)}{kV doc pm cdv ct:Value}{p1 p2 p3 p4:Str}
theorem jal (X:K.In h)(G:h.Ns mainGlobals mg)(a:PySem.W.nsIn K mainGlobals x=some (some (.ref f)))(l:K.lookup f=some ⟨oc,od,.func (PySem.W.fnOf x x (jaR st) (jan st) (ji st) .none kV doc pm an cdv ct),osl⟩)(c:PySem.W.codeIn K cdv x=true)(k:PySem.W.keepIn K (.ref f)=true)
  (hb:∀(kV doc pm:Value) (an:Option Addr) (cdv ct u1:Value),bindArgs (PySem.W.fnOf x x (jaR st) (jan st) (ji st) .none kV doc pm an cdv ct) ⟨[u1],[]⟩=pure [(p1,u1)]):jr K mg x st f (PySem.W.fnOf x x (jaR st) (jan st) (ji st) .none kV doc pm an cdv ct) [p1] :=
 have F:=jkH l c k
 ⟨F,PySem.W.mg_of X G a,F.binds fun _ _ _ _ _ _ us hl=>len_1 us hl fun _=>hb ..⟩
theorem jbl (X:K.In h)(G:h.Ns mainGlobals mg)(a:PySem.W.nsIn K mainGlobals x=some (some (.ref f)))(l:K.lookup f=some ⟨oc,od,.func (PySem.W.fnOf x x (jaR st) (jan st) (ji st) .none kV doc pm an cdv ct),osl⟩)(c:PySem.W.codeIn K cdv x=true)(k:PySem.W.keepIn K (.ref f)=true)
  (hb:∀(kV doc pm:Value) (an:Option Addr) (cdv ct u1 u2:Value),bindArgs (PySem.W.fnOf x x (jaR st) (jan st) (ji st) .none kV doc pm an cdv ct) ⟨[u1,u2],[]⟩=pure [(p1,u1),(p2,u2)]):jr K mg x st f (PySem.W.fnOf x x (jaR st) (jan st) (ji st) .none kV doc pm an cdv ct) [p1,p2] :=
 have F:=jkH l c k
 ⟨F,PySem.W.mg_of X G a,F.binds fun _ _ _ _ _ _ us hl=>len_2 us hl fun _ _=>hb ..⟩
theorem jvL (X:K.In h)(G:h.Ns mainGlobals mg)(a:PySem.W.nsIn K mainGlobals x=some (some (.ref f)))(l:K.lookup f=some ⟨oc,od,.func (PySem.W.fnOf x x (jaR st) (jan st) (ji st) .none kV doc pm an cdv ct),osl⟩)(c:PySem.W.codeIn K cdv x=true)(k:PySem.W.keepIn K (.ref f)=true)
  (hb:∀(kV doc pm:Value) (an:Option Addr) (cdv ct u1 u2 u3:Value),bindArgs (PySem.W.fnOf x x (jaR st) (jan st) (ji st) .none kV doc pm an cdv ct) ⟨[u1,u2,u3],[]⟩=pure [(p1,u1),(p2,u2),(p3,u3)]):jr K mg x st f (PySem.W.fnOf x x (jaR st) (jan st) (ji st) .none kV doc pm an cdv ct) [p1,p2,p3] :=
 have F:=jkH l c k
 ⟨F,PySem.W.mg_of X G a,F.binds fun _ _ _ _ _ _ us hl=>len_3 us hl fun _ _ _=>hb ..⟩
theorem jlk {ps:List Str}(X:K.In h)(G:h.Ns mainGlobals mg)(a:PySem.W.nsIn K mainGlobals x=some (some (.ref f)))(l:K.lookup f=some ⟨oc,od,.func (PySem.W.fnOf x x (jaR st) (jan st) (ji st) .none kV doc pm an cdv ct),osl⟩)(c:PySem.W.codeIn K cdv x=true)(k:PySem.W.keepIn K (.ref f)=true)
  (hb:∀(kV doc pm:Value) (an:Option Addr) (cdv ct:Value) (us:List Value),us.length=ps.length->bindArgs (PySem.W.fnOf x x (jaR st) (jan st) (ji st) .none kV doc pm an cdv ct) ⟨us,[]⟩=pure (ps.zip us)):jr K mg x st f (PySem.W.fnOf x x (jaR st) (jan st) (ji st) .none kV doc pm an cdv ct) ps :=
 have F:=jkH l c k
 ⟨F,PySem.W.mg_of X G a,F.binds hb⟩
theorem jqF {ps:List Str}(a:PySem.W.findIn K (.ref C) x=some (some (.ref f)))(i:PySem.W.isFn K (.ref f)=true)(l:K.lookup f=some ⟨oc,od,.func (PySem.W.fnOf x qual (jaR st) (jan st) (ji st) .none kV doc pm an cdv ct),osl⟩)(c:PySem.W.codeIn K cdv qual=true)(k:PySem.W.keepIn K (.ref f)=true)
  (hb:∀(kV doc pm:Value) (an:Option Addr) (cdv ct:Value) (us:List Value),us.length=ps.length->bindArgs (PySem.W.fnOf x qual (jaR st) (jan st) (ji st) .none kV doc pm an cdv ct) ⟨us,[]⟩=pure (ps.zip us)):jfA K C x qual st f (PySem.W.fnOf x qual (jaR st) (jan st) (ji st) .none kV doc pm an cdv ct) ps :=
 have F:=jkH l c k
 ⟨F,⟨a,i,k⟩,F.binds hb⟩
theorem jAS {y:Str}(a:PySem.W.findIn K (.ref C) y=some none):NoAttr K C y:=a
theorem mgR (X:K.In h)(G:h.Ns mainGlobals mg)(a:PySem.W.nsIn K mainGlobals x=some (some (.ref f))):mg x=some (.ref f):=PySem.W.mg_of X G a
theorem mgS {u:Str}{t:Tok}(X:K.In h)(G:h.Ns mainGlobals mg)(a:PySem.W.nsIn K mainGlobals x=some (some (.str u t))):mg x=some (.str u t):=PySem.W.mg_of X G a
end
section
variable {X:Cx}{k:Nat}{f:Addr}{fd:FuncData}{st:Stmt}{ps:List Str}{C:jV}{x:Str}{p pos:Pos}{e:Expr}{es:List Expr}{ta:A3}
theorem jq (F:FnOk X.prog X.w X.K X.mg X.base j0 k f fd ps (spD X.K ps.length C))(mo:jX C)(hr:Room k X.A)(D:jr X.K X.mg x st f fd ps)
  (ha:PAD X (e::es) ta) (hg:Gl X x:=by rfl) (hdb:(x == ("__debug__":Str))=false:=by decide) (he:starEach (e::es) X.env=(false,eval e X.env)::starEach es X.env:=by rfl) (hpl:(backTo pos (starEach es X.env)).any (·.1)=false:=by rfl) :
  PD X (.Call (.Name x p) (e::es) [] pos) (jC ps.length C ta):=jzc F mo hr hg D.m D.F.kp D.b ha hdb he hpl
end
theorem jqn {scope:Scope}{env:Env}{x:Str}(h:scope.names.lookup x=some .local):(relabel scope env).names.lookup x=some .local:=by
 show (scope.names.map _).lookup x=_
 generalize scope.names=l at h
 induction l with
 | nil=>cases h
 | cons a l ih =>
  obtain⟨n,k⟩:=a
  rw [List.lookup_cons] at h
  rw [List.map_cons]
  by_cases e:(x == n)=true
  ·rw [e] at h
   cases h
   dsimp only
   rw [if_neg (by show ¬(false&&_&&_)=true; simp),List.lookup_cons,e]
  ·have e:(x == n)=false:=by simpa using e
   rw [e] at h
   have ih:=ih h
   dsimp only
   split
   ·rw [List.lookup_cons,e]; exact ih
   ·rw [List.lookup_cons,e]; exact ih
theorem jtX {M:Model}{A:Around}{E:Value->Shared->Prop}{s:Shared}{env:Env}{e:Expr}{scope:Scope}{pos:Pos}{newAcc first:Sem Value}{g:Comprehension}{gs:List Comprehension}{cl:List (Str×Addr)}{Q:Value->Shared->Prop}
  (hcl:clausesOf e=g::gs) (hfs:∀x,foldedSetIterable g.iter env x=pure x) (hc:closureFor scope env=pure cl) (hk:scope.kind=.function) (hloc:∀x∈scope.names,x.2=.local->scope.names.lookup x.1=some .local)
  (h:wpAny M A first (fun x s₁=>wpAny M A (pyIter x) (fun it s₂=>wpAny M A newAcc (fun acc s₃=>wpAny M A (newFunctionEnv scope env.globals cl [] env.qual none .none (some env)) (fun cenv s₄=>cenv.frame=env.frame ∧
   codeAny M A (.compStart e 0 it acc { cenv with scope:=relabel scope env }) (fun r s'=>∃m,s'.heap.Ns cenv.locals m∧∀h' m',h'.Ns cenv.locals m'->Heap.SameBut cenv.locals s'.heap h'->match r with
    | .ok _=>Q acc { s' with heap:=h' }
    | .error x=>∀env':Env,env'.frame=env.frame->wpAny M A (PySem.passOn "comprehension.variables-let-go" x env') Q E { s' with heap:=h' }) s₄) E s₃) E s₂) E s₁) E s) :
  wpAny M A (comprehension e scope env pos newAcc false first none) Q E s:=by
 unfold PySem.comprehension
 refine wpAny_bind (jQ h fun x s1 h1=>?_)
 refine wpAny_bind (wpAny_standAt ?_)
 rw [hcl]
 dsimp only
 rw [hfs]
 refine wpAny_bind (wpAny_pure ?_)
 refine wpAny_bind (wpAny_holding ?_)
 simp only [Bool.false_eq_true,if_false]
 refine jQ h1 fun it s2 h2=>?_
 simp only [Option.isSome_none,Bool.false_eq_true,if_false]
 refine wpAny_bind (jQ h2 fun acc s3 h3=>?_)
 rw [hc]
 refine wpAny_bind (wpAny_pure ?_)
 refine wpAny_bind (jQ h3 fun cenv s4 h4=>?_)
 refine wpAny_holding (wpAny_bind (wpAny_attempt (wpAny_holding (wpAny_run ?_))))
 refine codeAny_mono h4.2 fun r s' hr=>?_
 obtain⟨m,hm,hq⟩:=hr
 have ks:({ cenv with scope:=relabel scope env }:Env).scope.kind=.function:=hk
 have lc:∀x∈(List.filter (fun x:Str×NameKind=>match x with | (n,k)=>(k == NameKind.local||k == NameKind.cell)&&n != Str.ofString ".0") scope.names).reverse,x.2=.local->({ cenv with scope:=relabel scope env }:Env).kindOf x.1=some .local:=fun x hx hl=>by
  have hx:=(List.mem_filter.mp (List.mem_reverse.mp hx)).1
  exact jqn (hloc x hx hl)
 cases r with
 | ok a =>
  dsimp only
  refine wpAny_bind (wpAny_holding (wpAny_comp_letGo ks _ s' m lc hm fun h' m' hn sb=>wpAny_pure (hq h' m' hn sb)))
 | error x =>
  dsimp only
  refine wpAny_bind (wpAny_holding (wpAny_comp_letGo ks _ s' m lc hm fun h' m' hn sb=>hq h' m' hn sb { cenv with scope:=relabel scope env } h4.1))
structure jAa (P:Program)(w:World)(l:List Env)(L:Addr)(H H':Hp)(h h' B:Heap)(e C:Addr)(a0:Value):Prop where
 fl:B.HeldW l e (.ref C) a0 L h'
 hok:HOk P w H' B
 keep:∀b o,h.get? b=some o->H b=none->b∉frs l->B.get? b=some o
 slot:∀b o,h.get? b=some o->H b=none->b∈frs l->∃sl,h'.get? b=some { o with slots:=sl }
 free:∀b o,h.get? b=some o->H b=none->H' b=none
 there:∀b o,h.get? b=some o->b∉frs l->∃o',B.get? b=some o'
 tups:∀b xs,H b=some (.tup xs)->H' b=some (.tup xs)
 frzs:∀b o u,H b=some (.frz o u)->H' b=some (.frz o u)
 tbls:∀b ps,H b=some (.tbl ps)->∃more,H' b=some (.tbl (ps++more))
 he:H' e=none
def jt3 (X:Cx)(R:Hp->Prop)(C:Addr):Prop:=∀(pins:List (Addr×Obj)) (σ:L2.St) (H H':Hp) (s s':Shared) (e:Addr) (B:Heap) (a0:Value) (L:Addr),Inv X pins σ H s->X.env.frame=some L->s'.os=s.os->AllBare s'.gens->jAa X.prog X.w X.stack L H H' s.heap s'.heap B e C a0->R H'->X.xe (.ref e) s'
section
variable {X:Cx}{pins:List (Addr×Obj)}{σ:L2.St}{H H':Hp}{s s':Shared}{e C:Addr}{B:Heap}{a0:Value}{Q:Unit->Shared->Prop}{E:Value->Shared->Prop}
theorem jrK (I:Inv X pins σ H s)(hst:X.stack=X.env::X.outer)(hfr:X.env.frame=some X.env.locals)(hex:X.ex=[])(f:jAa X.prog X.w X.stack X.env.locals H H' s.heap s'.heap B e C a0)
  (hQ:∀h'',FlyB X.prog X.w X.outer X.H₀ H' X.s₀.heap h'' B e C a0->Q () { s' with heap:=h'' }):wpAny (model X.prog X.w) X.A (leaving X.env (.ref e)) Q E s':=by
 have hA:X.A.frames=some (X.env::X.outer):=by rw [I.ok.frames,hst]
 have nex:∀b:Addr,b∉X.ex:=fun b z=>by rw [hex] at z; cases z
 have ns:∀b o,X.s₀.heap.get? b=some o->b∉frs X.outer->b∉frs X.stack:=fun b o q n z=>by
  rw [hst] at z
  unfold frs at z
  rw [List.filterMap_cons,hfr] at z
  rcases List.mem_cons.mp z with z | z
  ·exact absurd (Nat.lt_of_lt_of_le (Heap.lt_size q) I.ok.above) (by rw [z]; exact Nat.lt_irrefl _)
  ·exact n z
 have sub:∀b,b∈frs X.outer->b∈frs X.stack:=fun b z=>by
  rw [hst]; unfold frs; rw [List.filterMap_cons,hfr]; exact List.mem_cons_of_mem _ z
 have fl0:=f.fl
 rw [hst] at fl0
 unfold PySem.leaving
 refine wpAny_bind (wpAny_noteFrame_againW (base:=B) hfr fl0.2.2.2 (wpAny_landsW fl0 fun h'' x1 x2=>hQ h'' ?_))
 obtain⟨y1,y2,y3,y4⟩:=x1
 have y3':h''.FunFrames B X.outer:=y3.2.2
 refine⟨⟨y1,y2,y3',y4⟩,f.hok,fun b o q n hb=>?_,fun b o q n hb=>?_,fun b o q n=>?_,fun b o q hb=>?_,fun b xs q=>f.tups b xs (I.base.tups b xs q),fun b o u q=>f.frzs b o u (I.base.frzs b o u q),fun b ps q=>?_,f.he⟩
 ·exact f.keep b o (I.base.keep b o q n hb (nex b)) (I.base.free b o q n (nex b)) (ns b o q hb)
 ·obtain⟨sl,e1⟩:=I.base.slot b o q n hb (nex b)
  obtain⟨sl',e2⟩:=f.slot b _ e1 (I.base.free b o q n (nex b)) (sub b hb)
  obtain⟨_,o',ho,hd⟩:=I.ok.funs.mem hb
  rw [q] at ho; cases ho
  obtain⟨sl'',e3⟩:=x2 b _ e2 hd
  exact⟨sl'',e3⟩
 ·obtain⟨o',e1⟩:=I.base.there b o q (nex b)
  exact f.free b o' e1 (I.base.free b o q n (nex b))
 ·obtain⟨o',e1⟩:=I.base.there b o q (nex b)
  exact f.there b o' e1 (ns b o q hb)
 ·obtain⟨m1,e1⟩:=I.base.tbls b ps q
  obtain⟨m2,e2⟩:=f.tbls b _ e1
  exact⟨m1++m2,by rw [e2,Array.append_assoc]⟩
end
theorem jq3 {h:Heap}{a:Addr}{o:Obj}(e:h.get? a=some o):o.isFreed=false:=by
 unfold Heap.get? at e
 split at e
 ·cases e
 ·rename_i hn
  cases o with
  | mk c d dt sl =>
   cases dt <;> first | rfl | exact absurd e (hn _ _ _)
theorem jtL {h:Heap}{C:Addr}{o o2:Obj}(e:h.get? C=some o)(nf:o2.isFreed=false):Heap.SameBut C h (h.update C fun _=>o2)∧(h.update C fun _=>o2).get? C=some o2 :=
 ⟨⟨by unfold Heap.update; simp,fun b hb=>Heap.get?_update_ne h b C _ hb⟩,Heap.get?_update_self (fun _=>o2) e nf⟩
theorem jo6 {e:Value}{env env':Env}(h:env.frame=env'.frame):noteFrame e env=noteFrame e env':=by
 unfold noteFrame PySem.frameOf
 rw [h]
theorem jwr {α:Type}{M:Model}{A:Around}{E:Value->Shared->Prop}{s:Shared}{base:Heap}{l:List Env}{e L:Addr}{cls a0:Value}{Q:α->Shared->Prop}{env:Env}{what:String}(hfr:env.frame=some L)(f:base.HeldW l e cls a0 L s.heap)
  (hE:∀h',(∀b,h'.get? b=s.heap.get? b)->E (.ref e) { s with heap:=h' }):wpAny M A (PySem.passOn what (.ref e) env) Q E s:=by
 obtain⟨_,_,_,oe,vs,T,oT,ts,e1,_,e2,e3,_,_,e4,e5,e6⟩:=id f
 unfold PySem.passOn
 refine wpAny_bind (wpAny_field e1 e2 e3 ?_)
 have hT:(Value.ref T == Value.none)=false:=rfl
 simp only [hT,Bool.false_eq_true,if_false]
 refine wpAny_bind ?_
 rw [hfr]
 unfold PySem.setFlight
 refine wpAny_bind (wpAny_field e1 e2 e3 ?_)
 have hT2:(Value.ref T != Value.none)=true:=rfl
 simp only [hT2,if_true]
 have h3:3<ts.size:=by
  rcases Nat.lt_or_ge 3 ts.size with z | z
  ·exact z
  ·rw [Array.getElem?_eq_none z] at e6; cases e6
 refine wpAny_setField e4 e5 h3 (wpAny_throw (hE _ fun b=>?_))
 by_cases hb:b=T
 ·subst hb
  have same:Obj.mapFields (fun x=>x.setIfInBounds 3 ((some L).elim Value.none fun f=>rawInt ↑f)) oT=oT:=by
   cases oT with
   | mk c d dt sl =>
    cases (show dt=.fields ts from e5)
    show Obj.mk c d (.fields (ts.setIfInBounds 3 (rawInt ↑L))) sl=_
    congr 2
    refine Array.ext_getElem? fun i=>?_
    rw [Array.getElem?_setIfInBounds]
    split
    ·rename_i hi
     subst hi
     first | exact e6.symm | (rw [if_pos h3]; exact e6.symm)
    ·rfl
  rw [Heap.get?_update_self _ e4 (by rw [same]; exact jq3 e4),same,e4]
 ·exact Heap.get?_update_ne _ b T _ hb
def EEc (X:Cx)(xs M:List Str)(scope:Scope)(s:Shared)(H:Hp)(fp:List Addr)(R:Hp->Prop)(Kx C:Addr):Value->Shared->Prop:=fun ev s' =>
 ∃pins σ H1 s1 H' e B a0,ev=.ref e∧Inv (jaq X xs M scope C s H fp) pins σ H1 s1∧s'.os=s1.os∧AllBare s'.gens∧FlyB X.prog X.w X.stack H1 H' s1.heap s'.heap B e Kx a0∧R H'
theorem Inv.nopins {X:Cx}{pins:List (Addr×Obj)}{σ:L2.St}{H:Hp}{s:Shared}(I:Inv X pins σ H s):Inv X [] σ H s :=
 ⟨I.ok,I.os,I.bare,I.base,I.loc,I.cell,I.free,I.freeC,fun p hp=>I.pin p (List.mem_append_left _ (by simpa using hp)),I.hok,I.len⟩
section
variable {X:Cx}{xs M:List Str}{scope:Scope}{target elt iter:Expr}{ifs:List Expr}{pos:Pos}{g:Addr->Shared->Hp->List Addr->TG}{tt:Addr->Shared->Hp->List Addr->TT}{te:Addr->Shared->Hp->List Addr->TE}{n:Nat}{wi:TI}{R:Hp->Prop}{Kx L:Addr}
theorem jts {B B' h h':Heap}{l:List Env}{e:Addr}{cls a0:Value}{C:Addr}{o2:Obj}(f:B.HeldW l e cls a0 L h)(hb:∀b o,B'.get? b=some o->h'.get? b=some o)(he:B'.get? e=none)(hC:∀b,b≠C->h'.get? b=h.get? b)(hB:∀b,B.get? b=none->B'.get? b=none)(hl:C∉frs l)(h1:e≠C)(h2:∀T,h.get? T=none∨B.get? T≠none∨T≠C):B'.HeldW l e cls a0 L h':=by
 obtain⟨f1,f2,f3,oe,vs,T,oT,ts,e1,ec,e2,e3,bT,nT,e4,e5,e6⟩:=f
 have tC:T≠C:=by
  rcases h2 T with z | z | z
  ·rw [z] at e4; cases e4
  ·exact absurd bT z
  ·exact z
 refine⟨hb,he,?_,oe,vs,T,oT,ts,(hC e h1).trans e1,ec,e2,e3,hB T bT,nT,(hC T tC).trans e4,e5,e6⟩
 have:∀l:List Env,C∉frs l->h.FunFrames B l->h'.FunFrames B' l:=by
  intro l
  induction l with
  | nil=>intro _ _; trivial
  | cons env l ih =>
   intro hn hf
   obtain⟨k,⟨L',o,z1,z2,z3,z4⟩,r⟩:=hf
   have hne:L'≠C:=fun z=>hn (by unfold frs; rw [List.filterMap_cons,z1,z]; exact List.mem_cons_self)
   refine⟨k,⟨L',o,z1,hB _ z2,(hC _ hne).trans z3,z4⟩,ih (fun z=>hn (by unfold frs at z ⊢; rw [List.filterMap_cons,z1]; exact List.mem_cons_of_mem _ z)) r⟩
 exact this l hl f3
theorem jxp (hP:jt3 X R Kx)(hst:X.stack=X.env::X.outer)(hfr:X.env.frame=some X.env.locals)(hk:jjv scope X.env xs M X.N=true)(hn:xs.length=n)(hc:X.calm=true)(hi:PI X target iter wi)
  (hg:∀C s H fp,PG (jaq X xs M scope C s H fp) target (g C s H fp)) (ht:∀C s H fp,PTs (jaq X xs M scope C s H fp) ifs (tt C s H fp)) (he:∀C s H fp,PE ((jaq X xs M scope C s H fp).wish (EEc X xs M scope s H fp R Kx C)) elt (te C s H fp))
  (hs:∀x,foldedSetIterable iter X.env x=pure x:=by intro _; rfl):PE X (.ListComp elt [⟨target,iter,ifs,0⟩] scope pos) (tLc n wi g tt te):=by
 intro pins s σ H Q I h
 have c:=jvs hk
 rw [eval_ListComp]
 refine jtX rfl hs (jnP (jkU I c)) c.kind c.loc (jQ (hi pins s σ H _ I h) fun v s1 h1=>jQ h1 fun itv s2 h2=>?_)
 obtain⟨it,fp,tn,J,H2,e,I2,T,st2,f2,rd⟩:=h2
 subst e
 refine jqc (EE:=fun C=>EEc X xs M scope s2 H2 fp R Kx C) (RR:=fun acc C r s'=>∃m,s'.heap.Ns C m∧∀h' m',h'.Ns C m'->Heap.SameBut C s'.heap h'->match r with
    | .ok _=>EP X pins σ Q acc { s' with heap:=h' }
    | .error x=>∀env':Env,env'.frame=X.env.frame->wpAny (model X.prog X.w) X.A (PySem.passOn "comprehension.variables-let-go" x env') (EP X pins σ Q) X.xe { s' with heap:=h' }) (Fin:=fun D _ H'=>Q (.ref D) H') c hn hc I2 T st2 f2 (fun C=>hg C _ _ _) (fun C=>ht C _ _ _) (fun C=>he C _ _ _) ?_ (fun D C hD=>rd D C s2 fp hD) ?_
 ·rintro D C ev s' hC ⟨pins1,σ1,H1,s1,H',ea,B,a0,rfl,I1,hos,hbr,fly,hR⟩
  have I1:=Inv.nopins I1
  unfold notedBy
  rw [jo6 (env:=compEnvC scope (cellsFrom (C+1) scope.names (jbO X.env scope.names [])) C X.env) (env':=X.env) rfl]
  have hA:X.A.frames=some (X.env::X.outer):=by rw [I.ok.frames,hst]
  have fl:=fly.fl
  rw [hst] at fl
  refine wpAny_looks_onW hA hfr fl fun h2 hh up=>?_
  obtain⟨m,⟨oC,es,ep,c1,c2,c3⟩,_⟩:=I1.loc
  have c1:s1.heap.get? C=some oC:=c1
  have hCn:H1 C=none:=I1.free
  have hCf:C∉frs X.stack:=fun z=>by
   rw [hst] at z
   unfold frs at z
   rw [List.filterMap_cons,hfr] at z
   rcases List.mem_cons.mp z with z | z
   ·exact absurd (Nat.lt_of_lt_of_le I2.lt hC) (by rw [z]; exact Nat.lt_irrefl _)
   ·exact I2.nofs hC z
  have cB:B.get? C=some oC:=fly.keep C oC c1 hCn hCf
  have c2':h2.get? C=some oC:=hh.1 C oC cB
  refine⟨m,⟨oC,es,ep,c2',c2,c3⟩,fun h3 m3 n3 sb env' he'=>?_⟩
  obtain⟨o3,es3,ep3,d1,d2,d3⟩:=n3
  have nf:=jq3 d1
  obtain⟨sbB,eB⟩:=jtL (o2:=o3) cB nf
  obtain⟨sb1,e1⟩:=jtL (o2:=o3) c1 nf
  have eaC:ea≠C:=fun z=>by have:=hh.2.1; rw [z,cB] at this; cases this
  have hTC:∀B':Heap,B'.get? C≠none->∀(hh:Heap) T,hh.get? T=none∨B'.get? T≠none∨T≠C:=fun B' hB hh T=>by
   by_cases z:T=C
   ·subst z; exact .inr (.inl hB)
   ·exact .inr (.inr z)
  have held:(B.update C fun _=>o3).HeldW X.stack ea (.ref Kx) a0 X.env.locals h3:=by
   rw [hst]
   refine jts (C:=C) (o2:=o3) hh (fun b o q=>?_) ?_ (fun b hb=>sb.2 b hb) (fun b hb=>?_) (by rw [←hst]; exact hCf) eaC (hTC B (by rw [cB]; exact fun z=>by cases z) _)
   ·by_cases hb:b=C
    ·subst hb; rw [eB] at q; cases q; exact d1
    ·rw [sbB.2 b hb] at q; rw [sb.2 b hb]; exact hh.1 b o q
   ·rw [sbB.2 ea eaC]; exact hh.2.1
   ·have hb':b≠C:=fun z=>by rw [z,cB] at hb; cases hb
    rw [sbB.2 b hb']; exact hb
  refine jwr (he'.trans hfr) held fun h4 same=>?_
  have H'C:H' C=none:=fly.free C oC c1 hCn
  refine hP pins σ H1 H' { s1 with heap:=s1.heap.update C fun _=>o3 } _ ea (B.update C fun _=>o3) a0 X.env.locals (jmJ I2 I1 f2 hC sb1) hfr hos hbr ⟨?_,?_,fun b o q n hb=>?_,fun b o q n hb=>?_,fun b o q n=>?_,fun b o q hb=>?_,fly.tups,fly.frzs,fly.tbls,fly.he⟩ hR
  ·exact jts (C:=C) (o2:=o3) held (fun b o q=>(same b).trans (held.1 b o q)) held.2.1 (fun b _=>same b) (fun b hb=>hb) hCf eaC (hTC _ (by rw [eB]; exact fun z=>by cases z) _)
  ·exact fun b o e=>(fly.hok b o e).stay (fun c v hc q=>sbB.extBut c v (fun z=>by
    subst z
    rcases hc with z | z
    ·rw [←z,H'C] at e; cases e
    ·rw [H'C] at z; cases z) q) (fun _ q=>q) fun _ _ q=>q
  ·by_cases hb':b=C
   ·subst hb'; rw [e1] at q; cases q; exact eB
   ·rw [sb1.2 b hb'] at q; rw [sbB.2 b hb']; exact fly.keep b o q n hb
  ·have hb':b≠C:=fun z=>hCf (z▸hb)
   have q:(s1.heap.update C fun _=>o3).get? b=some o:=q
   rw [sb1.2 b hb'] at q
   obtain⟨sl,z⟩:=fly.slot b o q n hb
   obtain⟨_,o',ho',hd⟩:=fly.fl.2.2.1.mem hb
   rw [z] at ho'; cases ho'
   obtain⟨sl2,z2⟩:=up b _ z hd
   exact⟨sl2,(same b).trans ((sb.2 b hb').trans z2)⟩
  ·by_cases hb':b=C
   ·rw [hb']; exact H'C
   ·have q:(s1.heap.update C fun _=>o3).get? b=some o:=q
    rw [sb1.2 b hb'] at q; exact fly.free b o q n
  ·by_cases hb':b=C
   ·subst hb'; exact⟨o3,eB⟩
   ·have q:(s1.heap.update C fun _=>o3).get? b=some o:=q
    rw [sb1.2 b hb'] at q
    obtain⟨o',z⟩:=fly.there b o q hb
    exact⟨o',by rw [sbB.2 b hb']; exact z⟩
 ·intro D C ys H' s' hD hC hys fin I'
  obtain⟨m,hm,_⟩:=I'.loc
  exact⟨m,hm,fun h' m' _ sb=>⟨.ref D,H',jmJ I2 I' f2 hC sb,rfl,fin⟩⟩
end
abbrev R4:=(Wd->Prop)->jN->Wd->Prop
def HandR (K:PySem.W.Frag)(Z:Zc)(B:Bs)(W:Wd)(Φ:Wd->Prop)(R:Hp->Prop):Prop:=∀S' H1 W',Φ W'->Same B.H0 H1->WOk K Z S' H1 W'->adr W'=adr W->R H1
def PRW (X:Cx)(Z:Zc)(R:Hp->Prop)(st:Stmt)(t:R4):Prop:=∃t2,PS X st t2∧∀B S H σ ρ W Φ D',EW X.K Z B S H σ ρ W->t Φ ρ W->HandR X.K Z B W Φ R->t2 D' σ H
def jgz (X:Cx)(Z:Zc)(R:Hp->Prop)(st:List Stmt)(t:R4):Prop:=∃t2,PSs X st t2∧∀B S H σ ρ W Φ D',EW X.K Z B S H σ ρ W->t Φ ρ W->HandR X.K Z B W Φ R->t2 D' σ H
def jmG (X:Cx)(Z:Zc)(R:Hp->Prop)(e:Expr)(t:R4):Prop:=∃t2,PE X e t2∧∀B S H σ ρ W Φ Q,EW X.K Z B S H σ ρ W->t Φ ρ W->HandR X.K Z B W Φ R->t2 σ H Q
theorem HandR.adr {K:PySem.W.Frag}{Z:Zc}{B:Bs}{W W1:Wd}{Φ:Wd->Prop}{R:Hp->Prop}(h:HandR K Z B W Φ R)(e:D3.adr W1=D3.adr W):HandR K Z B W1 Φ R:=fun S' H1 W' p s wk e'=>h S' H1 W' p s wk (e'.trans e)
section
variable {X:Cx}{Z:Zc}{R:Hp->Prop}{st:Stmt}{as bs jJ:List Stmt}{e c:Expr}{t u:R4}{tc:B4}{ts:S4}{t3:jN->Prop}{us:S4}{pos pos':Pos}
abbrev jg0 (t:jN->Prop):R4:=fun Φ ρ W=>t ρ∧Φ W
theorem jnK {B:Bs}{S:Addr->Prop}{H:Hp}{σ:L2.St}{ρ:jN}{W:Wd}{Φ:Wd->Prop}(ew:EW X.K Z B S H σ ρ W)(p:Φ W)(hd:HandR X.K Z B W Φ R):∀H1,Same (jgL B H W).H0 H1->R H1:=fun H1 s =>
 hd (jgL B H W).S0 H1 W p (fun a o e=>s a o (jfP ew.er.same a o e)) (ew.w.back s fun w hw=>.inr ⟨w,hw,rfl⟩) rfl
theorem jxx (h:PRD X R st t3):PRW X Z R st (jg0 t3):=by
 obtain⟨t2,h,w⟩:=h
 exact⟨t2,h,fun B S H σ ρ W Φ D' ew q hd=>w _ S H σ ρ D' ew.lend q.1 (jnK ew q.2 hd)⟩
theorem jec (h:PRE X R e t3):jmG X Z R e (jg0 t3):=by
 obtain⟨t2,h,w⟩:=h
 exact⟨t2,h,fun B S H σ ρ W Φ Q ew q hd=>w _ S H σ ρ Q ew.lend q.1 (jnK ew q.2 hd)⟩
theorem jeG (h:PRW X Z R st t):jgz X Z R [st] t:=by
 obtain⟨t2,h,w⟩:=h
 exact⟨_,jeH h,w⟩
abbrev jdb (ts:S4)(u:R4):R4:=fun Φ ρ W=>ts (fun f=>match f with | .nx ρ' W'=>u Φ ρ' W' | _=>False) ρ W
theorem jch (h:PSW X Z st ts)(g:jgz X Z R jJ u):jgz X Z R (st::jJ) (jdb ts u):=by
 obtain⟨t2,h,w⟩:=h; obtain⟨u2,g,z⟩:=g
 exact⟨_,jbX h g,fun B S H σ ρ W Φ D' ew q hd=>w B S H σ ρ W _ _ ew q ⟨fun ρ' S' H' σ' W' p ew' e=>z B S' H' σ' ρ' W' Φ D' ew' p (hd.adr e),fun _ _ _ _ _ p=>p.elim,fun _ _ _ _ _ p=>p.elim,fun _ _ _ _ _ p=>p.elim⟩⟩
abbrev jlc (tc:B4)(t u:R4):R4:=fun Φ ρ W=>tc ρ W fun k W'=>if k=true then t Φ ρ W' else u Φ ρ W'
theorem jgG (hc:PMB X Z c tc)(ha:jgz X Z R as t)(hb:jgz X Z R jJ u):jgz X Z R (.If c as [] pos::jJ) (jlc tc t u):=by
 obtain⟨c2,h,w⟩:=hc; obtain⟨t2,ha,wa⟩:=ha; obtain⟨u2,hb,wb⟩:=hb
 refine⟨_,jbX (jlo h ha jh9) hb,fun B S H σ ρ W Φ D' ew q hd=>w B S H σ ρ W _ _ ew q fun b H' W' p s e wk=>?_⟩
 have ew':=ew.goX s e wk
 cases b with
 | true =>
  have p:t Φ ρ W':=by simpa using p
  simp only [if_true]
  exact wa B S H' σ ρ W' Φ _ ew' p (hd.adr e)
 | false =>
  have p:u Φ ρ W':=by simpa using p
  simp only [Bool.false_eq_true,if_false]
  exact wb B S H' σ ρ W' Φ _ ew' p (hd.adr e)
theorem jim (h:jmG X Z R e t):PRW X Z R (.Return (some e) pos) t:=by
 obtain⟨t2,h,w⟩:=h
 exact⟨_,jnY h,fun B S H σ ρ W Φ D' ew q hd=>w B S H σ ρ W Φ _ ew q hd⟩
theorem joo {i:Nat}{y:Str}(hN:X.N.Nodup)(hi:X.N[i]?=some y)(hx:Loc X.env.scope y)(h:jmG X Z R e t)(hs:swapsWith e (some (.Name y pos')) pos.line X.env=pure false:=by rfl)
  (hf:X.fn y=true∨X.env.scope.names.lookup y=some .local:=by first | exact .inl rfl | exact .inr rfl | assumption):PRW X Z R (.Assign [.Name y pos'] e pos) t:=by
 obtain⟨t2,h,w⟩:=h
 exact⟨_,jkT hN hi hx h hs hf,fun B S H σ ρ W Φ D' ew q hd=>w B S H σ ρ W Φ _ ew q hd⟩
end
def jfn (K:PySem.W.Frag)(Z:Zc)(n:Nat)(C:Addr)(Pre:List Sl->Wd->Prop):Sp:=fun vs H _ E=>∃as S W,as.length=n∧RepsA K S H as vs∧SOk S H∧WOk K Z S H W∧Pre as W∧∀H',SameX W H H'->WOk K Z S H' W->E (.ref C) none H'
section
variable {P:Program}{w:World}{K:PySem.W.Frag}{mg:Str->Option Value}{base:Heap}{Z:Zc}
theorem jfa {x qual:Str}{st:Stmt}{f:Addr}{fd:FuncData}{N ps:List Str}{k:Nat}{C:Addr}{Pre:List Sl->Wd->Prop}(F:Fun K x qual st f fd)(S:jx N ps (ji st))
  (body:∀(cdv:Value) (A:Around) (outer:List Env) (s:Shared) (H:Hp) (E:XK),Room k (A.deeper (envOfC qual (ji st) s.heap.objs.size f cdv)) ->
   (∀pins σ H1 s1 e h' vs,Inv (jbU (CXC P w) P w K mg base N qual (ji st) f cdv A outer s H E) pins σ H1 s1->E (.ref C) none H1->Heap.MadeExcOf s1.heap h' e (.ref C) vs->(jbU (CXC P w) P w K mg base N qual (ji st) f cdv A outer s H E).xe (.ref e) { s1 with heap:=h' }) ->
   jlt (jbU (CXC P w) P w K mg base N qual (ji st) f cdv A outer s H E) (fun H1=>E (.ref C) none H1) C ->
   jt3 (jbU (CXC P w) P w K mg base N qual (ji st) f cdv A outer s H E) (fun H1=>E (.ref C) none H1) C ->
   ∃t,jgz (jbU (CXC P w) P w K mg base N qual (ji st) f cdv A outer s H E) Z (fun H1=>E (.ref C) none H1) (jan st) t∧∀as W,as.length=ps.length->Pre as W->t (fun W'=>W'=W) (ja0 N.length as) W) :
  FnOk P w K mg base (CXC P w) (k+1) f fd ps (jfn K Z ps.length C Pre):=by
 obtain⟨oc,od,kV,doc,pm,an,cdv,ct,osl,rfl,lk,hcd⟩:=F.ex
 refine jun lk hcd S (fun vs H Q E h=>?_) (fun A outer s H vs Q E hr h=>?_)
 ·obtain⟨as,S,W,hl,r,_⟩:=h
  rw [←r.len]; exact hl
 ·obtain⟨t,⟨t2,ht,wt⟩,rd⟩:=body cdv A outer s H E hr (fun pins σ H1 s1 e h' vs I hE m =>
   jjV I rfl rfl rfl m fun h'' B a0 fly=>⟨e,C,H1,B,a0,rfl,I.os,I.bare,fly,hE⟩)
   (fun pins σ H1 H' s1 s' e B a0 I hos hbr fly hE=>jmn I rfl rfl rfl fly fun h'' fly'=>⟨e,C,H',B,a0,rfl,hos.trans I.os,hbr,fly',hE⟩)
   (fun pins σ H1 H' s1 s' e B a0 L I hL hos hbr fly hE=>by
    cases (show some _=some L from hL)
    exact jrK I rfl rfl rfl fly fun h'' fly'=>⟨e,C,H',B,a0,rfl,hos.trans I.os,hbr,fly',hE⟩)
  obtain⟨as,S,W,hl,r,so,wk,hp,hE⟩:=h
  refine⟨t2,ht,wt ⟨jq0 S W,jhh H W,[]⟩ S H (L2.jbq N vs) (ja0 N.length as) W _ _ (jro r so wk) (rd as W hl hp) fun S' H1 W' e s wk' ea=>?_⟩
  subst e
  exact hE H1 (fun a o n ea=>s a o (by show jhh H W' a=some o; rw [joO n]; exact ea)) (wk'.out fun u hu=>(wk.ob u hu).s)
end
section
variable {X:Cx}{Z:Zc}{R:Hp->Prop}{C f:Addr}{k:Nat}{fd:FuncData}{ps:List Str}{Pre:List Sl->Wd->Prop}{o a:Expr}{es:List Expr}{m:Str}{pos apos:Pos}{ta:AM}
abbrev jfH (i:Nat)(n:Nat)(Pre:List Sl->Wd->Prop)(ta:AM):R4:=fun Φ ρ W=>match ρ[i]? with | some (.raw v)=>(∃o∈W,v=.ref o.p∧o.p≠o.q)∧ta ρ W fun as W'=>as.length+1=n∧Pre (.raw v::as) W'∧Φ W' | _=>False
theorem jg4 {i:Nat}{pl:Sem Bool}(hP:jlt X R C)(hf:(m == Z.f)=false)(ho:PE X o (jgq i))(cl:Cls X.K Z.C)(hm:joY X.K Z.C m f)(F:FnOk X.prog X.w X.K X.mg X.base (CXC X.prog X.w) k f fd ps (jfn X.K Z ps.length C Pre))(hr:Room k X.A)(hb:Binds X.K fd ps [])
  (ha:PAM X Z (a::es) ta) (hst:starEach (a::es) X.env=(false,eval a X.env)::starEach es X.env:=by rfl) (hpl:(backTo pos (starEach es X.env)).any (·.1)=false:=by rfl)
  (ht:eval (.Call (.Attribute o m apos) (a::es) [] pos) X.env=(do
   let ov ←eval o X.env
   standAt apos.atName
   let (f,first) ←holding [ov] (getMethod ov m pl)
   callWith pos f first (backTo pos (starEach (a::es) X.env)) (backToKw pos (keywordEach [] X.env))):=by rfl) :
  jmG X Z R (.Call (.Attribute o m apos) (a::es) [] pos) (jfH i ps.length Pre ta):=by
 obtain⟨t2,h,w⟩:=ha
 refine⟨fun σ H Q=>jgq i σ H fun x H1=>∃p dx fs,x=.ref p∧H1 p=some (.ins Z.C dx fs)∧fs.lookup m=none∧t2 σ H1 fun vs H2=>∃as S W,as.length=ps.length∧RepsA X.K S H2 as (x::vs)∧SOk S H2∧WOk X.K Z S H2 W∧Pre as W∧∀H',SameX W H2 H'->WOk X.K Z S H' W->R H',?_,?_⟩
 ·intro pins s σ H Q I hh
  refine PySem.W.methodCall_KW (pl:=pl) (jQ (ho pins s σ H _ I hh) fun u s1 qZ=>?_) ht
  obtain⟨x,H1,I1,rx,p,dx,fs,ex,ea,l,q⟩:=qZ
  subst ex
  obtain rfl:u=Value.ref p:=rx
  refine ji6 I1 ea cl hm l ?_
  refine PySem.W.callWith_K (first:=[.ref p]) (h₀:=X.base) I.ok.mod.kin hm.kp (jQ (h pos pins s1 σ H1 _ I1 q) fun us s2 ⟨vs,H2,I2,r,as,S,W,hl,rr,so,wk,hpre,hR⟩=>⟨I2.kIn,?_⟩) hst hpl
  have r2:Vals (V.ref p::vs) (Value.ref p::us):=.cons rfl r
  have hl2:(Value.ref p::us).length=ps.length:=by rw [←r2.length,←rr.len]; exact hl
  refine wpAny_call (codeAny_mono (F.run X.A X.stack s2 H2 ⟨Value.ref p::us,[]⟩ (Value.ref p::us) (V.ref p::vs) (fun _ _=>False) (fun c _ H'=>c=.ref C∧R H') hr I2.env0 ?_ r2 ⟨as,S,W,hl,rr,so,wk,hpre,fun H' s w=>⟨rfl,hR H' s w⟩⟩) fun res s' hq=>?_)
  ·have z:=hb s2 (Value.ref p::us) I2.kIn (by rw [List.append_nil]; exact hl2)
   rw [List.append_nil] at z; exact z
  cases res with
  | ok fl =>
   cases fl with
   | ret u=>obtain⟨_,_,_,_,_,_,_,z⟩:=hq; exact z.elim
   | next=>exact False.elim hq
   | brk=>exact False.elim hq
   | cont=>exact False.elim hq
  | error ev =>
   obtain⟨ea',C',H',Bh,a0,rfl,hos,hbr,fly,hc,hr'⟩:=hq
   cases hc
   exact hP pins σ H2 H' s2 s' ea' Bh a0 I2 hos hbr fly hr'
 ·intro B S H σ ρ W Φ Q ew q hd
  unfold jfH at q
  split at q
  ·rename_i v e0
   obtain⟨⟨o,ho,rfl,hpq⟩,q⟩:=q
   obtain⟨dx,ei⟩:=(ew.w.ob o ho).ins.resolve_left hpq
   refine⟨.ref o.p,ew.er.rf i _ e0,o.p,dx,_,rfl,ei,?_,w B S H σ ρ W _ _ ew q fun as vs H1 W1 hc s1 e1 wk1 r=>?_⟩
   ·rw [List.lookup_cons,hf]; rfl
   ·have ew1:=ew.goX s1 e1 wk1
    refine⟨.raw (.ref o.p)::as,S,W1,hc.1,.cons (show jmZ X.K S H1 (.raw (.ref o.p)) (.ref o.p) from rfl) r,ew1.er.ok,wk1,hc.2.1,fun H' s2 wk2=>?_⟩
    exact hd S H' W1 hc.2.2 (ew1.goX s2 rfl wk2).er.same wk2 e1
  ·exact q.elim
end
def jiI (g:G3)(te:E4)(tr:R4)(ρ:jN):List D->Nat->Wd->(Wd->Prop)->Prop
 | [],_,_,_=>False
 | d::ds,n,W,Φ=>g d ρ fun ρ1=>noDct ρ1∧(tr Φ ρ1 W∨te ρ1 W fun _ W'=>n<sizeLine∧jiI g te tr ρ ds (n+1) W' Φ)
abbrev jtP (n:Nat)(ti:A3)(g:G3)(te:E4)(tr:R4):R4:=fun Φ ρ W=>ti ρ fun ds=>jiI g te tr (List.replicate n .un++ρ) ds 0 W Φ
theorem jxo {K:PySem.W.Frag}{Z:Zc}{n:Nat}{g:G3}{te:E4}{tr:R4}{g2:TG}{te2:TE}{R:Hp->Prop}
  (wg:∀B S H σ ρ d v Ψ (Q:L2.St->Hp->Prop),ER K B S H σ ρ->Rep K S H d v->g d ρ Ψ->(∀ρ' σ',Ψ ρ'->ER K B S H σ' ρ'->σ'.length=σ.length->(∀j,σ'[n+j]?=σ[n+j]?)->Q σ' H)->g2 v σ H Q)
  (we:∀B S H σ ρ W Φ Q,EW K Z B S H σ ρ W->te ρ W Φ->jnZ K Z S H W Φ Q->te2 σ H Q) (wr:∀B S H σ ρ W Φ Q,EW K Z B S H σ ρ W->tr Φ ρ W->HandR K Z B W Φ R->te2 σ H Q)
  {B:Bs} {S:Addr->Prop} {H:Hp} {σ:L2.St} {ρ:jN} {W:Wd} {Φ:Wd->Prop} {J:It} {hs:List (D×V)} {ds:List D} {p:Addr} {Fin:List V->Hp->Prop}
  (ew:EW K Z B S H σ ρ W) (rv:∀p∈hs,Rep K S H p.1 p.2) (wk:jqO K J hs ds) (hp:H p=none) (h:jiI g te tr (List.replicate n .un++ρ) ds 0 W Φ) (hd:HandR K Z B W Φ R) :
  lcW n J g2 (fun _ H Q=>Q true H) te2 σ p Fin (j1 H p (.lst [])):=by
 have hno:∀(i:Nat) es,ρ[i]?=some (.own es)->σ[i]?≠some (some (.ref p)):=fun i es q z=>by
  obtain⟨a,zs,e,_,_,hl,_⟩:=ew.er.own i es q
  rw [e] at z; cases z
  rw [hp] at hl; cases hl
 have h0:B.H0 p=none:=ew.er.same.free hp
 refine⟨fun i m ys H1=>m=ds.length - i∧i≤ds.length∧H1 p=some (.lst ys)∧∃acc W1,adr W1=adr W∧EW K Z { B with gh:=hs++B.gh } (fun b=>S b∨b=p) H1 σ ρ W1∧Reps K (fun b=>S b∨b=p) H1 acc ys∧jiI g te tr (List.replicate n .un++ρ) (ds.drop i) acc.length W1 Φ,
  ⟨_,rfl,Nat.zero_le _,jaA,[],W,rfl,(ew.holds rv).gather hp,Reps.nil,h⟩,?_⟩
 rintro i m ys H1 ⟨rfl,hi,hl,acc,W1,ea,ew1,ra,hc⟩
 refine⟨hl,?_⟩
 obtain⟨wstop,wgo⟩:=wk _ H1 fun p hp=>ew1.er.gh p (List.mem_append_left _ hp)
 by_cases hlt:i<ds.length
 ·obtain⟨go,yl⟩:=wgo i hlt
  rw [List.drop_eq_getElem_cons hlt] at hc
  refine .inr ⟨go,fun x H2 y=>?_⟩
  obtain⟨sy,e',ee,re⟩:=yl x H2 y
  rw [List.getElem?_eq_getElem hlt] at ee
  cases ee
  have ew1:=ew1.go sy
  have hl:=sy _ _ hl
  have ra:=ra.same sy
  have ew1':=ew1.shift n
  refine wg _ _ _ _ _ _ x _ _ ew1'.er re hc fun ρ1 σ1 h1 er2 l1 l2=>⟨⟨by rw [l1,List.length_append,List.length_replicate],fun j=>?_⟩,?_⟩
  ·rw [l2 j,List.getElem?_append_right (by rw [List.length_replicate]; omega),List.length_replicate,Nat.add_sub_cancel_left]
  ·simp only [if_true]
   have ew2:EW K Z _ _ H2 σ1 ρ1 W1:=⟨er2,ew1.w,ew1.h0,h1.1⟩
   rcases h1.2 with h1 | h1
   ·exact wr _ _ _ _ _ _ _ _ ew2 h1 fun S' H' W' p' s' wk' e'=>hd S' H' W' p' s' wk' (e'.trans ea)
   ·refine we _ _ _ _ _ _ _ _ ew2 h1 fun y u H4 W4 hy s4 e4 wk4 ry=>?_
    have hl4:H4 p=some (.lst ys):=s4 _ _ (fun w hw z=>by
     obtain⟨kv,ek⟩:=ew1.w.dict w hw
     rw [←z,hl] at ek
     cases ek) hl
    have ew4:=ew1.goX s4 e4 wk4
    refine⟨hl4,by rw [←ra.len]; exact hy.1,_,by omega,rfl,hlt,jaA,acc++[y],W4,e4.trans ea,ew4.grow (.inr rfl) h0 hl4 hno,?_,by rw [List.length_append]; exact hy.2⟩
    obtain⟨hT,hL⟩:=jh4 (K:=K) (S:=fun b=>S b∨b=p) (ys:=ys++[u]) (.inr rfl) hl4
    exact Reps.map hT hL _ _ ((ra.sameX ew1.w.dict s4).app (Reps.cons ry Reps.nil))
 ·have hi':i=ds.length:=by omega
  subst hi'
  rw [List.drop_length] at hc
  exact hc.elim
section
variable {X:Cx}{Z:Zc}{xs M:List Str}{scope:Scope}{target elt iter:Expr}{pos:Pos}{ti:A3}{g:G3}{te:E4}{tr:R4}{n:Nat}{R:Hp->Prop}{Kx:Addr}
theorem jpZ (hP:jt3 X R Kx)(hst:X.stack=X.env::X.outer)(hfr:X.env.frame=some X.env.locals)(hk:jjv scope X.env xs M X.N=true)(hn:xs.length=n)(hc:X.calm=true)(hi:PID X target iter ti)
  (hg:∀C s H fp,PGN (jaq X xs M scope C s H fp) n target g) (he:∀C s H fp,PM ((jaq X xs M scope C s H fp).wish (EEc X xs M scope s H fp R Kx C)) Z elt te) (hr:∀C s H fp,jmG ((jaq X xs M scope C s H fp).wish (EEc X xs M scope s H fp R Kx C)) Z R elt tr)
  (hs:∀x,foldedSetIterable iter X.env x=pure x:=by intro _; rfl):jmG X Z R (.ListComp elt [⟨target,iter,[],0⟩] scope pos) (jtP n ti g te tr):=by
 obtain⟨wi,hi,ww⟩:=hi
 refine⟨_,jxp hP hst hfr hk hn hc hi (fun C s H fp=>(hg C s H fp).choose_spec.1) (fun C s H fp=>.inl ⟨rfl,rfl⟩) (te:=fun C s H fp σ H' Q=>(he C s H fp).choose σ H' Q∨(hr C s H fp).choose σ H' Q) (fun C s H fp pins s1 σ H1 Q I h=>?_) hs,fun B S H σ ρ W Φ Q ew q hd=>?_⟩
 ·rcases h with h | h
  ·exact(he C s H fp).choose_spec.1 pins s1 σ H1 Q I h
  ·exact(hr C s H fp).choose_spec.1 pins s1 σ H1 Q I h
 refine ww B S H σ ρ _ _ ew.er q fun ds J hs H1 hΦ s1 rv wk D C s fp hD=>?_
 exact jxo (hg C s H1 fp).choose_spec.2 (fun B S H σ ρ W Φ Q ew q hd=>.inl ((he C s H1 fp).choose_spec.2 B S H σ ρ W Φ Q ew q hd)) (fun B S H σ ρ W Φ Q ew q hd=>.inr ((hr C s H1 fp).choose_spec.2 B S H σ ρ W Φ Q ew q hd)) (ew.go s1) rv wk hD hΦ hd
end
theorem jtG {X:Cx}{xs M:List Str}{scope:Scope}{s:Shared}{H:Hp}{fp:List Addr}{R:Hp->Prop}{Kx C:Addr}:jlt ((jaq X xs M scope C s H fp).wish (EEc X xs M scope s H fp R Kx C)) R Kx:=fun pins σ H1 H' s1 s' e B a0 I hos hbr fly hR =>
 ⟨pins,σ,H1,s1,H',e,B,a0,rfl,I.unwish,hos,hbr,fly,hR⟩
section
variable {X:Cx}{Z:Zc}{C f:Addr}{k:Nat}{fd:FuncData}{ps:List Str}{Pre:List Sl->Wd->Prop}{o a:Expr}{es:List Expr}{m y:Str}{pos apos pos' tp hp py:Pos}{ta:AM}{D:Addr}{b₀:Stmt}{suite:List Stmt}{ts:S4}{tm:E4}
def jAf (X:Cx)(Z:Zc)(i:Nat)(m:Str)(n:Nat)(Pre:List Sl->Wd->Prop)(t2:TA)(R:Hp->Prop):L2.St->Hp->Prop:=fun σ H=>jgq i σ H fun x H1=>∃p dx fs,x=.ref p∧H1 p=some (.ins Z.C dx fs)∧fs.lookup m=none∧t2 σ H1 fun vs H2=>∃as S W,as.length=n∧RepsA X.K S H2 as (x::vs)∧SOk S H2∧WOk X.K Z S H2 W∧Pre as W∧∀H',SameX W H2 H'->WOk X.K Z S H' W->R H'
theorem juH {i:Nat}{pl:Sem Bool}{t2:TA}{R:Hp->Prop}{pins:List (Addr×Obj)}{s:Shared}{σ:L2.St}{H:Hp}{Q:Value->Shared->Prop}(hxf:∀e s,X.xe e s->False)(ho:PE X o (jgq i))(cl:Cls X.K Z.C)(hm:joY X.K Z.C m f)(F:FnOk X.prog X.w X.K X.mg X.base (CXC X.prog X.w) k f fd ps (jfn X.K Z ps.length C Pre))(hr:Room k X.A)(hb:Binds X.K fd ps [])
  (ha:PA X (a::es) t2) (I:Inv X pins σ H s) (hh:jAf X Z i m ps.length Pre t2 R σ H) (hst:starEach (a::es) X.env=(false,eval a X.env)::starEach es X.env) (hpl:(backTo pos (starEach es X.env)).any (·.1)=false)
  (ht:eval (.Call (.Attribute o m apos) (a::es) [] pos) X.env=(do
   let ov ←eval o X.env
   standAt apos.atName
   let (f,first) ←holding [ov] (getMethod ov m pl)
   callWith pos f first (backTo pos (starEach (a::es) X.env)) (backToKw pos (keywordEach [] X.env)))) :
  wpAny (model X.prog X.w) X.A (eval (.Call (.Attribute o m apos) (a::es) [] pos) X.env) Q (fun ev s'=>∃ea H1 s1 H' B a0,ev=.ref ea∧Inv X pins σ H1 s1∧s'.os=s1.os∧AllBare s'.gens∧FlyB X.prog X.w X.stack H1 H' s1.heap s'.heap B ea C a0∧R H') s:=by
 refine PySem.W.methodCall_KW (pl:=pl) (wpAny_mono (ho pins s σ H _ I hh) (fun u s1 qZ=>?_) fun _ _ z=>(hxf _ _ z).elim) ht
 obtain⟨x,H1,I1,rx,p,dx,fs,ex,ea,l,q⟩:=qZ
 subst ex
 obtain rfl:u=Value.ref p:=rx
 refine ji6 I1 ea cl hm l ?_
 refine PySem.W.callWith_K (first:=[.ref p]) (h₀:=X.base) I.ok.mod.kin hm.kp (wpAny_mono (ha pos pins s1 σ H1 _ I1 q) (fun us s2 ⟨vs,H2,I2,r,as,S,W,hl,rr,so,wk,hpre,hR⟩=>⟨I2.kIn,?_⟩) fun _ _ z=>(hxf _ _ z).elim) hst hpl
 have r2:Vals (V.ref p::vs) (Value.ref p::us):=.cons rfl r
 have hl2:(Value.ref p::us).length=ps.length:=by rw [←r2.length,←rr.len]; exact hl
 refine wpAny_call (codeAny_mono (F.run X.A X.stack s2 H2 ⟨Value.ref p::us,[]⟩ (Value.ref p::us) (V.ref p::vs) (fun _ _=>False) (fun c _ H'=>c=.ref C∧R H') hr I2.env0 ?_ r2 ⟨as,S,W,hl,rr,so,wk,hpre,fun H' s w=>⟨rfl,hR H' s w⟩⟩) fun res s' hq=>?_)
 ·have z:=hb s2 (Value.ref p::us) I2.kIn (by rw [List.append_nil]; exact hl2)
  rw [List.append_nil] at z; exact z
 cases res with
 | ok fl =>
  cases fl with
  | ret u=>obtain⟨_,_,_,_,_,_,_,z⟩:=hq; exact z.elim
  | next=>exact False.elim hq
  | brk=>exact False.elim hq
  | cont=>exact False.elim hq
 | error ev =>
  obtain⟨ea',C',H',Bh,a0,rfl,hos,hbr,fly,hc,hr'⟩:=hq
  cases hc
  exact⟨ea',H2,s2,H',Bh,a0,rfl,I2,hos,hbr,fly,hr'⟩
abbrev nxW (Φ:F4->Prop):F4->Prop
 | .nx ρ W=>Φ (.nx ρ W)
 | _=>False
theorem jyZ {e:Expr}(hsw:swapsWith e none pos'.line X.env=pure false){pins:List (Addr×Obj)}{σ:L2.St}{H:Hp}{s:Shared}{Q:Flow->Shared->Prop}{E:Value->Shared->Prop}(I:Inv X pins σ H s)(h:wpAny (model X.prog X.w) X.A (eval e X.env) (fun _ _=>False) E s):wpAny (model X.prog X.w) X.A (exec (.Expr e pos') X.env) Q E s :=
 wpAny_Expr_any (wpAny_mono h (fun _ _ z=>z.elim) fun _ _ z=>z) I.quiet hsw
end
section
variable {K:PySem.W.Frag}{Z:Zc}{B:Bs}{S:Addr->Prop}{H:Hp}{σ:L2.St}{ρ:jN}{W:Wd}{p:Addr}{o:HO}{vs:List V}{i:Nat}
def jCR (B:Bs)(p:Addr)(o:HO):Bs:=⟨B.S0,j1 B.H0 p o,B.gh⟩
abbrev rtF (Φ:F4->Prop):F4->Prop
 | .rt d W=>Φ (.rt d W)
 | _=>False
end
section
variable {X:Cx}{Z:Zc}{e e1 e2:Expr}{jJ:List Stmt}{u:S4}{R:Addr->Addr->Prop}{pos pos' lpos pd:Pos}
abbrev GV:=jN->(V->Prop)->Prop
end
abbrev AI:=jN->Wd->(List D->Wd->Prop)->Prop
abbrev jAy (tm tn:E4):E4:=fun ρ W Φ=>mT tm ρ W fun k W'=>if k=true then tn ρ W' Φ else Φ (.bl false) W'
section
variable {X:Cx}{Z:Zc}{a b:Expr}{jJ:List Expr}{tm tn:E4}{pos:Pos}
theorem jA8 {op}(h:PM X Z a tm):PM X Z (.BoolOp op [a] pos) tm:=let ⟨t2,h,w⟩:=h; ⟨t2,jvw h,w⟩
theorem jA1 (ha:PM X Z a tm)(hb:PM X Z (.BoolOp .And (b::jJ) pos) tn):PM X Z (.BoolOp .And (a::b::jJ) pos) (jAy tm tn):=by
 obtain⟨t2,h,w⟩:=ha; obtain⟨u2,g,z⟩:=hb
 refine⟨_,juR h g,fun B S H σ ρ W Φ Q ew q hd=>w B S H σ ρ W _ _ ew q fun d v H1 W1 hk s1 e1 wk1 r=>?_⟩
 cases d <;> first | exact hk.elim | skip
 rename_i k
 refine⟨k,jaz r,?_⟩
 cases k with
 | true =>
  have hk:tn ρ W1 Φ:=by simpa using hk
  simp only [if_true]
  exact z B S H1 σ ρ W1 _ _ (ew.goX s1 e1 wk1) hk fun d v H2 W2 h2 s2 e2 wk2 r2=>hd d v H2 W2 h2 (s1.trans (s2.adr e1)) (e2.trans e1) wk2 r2
 | false =>
  have hk:Φ (.bl false) W1:=by simpa using hk
  simp only [Bool.false_eq_true,if_false]
  exact hd _ _ H1 W1 hk s1 e1 wk1 Rep.bl
end
section
variable {X:Cx}
abbrev jqH:R3
 | .str x,.int n,Φ=>2≤n∧n≤1000∧x.length=1∧Φ (.str (Txt.mul x n))
 | _,_,_=>False
theorem jrn:OpD X (binaryOp .Mult) jqH:=by
 refine⟨fun u v H Q=>∃x n,u=.str x∧v=.int n∧2≤n∧n≤1000∧x.length=1∧Q (.str (Txt.mul x n)) H,fun pins s σ H x y v u Q I rx ry h=>?_,fun S H x y u v Φ Q so rx ry hr hd=>?_⟩
 ·obtain⟨z,n,rfl,rfl,h1,h2,h3,q⟩:=h
  obtain⟨t,rfl⟩:=rx
  obtain⟨t',rfl⟩:=ry
  refine SB.mul ⟨?_,fun _ _=>?_,fun _ _=>?_⟩ fun t' k=>⟨.str _,H,I.tok _,⟨t',rfl⟩,q⟩
  ·rw [Bool.or_eq_false_iff]; exact⟨decide_eq_false (by omega),decide_eq_false (by omega)⟩
  ·rw [h3]
   intro z
   have:(2^63 - 1:Int) / n<((1:Nat):Int):=z
   have h9:n≤(2^63 - 1:Int):=by omega
   have:=Int.ediv_le_ediv (by omega:(0:Int)<n) h9
   rw [Int.ediv_self (by omega)] at this
   omega
  ·rw [h3,Nat.one_mul]
   unfold Builtin.Str.tooLong
   have:1000<sizeLine:=by decide
   exact decide_eq_false (by omega)
 ·match x,y,hr with
  | .str z,.int n,hr =>
   simp only [Rep] at rx ry
   subst rx ry
   exact⟨z,n,rfl,rfl,hr.1,hr.2.1,hr.2.2.1,hd _ _ H hr.2.2.2 (Same.refl _) Rep.str⟩
end
section
variable {X:Cx}{pins:List (Addr×Obj)}{σ:L2.St}{H:Hp}{s:Shared}{S:Addr->Prop}
theorem jpN (I:Inv X pins σ H s){x:D}:∀{ds:List D} {xs:List V} {us:List Value},Reps X.K S H ds xs->Vals xs us->us.countP (eqW X.K S H x)=ds.countP (fun d=>jF d x)
 | [],xs,us,r,v=>by
  simp only [Reps] at r; subst r; cases v; rfl
 | d::ds,xs,us,r,v=>by
  simp only [Reps] at r
  obtain⟨y,ys,rfl,ry,r⟩:=r
  cases v with
  | cons h v=>rw [List.countP_cons,List.countP_cons,jrr I ry h,jpN I r v]
theorem jrM (I:Inv X pins σ H s){x:D}:∀{ds:List D} {xs:List V} {us:List Value} (j:Nat) (u:Value),Reps X.K S H ds xs->Vals xs us->us[j]?=some u->∃d,ds[j]?=some d∧eqW X.K S H x u=jF d x
 | [],xs,us,j,u,r,v,e=>by
  simp only [Reps] at r; subst r; cases v; cases e
 | d::ds,xs,us,j,u,r,v,e=>by
  simp only [Reps] at r
  obtain⟨y,ys,rfl,ry,r⟩:=r
  cases v with
  | cons h v =>
   cases j with
   | zero=>cases e; exact⟨d,rfl,jrr I ry h⟩
   | succ j=>exact jrM I j u r v e
def jAz (X:Cx):V->List V->Hp->VK->Prop:=fun x ys H Q=>∃S p xs ds d v,x=.ref p∧ys=[v]∧SqL X.K H p xs∧Reps X.K S H ds xs∧Rep X.K S H d v∧(∀e∈ds,dep e≤90)∧Q (.int (ds.countP fun e=>jF e d:Nat)) H
theorem ji5 (hu:X.A.units+100<cLine):MtR X "list.count" (jAz X):=by
 intro pins s σ H x ys v us Q I rx rv h
 obtain⟨S,p,xs,ds,d,w,rfl,rfl,hq,rs,rd,hd,q⟩:=h
 cases rx
 obtain⟨u,rfl,ru⟩:=rv.one
 obtain⟨its,r,pl,hz⟩:=I.list hq
 obtain⟨⟨cls,dd,data,sl⟩,ho,hc,n,hdt⟩:=id pl.isList
 simp only at hc hdt
 subst hc hdt
 refine call_meets PySem.F.slot_list_count ⟨_,ho,rfl⟩ PySem.F.entry_list_count (PySem.F.args_list_count_2 _ _) (SeqAt.list_countAt p its.toArray n dd sl u (eqW X.K S H d)) ⟨ho,fun y hy=>jof I hu rd ru hd rs r y (by simpa using hy),?_⟩
 rw [show its.toArray.toList=its from rfl,jpN I rs r]
 exact⟨.int _,H,I.tok _,⟨_,rfl⟩,q⟩
def jzM (X:Cx):V->List V->Hp->VK->Prop:=fun x ys H Q=>∃S p xs ds d v j,x=.ref p∧ys=[v]∧SqL X.K H p xs∧Reps X.K S H ds xs∧Rep X.K S H d v∧(∀e∈ds,dep e≤90)∧(∃e,ds[j]?=some e∧jF e d=true)∧(∀i e,i<j->ds[i]?=some e->jF e d=false)∧j<1000∧Q (.int (j:Nat)) H
theorem jcK (hu:X.A.units+100<cLine):MtR X "list.index" (jzM X):=by
 intro pins s σ H x ys v us Q I rx rv h
 obtain⟨S,p,xs,ds,d,w,j,rfl,rfl,hq,rs,rd,hd,⟨e,ee,he⟩,hno,hj,q⟩:=h
 cases rx
 obtain⟨u,rfl,ru⟩:=rv.one
 obtain⟨its,r,pl,hz⟩:=I.list hq
 obtain⟨⟨cls,dd,data,sl⟩,ho,hc,n,hdt⟩:=id pl.isList
 simp only at hc hdt
 subst hc hdt
 have hl:its.length=ds.length:=by rw [rs.len,r.length]
 have hjl:j<its.length:=by rw [hl]; exact(List.getElem?_eq_some_iff.mp ee).1
 refine call_meets PySem.F.slot_list_index ⟨_,ho,rfl⟩ PySem.F.entry_list_index (PySem.F.args_list_index_2 _ _)
  (SeqAt.list_indexAt p its.toArray n dd sl u (eqW X.K S H d) j (by simpa using hjl) (by omega) ?_ ?_) ⟨ho,fun y hy=>jof I hu rd ru hd rs r y (by simpa using hy),⟨.int _,H,I.tok _,⟨_,rfl⟩,q⟩⟩
 ·show eqW X.K S H d its[j]=true
  obtain⟨e',e1,e2⟩:=jrM I (x:=d) j its[j] rs r (List.getElem?_eq_getElem hjl)
  rw [ee] at e1; cases e1
  rw [e2]; exact he
 ·intro m hm hlt
  have hm':m<its.length:=by simpa using hm
  show eqW X.K S H d its[m]=false
  obtain⟨e',e1,e2⟩:=jrM I (x:=d) m its[m] rs r (List.getElem?_eq_getElem hm')
  rw [e2]; exact hno m e' hlt e1
abbrev joz:R3
 | .lst ds,d,Φ=>(∀e∈ds,dep e≤90)∧Φ (.int (ds.countP fun e=>jF e d:Nat))
 | _,_,_=>False
abbrev jgc:R3
 | .lst ds,d,Φ=>(∀e∈ds,dep e≤90)∧∃j:Nat,(∃e,ds[j]?=some e∧jF e d=true)∧(∀i e,i<j->ds[i]?=some e->jF e d=false)∧j<1000∧Φ (.int (j:Nat))
 | _,_,_=>False
end
abbrev dLm (r:R3)(to te:E3):E3:=fun ρ Φ=>to ρ fun x=>match x with | .lst ds=>te ρ fun y=>r (.lst ds) y Φ | _=>False
section
variable {X:Cx}{o e:Expr}{to te:E3}{apos cpos:Pos}
theorem jct {name:Str}{id:String}{r2:V->List V->Hp->VK->Prop}{r:R3}(slot:Slot "list" name id)(hty:typeOf (.builtin id)=pure (.type "method_descriptor"))(hm:MtR X id r2)
  (hw:∀S H ds d a xs v Φ Q,SqL X.K H a xs->Reps X.K S H ds xs->Rep X.K S H d v->r (.lst ds) d Φ->(∀z H',Φ z->∀u,Same H H'->Rep X.K S H' z u->Q u H')->r2 (.ref a) [v] H Q)
  (ho:PD X o to) (he:PD X e te)
  (hbase:attributeBase o name X.env (eval o X.env)=eval o X.env:=by rfl)
  (hfew:((backTo cpos (starEach [e] X.env)).all (fun x=>!x.1)&&(backToKw cpos (keywordEach [] X.env)).all (fun x=>x.1.isSome)
  &&decide (([e]:List Expr).length+([]:List Keyword).length+(if ([]:List Keyword).isEmpty then 0 else 1)<30))=true:=by rfl)
  (hline:(apos.endLine == cpos.line)=true:=by rfl) (hs:starEach [e] X.env=(false,eval e X.env)::starEach [] X.env:=by rfl) :
  PD X (.Call (.Attribute o name apos) [e] [] cpos) (dLm r to te):=by
 obtain⟨t1,ho,w1⟩:=ho; obtain⟨t2,he,w2⟩:=he
 refine⟨_,juC PySem.F.plainAttrs_list slot hty hm ho (jaZ he jca hs) hbase hfew hline hs rfl,fun B S H σ ρ Φ Q er q hd=>w1 B S H σ ρ _ _ er q fun d v H1 p1 s1 r1=>?_⟩
 cases d <;> first | exact p1.elim | skip
 rename_i ds
 obtain⟨a,xs,rfl,lr,rs⟩:=j3 r1
 refine⟨.inl ⟨rfl,xs,lr.sq⟩,w2 B S H1 σ ρ _ _ (er.go s1) p1 fun d v H2 p2 s2 r2=>?_⟩
 obtain⟨a',xs',ea,lr',rs'⟩:=j3 (r1.same s2)
 cases ea
 exact hw S H2 ds d a xs' v Φ Q lr'.sq rs' r2 p2 fun z H' hz u s3 rz=>hd z u H' hz ((s1.trans s2).trans s3) rz
theorem jlr:∀S H ds d a xs v (Φ:D->Prop) (Q:VK),SqL X.K H a xs->Reps X.K S H ds xs->Rep X.K S H d v->joz (.lst ds) d Φ->(∀z H',Φ z->∀u,Same H H'->Rep X.K S H' z u->Q u H')->jAz X (.ref a) [v] H Q:=fun S H ds d a xs v Φ Q sq rs rd h k =>
 ⟨S,a,xs,ds,d,v,rfl,rfl,sq,rs,rd,h.1,k _ H h.2 _ (Same.refl _) Rep.int⟩
theorem jdU:∀S H ds d a xs v (Φ:D->Prop) (Q:VK),SqL X.K H a xs->Reps X.K S H ds xs->Rep X.K S H d v->jgc (.lst ds) d Φ->(∀z H',Φ z->∀u,Same H H'->Rep X.K S H' z u->Q u H')->jzM X (.ref a) [v] H Q:=fun S H ds d a xs v Φ Q sq rs rd h k=>by
 obtain⟨h1,j,h2,h3,h4,h5⟩:=h
 exact⟨S,a,xs,ds,d,v,j,rfl,rfl,sq,rs,rd,h1,h2,h3,h4,k _ H h5 _ (Same.refl _) Rep.int⟩
end
theorem hux {A:Around}{k:Nat}{e:Option Value}(hr:Room k A):(A.mark e).units+100<cLine:=by rw [Around.mark_units]; exact hu3 hr
def PTX (X:Cx)(i:Nat)(ea:Addr)(e:Expr)(t:B3):Prop:=∃t2,PT X e t2∧∀B S H σ ρ Φ (Q:Bool->Hp->Prop),ER X.K B S H σ ρ->σ[i]?=some (some (.ref ea))->t ρ Φ->(∀b H',Φ b->Same H H'->Q b H')->t2 σ H Q
def PWX (X:Cx)(i:Nat)(ea:Addr)(e:Expr)(t:B3):Prop:=∃t2,PW X e t2∧∀B S H σ ρ Φ (Q:Bool->Hp->Prop),ER X.K B S H σ ρ->σ[i]?=some (some (.ref ea))->t ρ Φ->(∀b H',Φ b->Same H H'->Q b H')->t2 σ H Q
section
variable {X:Cx}{i:Nat}{ea:Addr}{e a b:Expr}{jJ:List Expr}{as:List Stmt}{tA tB':B3}{bv:Bool}{ts:S3}{pos:Pos}
theorem je3 (h:PB X e tA):PTX X i ea e tA:=let ⟨t2,h,w⟩:=h; ⟨t2,h,fun B S H σ ρ Φ Q er _ q hd=>w B S H σ ρ Φ Q er q hd⟩
theorem jqB (h:PBX X i ea e bv)(he:∀whole,isTrue e X.env whole=(do let v ←whole; standAt e.pos; holding [v] (truthy v)):=by intro _; rfl):PTX X i ea e (fun _ Φ=>Φ bv):=by
 obtain⟨t2,h,w⟩:=h
 exact⟨_,jvY h he,fun B S H σ ρ Φ Q er hs q hd=>w σ H _ hs fun H' s=>⟨bv,rfl,hd bv H' q s⟩⟩
theorem PWX.ptx (h:PWX X i ea e tA):PTX X i ea e tA:=let ⟨t2,h,w⟩:=h; ⟨t2,h.pt,w⟩
theorem jjx (ha:PTX X i ea a tA):PWX X i ea (.BoolOp .And [a] pos) tA:=let ⟨t2,h,w⟩:=ha; ⟨t2,jyI h,w⟩
theorem jdL (ha:PTX X i ea a tA)(hb:PWX X i ea (.BoolOp .And (b::jJ) pos) tB'):PWX X i ea (.BoolOp .And (a::b::jJ) pos) (jgk tA tB'):=by
 obtain⟨t2,h,w⟩:=ha; obtain⟨u2,g,z⟩:=hb
 refine⟨_,jzI h g,fun B S H σ ρ Φ Q er hs q hd=>w B S H σ ρ _ _ er hs q fun k H1 hk s1=>?_⟩
 cases k with
 | true =>
  have hk:tB' ρ Φ:=by simpa using hk
  simp only [if_true]
  exact z B S H1 σ ρ _ _ (er.go s1) hs hk fun k2 H2 h2 s2=>hd k2 H2 h2 (s1.trans s2)
 | false =>
  have hk:Φ false:=by simpa using hk
  simp only [Bool.false_eq_true,if_false]
  exact hd false H1 hk s1
abbrev xIf (tc:B3)(ts:S3):S3:=fun Φ ρ=>tc ρ fun k=>if k=true then ts Φ ρ else Φ (.nx ρ)
theorem jiQ (hc:PTX X i ea e tA)(ha:jgy X i ea as ts):jgy X i ea [.If e as [] pos] (xIf tA ts):=by
 obtain⟨c2,h,w⟩:=hc; obtain⟨t2,ha,wa⟩:=ha
 refine⟨_,jeH (jlo h ha jh9),fun B S H σ ρ Φ D' er hv q k=>w B S H σ ρ _ _ er hv q fun b H1 p s1=>?_⟩
 cases b with
 | true =>
  have p:ts Φ ρ:=by simpa using p
  simp only [if_true]
  exact wa B S H1 σ ρ Φ D' (er.go s1) hv p k
 | false =>
  have p:Φ (.nx ρ):=by simpa using p
  simp only [Bool.false_eq_true,if_false]
  exact k H1 σ ρ p (er.go s1)
end
section
variable {X:Cx}{Z:Zc}{st:Stmt}{t u:S4}
abbrev wOr (t u:S4):S4:=fun Φ ρ W=>t Φ ρ W∨u Φ ρ W
theorem jm0 (h:PSW X Z st t)(g:PSW X Z st u):PSW X Z st (wOr t u):=by
 obtain⟨t2,h,w⟩:=h; obtain⟨u2,g,z⟩:=g
 refine⟨fun D' σ H=>t2 D' σ H∨u2 D' σ H,fun pins s σ H D' I q=>?_,fun B S H σ ρ W Φ D' ew q ok=>?_⟩
 ·rcases q with q | q
  ·exact h pins s σ H D' I q
  ·exact g pins s σ H D' I q
 ·rcases q with q | q
  ·exact .inl (w B S H σ ρ W Φ D' ew q ok)
  ·exact .inr (z B S H σ ρ W Φ D' ew q ok)
end
section
variable {X:Cx}{Z:Zc}{C f:Addr}{k:Nat}{fd:FuncData}{ps:List Str}{Pre:List Sl->Wd->Prop}{o a:Expr}{es:List Expr}{m y n:Str}{pos apos pos' tp hp py:Pos}{ta:AM}{D:Addr}{b₀ st0:Stmt}{suite:List Stmt}{h0:ExceptHandler}{hs:List ExceptHandler}{ts:S3}{tn:S4}
abbrev jym (tn:S4):S4:=fun Φ ρ W=>tn (nxW Φ) ρ W
theorem jw4 (hxf:∀e s,X.xe e s->False)(hn:PSW X Z st0 tn):PSW X Z (.Try [st0] (h0::hs) [] [] tp) (jym tn):=by
 obtain⟨n2,hn,wn⟩:=hn
 refine⟨fun D' σ H=>n2 { nx:=D'.nx,bk:=fun _ _=>False,ct:=fun _ _=>False,rt:=fun _ _=>False } σ H,?_,?_⟩
 ·intro pins s σ H D' I hh
  refine wpAny_Try_except (wpAny_execs_cons ?_)
  refine wpAny_mono (hn pins s σ H _ I hh) (fun fl s1 q=>?_) fun _ _ z=>(hxf _ _ z).elim
  cases fl with
  | next =>
   obtain⟨σ2,H2,I2,q2⟩:=q
   exact wpAny_execs_nil (wpAny_execs_nil ⟨σ2,H2,I2,q2⟩)
  | brk=>obtain⟨_,_,_,z⟩:=q; exact z.elim
  | cont=>obtain⟨_,_,_,z⟩:=q; exact z.elim
  | ret u=>obtain⟨_,_,_,_,_,z⟩:=q; exact z.elim
 ·intro B S H σ ρ W Φ D' ew q ok
  exact wn B S H σ ρ W _ _ ew q ⟨fun ρ' S' H2 σ' W' p ew' e=>ok.nx ρ' S' H2 σ' W' p ew' e,fun _ _ _ _ _ p=>p.elim,fun _ _ _ _ _ p=>p.elim,fun _ _ _ _ _ p=>p.elim⟩
abbrev jhS (i j m:Nat)(Pre:List Sl->Wd->Prop)(ta:AM)(ts:S3):S4:=fun Φ ρ W=>jfH j m Pre ta (fun W'=>ρ[i]?=some .un∧ts (jxI i (jqA (nxW Φ) W')) ρ) ρ W
theorem jgM {i j:Nat}{pl:Sem Bool}(hxf:∀e s,X.xe e s->False)(hst:X.stack=X.env::X.outer)(hfr:X.env.frame=some X.env.locals)(hf:(m == Z.f)=false)
  (ho:PE X o (jgq j)) (cl:Cls X.K Z.C) (hm:joY X.K Z.C m f) (F:FnOk X.prog X.w X.K X.mg X.base (CXC X.prog X.w) k f fd ps (jfn X.K Z ps.length C Pre)) (hr:Room k X.A) (hb:Binds X.K fd ps []) (ha:PAM X Z (a::es) ta)
  (hgy:Gl X y) (hmy:X.mg y=some (.ref D)) (hcD:(PySem.W.clsIn X.K D).isSome=true) (htD:PySem.W.typeIn X.K (.ref D)=some (.type "type")) (hbD:PySem.W.mroIn X.K D (.type "BaseException")=some true) (hsD:PySem.W.mroIn X.K C (.ref D)=some true)
  (hN:X.N.Nodup) (hi:X.N[i]?=some n) (hkn:X.env.scope.names.lookup n=some .local) (hsu:∀ea oe,oe.cls=.ref C->jgy (jkI X ea oe) i ea (b₀::suite) ts)
  (hdy:(y == ("__debug__":Str))=false:=by decide) (hs:starEach (a::es) X.env=(false,eval a X.env)::starEach es X.env:=by rfl) (hpl:(backTo pos (starEach es X.env)).any (·.1)=false:=by rfl)
  (hsw:swapsWith (.Call (.Attribute o m apos) (a::es) [] pos) none pos'.line X.env=pure false:=by rfl)
  (ht:eval (.Call (.Attribute o m apos) (a::es) [] pos) X.env=(do
   let ov ←eval o X.env
   standAt apos.atName
   let (f,first) ←holding [ov] (getMethod ov m pl)
   callWith pos f first (backTo pos (starEach (a::es) X.env)) (backToKw pos (keywordEach [] X.env))):=by rfl) :
  PSW X Z (.Try [.Expr (.Call (.Attribute o m apos) (a::es) [] pos) pos'] [.ExceptHandler (some (.Name y py)) (some n) (b₀::suite) hp] [] [] tp) (jhS i j ps.length Pre ta ts):=by
 obtain⟨t2,h,w⟩:=ha
 refine⟨fun D' σ H=>jAf X Z j m ps.length Pre t2 (fun H'=>∃B S ρ Ψ,ER X.K B S H' σ ρ∧ρ[i]?=some .un∧ts (jxI i Ψ) ρ∧∀H2 σ2 ρ2,Ψ (.nx ρ2)->ER X.K B S H2 σ2 ρ2->D'.nx σ2 H2) σ H,?_,?_⟩
 ·intro pins s σ H D' I hh
  refine wpAny_Try_except (wpAny_execs_cons ?_)
  refine jyZ hsw I (wpAny_mono (juH (Q:=fun _ _=>False) hxf ho cl hm F hr hb h I hh hs hpl ht) (fun _ _ z=>z) fun ev s' z=>?_)
  obtain⟨ea,H1,s1,H',Bh,a0,rfl,I1,hos,hbr,fly,B,S,ρ,Ψ,er,hu1,hts,kn⟩:=z
  have hA:X.A.frames=some (X.env::X.outer):=by rw [I1.ok.frames,hst]
  have fl0:=fly.fl
  rw [hst] at fl0
  refine wpAny_looks_onW hA hfr fl0 fun h₄ hheld₄ hsm₄=>?_
  refine wpAny_landsW hheld₄ fun h₅ hfl₅ hsm₅=>?_
  have fly5:=fly.go (hst▸hfl₅) (hsm₄.trans hsm₅)
  exact jwN (s':={ s' with heap:=h₅ }) hst hfr hgy hmy hcD htD hbD hsD hN hi hkn hsu I1 hos hbr fly5 er hu1 hts kn hdy
 ·intro B S H σ ρ W Φ D' ew q ok
  unfold jhS jfH at q
  split at q
  ·rename_i v e0
   obtain⟨⟨o',ho',rfl,hpq⟩,q⟩:=q
   obtain⟨dx,ei⟩:=(ew.w.ob o' ho').ins.resolve_left hpq
   refine⟨.ref o'.p,ew.er.rf j _ e0,o'.p,dx,_,rfl,ei,?_,w B S H σ ρ W _ _ ew q fun as vs H1 W1 hc s1 e1 wk1 r=>?_⟩
   ·rw [List.lookup_cons,hf]; rfl
   ·have ew1:=ew.goX s1 e1 wk1
    refine⟨.raw (.ref o'.p)::as,S,W1,hc.1,.cons (show jmZ X.K S H1 (.raw (.ref o'.p)) (.ref o'.p) from rfl) r,ew1.er.ok,wk1,hc.2.1,fun H' s2 wk2=>?_⟩
    have ew2:=ew1.goX s2 rfl wk2
    exact⟨jgL B H' W1,S,ρ,jqA (nxW Φ) W1,ew2.lend,hc.2.2.1,hc.2.2.2,fun H2 σ2 ρ2 p er2=>ok.nx ρ2 S H2 σ2 W1 p.2 (ew2.back er2 p.1) e1⟩
  ·exact q.elim
end
abbrev jxb (tv:AV):E4:=fun ρ W Φ=>tv ρ W fun ds W'=>ds.length≤sizeLine∧Φ (.lst ds) W'
section
variable {X:Cx}{Z:Zc}{es:List Expr}{tv:AV}{pos:Pos}
theorem jvD (h:PAV X Z es tv):PM X Z (.List es pos) (jxb tv):=by
 obtain⟨t2,h,w⟩:=h
 refine⟨_,jrW h,fun B S H σ ρ W Φ Q ew q hd=>w B S H σ ρ W _ _ ew q fun ds vs H1 W1 hk s1 e1 wk1 r=>⟨by rw [←r.len]; exact hk.1,fun p hp=>?_⟩⟩
 have s2:=jbf (o:=.lst vs) hp
 exact hd _ _ _ W1 hk.2 (s1.trans (SameX.of s2)) e1 (wk1.same s2) (Rep.newLst (ew.goX s1 e1 wk1).er.ok hp r)
end
section
variable {X:Cx}{Z:Zc}{R:Hp->Prop}{C f a:Addr}{n:Nat}{fd:FuncData}{ps:List Str}{Pre:List D3.D->Prop}{x:Str}{k e o v:Expr}{p p2 pos pos':Pos}{tk te:E3}{ks:List Str}{us:List Value}{vs:List V}{z0:Str}{t:R4}{tg:D3.Q4}
theorem jvi (hP:jlt X R C)(c:CDct X.prog X.w X.K a ks us)(hv:Vals vs us)(hz:jP ks vs z0=some (.ref f))(F:FnOk X.prog X.w X.K X.mg X.base (CXC X.prog X.w) n f fd ps (spR X.K ps.length C Pre))(hl1:ps.length=1)(hr:Room n X.A)(kp:PySem.W.keepIn X.K (.ref f)=true)(hb:Binds X.K fd ps [])
  (hk:PD X k tk) (he:PD X e te) (hg:Gl X x) (hm:X.mg x=some (.ref a)) (hs:jmt k) (hdb:(x == ("__debug__":Str))=false:=by decide)
  (hst:starEach [e] X.env=(false,eval e X.env)::starEach [] X.env:=by rfl)
  (hc:eval (.Call (.Subscript (.Name x p) k p2) [e] [] pos) X.env=(do callWith pos (←eval (.Subscript (.Name x p) k p2) X.env) [] (backTo pos (starEach [e] X.env)) (backToKw pos (keywordEach [] X.env))):=by rfl) :
  PRE X R (.Call (.Subscript (.Name x p) k p2) [e] [] pos) (fun ρ=>tk ρ fun d=>d=.str z0∧te ρ fun c=>Pre [c]):=by
 obtain⟨t1,hk,wk⟩:=hk; obtain⟨t2,he,we⟩:=he
 refine⟨fun σ H Q=>juz a ks vs t1 σ H fun v H1=>v=.ref f∧jnf t2 jkq σ H1 fun vs' H2=>∃ds S,ds.length=ps.length∧Reps X.K S H2 ds vs'∧SOk S H2∧Pre ds∧∀H',Same H2 H'->R H',?_,?_⟩
 ·intro pins s σ H Q I h
  refine Call_ (jQ (joJ c hv hk hg hm hs hdb pins s σ H _ I h) fun u s1 qZ=>?_) hc
  obtain⟨v,H1,I1,rv,ev,q⟩:=qZ
  subst ev
  cases (show u=Value.ref f from rv)
  refine PySem.W.callWith_K (first:=[]) (h₀:=X.base) I.ok.mod.kin kp (jQ ((jaZ he jca hst) pos pins s1 σ H1 _ I1 q) fun us' s2 ⟨vs',H2,I2,r,ds,S,hl,rr,so,hpre,hR⟩=>⟨I2.kIn,?_⟩) hst rfl
  have hl2:us'.length=ps.length:=by rw [←r.length,←rr.len]; exact hl
  refine wpAny_call (codeAny_mono (F.run X.A X.stack s2 H2 ⟨us',[]⟩ us' vs' (fun _ _=>False) (fun c _ H'=>c=.ref C∧R H') hr I2.env0 ?_ r ⟨ds,S,hl,rr,so,hpre,fun H' s=>⟨rfl,hR H' s⟩⟩) fun res s' hq=>?_)
  ·have z:=hb s2 us' I2.kIn (by rw [List.append_nil]; exact hl2)
   rw [List.append_nil] at z; exact z
  cases res with
  | ok fl =>
   cases fl with
   | ret u=>obtain⟨_,_,_,_,_,_,_,z⟩:=hq; exact z.elim
   | next=>exact False.elim hq
   | brk=>exact False.elim hq
   | cont=>exact False.elim hq
  | error ev =>
   obtain⟨ea,C',H',Bh,a0,rfl,hos,hbr,fly,hc,hr'⟩:=hq
   cases hc
   exact hP pins σ H2 H' s2 s' ea Bh a0 I2 hos hbr fly hr'
 ·intro B S H σ ρ Q er q r
  refine wk B S H σ ρ _ _ er q fun d v H1 p1 s1 r1=>?_
  obtain⟨rfl,p1⟩:=p1
  simp only [Rep] at r1
  subst r1
  refine⟨z0,_,rfl,hz,rfl,we B S H1 σ ρ _ _ (er.go s1) p1 fun c' y H2 p2 s2 r2=>?_⟩
  exact⟨[c'],S,by rw [hl1]; rfl,Reps.cons r2 Reps.nil,(er.ok.same s1).same s2,p2,fun H' s3=>r H' (er.same.trans ((s1.trans s2).trans s3))⟩
theorem jyA (hu:X.A.units+1<cLine)(hg:PQ X Z o tg)(hk:PD X k tk)(h:jmG X Z R v t)(hs:swapsWith v (some (.Subscript o k pos')) pos.line X.env=pure false:=by rfl):PRW X Z R (.Assign [.Subscript o k pos'] v pos) t:=by
 obtain⟨t2,h,w⟩:=h; obtain⟨g2,hg,_⟩:=hg; obtain⟨k2,hk,_⟩:=hk
 exact⟨_,jtb hu hg hk h hs,fun B S H σ ρ W Φ D' ew q hd=>w B S H σ ρ W Φ _ ew q hd⟩
end
section
variable {X:Cx}{Z:Zc}{R:Hp->Prop}{c:Expr}{as bs jJ:List Stmt}{tc:B4}{t:R4}{us us':S4}{pos:Pos}
abbrev jzS (tc:B4)(t:R4):R4:=fun Φ ρ W=>tc ρ W fun k W'=>k=true∧t Φ ρ W'
end
section
variable {X:Cx}{Z:Zc}{R:Hp->Prop}{st:Stmt}{c:Expr}{as bs jJ:List Stmt}{tc:B4}{t:R4}{t3:jN->Prop}{pos:Pos}
theorem jkF:PSs X jJ (fun _ _ _=>False):=fun _ _ _ _ _ _ h=>h.elim
theorem jkJ (h:PRW X Z R st t):jgz X Z R (st::jJ) t:=by
 obtain⟨t2,h,w⟩:=h
 exact⟨_,jbX h jkF,fun B S H σ ρ W Φ D' ew q hd=>w B S H σ ρ W Φ _ ew q hd⟩
theorem je6:jgz X Z R jJ (fun _ _ _=>False):=⟨_,jkF,fun B S H σ ρ W Φ D' ew q hd=>q.elim⟩
theorem jgP:jkf X R jJ (fun _=>False):=⟨_,jkF,fun B S H σ ρ D' er q r=>q.elim⟩
theorem jyr (hc:PMB X Z c tc)(ha:jgz X Z R as t):jgz X Z R (.If c as bs pos::jJ) (jzS tc t):=by
 obtain⟨c2,h,w⟩:=hc; obtain⟨t2,ha,wa⟩:=ha
 refine⟨_,jbX (jlo h ha jkF) jkF,fun B S H σ ρ W Φ D' ew q hd=>w B S H σ ρ W _ _ ew q fun b H' W' p s e wk=>?_⟩
 obtain⟨rfl,p⟩:=p
 simp only [if_true]
 exact wa B S H' σ ρ W' Φ _ (ew.goX s e wk) p (hd.adr e)
end
end D3
set_option linter.all false
namespace Mt
theorem jcm (a b:Int):a.fmod b=a - b * a.fdiv b:=by
 have:=Int.mul_fdiv_add_fmod a b; omega
theorem jiy {a b:Int}(h:b≠0):(a.fmod b).natAbs<b.natAbs:=by
 rw [Int.fmod_eq_emod]
 have h1:=Int.emod_nonneg a h
 have h2:=Int.emod_lt a h
 by_cases hb:0≤b
 ·rw [if_pos (.inl hb)]; omega
 ·by_cases hd:b∣a
  ·rw [if_pos (.inr hd),Int.emod_eq_zero_of_dvd hd]; omega
  ·rw [if_neg (by rintro (z | z) <;> contradiction)]
   have h3:a % b≠0:=fun z=>hd (Int.dvd_of_emod_eq_zero z)
   omega
theorem jqZ (a b:Int):Int.gcd b (a.fmod b)=Int.gcd a b:=by
 rw [jcm,Int.mul_comm,Int.gcd_sub_mul_right_right,Int.gcd_comm]
def jA (ns:List Int):Int:=ns.foldl (fun g x=>(Int.gcd g x:Int)) 0
theorem jpV (d:Int):∀(ns:List Int) (g:Int),d∣ns.foldl (fun g x=>(Int.gcd g x:Int)) g↔d∣g∧∀x∈ns,d∣x
 | [],g=>by simp
 | x::ns,g=>by
  rw [List.foldl_cons,jpV d ns]
  constructor
  ·rintro⟨h1,h2⟩
   refine⟨Int.dvd_trans h1 (Int.gcd_dvd_left g x),fun y hy=>?_⟩
   rcases List.mem_cons.mp hy with rfl | hy
   ·exact Int.dvd_trans h1 (Int.gcd_dvd_right g y)
   ·exact h2 y hy
  ·rintro⟨h1,h2⟩
   exact⟨Int.dvd_coe_gcd h1 (h2 x List.mem_cons_self),fun y hy=>h2 y (List.mem_cons_of_mem _ hy)⟩
theorem dvd_gcdL {d:Int}{ns:List Int}:d∣jA ns↔∀x∈ns,d∣x:=by
 unfold jA; rw [jpV]; simp
theorem jaX {ns:List Int}{x:Int}(h:x∈ns):jA ns∣x:=dvd_gcdL.mp (Int.dvd_refl _) x h
theorem jld:∀(ns:List Int) (g:Int),0≤g->0≤ns.foldl (fun g x=>(Int.gcd g x:Int)) g
 | [],g,h=>h
 | x::ns,g,h=>jld ns _ (Int.natCast_nonneg _)
theorem jaQ (ns:List Int):0≤jA ns:=jld ns 0 (Int.le_refl 0)
theorem jl0 {ns:List Int}{g:Int}(h0:0≤g)(h1:∀x∈ns,g∣x)(h2:∀d:Int,(∀x∈ns,d∣x)->d∣g):jA ns=g :=
 Int.dvd_antisymm (jaQ ns) h0 (h2 _ fun x hx=>jaX hx) (dvd_gcdL.mpr h1)
theorem jpu {ns:List Int}(h:jA ns=0):∀x∈ns,x=0:=fun x hx=>Int.zero_dvd.mp (h▸jaX hx)
theorem jtg {ns:List Int}{x:Int}(h:x∈ns)(h0:x≠0):jA ns≤x.natAbs:=by
 have h1:=jaX h
 have h2:jA ns∣(x.natAbs:Int):=Int.dvd_natAbs.mpr h1
 exact Int.le_of_dvd (by omega) h2
theorem jr0 {ns:List Int}{x:Int}(h:x∈ns)(h0:x≠0):0<jA ns:=by
 have h1:=jaQ ns
 have h2:jA ns≠0:=fun z=>h0 (jpu z x h)
 omega
theorem jnx {ns ms:List Int}(h:∀d:Int,(∀x∈ns,d∣x)↔∀x∈ms,d∣x):jA ns=jA ms :=
 jl0 (jaQ ms) (fun x hx=>(h _).mpr (fun y hy=>jaX hy) x hx) fun d hd=>dvd_gcdL.mpr ((h d).mp hd)
theorem jgh (k:Int)(ns:List Int):jA (ns.map (k * ·))=k.natAbs * jA ns:=by
 apply Int.dvd_antisymm (jaQ _) (Int.mul_nonneg (Int.natCast_nonneg _) (jaQ _))
 ·by_cases hk:k=0
  ·subst hk; simp
  -- k divides the left, so write it k * m
  have h1:(k.natAbs:Int)∣jA (ns.map (k * ·)):=dvd_gcdL.mpr fun x hx=>by
   obtain⟨y,_,rfl⟩:=List.mem_map.mp hx
   exact Int.dvd_trans (Int.natAbs_dvd.mpr (Int.dvd_refl k)) (Int.dvd_mul_right k y)
  obtain⟨m,hm⟩:=h1
  rw [hm]
  apply Int.mul_dvd_mul_left
  apply dvd_gcdL.mpr
  intro y hy
  have h2:jA (ns.map (k * ·))∣k * y:=jaX (List.mem_map.mpr ⟨y,hy,rfl⟩)
  rw [hm] at h2
  have h3:k * m∣k * y:=by
   rcases Int.natAbs_eq k with e | e
   ·rw [e]; rw [←e]; rw [←e] at h2; exact h2
   ·have e':(k.natAbs:Int)=-k:=by omega
    rw [e',Int.neg_mul] at h2
    exact Int.neg_dvd.mp h2
  exact Int.dvd_of_mul_dvd_mul_left hk h3
 ·apply dvd_gcdL.mpr
  intro x hx
  obtain⟨y,hy,rfl⟩:=List.mem_map.mp hx
  exact Int.mul_dvd_mul (Int.natAbs_dvd.mpr (Int.dvd_refl k)) (jaX hy)
end Mt
set_option linter.all false
namespace Mt
structure Pot (C a' r' a r:Int):Prop where
 h:(a.natAbs:Int) * r'.natAbs+a'.natAbs * r.natAbs≤C
 s:r=0∨(0<r∧0≤r')∨(r<0∧r'≤0)
theorem jvr {r' r:Int}(hr:r≠0)(s:(0<r∧0≤r')∨(r<0∧r'≤0)):0≤r'.fdiv r∧(r'.natAbs:Int)=r'.fdiv r * r.natAbs+(r'.fmod r).natAbs∧((0<r∧0≤r'.fmod r)∨(r<0∧r'.fmod r≤0)):=by
 have e:=jcm r' r
 have lt:=jiy (a:=r') hr
 rcases s with⟨h1,h2⟩ | ⟨h1,h2⟩
 ·have h3:0≤r'.fmod r:=Int.fmod_nonneg_of_pos r' h1
  have h4:0≤r'.fdiv r:=Int.fdiv_nonneg h2 (Int.le_of_lt h1)
  refine⟨h4,?_,.inl ⟨h1,h3⟩⟩
  rw [Int.natAbs_of_nonneg h2,Int.natAbs_of_nonneg (Int.le_of_lt h1),Int.natAbs_of_nonneg h3,e,Int.mul_comm]
  omega
 ·have h3:r'.fmod r≤0:=by
   have q:=Int.fmod_nonneg_of_pos (-r') (show 0 < -r by omega)
   rw [Int.neg_fmod_neg] at q
   omega
  have h4:0≤r'.fdiv r:=by
   have q:=Int.fdiv_nonneg (show 0≤-r' by omega) (show 0≤-r by omega)
   rw [Int.neg_fdiv_neg] at q
   exact q
  refine⟨h4,?_,.inr ⟨h1,h3⟩⟩
  have e1:(r'.natAbs:Int)=-r':=by omega
  have e2:(r.natAbs:Int)=-r:=by omega
  have e3:((r'.fmod r).natAbs:Int)=-(r'.fmod r):=by omega
  rw [e1,e2,e3,e,Int.mul_neg,Int.mul_comm]
  omega
theorem juX {r' r:Int}(hr:r≠0):(0<r∧0≤r'.fmod r)∨(r<0∧r'.fmod r≤0):=by
 rcases Int.lt_or_gt_of_ne hr with h | h
 ·have q:=Int.fmod_nonneg_of_pos (-r') (show 0 < -r by omega)
  rw [Int.neg_fmod_neg] at q
  exact .inr ⟨h,by omega⟩
 ·exact .inl ⟨h,Int.fmod_nonneg_of_pos r' h⟩
theorem Pot.step {C a' r' a r:Int}(p:Pot C a' r' a r)(hr:r≠0):Pot C a r (a' - r'.fdiv r * a) (r'.fmod r):=by
 have s:=p.s.resolve_left hr
 obtain⟨h1,h2,h3⟩:=jvr hr s
 refine⟨Int.le_trans ?_ p.h,?_⟩
 ·have h4:((a' - r'.fdiv r * a).natAbs:Int)≤a'.natAbs+r'.fdiv r * a.natAbs:=by
   have q:=Int.natAbs_sub_le a' (r'.fdiv r * a)
   rw [Int.natAbs_mul] at q
   have e:((r'.fdiv r).natAbs:Int)=r'.fdiv r:=Int.natAbs_of_nonneg h1
   have q':((a' - r'.fdiv r * a).natAbs:Int)≤(a'.natAbs:Int)+(r'.fdiv r).natAbs * a.natAbs:=by exact_mod_cast q
   rw [e] at q'
   exact q'
  have h5:((a' - r'.fdiv r * a).natAbs:Int) * r.natAbs≤(a'.natAbs+r'.fdiv r * a.natAbs) * r.natAbs:=Int.mul_le_mul_of_nonneg_right h4 (Int.natCast_nonneg _)
  rw [h2]
  grind
 ·rcases h3 with⟨x,y⟩ | ⟨x,y⟩
  ·rcases Int.lt_or_eq_of_le y with z | z
   ·exact .inr (.inl ⟨z,by omega⟩)
   ·exact .inl z.symm
  ·rcases Int.lt_or_eq_of_le y with z | z
   ·exact .inr (.inr ⟨z,by omega⟩)
   ·exact .inl z
theorem Pot.first {r' r:Int}(hr:r≠0){a' a:Int}(h:a'.natAbs≤1)(h':a.natAbs≤1):Pot (r'.natAbs+4 * r.natAbs) a r (a' - r'.fdiv r * a) (r'.fmod r):=by
 have lt:=jiy (a:=r') hr
 have e:=jcm r' r
 refine⟨?_,?_⟩
 ·-- |q r| ≤ |r'| + |r|
  have h1:(r'.fdiv r * r).natAbs≤r'.natAbs+r.natAbs:=by
   have:r'.fdiv r * r=r' - r'.fmod r:=by rw [Int.mul_comm]; omega
   rw [this]
   have:=Int.natAbs_sub_le r' (r'.fmod r)
   omega
  have h2:((a' - r'.fdiv r * a) * r).natAbs≤r.natAbs+(r'.natAbs+r.natAbs):=by
   have e2:(a' - r'.fdiv r * a) * r=a' * r - a * (r'.fdiv r * r):=by grind
   rw [e2]
   have q:=Int.natAbs_sub_le (a' * r) (a * (r'.fdiv r * r))
   rw [Int.natAbs_mul,Int.natAbs_mul a] at q
   have q1:a'.natAbs * r.natAbs≤1 * r.natAbs:=Nat.mul_le_mul_right _ h
   have q2:a.natAbs * (r'.fdiv r * r).natAbs≤1 * (r'.fdiv r * r).natAbs:=Nat.mul_le_mul_right _ h'
   omega
  rw [Int.natAbs_mul] at h2
  have h3:a.natAbs * (r'.fmod r).natAbs≤1 * (r'.fmod r).natAbs:=Nat.mul_le_mul_right _ h'
  have h4:(a' - r'.fdiv r * a).natAbs * r.natAbs+a.natAbs * (r'.fmod r).natAbs≤r'.natAbs+4 * r.natAbs:=by omega
  exact_mod_cast h4
 ·rcases juX (r':=r') hr with⟨x,y⟩ | ⟨x,y⟩
  ·rcases Int.lt_or_eq_of_le y with z | z
   ·exact .inr (.inl ⟨z,by omega⟩)
   ·exact .inl z.symm
  ·rcases Int.lt_or_eq_of_le y with z | z
   ·exact .inr (.inr ⟨z,by omega⟩)
   ·exact .inl z
theorem Pot.a {C a' r' a r:Int}(p:Pot C a' r' a r)(hr:r'≠0):(a.natAbs:Int)≤C:=by
 have h:=p.h
 have h1:(a.natAbs:Int) * 1≤a.natAbs * r'.natAbs:=Int.mul_le_mul_of_nonneg_left (by omega) (Int.natCast_nonneg _)
 have h2:0≤(a'.natAbs:Int) * r.natAbs:=Int.mul_nonneg (Int.natCast_nonneg _) (Int.natCast_nonneg _)
 omega
end Mt
set_option maxHeartbeats 4000000
namespace My
open PySem PySem.Spec PyProof.Rows L2 D3
abbrev zA:R3:=dI0 fun i j=>.int (i+j)
abbrev zS:R3:=dI0 fun i j=>.int (i - j)
abbrev zM:R3:=dI IntMulOk fun i j=>.int (i * j)
abbrev zD:R3:=dI CD fun i j=>.int (i.fdiv j)
abbrev zR:R3:=dI (fun _ j=>j≠0) fun i j=>.int (i.fmod j)
open Mt
structure Q4 where
 a:Int
 b:Int
 c:Int
 d:Int
def qd (q:Q4):D:=.tup [.int q.a,.int q.b,.int q.c,.int q.d]
def jba (p q:Q4):Q4:=⟨p.a * q.a - p.b * q.b - p.c * q.c - p.d * q.d,p.a * q.b+p.b * q.a+p.c * q.d - p.d * q.c,p.a * q.c - p.b * q.d+p.c * q.a+p.d * q.b,p.a * q.d+p.b * q.c - p.c * q.b+p.d * q.a⟩
def jeK (q:Q4):Q4:=⟨q.a,-q.b,-q.c,-q.d⟩
def jK (q:Q4):Int:=q.a * q.a+q.b * q.b+q.c * q.c+q.d * q.d
structure Bq (k:Nat)(q:Q4):Prop where
 a:Bd k q.a
 b:Bd k q.b
 c:Bd k q.c
 d:Bd k q.d
theorem Bq.mono {k l:Nat}{q:Q4}(h:Bq k q)(hl:k≤l):Bq l q:=⟨h.a.mono hl,h.b.mono hl,h.c.mono hl,h.d.mono hl⟩
theorem Bq.mul {k l:Nat}{p q:Q4}(h:Bq k p)(g:Bq l q):Bq (k+l+3) (jba p q):=by
 have e:∀{x y z w:Int},Bd (k+l) x->Bd (k+l) y->Bd (k+l) z->Bd (k+l) w->Bd (k+l+3) (x - y - z - w):=fun hx hy hz hw=>by
  have:=((hx.sub hy).sub hz).sub hw
  exact this.mono (by omega)
 have f:∀{x y z w:Int},Bd (k+l) x->Bd (k+l) y->Bd (k+l) z->Bd (k+l) w->Bd (k+l+3) (x+y+z - w):=fun hx hy hz hw=>by
  have:=((hx.add hy).add hz).sub hw
  exact this.mono (by omega)
 have f2:∀{x y z w:Int},Bd (k+l) x->Bd (k+l) y->Bd (k+l) z->Bd (k+l) w->Bd (k+l+3) (x - y+z+w):=fun hx hy hz hw=>by
  have:=((hx.sub hy).add hz).add hw
  exact this.mono (by omega)
 have f3:∀{x y z w:Int},Bd (k+l) x->Bd (k+l) y->Bd (k+l) z->Bd (k+l) w->Bd (k+l+3) (x+y - z+w):=fun hx hy hz hw=>by
  have:=((hx.add hy).sub hz).add hw
  exact this.mono (by omega)
 exact⟨e (h.a.mul g.a) (h.b.mul g.b) (h.c.mul g.c) (h.d.mul g.d),f (h.a.mul g.b) (h.b.mul g.a) (h.c.mul g.d) (h.d.mul g.c),f2 (h.a.mul g.c) (h.b.mul g.d) (h.c.mul g.a) (h.d.mul g.b),f3 (h.a.mul g.d) (h.b.mul g.c) (h.c.mul g.b) (h.d.mul g.a)⟩
theorem Bq.bar {k:Nat}{q:Q4}(h:Bq k q):Bq k (jeK q):=⟨h.a,h.b.neg,h.c.neg,h.d.neg⟩
structure P3 where
 x:Int
 y:Int
 z:Int
def pt (p:P3):D:=.tup [.int p.x,.int p.y,.int p.z]
structure Bp (k:Nat)(p:P3):Prop where
 x:Bd k p.x
 y:Bd k p.y
 z:Bd k p.z
theorem Bp.mono {k l:Nat}{q:P3}(h:Bp k q)(hl:k≤l):Bp l q:=⟨h.x.mono hl,h.y.mono hl,h.z.mono hl⟩
def jZ (t:Int)(p:P3)(u:Int)(q:P3):P3:=⟨t * p.x+u * q.x,t * p.y+u * q.y,t * p.z+u * q.z⟩
def jz3 (t:Int)(p:Q4)(u:Int)(q:Q4):Q4:=⟨t * p.a+u * q.a,t * p.b+u * q.b,t * p.c+u * q.c,t * p.d+u * q.d⟩
theorem jmB {g:G3}{tb:S3}{d:D}{ds:List D}{Φ:F3->Prop}{ρ:jN}(h:g d ρ fun ρ1=>tb (jx1 (FOR g tb ds) Φ) ρ1):FOR g tb (d::ds) Φ ρ:=h
theorem jy1 {g:G3}{tb:S3}{Φ:F3->Prop}{ρ:jN}(h:Φ (.nx ρ)):FOR g tb [] Φ ρ:=h
theorem Q4.eq {p q:Q4}(ha:p.a=q.a)(hb:p.b=q.b)(hc:p.c=q.c)(hd:p.d=q.d):p=q:=by
 cases p; cases q; simp only at ha hb hc hd; subst ha hb hc hd; rfl
theorem ju1 (p q:Q4):jK (jba p q)=jK p * jK q:=by
 simp only [jba,jK]; grind
def q1:Q4:=⟨1,0,0,0⟩
def jCW (p q:Q4):Q4:=⟨p.a+q.a,p.b+q.b,p.c+q.c,p.d+q.d⟩
def ql (q:Q4):List Int:=[q.a,q.b,q.c,q.d]
def q0:Q4:=⟨0,0,0,0⟩
def low (q:Q4):Bool:=HT.lexLt (ql q) [0,0,0,0]
def shr (q:Q4):Int:=if low q then -jA (ql q) else jA (ql q)
def j2 (q:Q4):Q4:=⟨q.a.fdiv (shr q),q.b.fdiv (shr q),q.c.fdiv (shr q),q.d.fdiv (shr q)⟩
theorem jlm {q:Q4}(h:jA (ql q)=0):q=q0:=by
 have h:=jpu h
 have a:=h q.a (by simp [ql]); have b:=h q.b (by simp [ql]); have c:=h q.c (by simp [ql]); have d:=h q.d (by simp [ql])
 cases q; simp only at a b c d; subst a b c d; rfl
theorem jrH {k:Nat}{q:Q4}(h:Bq k q):Bd k (jA (ql q)):=by
 by_cases hz:jA (ql q)=0
 ·rw [hz]; unfold Bd; exact Nat.pow_pos (by decide)
 ·have hx:∃x∈ql q,x≠0:=by
   apply Classical.byContradiction
   intro hno
   apply hz
   refine jl0 (by decide) (fun x hx=>?_) (fun d _=>Int.dvd_zero d)
   have:x=0:=Classical.byContradiction fun z=>hno ⟨x,hx,z⟩
   rw [this]; exact Int.dvd_refl 0
  obtain⟨x,hx,x0⟩:=hx
  have le:=jtg hx x0
  have nn:=jaQ (ql q)
  have bx:Bd k x:=by
   simp only [ql,List.mem_cons,List.not_mem_nil,or_false] at hx
   rcases hx with rfl | rfl | rfl | rfl
   ·exact h.a
   ·exact h.b
   ·exact h.c
   ·exact h.d
  unfold Bd at *
  omega
theorem jen {q:Q4}(h:q≠q0):shr q≠0:=by
 have:jA (ql q)≠0:=fun z=>h (jlm z)
 unfold shr; split <;> omega
theorem juY {k:Nat}{q:Q4}(h:Bq k q):Bd k (shr q):=by
 unfold shr; split
 ·exact(jrH h).neg
 ·exact jrH h
instance:DecidableEq Q4:=fun p q=>if h:p.a=q.a∧p.b=q.b∧p.c=q.c∧p.d=q.d then .isTrue (by cases p; cases q; simp only at h; obtain⟨h1,h2,h3,h4⟩:=h; subst h1 h2 h3 h4; rfl) else .isFalse fun e=>h (by subst e; exact⟨rfl,rfl,rfl,rfl⟩)
def jb9 (q:Q4):Int:=if q.a=0 then if q.b=0 then if q.c=0 then q.d else q.c else q.b else q.a
theorem jmu (q:Q4):low q=decide (jb9 q<0):=by
 unfold low jb9 ql
 simp only [HT.lexLt]
 split
 ·split
  ·split
   ·split
    ·rename_i h; rw [h]; rfl
    ·rfl
   ·rfl
  ·rfl
 ·rfl
def qsc (s:Int)(p:Q4):Q4:=⟨s * p.a,s * p.b,s * p.c,s * p.d⟩
theorem jyd (s:Int)(p:Q4):ql (qsc s p)=(ql p).map (s * ·):=rfl
theorem jAT (s t:Int)(p:Q4):qsc s (qsc t p)=qsc (s * t) p:=by simp only [qsc,Int.mul_assoc]
theorem joD {s:Int}(hs:s≠0)(p:Q4):jb9 (qsc s p)=s * jb9 p:=by
 unfold jb9 qsc
 simp only [Int.mul_eq_zero,hs,false_or]
 split
 ·split
  ·split <;> rfl
  ·rfl
 ·rfl
theorem jp7 {q:Q4}(h:jb9 q=0):q=q0:=by
 unfold jb9 at h
 cases q with | mk a b c d =>
 simp only at h
 split at h
 ·split at h
  ·split at h
   ·rename_i h1 h2 h3; subst h1 h2 h3 h; rfl
   ·contradiction
  ·contradiction
 ·contradiction
structure IsPlain (p:Q4):Prop where
 g:jA (ql p)=1
 l:0<jb9 p
theorem IsPlain.ne {p:Q4}(h:IsPlain p):p≠q0:=by
 rintro rfl; exact absurd h.l (by decide)
theorem jpW {s:Int}{p:Q4}(hs:s≠0)(h:IsPlain p):j2 (qsc s p)=p:=by
 have e:shr (qsc s p)=s:=by
  unfold shr
  rw [jmu,joD hs,jyd,jgh,h.g,Int.mul_one]
  rcases Int.lt_or_gt_of_ne hs with q | q
  ·have:s * jb9 p<0:=Int.mul_neg_of_neg_of_pos q h.l
   rw [if_pos (decide_eq_true this)]; omega
  ·have:0<s * jb9 p:=Int.mul_pos q h.l
   rw [if_neg (by rw [decide_eq_true_eq]; omega)]; omega
 unfold j2
 rw [e]
 simp only [qsc,Int.mul_fdiv_cancel_left _ hs]
theorem jdT {q:Q4}(h:q≠q0):q=qsc (shr q) (j2 q):=by
 have hd:∀x∈ql q,shr q∣x:=fun x hx=>by
  have:=jaX hx
  unfold shr; split
  ·exact Int.neg_dvd.mpr this
  ·exact this
 have e:∀x∈ql q,shr q * x.fdiv (shr q)=x:=fun x hx=>Int.mul_fdiv_cancel' (hd x hx)
 have a:=e q.a (by simp [ql]); have b:=e q.b (by simp [ql]); have c:=e q.c (by simp [ql]); have d:=e q.d (by simp [ql])
 unfold j2 qsc
 cases q
 simp only at a b c d ⊢
 rw [a,b,c,d]
theorem jyS (q:Q4):((shr q).natAbs:Int)=jA (ql q):=by
 have:=jaQ (ql q)
 unfold shr; split <;> omega
theorem jdI {q:Q4}(h:q≠q0):IsPlain (j2 q):=by
 have e:=jdT h
 have hs:=jen h
 constructor
 ·have g:=jyS q
  have:jA (ql q)=(shr q).natAbs * jA (ql (j2 q)):=by
   have e2:jA (ql q)=jA (ql (qsc (shr q) (j2 q))):=by rw [←e]
   rw [e2,jyd,jgh]
  rw [←g] at this
  have h0:((shr q).natAbs:Int)≠0:=by omega
  have h1:((shr q).natAbs:Int) * 1=(shr q).natAbs * jA (ql (j2 q)):=by rw [Int.mul_one]; exact this
  exact(Int.eq_of_mul_eq_mul_left h0 h1).symm
 ·have l:jb9 q=shr q * jb9 (j2 q):=by
   have e2:jb9 q=jb9 (qsc (shr q) (j2 q)):=by rw [←e]
   rw [e2,joD hs]
  have g:=jaQ (ql q)
  have l0:jb9 q≠0:=fun z=>h (jp7 z)
  have lp0:jb9 (j2 q)≠0:=fun z=>l0 (by rw [l,z,Int.mul_zero])
  rcases Int.lt_or_gt_of_ne lp0 with z | z
  ·exfalso
   by_cases hl:jb9 q<0
   ·have es:shr q=-jA (ql q):=by unfold shr; rw [jmu,if_pos (decide_eq_true hl)]
    have:0≤shr q * jb9 (j2 q):=Int.mul_nonneg_of_nonpos_of_nonpos (by omega) (by omega)
    omega
   ·have es:shr q=jA (ql q):=by unfold shr; rw [jmu,if_neg (by rw [decide_eq_true_eq]; exact hl)]
    have:shr q * jb9 (j2 q)≤0:=Int.mul_nonpos_of_nonneg_of_nonpos (by omega) (by omega)
    omega
  ·exact z
theorem jp9 {s:Int}{q:Q4}(hs:s≠0)(h:q≠q0):j2 (qsc s q)=j2 q:=by
 rw [jdT h,jAT,jpW (Int.mul_ne_zero hs (jen h)) (jdI h),jpW (jen h) (jdI h)]
theorem jfI {k:Nat}{x y:Int}(h:Bd k x)(le:y.natAbs≤x.natAbs):Bd k y:=Nat.lt_of_le_of_lt le h
theorem jmx {k:Nat}{q:Q4}(h:Bq k q)(h0:q≠q0):Bq k (j2 q):=by
 have e:=jdT h0
 have hs:=jen h0
 have le:∀x y:Int,x=shr q * y->y.natAbs≤x.natAbs:=fun x y z=>by
  rw [z,Int.natAbs_mul]
  exact Nat.le_mul_of_pos_left _ (by omega)
 generalize j2 q=p at *
 generalize shr q=s at *
 subst e
 exact⟨jfI h.a (le _ _ rfl),jfI h.b (le _ _ rfl),jfI h.c (le _ _ rfl),jfI h.d (le _ _ rfl)⟩
structure T9 where
 p:P3
 q:P3
 r:P3
 n:Int
def tl (t:T9):List Int:=[t.p.x,t.p.y,t.p.z,t.q.x,t.q.y,t.q.z,t.r.x,t.r.y,t.r.z,t.n]
def tr (t:T9):D:=.tup [pt t.p,pt t.q,pt t.r]
def tb (t:T9):D:=.tup [tr t,.int t.n]
structure Bt (k:Nat)(t:T9):Prop where
 p:Bp k t.p
 q:Bp k t.q
 r:Bp k t.r
 n:Bd k t.n
theorem Bt.mem {k:Nat}{t:T9}(h:Bt k t):∀x∈tl t,Bd k x:=by
 intro x hx
 simp only [tl,List.mem_cons,List.not_mem_nil,or_false] at hx
 rcases hx with rfl | rfl | rfl | rfl | rfl | rfl | rfl | rfl | rfl | rfl
 ·exact h.p.x
 ·exact h.p.y
 ·exact h.p.z
 ·exact h.q.x
 ·exact h.q.y
 ·exact h.q.z
 ·exact h.r.x
 ·exact h.r.y
 ·exact h.r.z
 ·exact h.n
def ja3 (q:Q4):T9:=⟨⟨q.a * q.a+q.b * q.b - q.c * q.c - q.d * q.d,2 * (q.b * q.c - q.a * q.d),2 * (q.b * q.d+q.a * q.c)⟩,
 ⟨2 * (q.b * q.c+q.a * q.d),q.a * q.a - q.b * q.b+q.c * q.c - q.d * q.d,2 * (q.c * q.d - q.a * q.b)⟩,
 ⟨2 * (q.b * q.d - q.a * q.c),2 * (q.c * q.d+q.a * q.b),q.a * q.a - q.b * q.b - q.c * q.c+q.d * q.d⟩,q.a * q.a+q.b * q.b+q.c * q.c+q.d * q.d⟩
def jqI (p:P3)(g:Int):P3:=⟨p.x.fdiv g,p.y.fdiv g,p.z.fdiv g⟩
def jxq (t:T9)(g:Int):T9:=⟨jqI t.p g,jqI t.q g,jqI t.r g,t.n.fdiv g⟩
def jbB (t:T9):T9:=jxq t (jA (tl t))
def jm (q:Q4):T9:=jbB (ja3 q)
theorem jrf {k:Nat}{x:Int}(h:Bd k x):Bd (k+2) (2 * x):=by
 have:=(show Bd 2 (2:Int) from jcq (by decide)).mul h
 exact this.mono (by omega)
theorem jBO {k:Nat}{x y z w:Int}(hx:Bd k x)(hy:Bd k y)(hz:Bd k z)(hw:Bd k w):Bd (k+3) (x+y - z - w)∧Bd (k+3) (x - y+z - w)∧Bd (k+3) (x - y - z+w)∧Bd (k+3) (x+y+z+w) :=
 ⟨(((hx.add hy).sub hz).sub hw).mono (by omega),(((hx.sub hy).add hz).sub hw).mono (by omega),(((hx.sub hy).sub hz).add hw).mono (by omega),(((hx.add hy).add hz).add hw).mono (by omega)⟩
theorem jtk {k:Nat}{q:Q4}(h:Bq k q):Bt (2 * k+3) (ja3 q):=by
 have s:∀{x y:Int},Bd k x->Bd k y->Bd (2 * k) (x * y):=fun hx hy=>(hx.mul hy).mono (by omega)
 obtain⟨p1,p2,p3,p4⟩:=jBO (s h.a h.a) (s h.b h.b) (s h.c h.c) (s h.d h.d)
 have d:∀{x y:Int},Bd (2 * k) x->Bd (2 * k) y->Bd (2 * k+3) (2 * (x - y))∧Bd (2 * k+3) (2 * (x+y)):=fun hx hy =>
  ⟨(jrf (hx.sub hy)).mono (by omega),(jrf (hx.add hy)).mono (by omega)⟩
 exact⟨⟨p1,(d (s h.b h.c) (s h.a h.d)).1,(d (s h.b h.d) (s h.a h.c)).2⟩,⟨(d (s h.b h.c) (s h.a h.d)).2,p2,(d (s h.c h.d) (s h.a h.b)).1⟩,⟨(d (s h.b h.d) (s h.a h.c)).1,(d (s h.c h.d) (s h.a h.b)).2,p3⟩,p4⟩
theorem jcY (x:Int):0≤x * x:=by
 rcases Int.le_total 0 x with h | h
 ·exact Int.mul_nonneg h h
 ·exact Int.mul_nonneg_of_nonpos_of_nonpos h h
theorem jwR (q:Q4):0≤jK q:=by
 have:=jcY q.a; have:=jcY q.b; have:=jcY q.c; have:=jcY q.d
 unfold jK; omega
theorem jil {x:Int}(h:x * x=0):x=0:=by
 rcases Int.mul_eq_zero.mp h with z | z <;> exact z
theorem juB {q:Q4}(h:jK q=0):q=q0:=by
 have a:=jcY q.a; have b:=jcY q.b; have c:=jcY q.c; have d:=jcY q.d
 unfold jK at h
 have a0:=jil (show q.a * q.a=0 by omega); have b0:=jil (show q.b * q.b=0 by omega)
 have c0:=jil (show q.c * q.c=0 by omega); have d0:=jil (show q.d * q.d=0 by omega)
 cases q; simp only at a0 b0 c0 d0; subst a0 b0 c0 d0; rfl
theorem jcH {q:Q4}(h:q≠q0):0<jK q:=by
 have:=jwR q
 have:jK q≠0:=fun z=>h (juB z)
 omega
theorem jvv (q:Q4):(ja3 q).n=jK q:=rfl
theorem jyT {k:Nat}{t:T9}(h0:t.n≠0)(h:Bt k t):0<jA (tl t)∧Bd k (jA (tl t)):=by
 have hm:t.n∈tl t:=by simp [tl]
 have p:=jr0 hm h0
 refine⟨p,?_⟩
 have le:=jtg hm h0
 have b:=h.n
 unfold Bd at *
 omega
theorem jwd {g x:Int}(hg:0<g)(h:g∣x):(x.fdiv g).natAbs≤x.natAbs:=by
 have e:g * x.fdiv g=x:=Int.mul_fdiv_cancel' h
 have:x.natAbs=g.natAbs * (x.fdiv g).natAbs:=by rw [←Int.natAbs_mul,e]
 rw [this]
 exact Nat.le_mul_of_pos_left _ (by omega)
theorem jzo {ms:List Int}(h:∀x∈ms,jA ms∣x):(ms.map (·.fdiv (jA ms))).map (jA ms * ·)=ms:=by
 rw [List.map_map]
 conv=>rhs; rw [←List.map_id ms]
 exact List.map_congr_left fun x hx=>Int.mul_fdiv_cancel' (h x hx)
theorem jxc {ms:List Int}(h0:jA ms≠0):jA (ms.map (·.fdiv (jA ms)))=1:=by
 have e:=jgh (jA ms) (ms.map (·.fdiv (jA ms)))
 rw [jzo fun x hx=>jaX hx,Int.natAbs_of_nonneg (jaQ ms)] at e
 have e2:jA ms * 1=jA ms * jA (ms.map (·.fdiv (jA ms))):=by rw [Int.mul_one]; exact e
 exact(Int.eq_of_mul_eq_mul_left h0 e2).symm
structure jCo (t:T9):Prop where
 g:0<jA (tl t)
 n:0<(jbB t).n
 one:jA (tl (jbB t))=1
 px:jA (tl t) * (jbB t).p.x=t.p.x
 py:jA (tl t) * (jbB t).p.y=t.p.y
 pz:jA (tl t) * (jbB t).p.z=t.p.z
 qx:jA (tl t) * (jbB t).q.x=t.q.x
 qy:jA (tl t) * (jbB t).q.y=t.q.y
 qz:jA (tl t) * (jbB t).q.z=t.q.z
 rx:jA (tl t) * (jbB t).r.x=t.r.x
 ry:jA (tl t) * (jbB t).r.y=t.r.y
 rz:jA (tl t) * (jbB t).r.z=t.r.z
 nn:jA (tl t) * (jbB t).n=t.n
theorem jix {t:T9}(h:0<t.n):jCo t:=by
 have hm:t.n∈tl t:=by simp [tl]
 have g:=jr0 hm (by omega)
 have e:∀x∈tl t,jA (tl t) * x.fdiv (jA (tl t))=x:=fun x hx=>Int.mul_fdiv_cancel' (jaX hx)
 have en:=e t.n hm
 refine⟨g,?_,(show jA ((tl t).map (·.fdiv (jA (tl t))))=1 from jxc (by omega)),e _ (by simp [tl]),e _ (by simp [tl]),e _ (by simp [tl]),e _ (by simp [tl]),e _ (by simp [tl]),e _ (by simp [tl]),e _ (by simp [tl]),e _ (by simp [tl]),e _ (by simp [tl]),en⟩
 have:(jbB t).n=t.n.fdiv (jA (tl t)):=rfl
 rw [this]
 rcases Int.lt_or_le 0 (t.n.fdiv (jA (tl t))) with z | z
 ·exact z
 ·have:=Int.mul_nonpos_of_nonneg_of_nonpos (Int.le_of_lt g) z
  omega
theorem jyu {k:Nat}{t:T9}(h:0<t.n)(bt:Bt k t):Bt k (jbB t):=by
 have l:=jix h
 have b:∀x∈tl t,Bd k (x.fdiv (jA (tl t))):=fun x hx=>jfI (bt.mem x hx) (jwd l.g (jaX hx))
 exact⟨⟨b _ (by simp [tl]),b _ (by simp [tl]),b _ (by simp [tl])⟩,⟨b _ (by simp [tl]),b _ (by simp [tl]),b _ (by simp [tl])⟩,⟨b _ (by simp [tl]),b _ (by simp [tl]),b _ (by simp [tl])⟩,b _ (by simp [tl])⟩
theorem jf8 {q:Q4}(h:q≠q0):0<(ja3 q).n:=by rw [jvv]; exact jcH h
theorem jdy {k:Nat}{q:Q4}(h:q≠q0)(b:Bq k q):Bt (2 * k+3) (jm q):=jyu (jf8 h) (jtk b)
theorem jkY {q:Q4}(h:q≠q0):0<(jm q).n:=(jix (jf8 h)).n
def jyf (q:Q4)(g:Int):Q4:=⟨q.a.fdiv g,q.b.fdiv g,q.c.fdiv g,q.d.fdiv g⟩
def jek (q:Q4):Q4:=jyf q (jA (ql q))
theorem jw5 (q:Q4):q=qsc (jA (ql q)) (jek q):=by
 have e:∀x∈ql q,jA (ql q) * x.fdiv (jA (ql q))=x:=fun x hx=>Int.mul_fdiv_cancel' (jaX hx)
 have a:=e q.a (by simp [ql]); have b:=e q.b (by simp [ql]); have c:=e q.c (by simp [ql]); have d:=e q.d (by simp [ql])
 unfold jek jyf qsc
 cases q
 simp only at a b c d ⊢
 rw [a,b,c,d]
theorem jyv {k:Nat}{q:Q4}(h:q≠q0)(b:Bq k q):Bq k (jek q):=by
 have g:0<jA (ql q):=by
  have:=jaQ (ql q)
  have:jA (ql q)≠0:=fun z=>h (jlm z)
  omega
 have l:∀x∈ql q,(x.fdiv (jA (ql q))).natAbs≤x.natAbs:=fun x hx=>jwd g (jaX hx)
 exact⟨jfI b.a (l _ (by simp [ql])),jfI b.b (l _ (by simp [ql])),jfI b.c (l _ (by simp [ql])),jfI b.d (l _ (by simp [ql]))⟩
def dot (p q:P3):Int:=p.x * q.x+p.y * q.y+p.z * q.z
def jbo (t:T9)(p:P3):Q4:=⟨dot t.p p,dot t.q p,dot t.r p,t.n⟩
theorem jtp {t:T9}{p:P3}(h:t.n≠0):jbo t p≠q0:=fun z=>h (congrArg Q4.d z)
theorem jqU {k:Nat}{p q:P3}(h:Bp k p)(g:Bp k q):Bd (2 * k+2) (dot p q):=(((h.x.mul g.x).add (h.y.mul g.y)).add (h.z.mul g.z)).mono (by omega)
theorem js4 {k:Nat}{t:T9}{p:P3}(h:Bt k t)(g:Bp k p):Bq (2 * k+2) (jbo t p):=⟨jqU h.p g,jqU h.q g,jqU h.r g,h.n.mono (by omega)⟩
instance:DecidableEq P3:=fun p q=>if h:p.x=q.x∧p.y=q.y∧p.z=q.z then .isTrue (by cases p; cases q; simp only at h; obtain⟨h1,h2,h3⟩:=h; subst h1 h2 h3; rfl) else .isFalse fun e=>h (by subst e; exact⟨rfl,rfl,rfl⟩)
def jw0 (o:Int)(s r:P3):P3:=jZ 1 r (-o) s
def o1 (u p:P3):Int:=p.x.fdiv u.x
def r1 (u p:P3):P3:=jw0 (o1 u p) u p
def o2 (u v p:P3):Int:=(r1 u p).y.fdiv v.y
def r2 (u v p:P3):P3:=jw0 (o2 u v p) v (r1 u p)
def o3 (u v w p:P3):Int:=(r2 u v p).z.fdiv w.z
def r3 (u v w p:P3):P3:=jw0 (o3 u v w p) w (r2 u v p)
def det (p q r:P3):Int:=p.x * (q.y * r.z - q.z * r.y) - p.y * (q.x * r.z - q.z * r.x)+p.z * (q.x * r.y - q.y * r.x)
structure jdc (t:T9):Prop where
 n:1≤t.n
 g:jA (tl t)=1
 pp:dot t.p t.p=t.n * t.n
 pq:dot t.p t.q=0
 pr:dot t.p t.r=0
 qp:dot t.q t.p=0
 qq:dot t.q t.q=t.n * t.n
 qr:dot t.q t.r=0
 rp:dot t.r t.p=0
 rq:dot t.r t.q=0
 rr:dot t.r t.r=t.n * t.n
 d:det t.p t.q t.r=t.n * t.n * t.n
def tsc (s:Int)(t:T9):T9:=⟨⟨s * t.p.x,s * t.p.y,s * t.p.z⟩,⟨s * t.q.x,s * t.q.y,s * t.q.z⟩,⟨s * t.r.x,s * t.r.y,s * t.r.z⟩,s * t.n⟩
theorem jBn (s:Int)(t:T9):tl (tsc s t)=(tl t).map (s * ·):=rfl
theorem jzw (s:Int)(q:Q4):ja3 (qsc s q)=tsc (s * s) (ja3 q):=by
 simp only [ja3,qsc,tsc,T9.mk.injEq,P3.mk.injEq]
 refine⟨⟨?_,?_,?_⟩,⟨?_,?_,?_⟩,⟨?_,?_,?_⟩,?_⟩ <;> grind
theorem jy0 {s:Int}(hs:0<s)(t:T9)(ht:0<jA (tl t)):jbB (tsc s t)=jbB t:=by
 have g:jA (tl (tsc s t))=s * jA (tl t):=by rw [jBn,jgh,Int.natAbs_of_nonneg (Int.le_of_lt hs)]
 have e:∀x:Int,(s * x).fdiv (s * jA (tl t))=x.fdiv (jA (tl t)):=fun x=>by
  rw [Int.mul_fdiv_mul_of_pos _ _ hs]
 unfold jbB jxq jqI
 rw [g]
 simp only [tsc,e]
theorem jq2 {s:Int}{q:Q4}(hs:s≠0)(h0:q≠q0):jm (qsc s q)=jm q:=by
 have:0<s * s:=by
  have:=jcY s
  have:s * s≠0:=fun z=>hs (jil z)
  omega
 unfold jm
 rw [jzw,jy0 this _ (jix (jf8 h0)).g]
theorem jvC {s:Int}{q:Q4}(hs:s≠0)(h0:q≠q0):qsc s q≠q0:=fun z=>h0 (jp7 (by
 have:=joD hs q
 rw [z] at this
 have l0:jb9 q0=0:=rfl
 rw [l0] at this
 rcases Int.mul_eq_zero.mp this.symm with w | w
 ·exact absurd w hs
 ·exact w))
def m1 (t:T9):Q4:=⟨t.n+t.p.x+t.q.y+t.r.z,t.r.y - t.q.z,t.p.z - t.r.x,t.q.x - t.p.y⟩
def m2 (t:T9):Q4:=⟨t.r.y - t.q.z,t.n+t.p.x - t.q.y - t.r.z,t.q.x+t.p.y,t.p.z+t.r.x⟩
def m3 (t:T9):Q4:=⟨t.p.z - t.r.x,t.q.x+t.p.y,t.n - t.p.x+t.q.y - t.r.z,t.r.y+t.q.z⟩
def m4 (t:T9):Q4:=⟨t.q.x - t.p.y,t.p.z+t.r.x,t.r.y+t.q.z,t.n - t.p.x - t.q.y+t.r.z⟩
theorem jx7 {q:Q4}(h0:q≠q0):∃g:Int,g≠0∧qsc g (m1 (jm q))=qsc (4 * q.a) q∧qsc g (m2 (jm q))=qsc (4 * q.b) q∧qsc g (m3 (jm q))=qsc (4 * q.c) q∧qsc g (m4 (jm q))=qsc (4 * q.d) q:=by
 have l:=jix (jf8 h0)
 obtain⟨hg,hn,one,px,py,pz,qx,qy,qz,rx,ry,rz,nn⟩:=l
 have en:jm q=jbB (ja3 q):=rfl
 rw [en]
 refine⟨jA (tl (ja3 q)),Int.ne_of_gt hg,?_⟩
 generalize jA (tl (ja3 q))=g at *
 generalize jbB (ja3 q)=t at *
 simp only [ja3] at px py pz qx qy qz rx ry rz nn
 clear en h0 one hn hg
 have c1:=Int.mul_comm q.b q.a; have c2:=Int.mul_comm q.c q.a; have c3:=Int.mul_comm q.d q.a; have c4:=Int.mul_comm q.c q.b; have c5:=Int.mul_comm q.d q.b; have c6:=Int.mul_comm q.d q.c
 refine⟨?_,?_,?_,?_⟩ <;> apply Q4.eq <;> simp only [qsc,m1,m2,m3,m4,Int.mul_add,Int.mul_sub,Int.mul_assoc,px,py,pz,qx,qy,qz,rx,ry,rz,nn,c1,c2,c3,c4,c5,c6] <;> simp +arith only
theorem jAM (g:Int):qsc g q0=q0:=by simp only [qsc,q0,Int.mul_zero]
theorem jBy (q:Q4):qsc 0 q=q0:=by simp only [qsc,q0,Int.zero_mul]
theorem jfG {m q:Q4}{g c:Int}(hg:g≠0)(e:qsc g m=qsc c q)(hm:m≠q0)(hq:q≠q0):j2 m=j2 q:=by
 have hc:c≠0:=fun z=>by
  rw [z,jBy] at e
  exact jvC hg hm e
 rw [←jp9 hg hm,e,jp9 hc hq]
theorem jys {m q:Q4}{g c:Int}(e:qsc g m=qsc c q)(hc:c≠0)(hq:q≠q0):m≠q0:=fun z=>by
 rw [z,jAM] at e
 exact jvC hc hq e.symm
theorem jvT {q m:Q4}(h0:q≠q0)(h1:jK (m1 (jm q))≤jK m)(h2:jK (m2 (jm q))≤jK m)(h3:jK (m3 (jm q))≤jK m)(h4:jK (m4 (jm q))≤jK m):m≠q0:=fun z=>by
 have hm:jK m=0:=by rw [z]; rfl
 obtain⟨g,hg,e1,e2,e3,e4⟩:=jx7 h0
 have k:∀{m':Q4} {c:Int},qsc g m'=qsc (4 * c) q->jK m'≤jK m->c=0:=fun {m' c} e h=>by
  by_cases hc:c=0
  ·exact hc
  ·have:=jcH (jys e (by omega) h0)
   omega
 exact h0 (Q4.eq (k e1 h1) (k e2 h2) (k e3 h3) (k e4 h4))
theorem jCi {k:Nat}{t:T9}(h:Bt k t):Bq (k+3) (m1 t)∧Bq (k+3) (m2 t)∧Bq (k+3) (m3 t)∧Bq (k+3) (m4 t):=by
 have a:∀{x y:Int},Bd k x->Bd k y->Bd (k+3) (x+y):=fun hx hy=>(hx.add hy).mono (by omega)
 have b:∀{x y:Int},Bd k x->Bd k y->Bd (k+3) (x - y):=fun hx hy=>(hx.sub hy).mono (by omega)
 have c1:Bd (k+3) (t.n+t.p.x+t.q.y+t.r.z):=(((h.n.add h.p.x).add h.q.y).add h.r.z).mono (by omega)
 have c2:Bd (k+3) (t.n+t.p.x - t.q.y - t.r.z):=(((h.n.add h.p.x).sub h.q.y).sub h.r.z).mono (by omega)
 have c3:Bd (k+3) (t.n - t.p.x+t.q.y - t.r.z):=(((h.n.sub h.p.x).add h.q.y).sub h.r.z).mono (by omega)
 have c4:Bd (k+3) (t.n - t.p.x - t.q.y+t.r.z):=(((h.n.sub h.p.x).sub h.q.y).add h.r.z).mono (by omega)
 exact⟨⟨c1,b h.r.y h.q.z,b h.p.z h.r.x,b h.q.x h.p.y⟩,⟨b h.r.y h.q.z,c2,a h.q.x h.p.y,a h.p.z h.r.x⟩,⟨b h.p.z h.r.x,a h.q.x h.p.y,c3,a h.r.y h.q.z⟩,⟨b h.q.x h.p.y,a h.p.z h.r.x,a h.r.y h.q.z,c4⟩⟩
theorem jph {p q:Q4}(hp:p≠q0)(hq:q≠q0):jba p q≠q0:=fun z=>by
 have e:=ju1 p q
 rw [z] at e
 have a:=jcH hp; have b:=jcH hq
 have c:=Int.mul_pos a b
 have:jK q0=0:=rfl
 omega
theorem jyR (s r:Int)(p q:Q4):jba (qsc s p) (qsc r q)=qsc (s * r) (jba p q):=by
 apply Q4.eq <;> simp only [jba,qsc] <;> grind
theorem jxf {p q:Q4}(hp:p≠q0)(hq:q≠q0):jm (jba (j2 p) (j2 q))=jm (jba p q):=by
 have e:jba p q=qsc (shr p * shr q) (jba (j2 p) (j2 q)):=by
  rw [←jyR,←jdT hp,←jdT hq]
 rw [e,jq2 (Int.mul_ne_zero (jen hp) (jen hq)) (jph (jdI hp).ne (jdI hq).ne)]
def jS (t:T9):T9:=⟨⟨t.p.x,t.q.x,t.r.x⟩,⟨t.p.y,t.q.y,t.r.y⟩,⟨t.p.z,t.q.z,t.r.z⟩,t.n⟩
theorem jxH (q:Q4):ja3 (jeK q)=jS (ja3 q):=by
 simp only [ja3,jeK,jS,jK,Int.neg_mul,Int.mul_neg,Int.neg_neg,Int.sub_neg,←Int.sub_eq_add_neg]
theorem jzf (t:T9):jA (tl (jS t))=jA (tl t):=by
 refine jnx fun d=>⟨fun h x hx=>h x ?_,fun h x hx=>h x ?_⟩
 ·simp only [tl,jS,List.mem_cons,List.not_mem_nil,or_false] at hx ⊢
  rcases hx with h | h | h | h | h | h | h | h | h | h <;> simp [h]
 ·simp only [tl,jS,List.mem_cons,List.not_mem_nil,or_false] at hx ⊢
  rcases hx with h | h | h | h | h | h | h | h | h | h <;> simp [h]
theorem jrh (q:Q4):jS (jm q)=jm (jeK q):=by
 unfold jm jbB
 rw [jxH,jzf]
 rfl
theorem jtm {q:Q4}(h:q≠q0):jeK q≠q0:=fun z=>h (by
 have a:=congrArg Q4.a z; have b:=congrArg Q4.b z; have c:=congrArg Q4.c z; have d:=congrArg Q4.d z
 simp only [jeK,q0] at a b c d
 exact Q4.eq (by show q.a=0; omega) (by show q.b=0; omega) (by show q.c=0; omega) (by show q.d=0; omega))
def pl (p:P3):D:=.lst [.int p.x,.int p.y,.int p.z]
def Shr (t:T9)(p:P3):Prop:=t.n∣dot (jS t).p p∧t.n∣dot (jS t).q p∧t.n∣dot (jS t).r p
instance (t:T9) (p:P3):Decidable (Shr t p):=inferInstanceAs (Decidable (_∧_))
theorem juW {k:Nat}{t:T9}(h:Bt k t):Bt k (jS t):=⟨⟨h.p.x,h.q.x,h.r.x⟩,⟨h.p.y,h.q.y,h.r.y⟩,⟨h.p.z,h.q.z,h.r.z⟩,h.n⟩
theorem jwh {u:T9}{p:P3}(h:0<u.n):(jek (jbo u p)).d=1↔u.n∣dot u.p p∧u.n∣dot u.q p∧u.n∣dot u.r p:=by
 have em:=jw5 (jbo u p)
 have e1:dot u.p p=jA (ql (jbo u p)) * (jek (jbo u p)).a:=congrArg Q4.a em
 have e2:dot u.q p=jA (ql (jbo u p)) * (jek (jbo u p)).b:=congrArg Q4.b em
 have e3:dot u.r p=jA (ql (jbo u p)) * (jek (jbo u p)).c:=congrArg Q4.c em
 have e4:u.n=jA (ql (jbo u p)) * (jek (jbo u p)).d:=congrArg Q4.d em
 constructor
 ·intro z
  rw [z,Int.mul_one] at e4
  rw [←e4] at e1 e2 e3
  exact⟨⟨_,e1⟩,⟨_,e2⟩,⟨_,e3⟩⟩
 ·rintro⟨a,b,c⟩
  have g:u.n∣jA (ql (jbo u p)):=dvd_gcdL.mpr fun x hx=>by
   simp only [ql,jbo,List.mem_cons,List.not_mem_nil,or_false] at hx
   rcases hx with rfl | rfl | rfl | rfl
   ·exact a
   ·exact b
   ·exact c
   ·exact Int.dvd_refl _
  have gn:=jaQ (ql (jbo u p))
  generalize jA (ql (jbo u p))=k at *
  have e5:k=u.n:=Int.dvd_antisymm gn (by omega) ⟨_,e4⟩ g
  rw [e5] at e4
  exact(Int.eq_of_mul_eq_mul_left (by omega) (show u.n * 1=_ by rw [Int.mul_one]; exact e4)).symm
structure Pr (p:Int):Prop where
 two:2≤p
 only:∀d:Int,0<d->d∣p->d=1∨d=p
theorem jxZ {n:Int}(h:2≤n):∃p,Pr p∧p∣n:=by
 have key:∀(k:Nat) (n:Int),2≤n->n.toNat≤k->∃p,Pr p∧p∣n:=by
  intro k
  induction k with
  | zero=>intro n h1 h2; omega
  | succ k ih =>
   intro n h1 h2
   by_cases hd:∃d:Int,1<d∧d<n∧d∣n
   ·obtain⟨d,a,b,c⟩:=hd
    obtain⟨p,hp,pd⟩:=ih d (by omega) (by omega)
    exact⟨p,hp,Int.dvd_trans pd c⟩
   ·refine⟨n,⟨h1,fun d d0 dn=>?_⟩,Int.dvd_refl n⟩
    have le:=Int.le_of_dvd (by omega) dn
    by_cases e:d=1
    ·exact .inl e
    by_cases e2:d=n
    ·exact .inr e2
    exact absurd ⟨d,by omega,by omega,dn⟩ hd
 exact key _ n h (Nat.le_refl _)
theorem jl5 {p:Int}(h:2≤p):¬p∣1:=fun z=>by
 have:=Int.le_of_dvd (by decide) z
 omega
theorem jAH {x:Int}(h0:0≤x)(h:∀p,Pr p->¬p∣x):x=1:=by
 rcases Int.lt_or_le x 2 with z | z
 ·rcases Int.lt_or_le 0 x with y | y
  ·omega
  ·have e:x=0:=by omega
   subst e
   obtain⟨p,hp,_⟩:=jxZ (n:=2) (by decide)
   exact absurd (Int.dvd_zero p) (h p hp)
 ·obtain⟨p,hp,d⟩:=jxZ z
  exact absurd d (h p hp)
def Cop (a b:Int):Prop:=∀d:Int,d∣a->d∣b->d∣1
theorem Cop.mul {a b c:Int}(h:Cop a b)(d:a∣b * c):a∣c:=by
 have g:Int.gcd a b=1:=Int.gcd_eq_one_iff.mpr h
 have e:a∣(Int.gcd (a * c) (b * c):Int):=Int.dvd_coe_gcd (Int.dvd_mul_right a c) d
 rw [Int.gcd_mul_right,g,Nat.one_mul] at e
 exact Int.dvd_natAbs.mp e
theorem jva {p x:Int}(h:Pr p)(n:¬p∣x):Cop p x:=by
 intro d dp dx
 have z:d≠0:=fun z=>by subst z; have:=Int.zero_dvd.mp dp; have:=h.two; omega
 rcases h.only (d.natAbs:Int) (by omega) (Int.natAbs_dvd.mpr dp) with e | e
 ·exact Int.natAbs_dvd.mp (by rw [e]; exact Int.dvd_refl 1)
 ·exact absurd (by rw [←e]; exact Int.natAbs_dvd.mpr dx) n
structure PW (m g c:Int):Prop where
 pos:0<c
 dvd:c∣m
 cop:Cop c g
 all:∀d,d∣m->Cop d g->d∣c
def crs (p q:P3):P3:=⟨p.y * q.z - p.z * q.y,p.z * q.x - p.x * q.z,p.x * q.y - p.y * q.x⟩
structure Cols (p q r:P3)(n:Int):Prop where
 xx:p.x * p.x+q.x * q.x+r.x * r.x=n * n
 yy:p.y * p.y+q.y * q.y+r.y * r.y=n * n
 zz:p.z * p.z+q.z * q.z+r.z * r.z=n * n
 xy:p.x * p.y+q.x * q.y+r.x * r.y=0
 xz:p.x * p.z+q.x * q.z+r.x * r.z=0
 yz:p.y * p.z+q.y * q.z+r.y * r.z=0
theorem Cols.cyc {p q r:P3}{n:Int}(h:Cols p q r n):Cols q r p n:=by
 have c:∀{x y z s:Int},x+y+z=s->y+z+x=s:=fun e=>by rw [←e,Int.add_comm,Int.add_assoc]
 exact⟨c h.xx,c h.yy,c h.zz,c h.xy,c h.xz,c h.yz⟩
theorem jol (p q r:P3):det q r p=det p q r:=by simp only [det]; grind
theorem jAR {p q r:P3}{n:Int}(h:Cols p q r n)(hd:det p q r=n * n * n)(n0:n≠0):(crs p q).x=n * r.x∧(crs p q).y=n * r.y∧(crs p q).z=n * r.z:=by
 have vp:dot (crs p q) p=0:=by simp only [crs,dot]; grind
 have vq:dot (crs p q) q=0:=by simp only [crs,dot]; grind
 have vr:dot (crs p q) r=n * n * n:=by rw [←hd]; simp only [crs,dot,det]; grind
 generalize crs p q=v at *
 have nn:n * n≠0:=fun z=>by rcases Int.mul_eq_zero.mp z with z | z <;> exact n0 z
 have ex:(p.x * p.x+q.x * q.x+r.x * r.x) * v.x+(p.x * p.y+q.x * q.y+r.x * r.y) * v.y+(p.x * p.z+q.x * q.z+r.x * r.z) * v.z=p.x * dot v p+q.x * dot v q+r.x * dot v r:=by simp only [dot]; grind
 have ey:(p.x * p.y+q.x * q.y+r.x * r.y) * v.x+(p.y * p.y+q.y * q.y+r.y * r.y) * v.y+(p.y * p.z+q.y * q.z+r.y * r.z) * v.z=p.y * dot v p+q.y * dot v q+r.y * dot v r:=by simp only [dot]; grind
 have ez:(p.x * p.z+q.x * q.z+r.x * r.z) * v.x+(p.y * p.z+q.y * q.z+r.y * r.z) * v.y+(p.z * p.z+q.z * q.z+r.z * r.z) * v.z=p.z * dot v p+q.z * dot v q+r.z * dot v r:=by simp only [dot]; grind
 rw [h.xx,h.xy,h.xz,vp,vq,vr] at ex
 rw [h.xy,h.yy,h.yz,vp,vq,vr] at ey
 rw [h.xz,h.yz,h.zz,vp,vq,vr] at ez
 have f:∀a b:Int,n * n * a=b * (n * n * n)->a=n * b:=fun a b e=>Int.eq_of_mul_eq_mul_left nn (by rw [e]; grind)
 simp only [Int.zero_mul,Int.mul_zero,Int.zero_add,Int.add_zero] at ex ey ez
 exact⟨f _ _ ex,f _ _ ey,f _ _ ez⟩
def DC (n:Int)(p q:P3):Prop:=n∣(crs p q).x∧n∣(crs p q).y∧n∣(crs p q).z
theorem joA (n:Int)(p:P3):DC n p p:=by
 have a:(crs p p).x=0:=by simp only [crs]; grind
 have b:(crs p p).y=0:=by simp only [crs]; grind
 have c:(crs p p).z=0:=by simp only [crs]; grind
 unfold DC; rw [a,b,c]; exact⟨Int.dvd_zero n,Int.dvd_zero n,Int.dvd_zero n⟩
theorem DC.sym {n:Int}{p q:P3}(h:DC n p q):DC n q p:=by
 have a:(crs q p).x=-(crs p q).x:=by simp only [crs]; grind
 have b:(crs q p).y=-(crs p q).y:=by simp only [crs]; grind
 have c:(crs q p).z=-(crs p q).z:=by simp only [crs]; grind
 unfold DC; rw [a,b,c]; exact⟨Int.dvd_neg.mpr h.1,Int.dvd_neg.mpr h.2.1,Int.dvd_neg.mpr h.2.2⟩
theorem jem {n c:Int}{w r u:P3}(h1:DC n w u)(h2:DC n r u):DC n (jZ 1 w c r) u:=by
 have a:(crs (jZ 1 w c r) u).x=(crs w u).x+c * (crs r u).x:=by simp only [crs,jZ]; grind
 have b:(crs (jZ 1 w c r) u).y=(crs w u).y+c * (crs r u).y:=by simp only [crs,jZ]; grind
 have d:(crs (jZ 1 w c r) u).z=(crs w u).z+c * (crs r u).z:=by simp only [crs,jZ]; grind
 unfold DC; rw [a,b,d]
 exact⟨Int.dvd_add h1.1 (Int.dvd_mul_of_dvd_right h2.1),Int.dvd_add h1.2.1 (Int.dvd_mul_of_dvd_right h2.2.1),Int.dvd_add h1.2.2 (Int.dvd_mul_of_dvd_right h2.2.2)⟩
theorem jyO {t:T9}(h:jdc t)(h':jdc (jS t)):DC t.n t.p t.q∧DC t.n t.q t.r∧DC t.n t.r t.p:=by
 have n0:t.n≠0:=by have:=h.n; omega
 have co:Cols t.p t.q t.r t.n:=⟨h'.pp,h'.qq,h'.rr,h'.pq,h'.pr,h'.qr⟩
 have dt:=h.d
 have f:∀{p q r:P3},Cols p q r t.n->det p q r=t.n * t.n * t.n->DC t.n p q:=fun {p q r} co dt=>by
  obtain⟨a,b,c⟩:=jAR co dt n0
  unfold DC; rw [a,b,c]
  exact⟨Int.dvd_mul_right ..,Int.dvd_mul_right ..,Int.dvd_mul_right ..⟩
 exact⟨f co dt,f co.cyc (by rw [jol]; exact dt),f co.cyc.cyc (by rw [jol,jol]; exact dt)⟩
theorem joj {m c:Int}{w r:P3}(h:PW m (jA [w.x,w.y,w.z]) c){p:Int}(hp:Pr p)(pm:p∣m)(px:p∣(jZ 1 w c r).x)(py:p∣(jZ 1 w c r).y)(pz:p∣(jZ 1 w c r).z):(p∣w.x∧p∣w.y∧p∣w.z)∧(p∣r.x∧p∣r.y∧p∣r.z):=by
 simp only [jZ,Int.one_mul] at px py pz
 have gm:∀{d:Int},d∣w.x->d∣w.y->d∣w.z->d∣jA [w.x,w.y,w.z]:=fun a b c=>dvd_gcdL.mpr fun x hx=>by
  simp only [List.mem_cons,List.not_mem_nil,or_false] at hx
  rcases hx with rfl | rfl | rfl
  ·exact a
  ·exact b
  ·exact c
 have np:¬p∣c:=fun z=>by
  have a:=(Int.dvd_add_left (Int.dvd_mul_of_dvd_left (c:=r.x) z)).mp px
  have b:=(Int.dvd_add_left (Int.dvd_mul_of_dvd_left (c:=r.y) z)).mp py
  have d:=(Int.dvd_add_left (Int.dvd_mul_of_dvd_left (c:=r.z) z)).mp pz
  exact jl5 hp.two (h.cop p z (gm a b d))
 have pg:p∣jA [w.x,w.y,w.z]:=by
  apply Classical.byContradiction
  intro n
  exact np (h.all p pm (jva hp n))
 have wx:p∣w.x:=Int.dvd_trans pg (jaX (by simp))
 have wy:p∣w.y:=Int.dvd_trans pg (jaX (by simp))
 have wz:p∣w.z:=Int.dvd_trans pg (jaX (by simp))
 have cp:=jva hp np
 exact⟨⟨wx,wy,wz⟩,cp.mul ((Int.dvd_add_right wx).mp px),cp.mul ((Int.dvd_add_right wy).mp py),cp.mul ((Int.dvd_add_right wz).mp pz)⟩
structure jhR (t:T9)(w:P3):Prop where
 one:jA [w.x,w.y,w.z,t.n]=1
 sq:t.n∣dot w w
 says:∀p,t.n∣dot w p↔Shr t p
theorem jbg (c:Int)(w r p:P3):dot (jZ 1 w c r) p=dot w p+c * dot r p:=by simp only [dot,jZ]; grind
theorem jlp (p q:P3):dot p q=dot q p:=by simp only [dot]; grind
def z3:P3:=⟨0,0,0⟩
theorem jki (p:P3):dot z3 p=0:=by simp only [dot,z3]; omega
theorem jpk {n:Int}{w u p:P3}(one:jA [w.x,w.y,w.z,n]=1)(dc:DC n w u)(h:n∣dot w p):n∣dot u p:=by
 obtain⟨a,b,c⟩:=dc
 have ex:w.x * dot u p=u.x * dot w p+(p.y * (crs w u).z - p.z * (crs w u).y):=by simp only [dot,crs]; grind
 have ey:w.y * dot u p=u.y * dot w p+(p.z * (crs w u).x - p.x * (crs w u).z):=by simp only [dot,crs]; grind
 have ez:w.z * dot u p=u.z * dot w p+(p.x * (crs w u).y - p.y * (crs w u).x):=by simp only [dot,crs]; grind
 have m:∀{x y:Int},n∣y->n∣x * y:=fun h=>Int.dvd_mul_of_dvd_right h
 have dx:n∣w.x * dot u p:=by rw [ex]; exact Int.dvd_add (m h) (Int.dvd_sub (m c) (m b))
 have dy:n∣w.y * dot u p:=by rw [ey]; exact Int.dvd_add (m h) (Int.dvd_sub (m a) (m c))
 have dz:n∣w.z * dot u p:=by rw [ez]; exact Int.dvd_add (m h) (Int.dvd_sub (m b) (m a))
 generalize dot u p=X at *
 have e:=jgh X [w.x,w.y,w.z,n]
 rw [one] at e
 have d:n∣jA ([w.x,w.y,w.z,n].map (X * ·)):=dvd_gcdL.mpr fun x hx=>by
  simp only [List.map_cons,List.map_nil,List.mem_cons,List.not_mem_nil,or_false] at hx
  rcases hx with rfl | rfl | rfl | rfl
  ·rw [Int.mul_comm]; exact dx
  ·rw [Int.mul_comm]; exact dy
  ·rw [Int.mul_comm]; exact dz
  ·exact Int.dvd_mul_left ..
 rw [e,Int.mul_one] at d
 exact Int.dvd_natAbs.mp d
theorem jBN (n:Int)(u:P3):DC n z3 u:=by
 simp only [DC,crs,z3,Int.zero_mul,Int.sub_self,Int.dvd_zero,and_self]
theorem jxd {t:T9}(h:jdc t)(h':jdc (jS t)){a b c:Int}(ha:PW t.n (jA [z3.x,z3.y,z3.z]) a)(hb:PW t.n (jA [(jZ 1 z3 a (jS t).p).x,(jZ 1 z3 a (jS t).p).y,(jZ 1 z3 a (jS t).p).z]) b)
  (hc:PW t.n (jA [(jZ 1 (jZ 1 z3 a (jS t).p) b (jS t).q).x,(jZ 1 (jZ 1 z3 a (jS t).p) b (jS t).q).y,(jZ 1 (jZ 1 z3 a (jS t).p) b (jS t).q).z]) c) :
  jhR t (jZ 1 (jZ 1 (jZ 1 z3 a (jS t).p) b (jS t).q) c (jS t).r):=by
 have tt:jS (jS t)=t:=rfl
 obtain⟨d1,d2,d3⟩:=jyO h' (by rw [tt]; exact h)
 have en:(jS t).n=t.n:=rfl
 rw [en] at d1 d2 d3
 have g1:=h'.g
 have pp:=h'.pp; have pq:=h'.pq; have pr:=h'.pr; have qp:=h'.qp; have qq:=h'.qq; have qr:=h'.qr; have rp:=h'.rp; have rq:=h'.rq; have rr:=h'.rr
 rw [en] at pp qq rr
 have sh:∀p,Shr t p↔t.n∣dot (jS t).p p∧t.n∣dot (jS t).q p∧t.n∣dot (jS t).r p:=fun p=>Iff.rfl
 have zd:∀u,DC t.n z3 u:=jBN _
 have one:jA [(jZ 1 (jZ 1 (jZ 1 z3 a (jS t).p) b (jS t).q) c (jS t).r).x,(jZ 1 (jZ 1 (jZ 1 z3 a (jS t).p) b (jS t).q) c (jS t).r).y,(jZ 1 (jZ 1 (jZ 1 z3 a (jS t).p) b (jS t).q) c (jS t).r).z,t.n]=1:=by
  refine jAH (jaQ _) fun p hp hd=>?_
  have l:=dvd_gcdL.mp hd
  have pm:=l t.n (by simp)
  obtain⟨⟨x3,y3,w3⟩,r3⟩:=joj (r:=(jS t).r) hc hp pm (l _ (by simp)) (l _ (by simp)) (l _ (by simp))
  obtain⟨⟨x2,y2,w2⟩,r2⟩:=joj (r:=(jS t).q) hb hp pm x3 y3 w3
  obtain⟨_,r1⟩:=joj (r:=(jS t).p) ha hp pm x2 y2 w2
  refine jl5 hp.two ?_
  rw [←g1]
  refine dvd_gcdL.mpr fun x hx=>?_
  simp only [tl,List.mem_cons,List.not_mem_nil,or_false] at hx
  rcases hx with rfl | rfl | rfl | rfl | rfl | rfl | rfl | rfl | rfl | rfl
  ·exact r1.1
  ·exact r1.2.1
  ·exact r1.2.2
  ·exact r2.1
  ·exact r2.2.1
  ·exact r2.2.2
  ·exact r3.1
  ·exact r3.2.1
  ·exact r3.2.2
  ·exact pm
 generalize jS t=u at *
 refine⟨one,?_,fun p=>⟨fun hd=>?_,fun hs=>?_⟩⟩
 ·have e:dot (jZ 1 (jZ 1 (jZ 1 z3 a u.p) b u.q) c u.r) (jZ 1 (jZ 1 (jZ 1 z3 a u.p) b u.q) c u.r)=t.n * (t.n * (a * a+b * b+c * c)):=by
   rw [jbg,jbg,jbg,jki,jlp u.p,jlp u.q,jlp u.r,jbg,jbg,jbg,jki,jbg,jbg,jbg,jki,jbg,jbg,jbg,jki,pp,pq,pr,qp,qq,qr,rp,rq,rr]
   grind
  rw [e]; exact Int.dvd_mul_right ..
 ·refine(sh p).mpr ⟨?_,?_,?_⟩
  ·exact jpk one (jem (jem (jem (zd _) (joA _ _)) d1.sym) d3) hd
  ·exact jpk one (jem (jem (jem (zd _) d1) (joA _ _)) d2.sym) hd
  ·exact jpk one (jem (jem (jem (zd _) d3.sym) d2) (joA _ _)) hd
 ·obtain⟨s1,s2,s3⟩:=(sh p).mp hs
  rw [jbg,jbg,jbg,jki]
  exact Int.dvd_add (Int.dvd_add (Int.dvd_add (Int.dvd_zero _) (Int.dvd_mul_of_dvd_right s1)) (Int.dvd_mul_of_dvd_right s2)) (Int.dvd_mul_of_dvd_right s3)
def jpg (w:P3)(n:Int):P3:=⟨w.x.fmod n,w.y.fmod n,w.z.fmod n⟩
theorem jmO (w:P3)(n:Int)(p:P3):∃k,dot (jpg w n) p=dot w p+n * k:=by
 refine⟨-(w.x.fdiv n * p.x+w.y.fdiv n * p.y+w.z.fdiv n * p.z),?_⟩
 simp only [jpg,dot,jcm]; grind
theorem jht {n x k:Int}:n∣x+n * k↔n∣x:=Int.dvd_add_left (Int.dvd_mul_right n k)
theorem jxg {t:T9}{w:P3}(h:jhR t w):jhR t (jpg w t.n):=by
 have dv:∀(d x:Int),d∣t.n->(d∣x.fmod t.n↔d∣x):=fun d x hd=>by
  rw [jcm,Int.sub_eq_add_neg]
  exact Int.dvd_add_left (Int.dvd_neg.mpr (Int.dvd_mul_of_dvd_left hd))
 refine⟨?_,?_,fun p=>?_⟩
 ·rw [←h.one]
  refine jnx fun d=>?_
  simp only [jpg,List.mem_cons,List.not_mem_nil,or_false,forall_eq_or_imp,forall_eq]
  constructor
  ·rintro⟨a,b,c,e⟩; exact⟨(dv d _ e).mp a,(dv d _ e).mp b,(dv d _ e).mp c,e⟩
  ·rintro⟨a,b,c,e⟩; exact⟨(dv d _ e).mpr a,(dv d _ e).mpr b,(dv d _ e).mpr c,e⟩
 ·obtain⟨k,e⟩:=jmO w t.n (jpg w t.n)
  rw [e,jht,jlp]
  obtain⟨k,e⟩:=jmO w t.n w
  rw [e,jht]; exact h.sq
 ·obtain⟨k,e⟩:=jmO w t.n p
  rw [e,jht]; exact h.says p
structure S6 where
 a:Int
 b:Int
 c:Int
 d:Int
 e:Int
 f:Int
def s1 (s:S6):P3:=⟨s.a,s.b,s.c⟩
def s2 (s:S6):P3:=⟨0,s.d,s.e⟩
def s3 (s:S6):P3:=⟨0,0,s.f⟩
def stD (s:S6):D:=.lst [pt (s1 s),pt (s2 s),pt (s3 s)]
structure jAx (s:S6):Prop where
 a0:0<s.a
 d0:0<s.d
 f0:0<s.f
 b0:0≤s.b
 b1:s.b<s.d
 c0:0≤s.c
 c1:s.c<s.f
 e0:0≤s.e
 e1:s.e<s.f
theorem jnQ {a b:Int}(ha:0<a)(h:0<a * b):0<b:=by
 rcases Int.lt_or_le 0 b with z | z
 ·exact z
 ·have:=Int.mul_nonpos_of_nonneg_of_nonpos (Int.le_of_lt ha) z
  omega
theorem jmr {a b:Int}(a0:0<a)(b0:0<b):a≤a * b:=by
 have:=Int.mul_le_mul_of_nonneg_left (show 1≤b by omega) (show 0≤a by omega)
 rwa [Int.mul_one] at this
theorem jsh {a b:Int}(a0:0<a)(b0:0<b):b≤a * b:=by rw [Int.mul_comm]; exact jmr b0 a0
theorem juZ {a b:Int}(h0:0≤a)(h:a≤b):a.natAbs≤b.natAbs:=by omega
theorem js6 {a b:Int}(h0:0<b)(h:a∣b):a.natAbs≤b.natAbs:=Nat.le_of_dvd (Int.natAbs_pos.mpr (Int.ne_of_gt h0)) (Int.natAbs_dvd_natAbs.mpr h)
theorem jBK {k:Nat}{s:S6}{m:Int}(h:jAx s)(vol:s.a * s.d * s.f=m)(bm:Bd k m):Bp k (s1 s)∧Bp k (s2 s)∧Bp k (s3 s):=by
 obtain⟨a0,d0,f0,b0,b1,c0,c1,e0,e1⟩:=h
 have ad:0<s.a * s.d:=Int.mul_pos a0 d0
 have l1:s.a * s.d≤m:=by rw [←vol]; exact jmr ad f0
 have l3:s.d≤m:=Int.le_trans (jsh a0 d0) l1
 have l4:s.f≤m:=by rw [←vol]; exact jsh ad f0
 have le:∀{x:Int},0≤x->x≤m->Bd k x:=fun h1 h2=>Nat.lt_of_le_of_lt (juZ h1 h2) bm
 have lt:∀{x y:Int},0≤x->x<y->y≤m->Bd k x:=fun h1 h2 h3=>le h1 (Int.le_trans (Int.le_of_lt h2) h3)
 have z:Bd k 0:=le (Int.le_refl 0) (Int.le_trans (Int.le_of_lt f0) l4)
 exact⟨⟨le (Int.le_of_lt a0) (Int.le_trans (jmr a0 d0) l1),lt b0 b1 l3,lt c0 c1 l4⟩,⟨z,le (Int.le_of_lt d0) l3,lt e0 e1 l4⟩,⟨z,z,le (Int.le_of_lt f0) l4⟩⟩
structure DS (w:P3)(m:Int)(s:S6):Prop where
 st:jAx s
 p1:m∣w.x * s.a+w.y * s.b+w.z * s.c
 p2:m∣w.y * s.d+w.z * s.e
 p3:m∣w.z * s.f
 vol:s.a * s.d * s.f=m
 k1:∀x y z,m∣w.x * x+w.y * y+w.z * z->s.a∣x
 k2:∀y z,m∣w.y * y+w.z * z->s.d∣y
 k3:∀z,m∣w.z * z->s.f∣z
theorem jBq {w:P3}{m g h s t u v:Int}(m0:0<m)(one:jA [w.x,w.y,w.z,m]=1)(eg:s * w.z+t * m=g)(gz:g∣w.z)(gm:g∣m)(g0:0<g)(eh:u * w.y+v * g=h)(hy:h∣w.y)(hg:h∣g)(h0:0<h) :
  DS w m ⟨h,(-w.x * u).fmod (g.fdiv h),(-((w.x * h+w.y * (-w.x * u).fmod (g.fdiv h)).fdiv g) * s).fmod (m.fdiv g),g.fdiv h,(-((w.y * g.fdiv h).fdiv g) * s).fmod (m.fdiv g),m.fdiv g⟩:=by
 have ed:h * g.fdiv h=g:=Int.mul_fdiv_cancel' hg
 have ef:g * m.fdiv g=m:=Int.mul_fdiv_cancel' gm
 have cop:Cop h w.x:=fun d a b=>by
  rw [←one]
  refine dvd_gcdL.mpr fun x hx=>?_
  simp only [List.mem_cons,List.not_mem_nil,or_false] at hx
  rcases hx with rfl | rfl | rfl | rfl
  ·exact b
  ·exact Int.dvd_trans a hy
  ·exact Int.dvd_trans (Int.dvd_trans a hg) gz
  ·exact Int.dvd_trans (Int.dvd_trans a hg) gm
 generalize g.fdiv h=d at *
 generalize m.fdiv g=f at *
 obtain⟨y',ey⟩:=hy
 obtain⟨z',ez⟩:=gz
 have d0:0<d:=jnQ h0 (by rw [ed]; exact g0)
 have f0:0<f:=jnQ g0 (by rw [ef]; exact m0)
 have eb:∃kb,(-w.x * u).fmod d=-w.x * u - d * kb:=⟨_,jcm ..⟩
 have b0:=Int.fmod_nonneg_of_pos (-w.x * u) d0
 have b1:=Int.fmod_lt_of_pos (-w.x * u) d0
 generalize (-w.x * u).fmod d=b at *
 obtain⟨kb,eb⟩:=eb
 have eu:u * y'+v * d=1:=by
  have e:h * (u * y'+v * d)=h * 1:=by
   rw [Int.mul_one]
   calc h * (u * y'+v * d)=u * (h * y')+v * (h * d):=by grind
    _=h:=by rw [←ey,ed]; exact eh
  exact Int.eq_of_mul_eq_mul_left (Int.ne_of_gt h0) e
 have es:s * z'+t * f=1:=by
  have e:g * (s * z'+t * f)=g * 1:=by
   rw [Int.mul_one]
   calc g * (s * z'+t * f)=s * (g * z')+t * (g * f):=by grind
    _=g:=by rw [←ez,ef]; exact eg
  exact Int.eq_of_mul_eq_mul_left (Int.ne_of_gt g0) e
 have q1:w.x * h+w.y * b=g * (w.x * v - y' * kb):=by
  rw [eb]
  calc w.x * h+w.y * (-w.x * u - d * kb)=w.x * h - w.x * (u * w.y) - (w.y * d) * kb:=by grind
   _=w.x * h - w.x * (u * w.y) - (y' * (h * d)) * kb:=by rw [show w.y * d=y' * (h * d) by rw [ey]; grind]
   _=w.x * (u * w.y+v * g) - w.x * (u * w.y) - (y' * g) * kb:=by rw [ed,eh]
   _=g * (w.x * v - y' * kb):=by grind
 have q2:w.y * d=g * y':=by rw [ey,←ed]; grind
 have n1:(w.x * h+w.y * b).fdiv g=w.x * v - y' * kb:=by rw [q1]; exact Int.mul_fdiv_cancel_left _ (Int.ne_of_gt g0)
 have n2:(w.y * d).fdiv g=y':=by rw [q2]; exact Int.mul_fdiv_cancel_left _ (Int.ne_of_gt g0)
 rw [n1,n2]
 have zf:w.z * f=m * z':=by rw [ez,←ef]; grind
 have low:∀n:Int,∃k,w.z * (-n * s).fmod f=-(g * n)+m * k:=fun n=>by
  refine⟨n * t - z' * (-n * s).fdiv f,?_⟩
  rw [jcm]
  calc w.z * (-n * s - f * (-n * s).fdiv f)=-(n * (s * w.z)) - (w.z * f) * (-n * s).fdiv f:=by grind
   _=-(n * (g - t * m)) - (m * z') * (-n * s).fdiv f:=by rw [zf,(Int.sub_eq_iff_eq_add.mpr eg.symm).symm]
   _=-(g * n)+m * (n * t - z' * (-n * s).fdiv f):=by grind
 refine⟨⟨h0,d0,f0,b0,b1,Int.fmod_nonneg_of_pos _ f0,Int.fmod_lt_of_pos _ f0,Int.fmod_nonneg_of_pos _ f0,Int.fmod_lt_of_pos _ f0⟩,?_,?_,?_,?_,?_,?_,?_⟩
 ·obtain⟨k,e⟩:=low (w.x * v - y' * kb)
  exact⟨k,by show w.x * h+w.y * b+w.z * _=_; rw [q1,e,Int.add_neg_cancel_left]⟩
 ·obtain⟨k,e⟩:=low y'
  exact⟨k,by show w.y * d+w.z * _=_; rw [q2,e,Int.add_neg_cancel_left]⟩
 ·exact⟨z',zf⟩
 ·show h * d * f=m
  rw [ed,ef]
 ·intro x y z hd
  refine cop.mul ?_
  have hm:h∣m:=Int.dvd_trans hg gm
  have e:=Int.dvd_trans hm hd
  have hz:h∣w.z * z:=Int.dvd_mul_of_dvd_left (Int.dvd_trans hg ⟨z',ez⟩)
  have hy2:h∣w.y * y:=Int.dvd_mul_of_dvd_left ⟨y',ey⟩
  exact(Int.dvd_add_left hy2).mp ((Int.dvd_add_left hz).mp e)
 ·intro y z hd
  have e:=Int.dvd_trans gm hd
  have hz:g∣w.z * z:=Int.dvd_mul_of_dvd_left ⟨z',ez⟩
  obtain⟨q,e⟩:=(Int.dvd_add_left hz).mp e
  have e2:y' * y=d * q:=by
   refine Int.eq_of_mul_eq_mul_left (Int.ne_of_gt h0) ?_
   calc h * (y' * y)=(h * y') * y:=(Int.mul_assoc ..).symm
    _=(h * d) * q:=by rw [←ey,ed]; exact e
    _=h * (d * q):=Int.mul_assoc ..
  refine⟨u * q+v * y,?_⟩
  calc y=(u * y'+v * d) * y:=by rw [eu,Int.one_mul]
   _=u * (y' * y)+v * d * y:=by grind
   _=d * (u * q+v * y):=by rw [e2]; grind
 ·intro z hd
  obtain⟨q,e⟩:=hd
  have e2:z' * z=f * q:=by
   refine Int.eq_of_mul_eq_mul_left (Int.ne_of_gt g0) ?_
   calc g * (z' * z)=(g * z') * z:=(Int.mul_assoc ..).symm
    _=(g * f) * q:=by rw [←ez,ef]; exact e
    _=g * (f * q):=Int.mul_assoc ..
  refine⟨s * q+t * z,?_⟩
  calc z=(s * z'+t * f) * z:=by rw [es,Int.one_mul]
   _=s * (z' * z)+t * f * z:=by grind
   _=f * (s * q+t * z):=by rw [e2]; grind
def InG (s:S6)(p:P3):Prop:=p.x.fmod s.a=0∧(p.y - p.x.fdiv s.a * s.b).fmod s.d=0∧(p.z - p.x.fdiv s.a * s.c - (p.y - p.x.fdiv s.a * s.b).fdiv s.d * s.e).fmod s.f=0
instance (s:S6) (p:P3):Decidable (InG s p):=inferInstanceAs (Decidable (_∧_))
def jbb (t:T9):Int:=t.p.x+t.q.y+t.r.z
def jlD:Nat->Int
 | 0=>2
 | 1=>3
 | 2=>4
 | 3=>6
 | _=>1
theorem jxl {q:Q4}(h0:q≠q0):∃g:Int,0<g∧g * (jm q).n=jK q∧g * jbb (jm q)=4 * q.a * q.a - jK q:=by
 have l:=jix (jf8 h0)
 refine⟨_,l.g,l.nn,?_⟩
 unfold jbb
 have e:∀g a b c:Int,g * (a+b+c)=g * a+g * b+g * c:=fun g a b c=>by grind
 show _ * ((jbB (ja3 q)).p.x+(jbB (ja3 q)).q.y+(jbB (ja3 q)).r.z)=_
 rw [e,l.px,l.qy,l.rz]
 simp only [ja3,jK]; grind
theorem jvH {q:Q4}(h0:q≠q0):(∃s:Nat,s≤4∧jbb (jm q)=((s:Int) - 1) * (jm q).n∧4 * q.a * q.a=(s:Int) * jK q)∨(¬(jm q).n∣jbb (jm q)∧¬jK q∣4 * q.a * q.a):=by
 obtain⟨g,g0,en,es⟩:=jxl h0
 have N0:=jcH h0
 by_cases hd:(jm q).n∣jbb (jm q)
 ·left
  obtain⟨c,hc⟩:=hd
  have e4:4 * q.a * q.a=(c+1) * jK q:=by
   have:g * jbb (jm q)=c * jK q:=by rw [hc,←en]; grind
   grind
  have sa:=jcY q.a; have sb:=jcY q.b; have sc:=jcY q.c; have sd:=jcY q.d
  have c0:0≤c+1:=by
   apply Classical.byContradiction
   intro z
   have:(c+1) * jK q<0:=Int.mul_neg_of_neg_of_pos (by omega) N0
   have:4 * q.a * q.a=4 * (q.a * q.a):=by grind
   omega
  have c4:c+1≤4:=by
   apply Classical.byContradiction
   intro z
   have:5 * jK q≤(c+1) * jK q:=Int.mul_le_mul_of_nonneg_right (by omega) (by omega)
   have:4 * q.a * q.a=4 * (q.a * q.a):=by grind
   have:jK q=q.a * q.a+q.b * q.b+q.c * q.c+q.d * q.d:=rfl
   omega
  refine⟨(c+1).toNat,by omega,?_,?_⟩
  ·rw [Int.toNat_of_nonneg c0,hc]; grind
  ·rw [Int.toNat_of_nonneg c0]; exact e4
 ·refine .inr ⟨hd,fun⟨c,hc⟩=>hd ⟨c - 1,?_⟩⟩
  have:g * jbb (jm q)=g * ((jm q).n * (c - 1)):=by rw [es,hc,←en]; grind
  exact Int.eq_of_mul_eq_mul_left (by omega) this
def jW (ns:List Int):Str:=Txt.join "," (ns.map jaJ)
theorem jvK {n:Int}(h:Bd 1900 n):n.natAbs.log2<1920:=by
 by_cases z:n.natAbs=0
 ·rw [z]; decide
 ·exact Nat.lt_of_lt_of_le ((Nat.log2_lt z).mpr h) (by decide)
theorem jr4 {n:Int}(h:Bd 1900 n):(jaJ n).length≤601 :=
 (jhD (k:=600) (by decide) (Nat.lt_of_lt_of_le h (by decide +kernel))).1
theorem jpM:∀(ns:List Int),(∀n∈ns,Bd 1900 n)->((ns.map jaJ).map (·.length)).sum≤601 * ns.length
 | [],_=>Nat.le_refl _
 | n::ns,h=>by
  have a:=jr4 (h n List.mem_cons_self)
  have b:=jpM ns fun m hm=>h m (List.mem_cons_of_mem _ hm)
  simp only [List.map_cons,List.sum_cons,List.length_cons] at b ⊢
  omega
theorem ju9 {Φ:List D->Prop}{d0:D}{ns:List Int}(hl:ns.length≤4)(hb:∀n∈ns,Bd 1900 n)(h:Φ ((ns.map jaJ).map .str)) :
  jhy (gN 0) (fun _ Φ=>Φ true) (dB jo7 (jc (jd 0) jj)) [.un,.val d0] (ns.map .int) [] Φ:=by
 refine jeu (fun d=>match d with | .int n=>.str (jaJ n) | d=>d) _ _ (by simp only [List.length_nil,List.length_map]; omega) (fun d hd Ψ p=>?_) ?_
 ·obtain⟨n,hn,rfl⟩:=List.mem_map.mp hd
  exact⟨jvK (hb n hn),p⟩
 ·rw [List.nil_append,List.map_map]
  rw [List.map_map] at h
  exact h
theorem jnE (c:Nat){k:Nat}:∀l:List Str,(∀p∈l,p.length≤k)->(jdl c l).length≤(k+1) * l.length
 | [],_=>Nat.le_refl _
 | q::r,h=>by
  have a:=h q List.mem_cons_self
  have b:=jnE c r fun p hp=>h p (List.mem_cons_of_mem _ hp)
  show (c::cp (Str.join ⟨#[c]⟩ (q::r))).length≤_
  rw [jcc,List.length_cons,List.length_append,jbm,List.length_cons,Nat.mul_succ]
  omega
theorem jkb (ns:List Int)(h:∀n∈ns,Bd 1900 n):(jW ns).length≤602 * ns.length:=by
 unfold jW
 rw [ji2,←jbm]
 cases ns with
 | nil=>exact Nat.zero_le _
 | cons n ns =>
  have a:=jr4 (h n List.mem_cons_self)
  have b:=jnE 44 (ns.map jaJ) (k:=601) fun p hp=>by
   obtain⟨m,hm,rfl⟩:=List.mem_map.mp hp
   exact jr4 (h m (List.mem_cons_of_mem _ hm))
  rw [List.length_map] at b
  rw [List.map_cons,show (",":Str)=⟨#[44]⟩ from rfl,jcc,List.length_append,jbm,List.length_cons]
  omega
def jiz (z s:Str):Bool:=(cp z).all fun c=>decide (c∈cp s)
def j6 (z:Str):Bool:=decide (1≤z.length)&&decide (z.length≤8)&&jiz z "abcdefghijklmnopqrstuvwxyz"
theorem jnW {k:Nat}{q:Q4}(h:Bq k q):∀n∈ql q,Bd k n:=by
 intro n hn
 simp only [ql,List.mem_cons,List.not_mem_nil,or_false] at hn
 rcases hn with rfl | rfl | rfl | rfl
 ·exact h.a
 ·exact h.b
 ·exact h.c
 ·exact h.d
theorem jvV {q:Q4}(h0:q≠q0):j2 q≠q0:=(jdI h0).ne
theorem jzK {q:Q4}(h0:q≠q0):jm (j2 q)=jm q:=by
 conv=>rhs; rw [jdT h0]
 rw [jq2 (jen h0) (jdI h0).ne]
def jo0 (q:Q4):Str:=if 4 * q.a * q.a=4 * jK q then "1" else if 4 * q.a * q.a=0 * jK q then "2" else if 4 * q.a * q.a=1 * jK q then "3" else if 4 * q.a * q.a=2 * jK q then "4" else if 4 * q.a * q.a=3 * jK q then "6" else "never"
theorem jvg {s r n:Int}(n0:0<n)(h:s * n=r * n):s=r:=Int.eq_of_mul_eq_mul_right (Int.ne_of_gt n0) h
theorem jyM {q:Q4}(h0:q≠q0):∀{s:Nat},s≤4->4 * q.a * q.a=(s:Int) * jK q->jo0 q=jaJ (jlD s):=by
 intro s hs e
 have n0:=jcH h0
 have ne:∀r:Int,(s:Int)≠r->¬4 * q.a * q.a=r * jK q:=fun r hr z=>hr (jvg n0 (e.symm.trans z))
 unfold jo0
 match s,hs,e,ne with
 | 0,_,e,ne=>have e:4 * q.a * q.a=0 * jK q:=e; rw [if_neg (ne 4 (by decide)),if_pos e]; decide
 | 1,_,e,ne=>have e:4 * q.a * q.a=1 * jK q:=e; rw [if_neg (ne 4 (by decide)),if_neg (ne 0 (by decide)),if_pos e]; decide
 | 2,_,e,ne=>have e:4 * q.a * q.a=2 * jK q:=e; rw [if_neg (ne 4 (by decide)),if_neg (ne 0 (by decide)),if_neg (ne 1 (by decide)),if_pos e]; decide
 | 3,_,e,ne=>have e:4 * q.a * q.a=3 * jK q:=e; rw [if_neg (ne 4 (by decide)),if_neg (ne 0 (by decide)),if_neg (ne 1 (by decide)),if_neg (ne 2 (by decide)),if_pos e]; decide
 | 4,_,e,ne=>have e:4 * q.a * q.a=4 * jK q:=e; rw [if_pos e]; decide
theorem jur {q:Q4}(h:¬jK q∣4 * q.a * q.a):jo0 q="never":=by
 have ne:∀r:Int,¬4 * q.a * q.a=r * jK q:=fun r z=>h ⟨r,by rw [z,Int.mul_comm]⟩
 unfold jo0
 rw [if_neg (ne 4),if_neg (ne 0),if_neg (ne 1),if_neg (ne 2),if_neg (ne 3)]
theorem jwM {q:Q4}(h0:q≠q0){Φ:D->Prop}(h:Φ (.str (jo0 (j2 q)))):(∃s:Nat,s≤4∧jbb (jm q)=((s:Int) - 1) * (jm q).n∧Φ (.str (jaJ (jlD s))))∨(¬(jm q).n∣jbb (jm q)∧Φ (.str "never")):=by
 rw [←jzK h0]
 rcases jvH (jvV h0) with⟨s,hs,e,f⟩ | ⟨e,f⟩
 ·rw [jyM (jvV h0) hs f] at h
  exact .inl ⟨s,hs,e,h⟩
 ·rw [jur f] at h
  exact .inr ⟨e,h⟩
def top (i:Nat):Stmt:=PySem.Challenge.pw_turngrid_k54_desk_refuses.main.body.getD i (.Pass ⟨0,0,0,0⟩)
abbrev jrs:Stmt:=jll (top 69) 0
abbrev jjd:Stmt:=top 50
abbrev jhn:Stmt:=top 52
abbrev jgB:Stmt:=top 51
abbrev jkP:Stmt:=top 49
abbrev jiS:Stmt:=top 71
abbrev jkZ:Stmt:=jll (top 69) 3
abbrev jiL:Stmt:=jll (top 69) 2
abbrev jjB:Stmt:=top 70
abbrev jeB:Stmt:=top 53
abbrev jdx:Stmt:=top 18
abbrev jk6:Stmt:=top 17
abbrev jco:Stmt:=top 25
abbrev jiU:Stmt:=top 15
abbrev jox:Stmt:=top 24
abbrev jcy:Stmt:=top 31
abbrev jhB:Stmt:=top 12
abbrev jrP:Stmt:=top 23
abbrev jkl:Stmt:=top 30
abbrev jhz:Stmt:=top 59
abbrev jfi:Stmt:=top 60
abbrev jke:Stmt:=top 13
abbrev ji1:Stmt:=top 14
abbrev jku:Stmt:=top 20
abbrev jgg:Stmt:=top 37
abbrev jmD:Stmt:=top 34
abbrev jsf:Stmt:=top 33
abbrev jeE:Stmt:=top 19
abbrev jj0:Stmt:=top 41
abbrev jeC:Stmt:=top 40
abbrev jf6:Stmt:=top 61
abbrev jpf:Stmt:=top 35
abbrev jhi:Stmt:=top 62
abbrev jhq:Stmt:=top 54
abbrev jhm:Stmt:=top 39
abbrev jft:Stmt:=top 63
abbrev jkE:Stmt:=top 28
abbrev jd7:Stmt:=top 29
abbrev jkc:Stmt:=top 27
abbrev jk8:Stmt:=top 22
abbrev jot:Stmt:=top 32
abbrev jfp:Stmt:=top 42
abbrev jhc:Stmt:=top 64
abbrev jpn:Stmt:=top 45
abbrev jgb:Stmt:=top 65
abbrev jeD:Stmt:=top 56
abbrev jfm:Stmt:=top 57
abbrev jhe:Stmt:=top 58
abbrev juu:Stmt:=jll (top 69) 1
abbrev jjm:Stmt:=top 81
abbrev jjn:Stmt:=top 74
abbrev jfk:Stmt:=top 73
abbrev jiO:Stmt:=top 75
abbrev jdw:Stmt:=top 78
abbrev jc7:Stmt:=top 79
abbrev jcx:Stmt:=top 80
abbrev jfs:Stmt:=top 77
abbrev jho:Stmt:=top 76
abbrev jt0:Stmt:=top 82
theorem jzi:jx ["self"] ["self"] (ji jrs):=⟨rfl,rfl,rfl,by decide +kernel,rfl,by decide +kernel,by decide +kernel⟩
theorem jl7:jx ["word","signs"] ["word","signs"] (ji jjd):=⟨rfl,rfl,rfl,by decide +kernel,rfl,by decide +kernel,by decide +kernel⟩
theorem jkz:jx ["word","figures"] ["word"] (ji jhn):=⟨rfl,rfl,rfl,by decide +kernel,rfl,by decide +kernel,by decide +kernel⟩
theorem jdo:jx ["word","often","parts"] ["word","often"] (ji jgB):=⟨rfl,rfl,rfl,by decide +kernel,rfl,by decide +kernel,by decide +kernel⟩
theorem jnX:jx ["word"] ["word"] (ji jkP):=⟨rfl,rfl,rfl,by decide +kernel,rfl,by decide +kernel,by decide +kernel⟩
theorem jeX:jx ["word"] ["word"] (ji jiS):=⟨rfl,rfl,rfl,by decide +kernel,rfl,by decide +kernel,by decide +kernel⟩
theorem jc0:jx ["self","kind","word"] ["self","kind","word"] (ji jkZ):=⟨rfl,rfl,rfl,by decide +kernel,rfl,by decide +kernel,by decide +kernel⟩
theorem jcv:jx ["self","words","kinds"] ["self","words"] (ji jiL):=⟨rfl,rfl,rfl,by decide +kernel,rfl,by decide +kernel,by decide +kernel⟩
theorem jeS:jx ["row","words"] ["row"] (ji jjB):=⟨rfl,rfl,rfl,by decide +kernel,rfl,by decide +kernel,by decide +kernel⟩
theorem jgR:jx ["numbers"] ["numbers"] (ji jeB):=⟨rfl,rfl,rfl,by decide +kernel,rfl,by decide +kernel,by decide +kernel⟩
theorem jfw:jx ["one","other","rest"] ["one","other"] (ji jdx):=⟨rfl,rfl,rfl,by decide +kernel,rfl,by decide +kernel,by decide +kernel⟩
theorem jnj:jx ["numbers","found","number"] ["numbers"] (ji jk6):=⟨rfl,rfl,rfl,by decide +kernel,rfl,by decide +kernel,by decide +kernel⟩
theorem jdH:jx ["quad"] ["quad"] (ji jco):=⟨rfl,rfl,rfl,by decide +kernel,rfl,by decide +kernel,by decide +kernel⟩
theorem jmj:jx ["row","n"] ["row","n"] (ji jiU):=⟨rfl,rfl,rfl,by decide +kernel,rfl,by decide +kernel,by decide +kernel⟩
theorem jq6:jx ["quad","shrink"] ["quad"] (ji jox):=⟨rfl,rfl,rfl,by decide +kernel,rfl,by decide +kernel,by decide +kernel⟩
theorem jd5:jx ["turn","rows","bottom","x","y","z","ab","ac","ad","bc","bd","cd"] ["turn"] (ji jcy):=⟨rfl,rfl,rfl,by decide +kernel,rfl,by decide +kernel,by decide +kernel⟩
theorem jk4:jx ["one","other"] ["one","other"] (ji jhB):=⟨rfl,rfl,rfl,by decide +kernel,rfl,by decide +kernel,by decide +kernel⟩
theorem jtu:jx ["quad"] ["quad"] (ji jrP):=⟨rfl,rfl,rfl,by decide +kernel,rfl,by decide +kernel,by decide +kernel⟩
theorem jm2:jx ["turn"] ["turn"] (ji jkl):=⟨rfl,rfl,rfl,by decide +kernel,rfl,by decide +kernel,by decide +kernel⟩
theorem jlf:jx ["told"] ["told"] (ji jhz):=⟨rfl,rfl,rfl,by decide +kernel,rfl,by decide +kernel,by decide +kernel⟩
theorem jir:jx ["told"] ["told"] (ji jfi):=⟨rfl,rfl,rfl,by decide +kernel,rfl,by decide +kernel,by decide +kernel⟩
theorem jnp:jx ["one","times","other","times_too"] ["one","times","other","times_too"] (ji jke):=⟨rfl,rfl,rfl,by decide +kernel,rfl,by decide +kernel,by decide +kernel⟩
theorem jl1:jx ["row","taken","times"] ["row","taken","times"] (ji ji1):=⟨rfl,rfl,rfl,by decide +kernel,rfl,by decide +kernel,by decide +kernel⟩
theorem jnA:jx ["one","other","row","below","rest"] ["one","other"] (ji jku):=⟨rfl,rfl,rfl,by decide +kernel,rfl,by decide +kernel,by decide +kernel⟩
theorem jjL:jx ["dial","w","m","last","middle","a","d","f","b","c","e"] ["dial"] (ji jgg):=⟨rfl,rfl,rfl,by decide +kernel,rfl,by decide +kernel,by decide +kernel⟩
theorem jpE:jx ["rows","place"] ["rows","place"] (ji jmD):=⟨rfl,rfl,rfl,by decide +kernel,rfl,by decide +kernel,by decide +kernel⟩
theorem jta:jx ["turn","rows"] ["turn"] (ji jsf):=⟨rfl,rfl,rfl,by decide +kernel,rfl,by decide +kernel,by decide +kernel⟩
theorem jg2:jx ["n","other","rest","shared"] ["n","other"] (ji jeE):=⟨rfl,rfl,rfl,by decide +kernel,rfl,by decide +kernel,by decide +kernel⟩
theorem jnL:jx ["turn","bottom","w","row"] ["turn"] (ji jj0):=⟨rfl,rfl,rfl,by decide +kernel,rfl,by decide +kernel,by decide +kernel⟩
theorem jg1:jx ["turn"] ["turn"] (ji jeC):=⟨rfl,rfl,rfl,by decide +kernel,rfl,by decide +kernel,by decide +kernel⟩
theorem jjN:jx ["told"] ["told"] (ji jf6):=⟨rfl,rfl,rfl,by decide +kernel,rfl,by decide +kernel,by decide +kernel⟩
theorem jsp:jx ["turn","point","spot"] ["turn","point"] (ji jpf):=⟨rfl,rfl,rfl,by decide +kernel,rfl,by decide +kernel,by decide +kernel⟩
theorem jjY:jx ["told"] ["told"] (ji jhi):=⟨rfl,rfl,rfl,by decide +kernel,rfl,by decide +kernel,by decide +kernel⟩
theorem jkR:jx ["truth"] ["truth"] (ji jhq):=⟨rfl,rfl,rfl,by decide +kernel,rfl,by decide +kernel,by decide +kernel⟩
theorem jko:jx ["turn","point"] ["turn","point"] (ji jhm):=⟨rfl,rfl,rfl,by decide +kernel,rfl,by decide +kernel,by decide +kernel⟩
theorem jhE:jx ["told"] ["told"] (ji jft):=⟨rfl,rfl,rfl,by decide +kernel,rfl,by decide +kernel,by decide +kernel⟩
theorem jm4:jx ["quad","a","b","c","d"] ["quad"] (ji jkE):=⟨rfl,rfl,rfl,by decide +kernel,rfl,by decide +kernel,by decide +kernel⟩
theorem jgE:jx ["rows","bottom"] ["rows","bottom"] (ji jd7):=⟨rfl,rfl,rfl,by decide +kernel,rfl,by decide +kernel,by decide +kernel⟩
theorem jfF:jx ["quad","bottom","rows","shrink"] ["quad"] (ji jkc):=⟨rfl,rfl,rfl,by decide +kernel,rfl,by decide +kernel,by decide +kernel⟩
theorem jnn:jx ["one","other"] ["one","other"] (ji jk8):=⟨rfl,rfl,rfl,by decide +kernel,rfl,by decide +kernel,by decide +kernel⟩
theorem jss:jx ["one","other"] ["one","other"] (ji jot):=⟨rfl,rfl,rfl,by decide +kernel,rfl,by decide +kernel,by decide +kernel⟩
theorem jia:jx ["one","other"] ["one","other"] (ji jfp):=⟨rfl,rfl,rfl,by decide +kernel,rfl,by decide +kernel,by decide +kernel⟩
theorem jkD:jx ["told"] ["told"] (ji jhc):=⟨rfl,rfl,rfl,by decide +kernel,rfl,by decide +kernel,by decide +kernel⟩
theorem jsi:jx ["turn","slant"] ["turn"] (ji jpn):=⟨rfl,rfl,rfl,by decide +kernel,rfl,by decide +kernel,by decide +kernel⟩
theorem jjC:jx ["told","found"] ["told"] (ji jgb):=⟨rfl,rfl,rfl,by decide +kernel,rfl,by decide +kernel,by decide +kernel⟩
theorem jcD:jx ["told"] ["told"] (ji jeD):=⟨rfl,rfl,rfl,by decide +kernel,rfl,by decide +kernel,by decide +kernel⟩
theorem jhM:jx ["told"] ["told"] (ji jfm):=⟨rfl,rfl,rfl,by decide +kernel,rfl,by decide +kernel,by decide +kernel⟩
theorem jj2:jx ["told"] ["told"] (ji jhe):=⟨rfl,rfl,rfl,by decide +kernel,rfl,by decide +kernel,by decide +kernel⟩
theorem jdk:jx ["self","row","words","first","told"] ["self","row"] (ji juu):=⟨rfl,rfl,rfl,by decide +kernel,rfl,by decide +kernel,by decide +kernel⟩
theorem jl8:jx ["edge","some"] [] (ji jjm):=⟨rfl,rfl,rfl,by decide +kernel,rfl,by decide +kernel,by decide +kernel⟩
theorem jmm:jx ["cell","most","left"] ["cell","most"] (ji jjn):=⟨rfl,rfl,rfl,by decide +kernel,rfl,by decide +kernel,by decide +kernel⟩
theorem jih:jx ["script","k"] ["script","k"] (ji jfk):=⟨rfl,rfl,rfl,by decide +kernel,rfl,by decide +kernel,by decide +kernel⟩
theorem jl6:jx ["script","k","most","quad"] ["script","k","most"] (ji jiO):=⟨rfl,rfl,rfl,by decide +kernel,rfl,by decide +kernel,by decide +kernel⟩
theorem jfx:jx ["some"] [] (ji jdw):=⟨rfl,rfl,rfl,by decide +kernel,rfl,by decide +kernel,by decide +kernel⟩
theorem je9:jx ["some"] [] (ji jc7):=⟨rfl,rfl,rfl,by decide +kernel,rfl,by decide +kernel,by decide +kernel⟩
theorem jeg:jx ["some"] [] (ji jcx):=⟨rfl,rfl,rfl,by decide +kernel,rfl,by decide +kernel,by decide +kernel⟩
theorem jh2:jx ["desk","row","word","e","some"] ["desk","row"] (ji jfs):=⟨rfl,rfl,rfl,by decide +kernel,rfl,by decide +kernel,by decide +kernel⟩
theorem jkV:jx ["numbers"] ["numbers"] (ji jho):=⟨rfl,rfl,rfl,by decide +kernel,rfl,by decide +kernel,by decide +kernel⟩
theorem jwg:jx ["script","desk","k","quad","before","cell","way","some","row"] ["script"] (ji jt0):=⟨rfl,rfl,rfl,by decide +kernel,rfl,by decide +kernel,by decide +kernel⟩
def jkC:D:=(.str "0123456789")
def jj9:D:=(.str "abcdefghijklmnopqrstuvwxyz")
def jiP:D:=(.tup [(.int 2),(.int 3),(.int 4),(.int 6),(.int 1)])
abbrev ks_MAKERS:List Str:=["turn","after","back"]
abbrev ks_ROWS:List Str:=["turn","after","back","drop","quad","bottom","stair","move","shared","same","order"]
abbrev jaH:List D:=[(.tup [(.str "new"),(.str "quad")]),(.tup [(.str "new"),(.str "turn"),(.str "turn")]),(.tup [(.str "new"),(.str "turn")]),(.tup [(.str "turn")]),(.tup [(.str "turn")]),(.tup [(.str "turn")]),(.tup [(.str "turn")]),(.tup [(.str "turn"),(.str "point")]),(.tup [(.str "turn"),(.str "point")]),(.tup [(.str "turn"),(.str "turn")]),(.tup [(.str "turn")])]
abbrev ks_TELLERS:List Str:=["quad","bottom","stair","move","shared","same","order"]
set_option genInjectivity false
set_option genSizeOf false
structure Ad where
 y6:Addr
 y7:FuncData
 y8:Addr
 y9:FuncData
 y10:Addr
 y11:FuncData
 y12:Addr
 y13:FuncData
 y14:Addr
 y15:FuncData
 y16:Addr
 y17:FuncData
 y18:Addr
 y19:FuncData
 y20:Addr
 y21:FuncData
 y22:Addr
 y23:FuncData
 y24:Addr
 y25:FuncData
 y26:Addr
 y27:FuncData
 y28:Addr
 y29:FuncData
 y30:Addr
 y31:FuncData
 y32:Addr
 y33:FuncData
 y34:Addr
 y35:FuncData
 y36:Addr
 y37:FuncData
 y38:Addr
 y39:FuncData
 y40:Addr
 y41:FuncData
 y42:Addr
 y43:FuncData
 y44:Addr
 y45:FuncData
 y46:Addr
 y47:FuncData
 y48:Addr
 y49:FuncData
 y50:Addr
 y51:FuncData
 y52:Addr
 y53:FuncData
 y54:Addr
 y55:FuncData
 y56:Addr
 y57:FuncData
 y58:Addr
 y59:FuncData
 y60:Addr
 y61:FuncData
 y62:Addr
 y63:FuncData
 y64:Addr
 y65:FuncData
 y66:Addr
 y67:FuncData
 y68:Addr
 y69:FuncData
 y70:Addr
 y71:FuncData
 y72:Addr
 y73:FuncData
 y74:Addr
 y75:FuncData
 y76:Addr
 y77:FuncData
 y78:Addr
 y79:FuncData
 y80:Addr
 y81:FuncData
 y82:Addr
 y83:FuncData
 y84:Addr
 y85:FuncData
 y86:Addr
 y87:FuncData
 y88:Addr
 y89:FuncData
 y90:Addr
 y91:FuncData
 y92:Addr
 y93:FuncData
 y94:Addr
 y95:FuncData
 y96:Addr
 y97:FuncData
 y98:Addr
 y99:FuncData
 y100:Addr
 y101:FuncData
 y102:Addr
 y103:FuncData
 y104:Addr
 y105:FuncData
 y106:Addr
 y107:FuncData
 y108:Addr
 y109:FuncData
 y110:Addr
 y111:FuncData
 y112:Addr
 y113:FuncData
 y114:Addr
 y115:FuncData
 y116:Addr
 y117:FuncData
 y118:Addr
 y119:FuncData
 y120:Addr
 y121:FuncData
 y122:Addr
 y123:FuncData
 y124:V
 y125:Value
 y126:V
 y127:Value
 y128:V
 y129:Value
 y130:Addr
 y131:Addr
 y132:Addr
 y133:Addr
 y134:Addr
 y135:Addr
 y136:Addr
 y137:Addr
 y138:Addr
 y139:Addr
 y140:Addr
 y141:Addr
 y142:Addr
 y143:List V
 y144:List Value
 y145:Addr
abbrev zc (t:Ad):Zc:=⟨t.y140,"turns"⟩
structure Txt (P:Program)(w:World)(K:PySem.W.Frag)(mg:Str->Option Value)(t:Ad):Prop where
 y146:jfA K t.y140 "__init__" "Desk.__init__" jrs t.y6 t.y7 ["self"]
 y147:jr K mg "has_only" jjd t.y8 t.y9 ["word","signs"]
 y148:jr K mg "is_number" jhn t.y10 t.y11 ["word"]
 y149:jr K mg "numbers_of" jgB t.y12 t.y13 ["word","often"]
 y150:jr K mg "is_name" jkP t.y14 t.y15 ["word"]
 y151:jr K mg "new_name" jiS t.y16 t.y17 ["word"]
 y152:jfA K t.y140 "meaning" "Desk.meaning" jkZ t.y18 t.y19 ["self","kind","word"]
 y153:jfA K t.y140 "meanings" "Desk.meanings" jiL t.y20 t.y21 ["self","words"]
 y154:jr K mg "words_of" jjB t.y22 t.y23 ["row"]
 y155:jr K mg "numbers_told" jeB t.y24 t.y25 ["numbers"]
 y156:jr K mg "divisor_of_two" jdx t.y26 t.y27 ["one","other"]
 y157:jr K mg "divisor" jk6 t.y28 t.y29 ["numbers"]
 y158:jr K mg "leads_below_nought" jco t.y30 t.y31 ["quad"]
 y159:jr K mg "row_over" jiU t.y32 t.y33 ["row","n"]
 y160:jr K mg "plain" jox t.y34 t.y35 ["quad"]
 y161:jr K mg "multiples_of_quad" jcy t.y36 t.y37 ["turn"]
 y162:jr K mg "row_times" jhB t.y38 t.y39 ["one","other"]
 y163:jr K mg "size" jrP t.y40 t.y41 ["quad"]
 y164:jr K mg "quad_of" jkl t.y42 t.y43 ["turn"]
 y165:jr K mg "told_quad" jhz t.y44 t.y45 ["told"]
 y166:jr K mg "told_bottom" jfi t.y46 t.y47 ["told"]
 y167:jr K mg "row_mix" jke t.y48 t.y49 ["one","times","other","times_too"]
 y168:jr K mg "row_less" ji1 t.y50 t.y51 ["row","taken","times"]
 y169:jr K mg "makings" jku t.y52 t.y53 ["one","other"]
 y170:jr K mg "dial_stair" jgg t.y54 t.y55 ["dial"]
 y171:jr K mg "column" jmD t.y56 t.y57 ["rows","place"]
 y172:jr K mg "back" jsf t.y58 t.y59 ["turn"]
 y173:jr K mg "part_without" jeE t.y60 t.y61 ["n","other"]
 y174:jr K mg "dial_of" jj0 t.y62 t.y63 ["turn"]
 y175:jr K mg "shared_stair" jeC t.y64 t.y65 ["turn"]
 y176:jr K mg "told_stair" jf6 t.y66 t.y67 ["told"]
 y177:jr K mg "moved" jpf t.y68 t.y69 ["turn","point"]
 y178:jr K mg "told_spot" jhi t.y70 t.y71 ["told"]
 y179:jr K mg "yes_or_no" jhq t.y72 t.y73 ["truth"]
 y180:jr K mg "is_shared" jhm t.y74 t.y75 ["turn","point"]
 y181:jr K mg "told_shared" jft t.y76 t.y77 ["told"]
 y182:jr K mg "rows_of" jkE t.y78 t.y79 ["quad"]
 y183:jr K mg "table_divisor" jd7 t.y80 t.y81 ["rows","bottom"]
 y184:jr K mg "turn_of" jkc t.y82 t.y83 ["quad"]
 y185:jr K mg "product" jk8 t.y84 t.y85 ["one","other"]
 y186:jr K mg "after" jot t.y86 t.y87 ["one","other"]
 y187:jr K mg "share_alike" jfp t.y88 t.y89 ["one","other"]
 y188:jr K mg "told_same" jhc t.y90 t.y91 ["told"]
 y189:jr K mg "order" jpn t.y92 t.y93 ["turn"]
 y190:jr K mg "told_order" jgb t.y94 t.y95 ["told"]
 y191:jr K mg "made_of_quad" jeD t.y96 t.y97 ["told"]
 y192:jr K mg "made_of_two" jfm t.y98 t.y99 ["told"]
 y193:jr K mg "made_back" jhe t.y100 t.y101 ["told"]
 y194:jfA K t.y140 "say" "Desk.say" juu t.y102 t.y103 ["self","row"]
 y195:jr K mg "_law_good" jjm t.y104 t.y105 []
 y196:jr K mg "_law_near" jjn t.y106 t.y107 ["cell","most"]
 y197:jr K mg "_law_cell_at" jfk t.y108 t.y109 ["script","k"]
 y198:jr K mg "_law_quad" jiO t.y110 t.y111 ["script","k","most"]
 y199:jr K mg "_law_rows_wrong" jdw t.y112 t.y113 []
 y200:jr K mg "_law_names_wrong" jc7 t.y114 t.y115 []
 y201:jr K mg "_law_numbers_wrong" jcx t.y116 t.y117 []
 y202:jr K mg "_law_word_of" jfs t.y118 t.y119 ["desk","row"]
 y203:jr K mg "_law_spelt" jho t.y120 t.y121 ["numbers"]
 y204:jr K mg "law" jt0 t.y122 t.y123 ["script"]
 y205:mg "ValueError"=none
 y206:mg "abs"=none
 y207:mg "all"=none
 y208:mg "int"=none
 y209:mg "isinstance"=none
 y210:mg "len"=none
 y211:mg "max"=none
 y212:mg "range"=none
 y213:mg "str"=none
 y214:mg "sum"=none
 y215:mg "tuple"=none
 y216:mg "FIGURES"=some t.y125
 y217:jfl K jkC t.y124 t.y125
 y218:mg "LETTERS"=some t.y127
 y219:jfl K jj9 t.y126 t.y127
 y220:mg "ORDERS"=some t.y129
 y221:jfl K jiP t.y128 t.y129
 y222:mg "NoDial"=some (.ref t.y130)
 y223:mg "NoGrid"=some (.ref t.y131)
 y224:mg "NoName"=some (.ref t.y132)
 y225:mg "NoNumbers"=some (.ref t.y133)
 y226:mg "NoParts"=some (.ref t.y134)
 y227:mg "NoQuad"=some (.ref t.y135)
 y228:mg "NoRow"=some (.ref t.y136)
 y229:mg "NoStone"=some (.ref t.y137)
 y230:mg "NoWay"=some (.ref t.y138)
 y231:mg "SpaceError"=some (.ref t.y139)
 y232:PySem.W.mroIn K t.y132 (.type "ValueError")=some true
 y233:PySem.W.mroIn K t.y133 (.type "ValueError")=some true
 y234:PySem.W.mroIn K t.y135 (.type "ValueError")=some true
 y235:PySem.W.mroIn K t.y136 (.type "ValueError")=some true
 y236:PySem.W.findIn K (.ref t.y132) "__class__"=some (some (.builtin "object.__class__"))
 y237:PySem.W.findIn K (.ref t.y133) "__class__"=some (some (.builtin "object.__class__"))
 y238:PySem.W.findIn K (.ref t.y135) "__class__"=some (some (.builtin "object.__class__"))
 y239:PySem.W.findIn K (.ref t.y136) "__class__"=some (some (.builtin "object.__class__"))
 y240:PySem.W.excIn K t.y132 bmV "ValueError.__new__"=true
 y241:PySem.W.excIn K t.y133 bmV "ValueError.__new__"=true
 y242:PySem.W.excIn K t.y135 bmV "ValueError.__new__"=true
 y243:PySem.W.excIn K t.y136 bmV "ValueError.__new__"=true
 y244:PySem.W.findIn K (.ref t.y132) "__getattribute__"=some (some (.builtin "BaseException.__getattribute__"))
 y245:PySem.W.findIn K (.ref t.y133) "__getattribute__"=some (some (.builtin "BaseException.__getattribute__"))
 y246:PySem.W.findIn K (.ref t.y135) "__getattribute__"=some (some (.builtin "BaseException.__getattribute__"))
 y247:PySem.W.findIn K (.ref t.y136) "__getattribute__"=some (some (.builtin "BaseException.__getattribute__"))
 y248:PySem.W.findIn K (.ref t.y132) "__getattr__"=some none
 y249:PySem.W.findIn K (.ref t.y133) "__getattr__"=some none
 y250:PySem.W.findIn K (.ref t.y135) "__getattr__"=some none
 y251:PySem.W.findIn K (.ref t.y136) "__getattr__"=some none
 y252:PySem.W.mroIn K t.y130 (.type "BaseException")=some true
 y253:PySem.W.mroIn K t.y131 (.type "BaseException")=some true
 y254:PySem.W.mroIn K t.y132 (.type "BaseException")=some true
 y255:PySem.W.mroIn K t.y133 (.type "BaseException")=some true
 y256:PySem.W.mroIn K t.y134 (.type "BaseException")=some true
 y257:PySem.W.mroIn K t.y135 (.type "BaseException")=some true
 y258:PySem.W.mroIn K t.y136 (.type "BaseException")=some true
 y259:PySem.W.mroIn K t.y137 (.type "BaseException")=some true
 y260:PySem.W.mroIn K t.y138 (.type "BaseException")=some true
 y261:PySem.W.mroIn K t.y139 (.type "BaseException")=some true
 y262:PySem.W.mroIn K t.y132 (.type "object")=some true
 y263:PySem.W.mroIn K t.y133 (.type "object")=some true
 y264:PySem.W.mroIn K t.y135 (.type "object")=some true
 y265:PySem.W.mroIn K t.y136 (.type "object")=some true
 y266:PySem.W.mroIn K t.y132 (.ref t.y130)=some false
 y267:PySem.W.mroIn K t.y132 (.ref t.y131)=some false
 y268:PySem.W.mroIn K t.y132 (.ref t.y132)=some true
 y269:PySem.W.mroIn K t.y132 (.ref t.y133)=some false
 y270:PySem.W.mroIn K t.y132 (.ref t.y134)=some false
 y271:PySem.W.mroIn K t.y132 (.ref t.y135)=some false
 y272:PySem.W.mroIn K t.y132 (.ref t.y136)=some false
 y273:PySem.W.mroIn K t.y132 (.ref t.y137)=some false
 y274:PySem.W.mroIn K t.y132 (.ref t.y138)=some false
 y275:PySem.W.mroIn K t.y132 (.ref t.y139)=some true
 y276:PySem.W.mroIn K t.y133 (.ref t.y130)=some false
 y277:PySem.W.mroIn K t.y133 (.ref t.y131)=some false
 y278:PySem.W.mroIn K t.y133 (.ref t.y132)=some false
 y279:PySem.W.mroIn K t.y133 (.ref t.y133)=some true
 y280:PySem.W.mroIn K t.y133 (.ref t.y134)=some false
 y281:PySem.W.mroIn K t.y133 (.ref t.y135)=some false
 y282:PySem.W.mroIn K t.y133 (.ref t.y136)=some false
 y283:PySem.W.mroIn K t.y133 (.ref t.y137)=some false
 y284:PySem.W.mroIn K t.y133 (.ref t.y138)=some false
 y285:PySem.W.mroIn K t.y133 (.ref t.y139)=some true
 y286:PySem.W.mroIn K t.y135 (.ref t.y130)=some false
 y287:PySem.W.mroIn K t.y135 (.ref t.y131)=some false
 y288:PySem.W.mroIn K t.y135 (.ref t.y132)=some false
 y289:PySem.W.mroIn K t.y135 (.ref t.y133)=some false
 y290:PySem.W.mroIn K t.y135 (.ref t.y134)=some false
 y291:PySem.W.mroIn K t.y135 (.ref t.y135)=some true
 y292:PySem.W.mroIn K t.y135 (.ref t.y136)=some false
 y293:PySem.W.mroIn K t.y135 (.ref t.y137)=some false
 y294:PySem.W.mroIn K t.y135 (.ref t.y138)=some false
 y295:PySem.W.mroIn K t.y135 (.ref t.y139)=some true
 y296:PySem.W.mroIn K t.y136 (.ref t.y130)=some false
 y297:PySem.W.mroIn K t.y136 (.ref t.y131)=some false
 y298:PySem.W.mroIn K t.y136 (.ref t.y132)=some false
 y299:PySem.W.mroIn K t.y136 (.ref t.y133)=some false
 y300:PySem.W.mroIn K t.y136 (.ref t.y134)=some false
 y301:PySem.W.mroIn K t.y136 (.ref t.y135)=some false
 y302:PySem.W.mroIn K t.y136 (.ref t.y136)=some true
 y303:PySem.W.mroIn K t.y136 (.ref t.y137)=some false
 y304:PySem.W.mroIn K t.y136 (.ref t.y138)=some false
 y305:PySem.W.mroIn K t.y136 (.ref t.y139)=some true
 y306:PySem.W.typeIn K (.ref t.y130)=some (.type "type")
 y307:PySem.W.typeIn K (.ref t.y131)=some (.type "type")
 y308:PySem.W.typeIn K (.ref t.y132)=some (.type "type")
 y309:PySem.W.typeIn K (.ref t.y133)=some (.type "type")
 y310:PySem.W.typeIn K (.ref t.y134)=some (.type "type")
 y311:PySem.W.typeIn K (.ref t.y135)=some (.type "type")
 y312:PySem.W.typeIn K (.ref t.y136)=some (.type "type")
 y313:PySem.W.typeIn K (.ref t.y137)=some (.type "type")
 y314:PySem.W.typeIn K (.ref t.y138)=some (.type "type")
 y315:PySem.W.typeIn K (.ref t.y139)=some (.type "type")
 y316:mg "Desk"=some (.ref t.y140)
 cl:Cls K t.y140
 na:NoAttr K t.y140 "turns"
 mkc:Mk K t.y140 t.y6
 y317:mg "MAKERS"=some (.ref t.y141)
 y318:CDct P w K t.y141 ks_MAKERS [.ref t.y96,.ref t.y98,.ref t.y100]
 y319:Vals [.ref t.y96,.ref t.y98,.ref t.y100] [.ref t.y96,.ref t.y98,.ref t.y100]
 y320:mg "ROWS"=some (.ref t.y142)
 y321:CDct P w K t.y142 ks_ROWS t.y144
 y322:jlq K jaH t.y143 t.y144
 y323:mg "TELLERS"=some (.ref t.y145)
 y324:CDct P w K t.y145 ks_TELLERS [.ref t.y44,.ref t.y46,.ref t.y66,.ref t.y70,.ref t.y76,.ref t.y90,.ref t.y94]
 y325:Vals [.ref t.y44,.ref t.y46,.ref t.y66,.ref t.y70,.ref t.y76,.ref t.y90,.ref t.y94] [.ref t.y44,.ref t.y46,.ref t.y66,.ref t.y70,.ref t.y76,.ref t.y90,.ref t.y94]
theorem jn {sc:Scope}{x:Str}(h:(sc.names.lookup x == some .local||sc.names.lookup x == some .cell)=true):Loc sc x:=by
 simp only [Bool.or_eq_true,beq_iff_eq] at h
 exact h
variable {P:Program}{w:World}{K:PySem.W.Frag}{mg:Str->Option Value}{base:Heap}{t:Ad}
theorem jyy (T:Txt P w K mg t):FnOk P w K mg base j0 1 t.y6 t.y7 ["self"] (juS (zc t)):=by
 refine T.y146.F.ok jzi (fun vs H Q E h=>?_) (fun cdv A outer s H vs Q E hr h=>?_)
 ·obtain⟨x,dx,rfl,_⟩:=h
  rfl
 ·obtain⟨x,dx,rfl,hp,k⟩:=h
  refine⟨_,jeH (jAA (pv 0) jxe rfl),?_⟩
  intro d hd
  have npd:x≠d:=jaM hp hd
  exact⟨_,rfl,x,_,dx,[],rfl,(by rw [jO npd]; exact hp),T.cl,T.na,(by show 0<1000; decide),k d hd⟩
def jd3:jV:=fun ds Φ=>∃z s:Str,ds=[.str z,.str s]∧z.length≤900∧Φ (.bl (jiz z s))
theorem jjD:jX jd3:=fun ds Φ Ψ mo h0=>by
 obtain⟨z,s,a,b,h⟩:=h0
 exact⟨z,s,a,b,mo _ h⟩
theorem jvA {Φ:List D->Prop}{d0:D}{z s:Str}(hl:z.length≤900)(h:Φ ((cp z).map fun c=>.bl (decide (c∈cp s)))) :
  jhy (gN 0) (fun _ Φ=>Φ true) (jg jwo (jd 0) (jd 2)) [.un,.val d0,.val (.str s)] (jgm z) [] Φ:=by
 refine jeu (fun d=>match d with | .str x=>.bl (inT x s) | d=>d) _ _ (by rw [List.length_nil,jgm,List.length_map,show z.cps.toList.length=z.length from jbm z]; omega) (fun d hd Ψ p=>?_) ?_
 ·obtain⟨c,hc,rfl⟩:=List.mem_map.mp hd
  exact p
 ·rw [List.nil_append,jgm,List.map_map]
  refine cast (congrArg Φ (List.map_congr_left fun c _=>?_)) h
  exact congrArg D.bl (jza s c).symm
theorem jyp {l:List Nat}{f:Nat->Bool}:∀Φ:D->Prop,Φ (.bl (l.all f))->jr5 [.lst (l.map fun c=>.bl (f c))] Φ:=fun Φ h=>by
 refine⟨l.map f,by rw [List.map_map]; rfl,?_⟩
 rw [List.all_map]
 exact h
abbrev jm7:S3 :=
 (jM (dB jr5 (jc (dF (jb4 1 (jxL (jd 0)) (gN 0) (fun _ Φ=>Φ true) (jg jwo (jd 0) (jd 2)))) jj)))
theorem jsN:∀(ds:List D) (Φ:D->Prop),ds.length=2->jd3 ds Φ->jm7 (jH Φ) (jz 2 ds):=by
 rintro ds Φ hl ⟨z,s,rfl,hz,h⟩
 exact jvA hz (jyp _ h)
theorem jmg (T:Txt P w K mg t):FnOk P w K mg base j0 1 t.y8 t.y9 ["word","signs"] (spD K 2 jd3):=by
 have sc:=jl7
 refine jU (k:=0) T.y147.F jl7 (fun cdv A outer s H E hr=>⟨jm7,(js (jw (jax (juw rfl) rfl T.y207 jr1 (ja (jB (jbe (xs:=["sign"]) (M:=["word","signs"]) (n:=1) (by rfl) rfl rfl (jyQ (jb (pv 0))) (fun _ _ _ _=>(jaL (i:=0) (by decide) (show List.Nodup (["sign","word","signs"]:List Str) by decide +kernel) rfl (by first | exact Or.inl rfl | exact Or.inr rfl))) (fun _ _ _ _=>jbh) (fun _ _ _ _=>(jm1 jBt (jb (pv 0)) (jb (pv 2)) (by rfl))))) jf)))),jsN⟩)
def jbH (z:Str):Str:=if Txt.startswith z "-"=true then Txt.slice z (some 1) none else z
def jeL (z:Str):Bool:=decide (z="0")||(decide (1≤(jbH z).length)&&decide ((jbH z).length≤60)&&jiz (jbH z) "0123456789"&&!Txt.startswith (jbH z) "0")
def jdf:jV:=fun ds Φ=>∃z:Str,ds=[.str z]∧z.length≤900∧Φ (.bl (jeL z))
theorem jiD:jX jdf:=fun ds Φ Ψ mo h0=>by
 obtain⟨z,a,b,h⟩:=h0
 exact⟨z,a,b,mo _ h⟩
theorem jsy (z:Str):(Txt.slice z (some 1) none).length≤z.length:=Txt.slice_le z _ _
theorem eqS_str {x y:Str}:jF (.str x) (.str y)=decide (x=y):=by
 rw [show jF (.str x) (.str y)=(x == y) by simp only [jF]]
 by_cases e:x=y
 ·subst e; simp
 ·rw [decide_eq_false e]; exact beq_false_of_ne e
theorem j4 {x:Str}:dep (.str x)≤100:=by simp only [dep]; decide
theorem le_i {a b:Nat}:decide ((a:Int)≤(b:Int))=decide (a≤b):=by simp
theorem jul (z:Str):(jbH z).length≤z.length:=by
 unfold jbH; split
 ·exact jsy z
 ·exact Nat.le_refl _
theorem joc {n:Nat}(h:n≤900):n≤sizeLine:=Nat.le_trans h (by decide)
def jfq:S3 :=
 (jM (jub (jnF (dI0 fun i j=>.bl (decide (i≤j))) (dI0 fun i j=>.bl (decide (i≤j))) (dC (.int 1)) (dB jtO (jc (jd 1) jj)) (dC (.int 60))) (jub (jC 2 jd3 (jc (jd 1) (jc (dC jkC) jj))) (jAl (dMt joB (jd 1) (dC (.str "0")))))))
def jfr:S3 :=
 (jE (jD 1 (dIf (dT (dMt joB (jd 0) (dC (.str "-")))) (jAk (jd 0) (jx5 (dC (.int 1))) jx8) (jd 0)))
 jfq)
abbrev jmf:S3 :=
 (jE (sIf (dT (jg jcB (jd 0) (dC (.str "0"))))
 (jM (dC (.bl true)))
 jau)
 jfr)
theorem jr3:∀(ds:List D) (Φ:D->Prop),ds.length=1->jdf ds Φ->jmf (jH Φ) (jz 2 ds):=by
 rintro ds Φ hl ⟨z,rfl,hz,h⟩
 have hf:=Nat.le_trans (jul z) hz
 by_cases e:z="0"
 ·subst e
  exact⟨j4,tT (jf9 _) h⟩
 ·have e0:decide (z="0")=false:=decide_eq_false e
  unfold jeL at h
  rw [e0,Bool.false_or] at h
  refine⟨j4,tF (eqS_str.trans e0) ?_⟩
  show jfr (jH Φ) [.val (.str z),.un]
  unfold jfr
  have go:jfq (jH Φ) [.val (.str z),.val (.str (jbH z))]:=by
   unfold jfq
   refine⟨joc hf,?_⟩
   refine tst (fun k=>?_) fun k=>?_
   ·rw [show decide (1≤(jbH z).length)=true from le_i.symm.trans k,Bool.true_and] at h
    show if decide (((jbH z).length:Int)≤((60:Nat):Int))=true then _ else _
    rw [le_i]
    refine tst (fun k2=>?_) fun k2=>?_
    ·rw [k2,Bool.true_and] at h
     refine⟨rfl,_,_,rfl,hf,?_⟩
     refine tst (fun k3=>?_) fun k3=>?_
     ·rw [k3,Bool.true_and] at h
      exact h
     ·rw [k3,Bool.false_and] at h
      exact h
    ·rw [k2,Bool.false_and,Bool.false_and] at h
     exact h
   ·rw [show decide (1≤(jbH z).length)=false from le_i.symm.trans k,Bool.false_and,Bool.false_and,Bool.false_and] at h
    exact tF rfl h
  unfold jbH at go
  refine tst (fun k=>?_) fun k=>?_
  ·rw [if_pos k] at go
   exact⟨joc hz,go⟩
  ·rw [if_neg (by rw [k]; exact Bool.false_ne_true)] at go
   exact go
theorem jkK (T:Txt P w K mg t):FnOk P w K mg base j0 2 t.y10 t.y11 ["word"] (spD K 1 jdf):=by
 have sc:=jkz
 refine jU (k:=1) T.y148.F jkz (fun cdv A outer s H E hr=>⟨jmf,(jo (jaO (j7 (jbQ (hu3 hr)) (jb (pv 0)) jh (jL _))
 (js (jw jby))
 jaf)
 (jo (jp (i:=1) sc.nd rfl (jn rfl) (jr9 (jd2 (jj8 PySem.F.slot_str_startswith PySem.F.type_str_startswith jqP (jb (pv 0)) jh)) (jvn (jb (pv 0)) (jwu je) jxz) (jb (pv 0))))
 (js (jw (jsm (jqV jt5 jt5 je (jax jvP rfl T.y210 jbK (ja (jb (pv 1)) jf)) je) (jsm (jq (jmg T) jjD (hr.mono (by decide)) T.y147 (ja (jb (pv 1)) (ja (jmY rfl T.y216 T.y217) jf))) (jvB (jAd (jj8 PySem.F.slot_str_startswith PySem.F.type_str_startswith jqP (jb (pv 1)) jh))))))))),jr3⟩)
theorem jiG (z:Str)(c:Nat):Txt.startswith z ⟨#[c]⟩=decide ((cp z).head?=some c):=by
 have e:z=⟨(cp z).toArray⟩:=by cases z; rfl
 rw [e]
 generalize cp z=l
 cases l with
 | nil=>rfl
 | cons a l =>
  rw [Bool.eq_iff_iff]
  simp [Txt.startswith,Builtin.Str.subAt,Str.length]
  show a=c↔some a=some c
  simp
theorem juN (z:Str):cp (Txt.slice z (some 1) none)=(cp z).drop 1:=by
 have e:Builtin.Str.strSliceIndices (some (1:Int)) none 1 z.length=(List.range (z.length - 1)).map (fun k=>1+k):=by
  by_cases h:1≤z.length
  ·rw [←StrLaws.strSliceIndices_plain h (Nat.le_refl _)]
   simp [Builtin.Str.strSliceIndices]
   rw [if_neg (by omega),Int.min_self,Int.max_eq_right (a:=0) (b:=(z.length:Int)) (by omega)]
  ·have h0:z.length=0:=by omega
   rw [h0]
   rfl
 unfold Txt.slice
 rw [e,List.length_map,List.length_range]
 by_cases h:1≤z.length
 ·have pk:=StrLaws.picks (cp z) (z.length - 1) 1 (by rw [jbm]; omega)
  rw [List.take_of_length_le (by rw [List.length_drop,jbm]; omega)] at pk
  have ne:((1:Int) == 1&&(z.length - 1) == z.length)=false:=by
   rw [show ((z.length - 1) == z.length)=false from beq_false_of_ne (by omega),Bool.and_false]
  rw [ne,if_neg Bool.false_ne_true,←pk]
  show List.filterMap _ _=List.filterMap _ _
  refine congrArg (fun f=>List.filterMap f _) (funext fun i=>?_)
  show z.cps[i]?=z.cps.toList[i]?
  rw [Array.getElem?_toList]
 ·have h0:z.length=0:=by omega
  rw [h0,if_pos (by decide)]
  have l0:cp z=[]:=List.length_eq_zero_iff.mp ((jbm z).trans h0)
  rw [l0]
  rfl
theorem jwP {x:Str}{m:Nat}(h:cp x=dgs m):jiz x "0123456789"=true:=by
 unfold jiz
 rw [h,List.all_eq_true]
 intro c hc
 have r:=jeF m c hc
 have:c=48∨c=49∨c=50∨c=51∨c=52∨c=53∨c=54∨c=55∨c=56∨c=57:=by omega
 rcases this with rfl | rfl | rfl | rfl | rfl | rfl | rfl | rfl | rfl | rfl <;> decide
theorem jpt {x:Str}{m:Nat}(h:cp x=dgs m)(hm:m≠0)(hb:m<10^60):(decide (1≤x.length)&&decide (x.length≤60)&&jiz x "0123456789"&&!Txt.startswith x "0")=true:=by
 have l:=(jhD (n:=(m:Int)) (k:=60) (by decide) hb).2
 have l2:x.length=(dgs m).length:=by rw [←h,jbm]
 have l3:(dgs m).length≠0:=fun e=>jsl m (List.length_eq_zero_iff.mp e)
 rw [show ((m:Int)).natAbs=m from rfl] at l
 rw [jwP h,decide_eq_true (show 1≤x.length by omega),decide_eq_true (show x.length≤60 by omega),show ("0":Str)=⟨#[48]⟩ from rfl,jiG,h]
 cases e:dgs m with
 | nil=>rfl
 | cons a r =>
  have:a≠48:=fun z=>jwS hm r (by rw [e,z])
  rw [decide_eq_false (by rw [List.head?_cons]; exact fun k=>this (Option.some.inj k))]
  rfl
theorem jzU {n:Int}(h:n.natAbs<10^60):jeL (jaJ n)=true:=by
 cases n with
 | ofNat m =>
  show jeL (jaJ (m:Int))=true
  by_cases z:m=0
  ·subst z
   decide
  ·unfold jeL
   have f:jbH (jaJ (m:Int))=jaJ (m:Int):=by
    unfold jbH
    rw [if_neg]
    rw [show ("-":Str)=⟨#[45]⟩ from rfl,jiG,jfg]
    intro k
    have k:=of_decide_eq_true k
    have:=jeF m 45 (List.mem_of_mem_head? k)
    omega
   rw [f,jpt (jfg m) z h,Bool.or_true]
 | negSucc m =>
  unfold jeL
  have f:cp (jbH (jaJ (Int.negSucc m)))=dgs (m+1):=by
   unfold jbH
   rw [if_pos,juN,jjX]
   ·rfl
   ·rw [show ("-":Str)=⟨#[45]⟩ from rfl,jiG,jjX]
    rfl
  rw [jpt f (by omega) h,Bool.or_true]
theorem jtR {ns:List Int}(h:ns≠[]):Txt.split (jW ns) ","=ns.map jaJ:=by
 unfold jW
 rw [ji2]
 refine jnv 44 (fun e=>h (List.map_eq_nil_iff.mp e)) fun p hp=>?_
 obtain⟨n,_,rfl⟩:=List.mem_map.mp hp
 exact jmA (.inl (by decide))
theorem jpS (c:Nat):∀l:List Str,(∀p∈l,p.length≤61)->(jdl c l).length≤62 * l.length
 | [],_=>Nat.le_refl _
 | q::r,h=>by
  have a:=h q List.mem_cons_self
  have b:=jpS c r fun p hp=>h p (List.mem_cons_of_mem _ hp)
  show (c::cp (Str.join ⟨#[c]⟩ (q::r))).length≤_
  rw [jcc,List.length_cons,List.length_append,jbm,List.length_cons]
  omega
theorem ji0 {ns:List Int}(h:∀n∈ns,n.natAbs<10^60):(jW ns).length≤62 * ns.length:=by
 unfold jW
 rw [ji2,←jbm]
 cases ns with
 | nil=>exact Nat.zero_le _
 | cons n ns =>
  have l:∀m∈n::ns,(jaJ m).length≤61:=fun m hm=>(jhD (by decide) (h m hm)).1
  have a:=l n List.mem_cons_self
  have b:=jpS 44 (ns.map jaJ) fun p hp=>by
   obtain⟨m,hm,rfl⟩:=List.mem_map.mp hp
   exact l m (List.mem_cons_of_mem _ hm)
  rw [List.length_map] at b
  rw [List.map_cons,show (",":Str)=⟨#[44]⟩ from rfl,jcc,List.length_append,jbm,List.length_cons]
  omega
def jcM:jV:=fun ds Φ=>∃ns:List Int,ds=[.str (jW ns),.int ns.length]∧ns≠[]∧ns.length≤4∧(∀n∈ns,n.natAbs<10^60)∧Φ (.tup (ns.map .int))
theorem jg6:jX jcM:=fun ds Φ Ψ mo h0=>by
 obtain⟨ns,a,b,c,d,h⟩:=h0
 exact⟨ns,a,b,c,d,mo _ h⟩
def jew:S3 :=
 (jM (dB je8 (jc (dF (jb4 1 (iLT (jd 2)) (gN 0) (fun _ Φ=>Φ true) (dB jxP (jc (jd 0) jj)))) jj)))
def jeI:S3 :=
 (jE (sIf (bOr (dT (jg dNe (dB jeb (jc (jd 2) jj)) (jd 1))) (jmR (dT (dB jr5 (jc (dF (jb4 1 (iLT (jd 2)) (gN 0) (fun _ Φ=>Φ true) (jC 1 jdf (jc (jd 0) jj)))) jj)))))
 jff
 jau)
 jew)
abbrev jk7:S3 :=
 (jE (jD 2 (dF (jj3 (jd 0) (dC (.str ",")))))
 jeI)
theorem jqt:∀(ds:List D) (Φ:D->Prop),ds.length=2->jcM ds Φ->jk7 (jH Φ) (jz 3 ds):=by
 rintro ds Φ hl ⟨ns,rfl,hne,hn,hb,h⟩
 have tl:=ji0 hb
 refine⟨Nat.le_trans (show _≤1000 by omega) (by decide),rfl,?_⟩
 rw [jtR hne]
 show jeI (jH Φ) [.val (.str (jW ns)),.val (.int ns.length),.val (.lst ((ns.map jaJ).map .str))]
 unfold jeI
 refine tF (by rw [List.length_map,List.length_map]; simp) ?_
 have sh:∀n∈ns,(jaJ n).length≤61:=fun n hn=>(jhD (by decide) (hb n hn)).1
 refine jeu (fun d=>.bl true) _ _ (by simp only [List.length_nil,List.length_map]; omega) (fun d hd Ψ p=>?_) ?_
 ·obtain⟨x,hx,rfl⟩:=List.mem_map.mp hd
  obtain⟨n,hn,rfl⟩:=List.mem_map.mp hx
  exact⟨rfl,_,rfl,Nat.le_trans (sh n hn) (by decide),by rw [jzU (hb n hn)]; exact p⟩
 ·refine⟨ns.map fun _=>true,by simp only [List.nil_append,List.map_map]; rfl,?_⟩
  refine tF (by rw [List.all_map]; simp) ?_
  show jew (jH Φ) [.val (.str (jW ns)),.val (.int ns.length),.val (.lst ((ns.map jaJ).map .str))]
  unfold jew
  refine jeu (fun d=>match d with | .str x=>.int ((PySem.intText? x).getD 0) | d=>d) _ _ (by simp only [List.length_nil,List.length_map]; omega) (fun d hd Ψ p=>?_) ?_
  ·obtain⟨x,hx,rfl⟩:=List.mem_map.mp hd
   obtain⟨n,hn,rfl⟩:=List.mem_map.mp hx
   have p:Ψ (.int ((PySem.intText? (jaJ n)).getD 0)):=p
   rw [jkk (hb n hn)] at p
   exact⟨Nat.le_trans (sh n hn) (by decide),n,jkk (hb n hn),p⟩
  ·rw [List.nil_append,List.map_map,List.map_map]
   refine cast (congrArg (fun l=>Φ (.tup l)) (List.map_congr_left fun n hn=>?_)) h
   show D.int n=.int ((PySem.intText? (jaJ n)).getD 0)
   rw [jkk (hb n hn)]
   rfl
theorem jjM (T:Txt P w K mg t):FnOk P w K mg base j0 3 t.y12 t.y13 ["word","often"] (spD K 2 jcM):=by
 have sc:=jdo
 refine jU (k:=2) T.y149.F jdo (fun cdv A outer s H E hr=>⟨jk7,(jo (jp (i:=2) sc.nd rfl (jn rfl) (jB (ji7 (jb (pv 0)) jh)))
 (jo (jaO (PWB.pb (jqG (j7 jkg (jax jcW rfl T.y210 jbK (ja (jb (pv 2)) jf)) (jb (pv 1)) (jL _)) (jny (jhV (jd2 (jax (juw rfl) rfl T.y207 jr1 (ja (jB (jbe (xs:=["part"]) (M:=["word","often","parts"]) (n:=1) (by rfl) rfl rfl (jbE (jb (pv 2))) (fun _ _ _ _=>(jaL (i:=0) (by decide) (show List.Nodup (["part","word","often","parts"]:List Str) by decide +kernel) rfl (by first | exact Or.inl rfl | exact Or.inr rfl))) (fun _ _ _ _=>jbh) (fun _ _ _ _=>(jq (jkK T) jiD (hr.mono (by decide)) T.y148 (ja (jb (pv 0)) jf))))) jf)))))))
 (js jcL)
 jaf)
 (js (jw (ja6 jet rfl T.y215 jdv (ja (jB (jbe (xs:=["part"]) (M:=["word","often","parts"]) (n:=1) (by rfl) rfl rfl (jbE (jb (pv 2))) (fun _ _ _ _=>(jaL (i:=0) (by decide) (show List.Nodup (["part","word","often","parts"]:List Str) by decide +kernel) rfl (by first | exact Or.inl rfl | exact Or.inr rfl))) (fun _ _ _ _=>jbh) (fun _ _ _ _=>(ja6 jzH rfl T.y208 jA0 (ja (jb (pv 0)) jf))))) jf)))))),jqt⟩)
def jnV (w:Str)(n:Nat):Bool:=decide ((Txt.split w ",").length=n)&&(Txt.split w ",").all jeL
def jso (w:Str):Bool:=decide (w.length≤900)&&(decide ((Txt.split w ",").length≤900)&&(Txt.split w ",").all fun p=>decide (p.length≤900))
def jbk:List D->Prop:=fun ds=>∃(w:Str) (n:Nat),ds=[.str w,.int n]∧jso w=true∧jnV w n=false
def jbY:jN->Prop :=
 (jnN (jD 2 (dF (jj3 (jd 0) (dC (.str ",")))))
 (rIf (bOr (dT (jg dNe (dB jeb (jc (jd 2) jj)) (jd 1))) (jmR (dT (dB jr5 (jc (dF (jb4 1 (iLT (jd 2)) (gN 0) (fun _ Φ=>Φ true) (jC 1 jdf (jc (jd 0) jj)))) jj)))))
 (jc (dC (.str "the numbers are not told as they should be")) jj)
 jau
 (fun _=>False)))
theorem jgH:∀(ds:List D),ds.length=2->jbk ds->jbY (jz 3 ds):=by
 rintro ds hl ⟨w,n,rfl,hf,hb⟩
 unfold jso at hf
 simp only [Bool.and_eq_true,decide_eq_true_eq] at hf
 obtain⟨f1,f2,f3⟩:=hf
 unfold jbY
 refine⟨Nat.le_trans (show w.length+2≤1000 by omega) (by decide),rfl,?_⟩
 have done:(1:Nat)≤sizeLine:=by decide
 refine tst (fun _=>tT rfl done) fun k=>?_
 have k:(!decide ((((Txt.split w ",").map D.str).length:Int)=(n:Int)))=false:=k
 have len:(Txt.split w ",").length=n:=by
  rw [List.length_map] at k
  have k2:((Txt.split w ",").length:Int)=(n:Int):=by simpa using k
  omega
 unfold jnV at hb
 rw [decide_eq_true len,Bool.true_and] at hb
 refine jeu (fun d=>match d with | .str x=>.bl (jeL x) | d=>d) _ _ (by rw [List.length_nil,List.length_map]; omega) (fun d hd Ψ p=>?_) ?_
 ·obtain⟨x,hx,rfl⟩:=List.mem_map.mp hd
  exact⟨rfl,x,rfl,of_decide_eq_true (List.all_eq_true.mp f3 x hx),p⟩
 ·refine⟨(Txt.split w ",").map jeL,by rw [List.nil_append,List.map_map,List.map_map]; rfl,?_⟩
  refine tT ?_ done
  rw [List.all_map]
  show (!(Txt.split w ",").all jeL)=true
  rw [hb]
  rfl
theorem jc2 (T:Txt P w K mg t):FnOk P w K mg base (CXC P w) 3 t.y12 t.y13 ["word","often"] (spR K 2 t.y133 jbk):=by
 have sc:=jdo
 refine jnC (k:=2) T.y149.F jdo (fun cdv A outer s H E hr hR=>⟨jbY,(jmC (jp (i:=2) sc.nd rfl (jn rfl) (jB (ji7 (jb (pv 0)) jh)))
 (jhY (PWB.pb (jqG (j7 jkg (jax jcW rfl T.y210 jbK (ja (jb (pv 2)) jf)) (jb (pv 1)) (jL _)) (jny (jhV (jd2 (jax (juw rfl) rfl T.y207 jr1 (ja (jB (jbe (xs:=["part"]) (M:=["word","often","parts"]) (n:=1) (by rfl) rfl rfl (jbE (jb (pv 2))) (fun _ _ _ _=>(jaL (i:=0) (by decide) (show List.Nodup (["part","word","often","parts"]:List Str) by decide +kernel) rfl (by first | exact Or.inl rfl | exact Or.inr rfl))) (fun _ _ _ _=>jbh) (fun _ _ _ _=>(jq (jkK T) jiD (hr.mono (by decide)) T.y148 (ja (jb (pv 0)) jf))))) jf)))))))
 (jdW rfl rfl T.y225 T.y241 (ja jh jf) hR)
 jaf
 jgP)),jgH⟩)
def je4:jV:=fun ds Φ=>∃z:Str,ds=[.str z]∧z.length≤900∧Φ (.bl (j6 z))
theorem jk5:jX je4:=fun ds Φ Ψ mo h0=>by
 obtain⟨z,a,b,h⟩:=h0
 exact⟨z,a,b,mo _ h⟩
abbrev jpo:S3 :=
 (jM (jub (jnF (dI0 fun i j=>.bl (decide (i≤j))) (dI0 fun i j=>.bl (decide (i≤j))) (dC (.int 1)) (dB jtO (jc (jd 0) jj)) (dC (.int 8))) (jC 2 jd3 (jc (jd 0) (jc (dC jj9) jj)))))
theorem juO:∀(ds:List D) (Φ:D->Prop),ds.length=1->je4 ds Φ->jpo (jH Φ) (jz 1 ds):=by
 rintro ds Φ hl ⟨z,rfl,hz,h⟩
 refine⟨joc hz,?_⟩
 unfold j6 at h
 refine tst (fun k=>?_) fun k=>?_
 ·rw [show decide (1≤z.length)=true from le_i.symm.trans k,Bool.true_and] at h
  show if decide ((z.length:Int)≤((8:Nat):Int))=true then _ else _
  rw [le_i]
  refine tst (fun k2=>?_) fun k2=>?_
  ·rw [k2,Bool.true_and] at h
   exact⟨rfl,_,_,rfl,hz,h⟩
  ·rw [k2,Bool.false_and] at h
   exact h
 ·rw [show decide (1≤z.length)=false from le_i.symm.trans k,Bool.false_and,Bool.false_and] at h
  exact tF rfl h
theorem jng (T:Txt P w K mg t):FnOk P w K mg base j0 2 t.y14 t.y15 ["word"] (spD K 1 je4):=by
 have sc:=jnX
 refine jU (k:=1) T.y150.F jnX (fun cdv A outer s H E hr=>⟨jpo,(js (jw (jsm (jqV jt5 jt5 je (jax jvP rfl T.y210 jbK (ja (jb (pv 0)) jf)) je) (jvB (jq (jmg T) jjD (hr.mono (by decide)) T.y147 (ja (jb (pv 0)) (ja (jmY rfl T.y218 T.y219) jf))))))),juO⟩)
def jfM:jV:=fun ds Φ=>∃z:Str,ds=[.str z]∧j6 z=true∧Φ (.str z)
theorem jqh:jX jfM:=fun ds Φ Ψ mo h0=>by
 obtain⟨z,a,b,h⟩:=h0
 exact⟨z,a,b,mo _ h⟩
theorem jtY {z:Str}(h:j6 z=true):z.length≤8:=by
 unfold j6 at h
 simp only [Bool.and_eq_true,decide_eq_true_eq] at h
 exact h.1.2
def jrX:S3 :=
 (jM (jd 0))
abbrev jnD:S3 :=
 (jE (sIf (jmR (dT (jC 1 je4 (jc (jd 0) jj))))
 jff
 jau)
 jrX)
theorem jsV:∀(ds:List D) (Φ:D->Prop),ds.length=1->jfM ds Φ->jnD (jH Φ) (jz 1 ds):=by
 rintro ds Φ hl ⟨z,rfl,hz,h⟩
 exact⟨rfl,z,rfl,Nat.le_trans (jtY hz) (by decide),tF (by rw [hz]; rfl) h⟩
theorem jsw (T:Txt P w K mg t):FnOk P w K mg base j0 3 t.y16 t.y17 ["word"] (spD K 1 jfM):=by
 have sc:=jeX
 refine jU (k:=2) T.y151.F jeX (fun cdv A outer s H E hr=>⟨jnD,(jo (jaO (jhV (jd2 (jq (jng T) jk5 (hr.mono (by decide)) T.y150 (ja (jb (pv 0)) jf))))
 (js jcL)
 jaf)
 (js (jw (jb (pv 0))))),jsV⟩)
def jc6:List D->Prop:=fun ds=>∃w:Str,ds=[.str w]∧w.length≤900∧j6 w=false
def jc5:jN->Prop :=
 (rIf (jmR (dT (jC 1 je4 (jc (jd 0) jj))))
 (jc (dC (.str "a name has one to eight of the letters a to z")) jj)
 jau
 (fun _=>False))
theorem jkm:∀(ds:List D),ds.length=1->jc6 ds->jc5 (jz 1 ds):=by
 rintro ds hl ⟨w,rfl,hw,hb⟩
 unfold jc5
 refine⟨rfl,w,rfl,hw,tT (by rw [hb]; rfl) ?_⟩
 exact jv 1 rfl (by decide)
theorem jlb (T:Txt P w K mg t):FnOk P w K mg base (CXC P w) 3 t.y16 t.y17 ["word"] (spR K 1 t.y132 jc6):=by
 have sc:=jeX
 refine jnC (k:=2) T.y151.F jeX (fun cdv A outer s H E hr hR=>⟨jc5,(jhY (jhV (jd2 (jq (jng T) jk5 (hr.mono (by decide)) T.y150 (ja (jb (pv 0)) jf))))
 (jdW rfl rfl T.y224 T.y240 (ja jh jf) hR)
 jaf
 jgP),jkm⟩)
def Mng (o:Ob)(kind word:Str)(d:D):Prop :=
 (kind="quad"∧∃ns:List Int,ns.length=4∧word=jW ns∧(∀n∈ns,n.natAbs<10^60)∧d=.tup (ns.map .int)) ∨
 (kind="point"∧∃ns:List Int,ns.length=3∧word=jW ns∧(∀n∈ns,n.natAbs<10^60)∧d=.tup (ns.map .int)) ∨
 (kind="new"∧j6 word=true∧d=.str word) ∨
 (kind="turn"∧jP o.ks o.ds word=some d)
theorem ji4 {α:Type}{x:Str}{d:α}:∀{ks:List Str} {ds:List α},jP ks ds x=some d->x∈ks
 | [],_,e=>by cases e
 | _::_,[],e=>by cases e
 | k::ks,c::ds,e=>by
  unfold jP at e
  split at e
  ·rename_i h; rw [h]; exact List.mem_cons_self
  ·exact List.mem_cons_of_mem _ (ji4 e)
def jbR:jhl:=fun as W Φ=>∃(o:Ob) (kind word:Str) (d:D),as=[.raw (.ref o.p),.val (.str kind),.val (.str word)]∧o∈W∧o.p≠o.q∧Mng o kind word d∧Φ d W
theorem jd6:ji3 jbR:=fun as W Φ Ψ mo ⟨o,k,w,d,a,b,c,e,h⟩=>⟨o,k,w,d,a,b,c,e,mo _ _ h⟩
def jhx:S4 :=
 (juP (jzT (jmU 0) (jd 2)))
def jhv:S4 :=
 (ja8 (wIf (jwq (jd 2) (jmU 0) true)
 (jay jff)
 jjr)
 jhx)
def jde:S4 :=
 (ja8 (jay (sIf (dT (jg jcB (jd 1) (dC (.str "new"))))
 (jM (jC 1 jfM (jc (jd 2) jj)))
 jau))
 jhv)
def jb1:S4 :=
 (ja8 (jay (sIf (dT (jg jcB (jd 1) (dC (.str "point"))))
 (jM (jC 2 jcM (jc (jd 2) (jc (dC (.int 3)) jj))))
 jau))
 jde)
abbrev jpF:S4 :=
 (ja8 (jay (sIf (dT (jg jcB (jd 1) (dC (.str "quad"))))
 (jM (jC 2 jcM (jc (jd 2) (jc (dC (.int 4)) jj))))
 jau))
 jb1)
theorem jt2:∀(as:List Sl) (W:Wd) (Φ:D->Wd->Prop),as.length=3->jbR as W Φ->jpF (jbr Φ) (ja0 3 as) W:=by
 rintro as W Φ hl ⟨o,kind,word,d,rfl,ho,hpq,hm,h⟩
 rcases hm with⟨rfl,ns,hn,rfl,hb,rfl⟩ | ⟨rfl,ns,hn,rfl,hb,rfl⟩ | ⟨rfl,hw,rfl⟩ | ⟨rfl,hg⟩
 ·refine⟨by decide,tT (by decide +kernel) ?_⟩
  exact⟨rfl,ns,by rw [hn]; rfl,(by intro e; rw [e] at hn; cases hn),by omega,hb,h⟩
 ·refine⟨by decide,tF (by decide +kernel) ⟨jy rfl,?_⟩⟩
  show jb1 (jbr Φ) [.raw (.ref o.p),.val (.str "point"),.val (.str (jW ns))] W
  unfold jb1
  refine⟨by decide,tT (by decide +kernel) ?_⟩
  exact⟨rfl,ns,by rw [hn]; rfl,(by intro e; rw [e] at hn; cases hn),by omega,hb,h⟩
 ·refine⟨by decide,tF (by decide +kernel) ⟨jy rfl,?_⟩⟩
  show jb1 (jbr Φ) [.raw (.ref o.p),.val (.str "new"),.val (.str word)] W
  unfold jb1
  refine⟨by decide,tF (by decide +kernel) ⟨jy rfl,?_⟩⟩
  show jde (jbr Φ) [.raw (.ref o.p),.val (.str "new"),.val (.str word)] W
  unfold jde
  refine⟨by decide,tT (by decide +kernel) ?_⟩
  exact⟨rfl,word,rfl,hw,h⟩
 ·refine⟨by decide,tF (by decide +kernel) ⟨jy rfl,?_⟩⟩
  show jb1 (jbr Φ) [.raw (.ref o.p),.val (.str "turn"),.val (.str word)] W
  unfold jb1
  refine⟨by decide,tF (by decide +kernel) ⟨jy rfl,?_⟩⟩
  show jde (jbr Φ) [.raw (.ref o.p),.val (.str "turn"),.val (.str word)] W
  unfold jde
  refine⟨by decide,tF (by decide +kernel) ⟨jy rfl,?_⟩⟩
  show jhv (jbr Φ) [.raw (.ref o.p),.val (.str "turn"),.val (.str word)] W
  unfold jhv
  refine⟨o,ho,rfl,hpq,tF (by rw [decide_eq_true (ji4 hg)]; rfl) ?_⟩
  show jhx (jbr Φ) [.raw (.ref o.p),.val (.str "turn"),.val (.str word)] W
  unfold jhx
  exact⟨o,ho,rfl,hpq,d,hg,h⟩
theorem jjk (T:Txt P w K mg t):FnOk P w K mg base j0 4 t.y18 t.y19 ["self","kind","word"] (spW K (zc t) 3 jbR):=by
 have sc:=jc0
 refine jn6 (mo:=jd6) (k:=3) T.y152.F jc0 (fun cdv A outer s H E hr=>⟨jpF,(j9 (jT (jaO (j7 (jbQ (hu3 hr)) (jb (pv 1)) jh (jL _))
 (js (jw (jq (jjM T) jg6 (hr.mono (by decide)) T.y149 (ja (jb (pv 2)) (ja je jf)))))
 jaf))
 (j9 (jT (jaO (j7 (jbQ (hu3 hr)) (jb (pv 1)) jh (jL _))
 (js (jw (jq (jjM T) jg6 (hr.mono (by decide)) T.y149 (ja (jb (pv 2)) (ja je jf)))))
 jaf))
 (j9 (jT (jaO (j7 (jbQ (hu3 hr)) (jb (pv 1)) jh (jL _))
 (js (jw (jq (jsw T) jqh (hr.mono (by decide)) T.y151 (ja (jb (pv 2)) jf))))
 jaf))
 (j9 (jgl (jp6 (jnG hr) (jb (pv 2)) (jhK (pv 0) T.cl T.na rfl))
 (ja5 (jT jcL))
 jfR)
 (ja5 (jov (jBf (jnG hr) (jhK (pv 0) T.cl T.na rfl) (jb (pv 2)) (fun _ _=>rfl)))))))),jt2⟩)
def juL (o:Ob)(kind word:Str):Prop:=(kind="new"∧word.length≤900∧j6 word=false)∨(kind="turn"∧word∉o.ks)
def jck:List Sl->Wd->Prop:=fun as W=>∃(o:Ob) (kind word:Str),as=[.raw (.ref o.p),.val (.str kind),.val (.str word)]∧o∈W∧o.p≠o.q∧juL o kind word
def jdB:R4 :=
 (jlc (jd0 (dT (jg jcB (jd 1) (dC (.str "quad")))))
 (fun _ _ _=>False)
 (jlc (jd0 (dT (jg jcB (jd 1) (dC (.str "point")))))
 (fun _ _ _=>False)
 (jlc (jd0 (dT (jg jcB (jd 1) (dC (.str "new")))))
 (jg0 (fun ρ=>(jc (jd 2) jj) ρ fun ds=>ds.length=1∧jc6 ds))
 (jlc (jwq (jd 2) (jmU 0) true)
 (jg0 (fun ρ=>(jc (dC (.str "no turn stands by this name")) jj) ρ fun ds=>ds.length≤sizeLine))
 (fun _ _ _=>False)))))
theorem jlT:∀(as:List Sl) (W:Wd),as.length=3->jck as W->jdB (fun W'=>W'=W) (ja0 3 as) W:=by
 rintro as W hl ⟨o,kind,word,rfl,ho,hpq,hb⟩
 unfold jdB
 rcases hb with⟨rfl,hw,hb⟩ | ⟨rfl,hn⟩
 ·refine⟨by decide,tF (by decide +kernel) ?_⟩
  refine⟨by decide,tF (by decide +kernel) ?_⟩
  refine⟨by decide,tT (by decide +kernel) ?_⟩
  exact⟨⟨rfl,word,rfl,hw,hb⟩,rfl⟩
 ·refine⟨by decide,tF (by decide +kernel) ?_⟩
  refine⟨by decide,tF (by decide +kernel) ?_⟩
  refine⟨by decide,tF (by decide +kernel) ?_⟩
  refine⟨o,ho,rfl,hpq,tT (by rw [decide_eq_false hn]; rfl) ?_⟩
  exact⟨jv 1 rfl (by decide),rfl⟩
theorem jlK (T:Txt P w K mg t):FnOk P w K mg base (CXC P w) 4 t.y18 t.y19 ["self","kind","word"] (jfn K (zc t) 3 t.y132 jck):=by
 have sc:=jc0
 refine jfa (k:=3) T.y152.F jc0 (fun cdv A outer s H E hr hR hP hH=>⟨jdB,(jgG (jcI (j7 (jbQ (hu3 hr)) (jb (pv 1)) jh (jL _)))
 je6
 (jgG (jcI (j7 (jbQ (hu3 hr)) (jb (pv 1)) jh (jL _)))
 je6
 (jgG (jcI (j7 (jbQ (hu3 hr)) (jb (pv 1)) jh (jL _)))
 (jeG (jim (jec (jfY hP (jlb T) (hr.mono (by decide)) rfl T.y151.m T.y151.F.kp T.y151.b (ja (jb (pv 2)) jf)))))
 (jgG (jp6 (jnG hr) (jb (pv 2)) (jhK (pv 0) T.cl T.na rfl))
 (jeG (jxx (jdW rfl rfl T.y224 T.y240 (ja jh jf) hR)))
 je6)))),jlT⟩)
def juI (o:Ob)(kind word:Str):Prop:=∃n:Nat,((kind="quad"∧n=4)∨(kind="point"∧n=3))∧jso word=true∧jnV word n=false
def jbL:List Sl->Wd->Prop:=fun as W=>∃(o:Ob) (kind word:Str),as=[.raw (.ref o.p),.val (.str kind),.val (.str word)]∧o∈W∧o.p≠o.q∧juI o kind word
def jcz:R4 :=
 (jlc (jd0 (dT (jg jcB (jd 1) (dC (.str "quad")))))
 (jg0 (fun ρ=>(jc (jd 2) (jc (dC (.int 4)) jj)) ρ fun ds=>ds.length=2∧jbk ds))
 (jlc (jd0 (dT (jg jcB (jd 1) (dC (.str "point")))))
 (jg0 (fun ρ=>(jc (jd 2) (jc (dC (.int 3)) jj)) ρ fun ds=>ds.length=2∧jbk ds))
 (fun _ _ _=>False)))
theorem jiX:∀(as:List Sl) (W:Wd),as.length=3->jbL as W->jcz (fun W'=>W'=W) (ja0 3 as) W:=by
 rintro as W hl ⟨o,kind,word,rfl,ho,hpq,n,hb,hf,hn⟩
 unfold jcz
 rcases hb with⟨rfl,rfl⟩ | ⟨rfl,rfl⟩
 ·refine⟨by decide,tT (by decide +kernel) ?_⟩
  exact⟨⟨rfl,word,4,rfl,hf,hn⟩,rfl⟩
 ·refine⟨by decide,tF (by decide +kernel) ?_⟩
  refine⟨by decide,tT (by decide +kernel) ?_⟩
  exact⟨⟨rfl,word,3,rfl,hf,hn⟩,rfl⟩
theorem jiK (T:Txt P w K mg t):FnOk P w K mg base (CXC P w) 4 t.y18 t.y19 ["self","kind","word"] (jfn K (zc t) 3 t.y133 jbL):=by
 have sc:=jc0
 refine jfa (k:=3) T.y152.F jc0 (fun cdv A outer s H E hr hR hP hH=>⟨jcz,(jgG (jcI (j7 (jbQ (hu3 hr)) (jb (pv 1)) jh (jL _)))
 (jeG (jim (jec (jfY hP (jc2 T) (hr.mono (by decide)) rfl T.y149.m T.y149.F.kp T.y149.b (ja (jb (pv 2)) (ja je jf))))))
 (jgG (jcI (j7 (jbQ (hu3 hr)) (jb (pv 1)) jh (jL _)))
 (jeG (jim (jec (jfY hP (jc2 T) (hr.mono (by decide)) rfl T.y149.m T.y149.F.kp T.y149.b (ja (jb (pv 2)) (ja je jf))))))
 je6)),jiX⟩)
def joK (o:Ob):List Str->List Str->List D->Prop
 | [],[],[]=>True
 | k::ks,w::ws,d::ds=>Mng o k w d∧joK o ks ws ds
 | _,_,_=>False
theorem jiR {o:Ob}:∀{ws:List Str} {ms:List D},joK o [] ws ms->ws=[]∧ms=[]
 | [],[],_=>⟨rfl,rfl⟩
theorem jdG {o:Ob}{k:Str}{ks:List Str}:∀{ws:List Str} {ms:List D},joK o (k::ks) ws ms->∃w ws' d ms',ws=w::ws'∧ms=d::ms'∧Mng o k w d∧joK o ks ws' ms'
 | w::ws',d::ms',h=>⟨w,ws',d,ms',rfl,rfl,h.1,h.2⟩
def jdZ:jhl:=fun as W Φ=>∃(o:Ob) (w:Str) (ws kd:List Str) (ms:List D),as=[.raw (.ref o.p),.val (.lst ((w::ws).map .str))]∧o∈W∧o.p≠o.q∧jP ks_ROWS jaH w=some (.tup (kd.map .str))∧kd.length≤3∧joK o kd ws ms∧Φ (.lst ms) W
theorem jfj:ji3 jdZ:=fun as W Φ Ψ mo ⟨o,k,w,d,m,a,b,c,e,f,g,h⟩=>⟨o,k,w,d,m,a,b,c,e,f,g,mo _ _ h⟩
def jgC:S4 :=
 (juP (jx9 1 (iR1 (jc (dB jeb (jc (jd 2) jj)) jj)) (gN 0) (jbu 1 3 jbR (jah (jae (jg ju (jd 3) (jd 0))) (jah (jae (jg ju (jd 2) (jg zA (jd 0) (dC (.int 1))))) jaE)))))
abbrev jnM:S4 :=
 (ja8 (jay (jD 2 (jlC ks_ROWS jaH (jg ju (jd 1) (dC (.int 0))))))
 jgC)
theorem jsI:∀(as:List Sl) (W:Wd) (Φ:D->Wd->Prop),as.length=2->jdZ as W Φ->jnM (jbr Φ) (ja0 3 as) W:=by
 rintro as W Φ hl ⟨o,w,ws,kd,ms,rfl,ho,hpq,hk,hl3,hm,h⟩
 refine jaC (d:=.str w) (jeY ..) ?_
 refine⟨_,hk,jy rfl,?_⟩
 show jgC (jbr Φ) [.raw (.ref o.p),.val (.lst ((w::ws).map .str)),.val (.tup (kd.map .str))] W
 unfold jgC
 have fits:∀{n:Nat},n≤100->n<sizeLine:=fun h=>Nat.lt_of_le_of_lt h (by decide)
 have elt:∀(j:Nat) (acc:List D) (k x:Str) (d:D) (jJ:List D),(kd[j]?=some k)->ws[j]?=some x->Mng o k x d->acc.length≤100 ->
   jja (gN 0) (jbu 1 3 jbR (jah (jae (jg ju (jd 3) (jd 0))) (jah (jae (jg ju (jd 2) (jg zA (jd 0) (dC (.int 1))))) jaE))) [.un,.raw (.ref o.p),.val (.lst ((w::ws).map .str)),.val (.tup (kd.map .str))] jJ (acc++[d]) W (fun d W'=>jbr Φ (.rt d W')) ->
   jja (gN 0) (jbu 1 3 jbR (jah (jae (jg ju (jd 3) (jd 0))) (jah (jae (jg ju (jd 2) (jg zA (jd 0) (dC (.int 1))))) jaE))) [.un,.raw (.ref o.p),.val (.lst ((w::ws).map .str)),.val (.tup (kd.map .str))] (.int (j:Int)::jJ) acc W (fun d W'=>jbr Φ (.rt d W')):=fun j acc k x d jJ e1 e2 hm ha hr=>by
  refine⟨jy rfl,⟨o,ho,rfl,hpq⟩,?_⟩
  refine jaC (d:=.str k) (by rw [jfE,List.getElem?_map,e1]; rfl) ?_
  refine jaC (d:=.str x) (by rw [show ((j:Int)+1)=((j+1:Nat):Int) from rfl,jfE]; show ((.str w::ws.map .str:List D))[j+1]?=_; rw [List.getElem?_cons_succ,List.getElem?_map,e2]; rfl) ?_
  exact⟨rfl,o,k,x,d,rfl,ho,hpq,hm,fits ha,hr⟩
 have hnn:(kd.map D.str).length=kd.length:=List.length_map ..
 show -(2^62)≤(((kd.map D.str).length:Nat):Int)∧(((kd.map D.str).length:Nat):Int)<2^62∧jja (gN 0) _ [.un,.raw (.ref o.p),.val (.lst ((w::ws).map .str)),.val (.tup (kd.map .str))] (ups 0 (((kd.map D.str).length:Nat):Int).toNat) [] W (fun d W'=>jbr Φ (.rt d W'))
 rw [hnn,Int.toNat_natCast]
 refine⟨by omega,by omega,?_⟩
 rcases kd with _ | ⟨k1,_ | ⟨k2,_ | ⟨k3,_ | ⟨k4,r⟩⟩⟩⟩
 ·obtain⟨rfl,rfl⟩:=jiR hm
  exact h
 ·obtain⟨x1,ws,d1,ms,rfl,rfl,h1,hm⟩:=jdG hm
  obtain⟨rfl,rfl⟩:=jiR hm
  exact elt 0 [] k1 x1 d1 _ rfl rfl h1 (by decide) h
 ·obtain⟨x1,ws,d1,ms,rfl,rfl,h1,hm⟩:=jdG hm
  obtain⟨x2,ws,d2,ms,rfl,rfl,h2,hm⟩:=jdG hm
  obtain⟨rfl,rfl⟩:=jiR hm
  exact elt 0 [] k1 x1 d1 _ rfl rfl h1 (by decide) (elt 1 [d1] k2 x2 d2 _ rfl rfl h2 (show 1≤100 by decide) h)
 ·obtain⟨x1,ws,d1,ms,rfl,rfl,h1,hm⟩:=jdG hm
  obtain⟨x2,ws,d2,ms,rfl,rfl,h2,hm⟩:=jdG hm
  obtain⟨x3,ws,d3,ms,rfl,rfl,h3,hm⟩:=jdG hm
  obtain⟨rfl,rfl⟩:=jiR hm
  exact elt 0 [] k1 x1 d1 _ rfl rfl h1 (by decide) (elt 1 [d1] k2 x2 d2 _ rfl rfl h2 (show 1≤100 by decide) (elt 2 [d1,d2] k3 x3 d3 _ rfl rfl h3 (show 2≤100 by decide) h))
 ·simp only [List.length_cons] at hl3
  omega
theorem jmp (T:Txt P w K mg t):FnOk P w K mg base j0 5 t.y20 t.y21 ["self","words"] (spW K (zc t) 2 jdZ):=by
 have sc:=jcv
 refine jn6 (mo:=jfj) (k:=4) T.y153.F jcv (fun cdv A outer s H E hr=>⟨jnM,(j9 (jT (jp (i:=2) sc.nd rfl (jn rfl) (jhO T.y321 T.y322.r T.y322.d (jk (jb (pv 1)) je (fun _ _=>rfl)) rfl T.y320 (fun _ _=>rfl))))
 (ja5 (jov (jyK (xs:=["place"]) (M:=["self","words","kinds"]) (n:=1) (by rfl) rfl rfl (jbz rfl T.y212 (ja (jax jcW rfl T.y210 jbK (ja (jb (pv 2)) jf)) jf)) (fun _ _ _ _=>(jaL (i:=0) (by decide) (show List.Nodup (["place","self","words","kinds"]:List Str) by decide +kernel) rfl (by first | exact Or.inl rfl | exact Or.inr rfl))) (fun _ _ _ _=>(jbI (i:=1) (ps:=["self","kind","word"]) rfl jd6 (jac (j8 (jk (jb (pv 3)) (jb (pv 0)) (fun _ _=>rfl))) (jac (j8 (jk (jb (pv 2)) (jl jav (jb (pv 0)) je) (fun _ _=>rfl))) jat)) (fun _ h=>jb7 (pv 1) T.cl T.y152.h (jjk T) (hr.mono (by decide)) T.y152.b .nil jb5 h))))))),jsI⟩)
def jgV (bad:Str->Str->Prop)(o:Ob):List Str->List Str->Prop
 | k::kd,w::ws=>bad k w∨((∃d,Mng o k w d)∧jgV bad o kd ws)
 | _,_=>False
abbrev jwn:E4:=jbu 1 3 jbR (jah (jae (jg ju (jd 3) (jd 0))) (jah (jae (jg ju (jd 2) (jg zA (jd 0) (dC (.int 1))))) jaE))
abbrev jxv (P:List Sl->Wd->Prop):R4:=jfH 1 3 P (jah (jae (jg ju (jd 3) (jd 0))) (jah (jae (jg ju (jd 2) (jg zA (jd 0) (dC (.int 1))))) jaE))
theorem jmN {P:List Sl->Wd->Prop}{bad:Str->Str->Prop}{o:Ob}{W:Wd}{w:Str}{ws kd:List Str}(ho:o∈W)(hpq:o.p≠o.q)(hP:∀k x,bad k x->P [.raw (.ref o.p),.val (.str k),.val (.str x)] W) :
  ∀(m j:Nat),m+j=kd.length->kd.length≤3->jgV bad o (kd.drop j) (ws.drop j)->jiI (gN 0) jwn (jxv P) [.un,.raw (.ref o.p),.val (.lst ((w::ws).map .str)),.val (.tup (kd.map .str))] ((List.range' j m).map fun i=>D.int (i:Nat)) j W (fun W'=>W'=W)
 | 0,j,hj,h3,h=>by
  rw [List.drop_of_length_le (show kd.length≤j by omega)] at h
  exact False.elim h
 | m+1,j,hj,h3,h=>by
  have hk:j<kd.length:=by omega
  rw [List.drop_eq_getElem_cons hk] at h
  by_cases hw:j<ws.length
  ·rw [List.drop_eq_getElem_cons hw] at h
   have e1:atI (kd.map D.str) (j:Int)=some (.str kd[j]):=by rw [jfE,List.getElem?_map,List.getElem?_eq_getElem hk]; rfl
   have e2:atI ((w::ws).map D.str) ((j:Int)+1)=some (.str ws[j]):=by
    rw [show ((j:Int)+1)=((j+1:Nat):Int) from rfl,jfE,List.map_cons,List.getElem?_cons_succ,List.getElem?_map,List.getElem?_eq_getElem hw]; rfl
   rw [List.range'_succ,List.map_cons]
   refine⟨jy rfl,?_⟩
   rcases h with h | ⟨⟨d,hd⟩,h⟩
   ·exact .inl ⟨⟨o,ho,rfl,hpq⟩,jaC e1 (jaC e2 ⟨rfl,hP _ _ h,rfl⟩)⟩
   ·refine .inr ⟨⟨o,ho,rfl,hpq⟩,jaC e1 (jaC e2 ⟨rfl,o,_,_,d,rfl,ho,hpq,hd,Nat.lt_of_le_of_lt (show j≤100 by omega) (by decide),?_⟩)⟩
    exact jmN ho hpq hP m (j+1) (by omega) h3 h
  ·rw [List.drop_of_length_le (show ws.length≤j by omega)] at h
   exact False.elim h
theorem jj7 (n:Nat):ups 0 n=(List.range' 0 n).map fun i=>D.int (i:Nat):=by
 unfold ups
 rw [List.range_eq_range']
 exact List.map_congr_left fun i _=>by rw [Int.zero_add]
def jda:List Sl->Wd->Prop:=fun as W=>∃(o:Ob) (w:Str) (ws kd:List Str),as=[.raw (.ref o.p),.val (.lst ((w::ws).map .str))]∧o∈W∧o.p≠o.q∧jP ks_ROWS jaH w=some (.tup (kd.map .str))∧kd.length≤3∧jgV (juL o) o kd ws
def jc3:R4 :=
 (jdb (jay (jD 2 (jlC ks_ROWS jaH (jg ju (jd 1) (dC (.int 0))))))
 (jtP 1 (iR1 (jc (dB jeb (jc (jd 2) jj)) jj)) (gN 0) (jbu 1 3 jbR (jah (jae (jg ju (jd 3) (jd 0))) (jah (jae (jg ju (jd 2) (jg zA (jd 0) (dC (.int 1))))) jaE))) (jfH 1 3 jck (jah (jae (jg ju (jd 3) (jd 0))) (jah (jae (jg ju (jd 2) (jg zA (jd 0) (dC (.int 1))))) jaE)))))
theorem jkB:∀(as:List Sl) (W:Wd),as.length=2->jda as W->jc3 (fun W'=>W'=W) (ja0 3 as) W:=by
 rintro as W hl ⟨o,w,ws,kd,rfl,ho,hpq,hk,hl3,hx⟩
 unfold jc3
 refine jaC (d:=.str w) (jeY ..) ?_
 refine⟨_,hk,jy rfl,?_⟩
 show -(2^62)≤(((kd.map D.str).length:Nat):Int)∧(((kd.map D.str).length:Nat):Int)<2^62∧jiI (gN 0) jwn (jxv jck) [.un,.raw (.ref o.p),.val (.lst ((w::ws).map .str)),.val (.tup (kd.map .str))] (ups 0 (((kd.map D.str).length:Nat):Int).toNat) 0 W _
 rw [List.length_map,Int.toNat_natCast,jj7]
 exact⟨by omega,by omega,jmN ho hpq (fun k x h=>⟨o,k,x,rfl,ho,hpq,h⟩) kd.length 0 (by omega) hl3 hx⟩
theorem jkW (T:Txt P w K mg t):FnOk P w K mg base (CXC P w) 5 t.y20 t.y21 ["self","words"] (jfn K (zc t) 2 t.y132 jda):=by
 have sc:=jcv
 refine jfa (k:=4) T.y153.F jcv (fun cdv A outer s H E hr hR hP hH=>⟨jc3,(jch (jT (jp (i:=2) sc.nd rfl (jn rfl) (jhO T.y321 T.y322.r T.y322.d (jk (jb (pv 1)) je (fun _ _=>rfl)) rfl T.y320 (fun _ _=>rfl))))
 (jeG (jim (jpZ hH rfl rfl (xs:=["place"]) (M:=["self","words","kinds"]) (n:=1) (by rfl) rfl rfl (jbz rfl T.y212 (ja (jax jcW rfl T.y210 jbK (ja (jb (pv 2)) jf)) jf)) (fun _ _ _ _=>(jaL (i:=0) (by decide) (show List.Nodup (["place","self","words","kinds"]:List Str) by decide +kernel) rfl (by first | exact Or.inl rfl | exact Or.inr rfl))) (fun _ _ _ _=>(jbI (i:=1) (ps:=["self","kind","word"]) rfl jd6 (jac (j8 (jk (jb (pv 3)) (jb (pv 0)) (fun _ _=>rfl))) (jac (j8 (jk (jb (pv 2)) (jl jav (jb (pv 0)) je) (fun _ _=>rfl))) jat)) (fun _ h=>jb7 (pv 1) T.cl T.y152.h (jjk T) (hr.mono (by decide)) T.y152.b .nil jb5 h))) (fun _ _ _ _=>(jg4 (i:=1) (ps:=["self","kind","word"]) jtG rfl (pv 1) T.cl T.y152.h (jlK T) (hr.mono (by decide)) T.y152.b (jac (j8 (jk (jb (pv 3)) (jb (pv 0)) (fun _ _=>rfl))) (jac (j8 (jk (jb (pv 2)) (jl jav (jb (pv 0)) je) (fun _ _=>rfl))) jat)))))))),jkB⟩)
def jci:List Sl->Wd->Prop:=fun as W=>∃(o:Ob) (w:Str) (ws kd:List Str),as=[.raw (.ref o.p),.val (.lst ((w::ws).map .str))]∧o∈W∧o.p≠o.q∧jP ks_ROWS jaH w=some (.tup (kd.map .str))∧kd.length≤3∧jgV (juI o) o kd ws
def jcj:R4 :=
 (jdb (jay (jD 2 (jlC ks_ROWS jaH (jg ju (jd 1) (dC (.int 0))))))
 (jtP 1 (iR1 (jc (dB jeb (jc (jd 2) jj)) jj)) (gN 0) (jbu 1 3 jbR (jah (jae (jg ju (jd 3) (jd 0))) (jah (jae (jg ju (jd 2) (jg zA (jd 0) (dC (.int 1))))) jaE))) (jfH 1 3 jbL (jah (jae (jg ju (jd 3) (jd 0))) (jah (jae (jg ju (jd 2) (jg zA (jd 0) (dC (.int 1))))) jaE)))))
theorem jhL:∀(as:List Sl) (W:Wd),as.length=2->jci as W->jcj (fun W'=>W'=W) (ja0 3 as) W:=by
 rintro as W hl ⟨o,w,ws,kd,rfl,ho,hpq,hk,hl3,hx⟩
 unfold jcj
 refine jaC (d:=.str w) (jeY ..) ?_
 refine⟨_,hk,jy rfl,?_⟩
 show -(2^62)≤(((kd.map D.str).length:Nat):Int)∧(((kd.map D.str).length:Nat):Int)<2^62∧jiI (gN 0) jwn (jxv jbL) [.un,.raw (.ref o.p),.val (.lst ((w::ws).map .str)),.val (.tup (kd.map .str))] (ups 0 (((kd.map D.str).length:Nat):Int).toNat) 0 W _
 rw [List.length_map,Int.toNat_natCast,jj7]
 exact⟨by omega,by omega,jmN ho hpq (fun k x h=>⟨o,k,x,rfl,ho,hpq,h⟩) kd.length 0 (by omega) hl3 hx⟩
theorem jhH (T:Txt P w K mg t):FnOk P w K mg base (CXC P w) 5 t.y20 t.y21 ["self","words"] (jfn K (zc t) 2 t.y133 jci):=by
 have sc:=jcv
 refine jfa (k:=4) T.y153.F jcv (fun cdv A outer s H E hr hR hP hH=>⟨jcj,(jch (jT (jp (i:=2) sc.nd rfl (jn rfl) (jhO T.y321 T.y322.r T.y322.d (jk (jb (pv 1)) je (fun _ _=>rfl)) rfl T.y320 (fun _ _=>rfl))))
 (jeG (jim (jpZ hH rfl rfl (xs:=["place"]) (M:=["self","words","kinds"]) (n:=1) (by rfl) rfl rfl (jbz rfl T.y212 (ja (jax jcW rfl T.y210 jbK (ja (jb (pv 2)) jf)) jf)) (fun _ _ _ _=>(jaL (i:=0) (by decide) (show List.Nodup (["place","self","words","kinds"]:List Str) by decide +kernel) rfl (by first | exact Or.inl rfl | exact Or.inr rfl))) (fun _ _ _ _=>(jbI (i:=1) (ps:=["self","kind","word"]) rfl jd6 (jac (j8 (jk (jb (pv 3)) (jb (pv 0)) (fun _ _=>rfl))) (jac (j8 (jk (jb (pv 2)) (jl jav (jb (pv 0)) je) (fun _ _=>rfl))) jat)) (fun _ h=>jb7 (pv 1) T.cl T.y152.h (jjk T) (hr.mono (by decide)) T.y152.b .nil jb5 h))) (fun _ _ _ _=>(jg4 (i:=1) (ps:=["self","kind","word"]) jtG rfl (pv 1) T.cl T.y152.h (jiK T) (hr.mono (by decide)) T.y152.b (jac (j8 (jk (jb (pv 3)) (jb (pv 0)) (fun _ _=>rfl))) (jac (j8 (jk (jb (pv 2)) (jl jav (jb (pv 0)) je) (fun _ _=>rfl))) jat)))))))),jhL⟩)
def jcg:jV:=fun ds Φ=>∃(z w:Str) (ws:List Str) (kd:List D),ds=[.str z]∧z.length≤10000∧Txt.split z " "=w::ws∧jP ks_ROWS jaH w=some (.tup kd)∧kd.length=ws.length∧Φ (.lst ((w::ws).map .str))
theorem jdr:jX jcg:=fun ds Φ Ψ mo h0=>by
 obtain⟨z,w,ws,kd,a,b,c,d,e,h⟩:=h0
 exact⟨z,w,ws,kd,a,b,c,d,e,mo _ h⟩
def jrw:S3 :=
 (jM (jd 1))
def jgF:S3 :=
 (jE (sIf (bOr (dT (jkO ks_ROWS true (jg ju (jd 1) (dC (.int 0))))) (dT (jg dNe (dB jeb (jc (jd 1) jj)) (jg zA (dB jeb (jc (jlC ks_ROWS jaH (jg ju (jd 1) (dC (.int 0)))) jj)) (dC (.int 1))))))
 jff
 jau)
 jrw)
def jgA:S3 :=
 (jE (jD 1 (dF (jj3 (jd 0) (dC (.str " ")))))
 jgF)
abbrev jnS:S3 :=
 (jE (sIf (jmR (dT (jxu jnh (jd 0))))
 jff
 jau)
 jgA)
theorem jsH:∀(ds:List D) (Φ:D->Prop),ds.length=1->jcg ds Φ->jnS (jH Φ) (jz 2 ds):=by
 rintro ds Φ hl ⟨z,w,ws,kd,rfl,hz,hs,hk,hn,h⟩
 have mem:w∈ks_ROWS:=of_decide_eq_true (by rw [←jbW (us:=jaH) rfl,hk]; rfl)
 refine tF rfl ?_
 show jgA (jH Φ) [.val (.str z),.un]
 unfold jgA
 refine⟨Nat.le_trans (show _≤10002 by omega) (by decide),rfl,?_⟩
 rw [hs]
 show jgF (jH Φ) [.val (.str z),.val (.lst ((w::ws).map .str))]
 unfold jgF
 refine jaC (d:=.str w) (jeY ..) ?_
 refine tF (by rw [decide_eq_true mem]; rfl) ?_
 refine jaC (d:=.str w) (jeY ..) ?_
 refine⟨.tup kd,hk,?_⟩
 refine tF ?_ h
 rw [List.length_map,List.length_cons,hn]
 simp
theorem jeW (T:Txt P w K mg t):FnOk P w K mg base j0 1 t.y22 t.y23 ["row"] (spD K 1 jcg):=by
 have sc:=jeS
 refine jU (k:=0) T.y154.F jeS (fun cdv A outer s H E hr=>⟨jnS,(jo (jaO (jhV (jd2 (jp4 jwf rfl T.y209 jt rfl T.y213 jhN (jb (pv 0)))))
 (js jcL)
 jaf)
 (jo (jp (i:=1) sc.nd rfl (jn rfl) (jB (ji7 (jb (pv 0)) jh)))
 (jo (jaO (PWB.pb (jqG (jpq T.y321 (jk (jb (pv 1)) je (fun _ _=>rfl)) rfl T.y320) (jny (j7 jkg (jax jcW rfl T.y210 jbK (ja (jb (pv 1)) jf)) (jl jav (jax jcW rfl T.y210 jbK (ja (jhO T.y321 T.y322.r T.y322.d (jk (jb (pv 1)) je (fun _ _=>rfl)) rfl T.y320 (fun _ _=>rfl)) jf)) je) (jL _)))))
 (js jcL)
 jaf)
 (js (jw (jb (pv 1))))))),jsH⟩)
def jcl:List D->Prop:=fun ds=>∃d:D,ds=[d]∧(jnh d=false∨∃(z w:Str) (ws:List Str),d=.str z∧z.length≤10000∧Txt.split z " "=w::ws∧(w∉ks_ROWS∨∃kd,jP ks_ROWS jaH w=some (.tup kd)∧kd.length≠ws.length))
def jdA:jN->Prop :=
 (rIf (jmR (dT (jxu jnh (jd 0))))
 (jc (dC (.str "what is no text is no row")) jj)
 jau
 (jnN (jD 1 (dF (jj3 (jd 0) (dC (.str " ")))))
 (rIf (bOr (dT (jkO ks_ROWS true (jg ju (jd 1) (dC (.int 0))))) (dT (jg dNe (dB jeb (jc (jd 1) jj)) (jg zA (dB jeb (jc (jlC ks_ROWS jaH (jg ju (jd 1) (dC (.int 0)))) jj)) (dC (.int 1))))))
 (jc (dC (.str "there is no such row")) jj)
 jau
 (fun _=>False))))
theorem jlQ:∀(ds:List D),ds.length=1->jcl ds->jdA (jz 2 ds):=by
 rintro ds hl ⟨d,rfl,h⟩
 have done:(1:Nat)≤sizeLine:=by decide
 unfold jdA
 rcases h with h | ⟨z,w,ws,rfl,hz,hs,h⟩
 ·exact tT (by rw [h]; rfl) done
 ·refine tF rfl ?_
  refine⟨Nat.le_trans (show z.length+2≤10002 by omega) (by decide),rfl,?_⟩
  rw [hs]
  refine jaC (d:=.str w) (jeY ..) ?_
  rcases h with h | ⟨kd,hk,hn⟩
  ·exact tT (by rw [decide_eq_false h]; rfl) (tT rfl done)
  ·have mem:w∈ks_ROWS:=of_decide_eq_true (by rw [←jbW (us:=jaH) rfl,hk]; rfl)
   refine tF (by rw [decide_eq_true mem]; rfl) ?_
   refine jaC (d:=.str w) (jeY ..) ?_
   refine⟨.tup kd,hk,tT ?_ done⟩
   rw [List.length_map,List.length_cons]
   show (!decide (((ws.length+1:Nat):Int)=(kd.length:Int)+1))=true
   rw [decide_eq_false (by omega)]
   rfl
theorem jlR (T:Txt P w K mg t):FnOk P w K mg base (CXC P w) 1 t.y22 t.y23 ["row"] (spR K 1 t.y136 jcl):=by
 have sc:=jeS
 refine jnC (k:=0) T.y154.F jeS (fun cdv A outer s H E hr hR=>⟨jdA,(jhY (jhV (jd2 (jp4 jwf rfl T.y209 jt rfl T.y213 jhN (jb (pv 0)))))
 (jdW rfl rfl T.y228 T.y243 (ja jh jf) hR)
 jaf
 (jmC (jp (i:=1) sc.nd rfl (jn rfl) (jB (ji7 (jb (pv 0)) jh)))
 (jhY (PWB.pb (jqG (jpq T.y321 (jk (jb (pv 1)) je (fun _ _=>rfl)) rfl T.y320) (jny (j7 jkg (jax jcW rfl T.y210 jbK (ja (jb (pv 1)) jf)) (jl jav (jax jcW rfl T.y210 jbK (ja (jhO T.y321 T.y322.r T.y322.d (jk (jb (pv 1)) je (fun _ _=>rfl)) rfl T.y320 (fun _ _=>rfl)) jf)) je) (jL _)))))
 (jdW rfl rfl T.y228 T.y243 (ja jh jf) hR)
 jaf
 jgP))),jlQ⟩)
def jbd:jV:=fun ds Φ=>∃ns:List Int,ds=[.tup (ns.map .int)]∧ns.length≤4∧(∀n∈ns,Bd 1900 n)∧Φ (.str (jW ns))
theorem jb3:jX jbd:=fun ds Φ Ψ mo h0=>by
 obtain⟨ns,a,b,c,h⟩:=h0
 exact⟨ns,a,b,c,mo _ h⟩
abbrev jip:S3 :=
 (jM (dMt jqD (dC (.str ",")) (dF (jb4 1 (iLT (jd 0)) (gN 0) (fun _ Φ=>Φ true) (dB jo7 (jc (jd 0) jj))))))
theorem jgY:∀(ds:List D) (Φ:D->Prop),ds.length=1->jbd ds Φ->jip (jH Φ) (jz 1 ds):=by
 rintro ds Φ hl ⟨ns,rfl,hn,hb,h⟩
 refine ju9 hn hb ⟨ns.map jaJ,rfl,?_,h⟩
 have:=jpM ns hb
 rw [List.length_map,show (",":Str).length=1 from rfl]
 omega
theorem jel (T:Txt P w K mg t):FnOk P w K mg base j0 1 t.y24 t.y25 ["numbers"] (spD K 1 jbd):=by
 have sc:=jgR
 refine jU (k:=0) T.y155.F jgR (fun cdv A outer s H E hr=>⟨jip,(js (jw (jj8 PySem.F.slot_str_join PySem.F.type_str_join jrC jh (jB (jbe (xs:=["number"]) (M:=["numbers"]) (n:=1) (by rfl) rfl rfl (jbE (jb (pv 0))) (fun _ _ _ _=>(jaL (i:=0) (by decide) (show List.Nodup (["number","numbers"]:List Str) by decide +kernel) rfl (by first | exact Or.inl rfl | exact Or.inr rfl))) (fun _ _ _ _=>jbh) (fun _ _ _ _=>(ja6 jqC rfl T.y213 jhN (ja (jb (pv 0)) jf)))))))),jgY⟩)
def jaW:jV:=fun ds Φ=>∃a b:Int,ds=[.int a,.int b]∧Φ (.int (Int.gcd a b:Int))
theorem jcA:jX jaW:=fun ds Φ Ψ mo h0=>by
 obtain⟨a,b,e,h⟩:=h0
 exact⟨a,b,e,mo _ h⟩
def jiw:S3 :=
 (jD 1 (jd 2))
def jic:S3 :=
 (jE (jD 0 (jd 1))
 jiw)
abbrev jjT:S3 :=
 (jE (jD 2 (jg zR (jd 0) (jd 1)))
 jic)
def jk1:S3 :=
 (jM (dB jBe (jc (jd 0) jj)))
abbrev jfV:S3 :=
 (jE (jk3 (dT (jg dNe (jd 1) (dC (.int 0))))
 jjT)
 jk1)
theorem jlN:∀(ds:List D) (Φ:D->Prop),ds.length=2->jaW ds Φ->jfV (jH Φ) (jz 3 ds):=by
 rintro ds Φ hl ⟨a,b,rfl,h⟩
 refine jla (fun ρ=>∃(x y:Int) (s:Sl),ρ=[.val (.int x),.val (.int y),s]∧Int.gcd x y=Int.gcd a b) (fun ρ=>match ρ with | [_,.val (.int y),_]=>y.natAbs | _=>0) ⟨a,b,.un,rfl,rfl⟩ ?_
 rintro ρ ⟨x,y,s,rfl,e⟩
 refine tst (fun hc=>?_) (fun hc=>?_)
 ·have hy:y≠0:=by intro z; subst z; simp at hc
  refine⟨hy,_,?_,rfl,y,x.fmod y,_,rfl,by rw [jqZ,e]⟩
  show (x.fmod y).natAbs<y.natAbs
  exact jiy hy
 ·have hy:y=0:=by simpa using hc
  subst hy
  have e2:(Int.gcd a b:Int)=x.natAbs:=by rw [←e]; simp
  rw [e2] at h
  exact h
theorem jc8 (T:Txt P w K mg t):FnOk P w K mg base j0 1 t.y26 t.y27 ["one","other"] (spD K 2 jaW):=by
 have sc:=jfw
 refine jU (k:=0) T.y156.F jfw (fun cdv A outer s H E hr=>⟨jfV,(jo (jk9 PassesOwn.never (j7 jkg (jb (pv 1)) je (jL _))
 (jo (jp (i:=2) sc.nd rfl (jn rfl) (jl jfJ (jb (pv 0)) (jb (pv 1))))
 (jo (jp (i:=0) sc.nd rfl (jn rfl) (jb (pv 1)))
 (js (jp (i:=1) sc.nd rfl (jn rfl) (jb (pv 2)))))))
 (js (jw (jax jBJ rfl T.y206 jAq (ja (jb (pv 0)) jf))))),jlN⟩)
def jcN:jV:=fun ds Φ=>∃ms:List Int,(ds=[.lst (ms.map .int)]∨ds=[.tup (ms.map .int)])∧Φ (.int (jA ms))
theorem jef:jX jcN:=fun ds Φ Ψ mo h0=>by
 obtain⟨ms,e,h⟩:=h0
 exact⟨ms,e,mo _ h⟩
theorem jf2 {Φ:D->Prop}{ms:List Int}{d0:D}(h:Φ (.int (jA ms))):∀(qs:List Int) (g:Int) (s:Sl),qs.foldl (fun g x=>(Int.gcd g x:Int)) g=jA ms ->
  FOR (gN 2) (jD 1 (jC 2 jaW (jc (jd 1) (jc (jd 2) jj)))) (qs.map D.int) (juo (jM (jd 1)) (jH Φ)) [.val d0,.val (.int g),s]
 | [],g,s,e=>by
  show Φ (.int g)
  have e:g=jA ms:=e
  rw [e]; exact h
 | q::qs,g,s,e=>⟨rfl,g,q,rfl,jf2 h qs (Int.gcd g q) _ e⟩
abbrev jrD:S3 :=
 (jD 1 (jC 2 jaW (jc (jd 1) (jc (jd 2) jj))))
def jsM:S3 :=
 (jM (jd 1))
def jsT:S3 :=
 (jE (jxw (iLT (jd 0)) (gN 2)
 jrD)
 jsM)
abbrev jp0:S3 :=
 (jE (jD 1 (dC (.int 0)))
 jsT)
theorem jt1:∀(ds:List D) (Φ:D->Prop),ds.length=1->jcN ds Φ->jp0 (jH Φ) (jz 3 ds):=by
 rintro ds Φ hl ⟨ms,rfl | rfl,h⟩
 ·exact jf2 h ms 0 .un rfl
 ·exact jf2 h ms 0 .un rfl
theorem jfO (T:Txt P w K mg t):FnOk P w K mg base j0 2 t.y28 t.y29 ["numbers"] (spD K 1 jcN):=by
 have sc:=jnj
 refine jU (k:=1) T.y157.F jnj (fun cdv A outer s H E hr=>⟨jp0,(jo (jp (i:=1) sc.nd rfl (jn rfl) je)
 (jo (jtE PassesOwn.never rfl (jbE (jb (pv 0))) (jgi (i:=2) sc.nd rfl (jn rfl))
 (js (jp (i:=1) sc.nd rfl (jn rfl) (jq (jc8 T) jcA (hr.mono (by decide)) T.y156 (ja (jb (pv 1)) (ja (jb (pv 2)) jf))))))
 (js (jw (jb (pv 1)))))),jt1⟩)
def jbA:jV:=fun ds Φ=>∃q:Q4,ds=[qd q]∧Φ (.bl (low q))
theorem jgI:jX jbA:=fun ds Φ Ψ mo h0=>by
 obtain⟨q,a,h⟩:=h0
 exact⟨q,a,mo _ h⟩
abbrev jee:S3 :=
 (jM (jg jBb (jd 0) (ja9 (jc (dC (.int 0)) (jc (dC (.int 0)) (jc (dC (.int 0)) (jc (dC (.int 0)) jj)))))))
theorem jiq:∀(ds:List D) (Φ:D->Prop),ds.length=1->jbA ds Φ->jee (jH Φ) (jz 1 ds):=by
 rintro ds Φ hl ⟨q,rfl,h⟩
 exact⟨jv 4 rfl (by decide),ql q,[0,0,0,0],rfl,rfl,h⟩
theorem jik (T:Txt P w K mg t):FnOk P w K mg base j0 1 t.y30 t.y31 ["quad"] (spD K 1 jbA):=by
 have sc:=jdH
 refine jU (k:=0) T.y158.F jdH (fun cdv A outer s H E hr=>⟨jee,(js (jw (jm1 (jBP (hu3 hr)) (jb (pv 0)) (jaB (ja je (ja je (ja je (ja je jf))))) (jL _)))),jiq⟩)
def jbS:jV:=fun ds Φ=>∃(ms:List Int) (n:Int) (k:Nat),ds=[.tup (ms.map .int),.int n]∧ms.length≤100∧n≠0∧k≤9000∧Bd k n∧Φ (.tup ((ms.map (·.fdiv n)).map .int))
theorem jcs:jX jbS:=fun ds Φ Ψ mo h0=>by
 obtain⟨ms,n,k,a,b,c,d,e,h⟩:=h0
 exact⟨ms,n,k,a,b,c,d,e,mo _ h⟩
theorem jpr {Φ:List D->Prop}{n:Int}{k:Nat}{d0:D}(hn:n≠0)(hk:k≤9000)(bn:Bd k n):∀(ms:List Int) (acc:List D),acc.length+ms.length≤1000->Φ (acc++(ms.map (·.fdiv n)).map .int) ->
  jhy (gN 0) (fun _ Φ=>Φ true) (jg zD (jd 0) (jd 2)) [.un,.val d0,.val (.int n)] (ms.map .int) acc Φ
 | [],acc,_,h=>by rw [List.map_nil,List.map_nil,List.append_nil] at h; exact h
 | m::ms,acc,hl,h=>by
  refine⟨jhb hn bn hk,jgW (by simp only [List.length_cons] at hl; omega),?_⟩
  refine jpr hn hk bn ms (acc++[.int (m.fdiv n)]) (by simp only [List.length_cons,List.length_append,List.length_nil] at hl ⊢; omega) ?_
  rw [List.append_assoc,List.singleton_append]
  exact h
abbrev jn1:S3 :=
 (jM (dB je8 (jc (dF (jb4 1 (iLT (jd 0)) (gN 0) (fun _ Φ=>Φ true) (jg zD (jd 0) (jd 2)))) jj)))
theorem js1:∀(ds:List D) (Φ:D->Prop),ds.length=2->jbS ds Φ->jn1 (jH Φ) (jz 2 ds):=by
 rintro ds Φ hl ⟨ms,n,k,rfl,hm,hn,hk,bn,h⟩
 exact jpr hn hk bn ms [] (by simp only [List.length_nil]; omega) h
theorem jdj (T:Txt P w K mg t):FnOk P w K mg base j0 1 t.y32 t.y33 ["row","n"] (spD K 2 jbS):=by
 have sc:=jmj
 refine jU (k:=0) T.y159.F jmj (fun cdv A outer s H E hr=>⟨jn1,(js (jw (ja6 jet rfl T.y215 jdv (ja (jB (jbe (xs:=["number"]) (M:=["row","n"]) (n:=1) (by rfl) rfl rfl (jbE (jb (pv 0))) (fun _ _ _ _=>(jaL (i:=0) (by decide) (show List.Nodup (["number","row","n"]:List Str) by decide +kernel) rfl (by first | exact Or.inl rfl | exact Or.inr rfl))) (fun _ _ _ _=>jbh) (fun _ _ _ _=>(jl jdd (jb (pv 0)) (jb (pv 2)))))) jf)))),js1⟩)
def jlA:jV:=fun ds Φ=>∃(q:Q4) (k:Nat),ds=[qd q]∧k≤9000∧Bq k q∧q≠q0∧Φ (qd (j2 q))
theorem juc:jX jlA:=fun ds Φ Ψ mo h0=>by
 obtain⟨q,k,a,b,c,d,h⟩:=h0
 exact⟨q,k,a,b,c,d,mo _ h⟩
def jp5:S3 :=
 (jM (jC 2 jbS (jc (jd 0) (jc (jd 1) jj))))
def jpA:S3 :=
 (jE (sIf (dT (jC 1 jbA (jc (jd 0) jj)))
 (jD 1 (dU jjp (jd 1)))
 jau)
 jp5)
def jpY:S3 :=
 (jE (sIf (dT (jg dEq (jd 1) (dC (.int 0))))
 jff
 jau)
 jpA)
abbrev joC:S3 :=
 (jE (jD 1 (jC 1 jcN (jc (jd 0) jj)))
 jpY)
theorem jxE:∀(ds:List D) (Φ:D->Prop),ds.length=1->jlA ds Φ->joC (jH Φ) (jz 2 ds):=by
 rintro ds Φ hl ⟨q,k,rfl,hk,bq,h0,h⟩
 have gz:jA (ql q)≠0:=fun z=>h0 (jlm z)
 try unfold joC; try unfold jpY; try unfold jpA; try unfold jp5
 refine⟨rfl,ql q,.inr rfl,tF (decide_eq_false gz) ?_⟩
 refine⟨rfl,q,rfl,tst (fun hc=>?_) (fun hc=>?_)⟩
 ·have e:shr q=-jA (ql q):=by unfold shr; rw [if_pos hc]
  have hn:=jen h0
  have hb:=juY bq
  have h:Φ (.tup (((ql q).map (·.fdiv (shr q))).map .int)):=h
  rw [e] at hn hb h
  exact⟨rfl,ql q,-jA (ql q),k,rfl,(show 4≤100 by decide),hn,hk,hb,h⟩
 ·have e:shr q=jA (ql q):=by unfold shr; rw [if_neg (by rw [hc]; decide)]
  have hn:=jen h0
  have hb:=juY bq
  have h:Φ (.tup (((ql q).map (·.fdiv (shr q))).map .int)):=h
  rw [e] at hn hb h
  exact⟨rfl,ql q,jA (ql q),k,rfl,(show 4≤100 by decide),hn,hk,hb,h⟩
theorem jwt (T:Txt P w K mg t):FnOk P w K mg base j0 3 t.y34 t.y35 ["quad"] (spD K 1 jlA):=by
 have sc:=jq6
 refine jU (k:=2) T.y160.F jq6 (fun cdv A outer s H E hr=>⟨joC,(jo (jp (i:=1) sc.nd rfl (jn rfl) (jq (jfO T) jef (hr.mono (by decide)) T.y157 (ja (jb (pv 0)) jf)))
 (jo (jaO (j7 jjh (jb (pv 1)) je (jL _))
 (js jcL)
 jaf)
 (jo (jaO (jd2 (jq (jik T) jgI (hr.mono (by decide)) T.y158 (ja (jb (pv 0)) jf)))
 (js (jp (i:=1) sc.nd rfl (jn rfl) (je0 (jb (pv 1)))))
 jaf)
 (js (jw (jq (jdj T) jcs (hr.mono (by decide)) T.y159 (ja (jb (pv 0)) (ja (jb (pv 1)) jf)))))))),jxE⟩)
def jbN:jV:=fun ds Φ=>∃t:T9,ds=[tb t]∧Φ (.lst [qd (m1 t),qd (m2 t),qd (m3 t),qd (m4 t)])
theorem jhr:jX jbN:=fun ds Φ Ψ mo h0=>by
 obtain⟨t,a,h⟩:=h0
 exact⟨t,a,mo _ h⟩
def jdh:S3 :=
 (jM (dF (jam (jc (ja9 (jc (jg zA (jg zA (jg zA (jd 2) (jd 3)) (jd 4)) (jd 5)) (jc (jd 6) (jc (jd 7) (jc (jd 8) jj))))) (jc (ja9 (jc (jd 6) (jc (jg zS (jg zS (jg zA (jd 2) (jd 3)) (jd 4)) (jd 5)) (jc (jd 9) (jc (jd 10) jj))))) (jc (ja9 (jc (jd 7) (jc (jd 9) (jc (jg zS (jg zA (jg zS (jd 2) (jd 3)) (jd 4)) (jd 5)) (jc (jd 11) jj))))) (jc (ja9 (jc (jd 8) (jc (jd 10) (jc (jd 11) (jc (jg zA (jg zS (jg zS (jd 2) (jd 3)) (jd 4)) (jd 5)) jj))))) jj)))))))
def jhf:S3 :=
 (jE (jD 11 (jg zA (jg ju (jg ju (jd 1) (dC (.int 2))) (dC (.int 1))) (jg ju (jg ju (jd 1) (dC (.int 1))) (dC (.int 2)))))
 jdh)
def jiu:S3 :=
 (jE (jD 10 (jg zA (jg ju (jg ju (jd 1) (dC (.int 0))) (dC (.int 2))) (jg ju (jg ju (jd 1) (dC (.int 2))) (dC (.int 0)))))
 jhf)
def jdF:S3 :=
 (jE (jD 9 (jg zA (jg ju (jg ju (jd 1) (dC (.int 1))) (dC (.int 0))) (jg ju (jg ju (jd 1) (dC (.int 0))) (dC (.int 1)))))
 jiu)
def jig:S3 :=
 (jE (jD 8 (jg zS (jg ju (jg ju (jd 1) (dC (.int 1))) (dC (.int 0))) (jg ju (jg ju (jd 1) (dC (.int 0))) (dC (.int 1)))))
 jdF)
def jhX:S3 :=
 (jE (jD 7 (jg zS (jg ju (jg ju (jd 1) (dC (.int 0))) (dC (.int 2))) (jg ju (jg ju (jd 1) (dC (.int 2))) (dC (.int 0)))))
 jig)
def jdV:S3 :=
 (jE (jD 6 (jg zS (jg ju (jg ju (jd 1) (dC (.int 2))) (dC (.int 1))) (jg ju (jg ju (jd 1) (dC (.int 1))) (dC (.int 2)))))
 jhX)
def jhC:S3 :=
 (jE (jD 5 (jg ju (jg ju (jd 1) (dC (.int 2))) (dC (.int 2))))
 jdV)
def jhG:S3 :=
 (jE (jD 4 (jg ju (jg ju (jd 1) (dC (.int 1))) (dC (.int 1))))
 jhC)
def jdK:S3 :=
 (jE (jD 3 (jg ju (jg ju (jd 1) (dC (.int 0))) (dC (.int 0))))
 jhG)
def jit:S3 :=
 (jE (jD 2 (jg ju (jd 0) (dC (.int 1))))
 jdK)
abbrev jeq:S3 :=
 (jE (jD 1 (jg ju (jd 0) (dC (.int 0))))
 jit)
theorem jjg:∀(ds:List D) (Φ:D->Prop),ds.length=1->jbN ds Φ->jeq (jH Φ) (jz 12 ds):=by
 rintro ds Φ hl ⟨t,rfl,h⟩
 show jdK (jH Φ) [.val (tb t),.val (tr t),.val (.int t.n),.un,.un,.un,.un,.un,.un,.un,.un,.un]
 show jdV (jH Φ) [.val (tb t),.val (tr t),.val (.int t.n),.val (.int t.p.x),.val (.int t.q.y),.val (.int t.r.z),.un,.un,.un,.un,.un,.un]
 show jdF (jH Φ) [.val (tb t),.val (tr t),.val (.int t.n),.val (.int t.p.x),.val (.int t.q.y),.val (.int t.r.z),.val (.int (t.r.y - t.q.z)),.val (.int (t.p.z - t.r.x)),.val (.int (t.q.x - t.p.y)),.un,.un,.un]
 show jdh (jH Φ) [.val (tb t),.val (tr t),.val (.int t.n),.val (.int t.p.x),.val (.int t.q.y),.val (.int t.r.z),.val (.int (t.r.y - t.q.z)),.val (.int (t.p.z - t.r.x)),.val (.int (t.q.x - t.p.y)),.val (.int (t.q.x+t.p.y)),.val (.int (t.p.z+t.r.x)),.val (.int (t.r.y+t.q.z))]
 exact⟨jv 4 rfl (by decide),jv 4 rfl (by decide),jv 4 rfl (by decide),jv 4 rfl (by decide),jv 4 rfl (by decide),h⟩
theorem jiM (T:Txt P w K mg t):FnOk P w K mg base j0 1 t.y36 t.y37 ["turn"] (spD K 1 jbN):=by
 have sc:=jd5
 refine jU (k:=0) T.y161.F jd5 (fun cdv A outer s H E hr=>⟨jeq,(jo (jp (i:=1) sc.nd rfl (jn rfl) (jk (jb (pv 0)) je (fun _ _=>rfl)))
 (jo (jp (i:=2) sc.nd rfl (jn rfl) (jk (jb (pv 0)) je (fun _ _=>rfl)))
 (jo (jp (i:=3) sc.nd rfl (jn rfl) (jk (jk (jb (pv 1)) je (fun _ _=>rfl)) je (fun _ _=>rfl)))
 (jo (jp (i:=4) sc.nd rfl (jn rfl) (jk (jk (jb (pv 1)) je (fun _ _=>rfl)) je (fun _ _=>rfl)))
 (jo (jp (i:=5) sc.nd rfl (jn rfl) (jk (jk (jb (pv 1)) je (fun _ _=>rfl)) je (fun _ _=>rfl)))
 (jo (jp (i:=6) sc.nd rfl (jn rfl) (jl jaV (jk (jk (jb (pv 1)) je (fun _ _=>rfl)) je (fun _ _=>rfl)) (jk (jk (jb (pv 1)) je (fun _ _=>rfl)) je (fun _ _=>rfl))))
 (jo (jp (i:=7) sc.nd rfl (jn rfl) (jl jaV (jk (jk (jb (pv 1)) je (fun _ _=>rfl)) je (fun _ _=>rfl)) (jk (jk (jb (pv 1)) je (fun _ _=>rfl)) je (fun _ _=>rfl))))
 (jo (jp (i:=8) sc.nd rfl (jn rfl) (jl jaV (jk (jk (jb (pv 1)) je (fun _ _=>rfl)) je (fun _ _=>rfl)) (jk (jk (jb (pv 1)) je (fun _ _=>rfl)) je (fun _ _=>rfl))))
 (jo (jp (i:=9) sc.nd rfl (jn rfl) (jl jav (jk (jk (jb (pv 1)) je (fun _ _=>rfl)) je (fun _ _=>rfl)) (jk (jk (jb (pv 1)) je (fun _ _=>rfl)) je (fun _ _=>rfl))))
 (jo (jp (i:=10) sc.nd rfl (jn rfl) (jl jav (jk (jk (jb (pv 1)) je (fun _ _=>rfl)) je (fun _ _=>rfl)) (jk (jk (jb (pv 1)) je (fun _ _=>rfl)) je (fun _ _=>rfl))))
 (jo (jp (i:=11) sc.nd rfl (jn rfl) (jl jav (jk (jk (jb (pv 1)) je (fun _ _=>rfl)) je (fun _ _=>rfl)) (jk (jk (jb (pv 1)) je (fun _ _=>rfl)) je (fun _ _=>rfl))))
 (js (jw (jB (jak (ja (jaB (ja (jl jav (jl jav (jl jav (jb (pv 2)) (jb (pv 3))) (jb (pv 4))) (jb (pv 5))) (ja (jb (pv 6)) (ja (jb (pv 7)) (ja (jb (pv 8)) jf))))) (ja (jaB (ja (jb (pv 6)) (ja (jl jaV (jl jaV (jl jav (jb (pv 2)) (jb (pv 3))) (jb (pv 4))) (jb (pv 5))) (ja (jb (pv 9)) (ja (jb (pv 10)) jf))))) (ja (jaB (ja (jb (pv 7)) (ja (jb (pv 9)) (ja (jl jaV (jl jav (jl jaV (jb (pv 2)) (jb (pv 3))) (jb (pv 4))) (jb (pv 5))) (ja (jb (pv 11)) jf))))) (ja (jaB (ja (jb (pv 8)) (ja (jb (pv 10)) (ja (jb (pv 11)) (ja (jl jav (jl jaV (jl jaV (jb (pv 2)) (jb (pv 3))) (jb (pv 4))) (jb (pv 5))) jf))))) jf))))))))))))))))))),jjg⟩)
def jxD (p q:P3):Int:=p.x * q.x+p.y * q.y+p.z * q.z
def jwl (p q:Q4):Int:=p.a * q.a+p.b * q.b+p.c * q.c+p.d * q.d
def jdg:jV:=fun ds Φ=>(∃(p q:P3) (k:Nat),ds=[pt p,pt q]∧k≤60000000∧Bp k p∧Bp k q∧Φ (.int (jxD p q)))∨(∃(p q:Q4) (k:Nat),ds=[qd p,qd q]∧k≤60000000∧Bq k p∧Bq k q∧Φ (.int (jwl p q)))
theorem jh5:jX jdg:=fun ds Φ Ψ mo h=>by
 rcases h with⟨p,q,k,a,b,c,d,h⟩ | ⟨p,q,k,a,b,c,d,h⟩
 ·exact .inl ⟨p,q,k,a,b,c,d,mo _ h⟩
 ·exact .inr ⟨p,q,k,a,b,c,d,mo _ h⟩
abbrev jlZ:S3 :=
 (jM (dB jwZ (jc (dF (jb4 1 (iR1 (jc (dB jeb (jc (jd 0) jj)) jj)) (gN 0) (fun _ Φ=>Φ true) (jg zM (jg ju (jd 1) (jd 0)) (jg ju (jd 2) (jd 0))))) jj)))
theorem jrt:∀(ds:List D) (Φ:D->Prop),ds.length=2->jdg ds Φ->jlZ (jH Φ) (jz 2 ds):=by
 rintro ds Φ hl (⟨p,q,k,rfl,hk,hp,hq,h⟩ | ⟨p,q,k,rfl,hk,hp,hq,h⟩)
 ·have mk:∀{x y:Int},Bd k x->Bd k y->IntMulOk x y:=fun hx hy=>jcP hx hy (by omega)
  have e:[p.x * q.x,p.y * q.y,p.z * q.z].sum=jxD p q:=by simp only [List.sum_cons,List.sum_nil,jxD]; omega
  refine⟨show (-(2^62):Int)≤3 by decide,show (3:Int)<2^62 by decide,mk hp.x hq.x,jag 0 rfl (by decide),mk hp.y hq.y,jag 1 rfl (by decide),mk hp.z hq.z,jag 2 rfl (by decide),[p.x * q.x,p.y * q.y,p.z * q.z],rfl,?_⟩
  rw [e]; exact h
 ·have mk:∀{x y:Int},Bd k x->Bd k y->IntMulOk x y:=fun hx hy=>jcP hx hy (by omega)
  have e:[p.a * q.a,p.b * q.b,p.c * q.c,p.d * q.d].sum=jwl p q:=by simp only [List.sum_cons,List.sum_nil,jwl]; omega
  refine⟨show (-(2^62):Int)≤4 by decide,show (4:Int)<2^62 by decide,mk hp.a hq.a,jag 0 rfl (by decide),mk hp.b hq.b,jag 1 rfl (by decide),mk hp.c hq.c,jag 2 rfl (by decide),mk hp.d hq.d,jag 3 rfl (by decide),[p.a * q.a,p.b * q.b,p.c * q.c,p.d * q.d],rfl,?_⟩
  rw [e]; exact h
theorem jkx (T:Txt P w K mg t):FnOk P w K mg base j0 1 t.y38 t.y39 ["one","other"] (spD K 2 jdg):=by
 have sc:=jk4
 refine jU (k:=0) T.y162.F jk4 (fun cdv A outer s H E hr=>⟨jlZ,(js (jw (jax (jxY rfl) rfl T.y214 juU (ja (jB (jbe (xs:=["place"]) (M:=["one","other"]) (n:=1) (by rfl) rfl rfl (jbz rfl T.y212 (ja (jax jcW rfl T.y210 jbK (ja (jb (pv 0)) jf)) jf)) (fun _ _ _ _=>(jaL (i:=0) (by decide) (show List.Nodup (["place","one","other"]:List Str) by decide +kernel) rfl (by first | exact Or.inl rfl | exact Or.inr rfl))) (fun _ _ _ _=>jbh) (fun _ _ _ _=>(jl jI (jk (jb (pv 1)) (jb (pv 0)) (fun _ _=>rfl)) (jk (jb (pv 2)) (jb (pv 0)) (fun _ _=>rfl)))))) jf)))),jrt⟩)
def jh8:jV:=fun ds Φ=>∃(q:Q4) (k:Nat),ds=[qd q]∧k≤60000000∧Bq k q∧Φ (.int (jK q))
theorem jkQ:jX jh8:=fun ds Φ Ψ mo h0=>by
 obtain⟨q,k,a,b,c,h⟩:=h0
 exact⟨q,k,a,b,c,mo _ h⟩
abbrev jvf:S3 :=
 (jM (jC 2 jdg (jc (jd 0) (jc (jd 0) jj))))
theorem jyE:∀(ds:List D) (Φ:D->Prop),ds.length=1->jh8 ds Φ->jvf (jH Φ) (jz 1 ds):=by
 rintro ds Φ hl ⟨q,k,rfl,hk,hq,h⟩
 exact⟨rfl,.inr ⟨q,q,k,rfl,hk,hq,hq,h⟩⟩
theorem joy (T:Txt P w K mg t):FnOk P w K mg base j0 2 t.y40 t.y41 ["quad"] (spD K 1 jh8):=by
 have sc:=jtu
 refine jU (k:=1) T.y163.F jtu (fun cdv A outer s H E hr=>⟨jvf,(js (jw (jq (jkx T) jh5 (hr.mono (by decide)) T.y162 (ja (jb (pv 0)) (ja (jb (pv 0)) jf))))),jyE⟩)
def jdQ:jV:=fun ds Φ=>∃(t:T9) (q:Q4) (k:Nat),ds=[tb t]∧t=jm q∧q≠q0∧k≤4000∧Bt k t∧Φ (qd (j2 q))
theorem jf0:jX jdQ:=fun ds Φ Ψ mo h0=>by
 obtain⟨t,q,k,a,b,c,d,e,h⟩:=h0
 exact⟨t,q,k,a,b,c,d,e,mo _ h⟩
abbrev jpK:S3 :=
 (jM (jC 1 jlA (jc (jx4 jh8 (jC 1 jbN (jc (jd 0) jj))) jj)))
theorem jtU:∀(ds:List D) (Φ:D->Prop),ds.length=1->jdQ ds Φ->jpK (jH Φ) (jz 1 ds):=by
 rintro ds Φ hl ⟨t,q,k,rfl,rfl,h0,hk,bt,h⟩
 obtain⟨b1,b2,b3,b4⟩:=jCi bt
 obtain⟨g,hg,e1,e2,e3,e4⟩:=jx7 h0
 have best:=fun m=>jvT (m:=m) h0
 refine⟨rfl,jm q,rfl,?_⟩
 generalize m1 (jm q)=m1 at *
 generalize m2 (jm q)=m2 at *
 generalize m3 (jm q)=m3 at *
 generalize m4 (jm q)=m4 at *
 refine⟨[jK m1,jK m2,jK m3,jK m4],List.cons_ne_nil _ _,rfl,fun i d n hd hn=>?_,fun i d n hd hn hx=>⟨rfl,?_⟩⟩
 ·rcases i with _ | _ | _ | _ | i
  ·obtain rfl:=Option.some.inj hd; obtain rfl:=Option.some.inj hn; exact⟨m1,k+3,rfl,by omega,b1,rfl⟩
  ·obtain rfl:=Option.some.inj hd; obtain rfl:=Option.some.inj hn; exact⟨m2,k+3,rfl,by omega,b2,rfl⟩
  ·obtain rfl:=Option.some.inj hd; obtain rfl:=Option.some.inj hn; exact⟨m3,k+3,rfl,by omega,b3,rfl⟩
  ·obtain rfl:=Option.some.inj hd; obtain rfl:=Option.some.inj hn; exact⟨m4,k+3,rfl,by omega,b4,rfl⟩
  ·cases hd
 ·have x1:=hx (jK m1) (by simp); have x2:=hx (jK m2) (by simp); have x3:=hx (jK m3) (by simp); have x4:=hx (jK m4) (by simp)
  rcases i with _ | _ | _ | _ | i
  ·obtain rfl:=Option.some.inj hd; obtain rfl:=Option.some.inj hn
   have ne:=best m1 x1 x2 x3 x4
   refine⟨m1,k+3,rfl,by omega,b1,ne,?_⟩
   rw [jfG hg e1 ne h0]; exact h
  ·obtain rfl:=Option.some.inj hd; obtain rfl:=Option.some.inj hn
   have ne:=best m2 x1 x2 x3 x4
   refine⟨m2,k+3,rfl,by omega,b2,ne,?_⟩
   rw [jfG hg e2 ne h0]; exact h
  ·obtain rfl:=Option.some.inj hd; obtain rfl:=Option.some.inj hn
   have ne:=best m3 x1 x2 x3 x4
   refine⟨m3,k+3,rfl,by omega,b3,ne,?_⟩
   rw [jfG hg e3 ne h0]; exact h
  ·obtain rfl:=Option.some.inj hd; obtain rfl:=Option.some.inj hn
   have ne:=best m4 x1 x2 x3 x4
   refine⟨m4,k+3,rfl,by omega,b4,ne,?_⟩
   rw [jfG hg e4 ne h0]; exact h
  ·cases hd
theorem jiW (T:Txt P w K mg t):FnOk P w K mg base j0 4 t.y42 t.y43 ["turn"] (spD K 1 jdQ):=by
 have sc:=jm2
 refine jU (k:=3) T.y164.F jm2 (fun cdv A outer s H E hr=>⟨jpK,(js (jw (jq (jwt T) juc (hr.mono (by decide)) T.y160 (ja (jyJ (joy T) jkQ (hr.mono (by decide)) T.y163.b rfl rfl T.y211 jAe rfl T.y163.m (jq (jiM T) jhr (hr.mono (by decide)) T.y161 (ja (jb (pv 0)) jf))) jf)))),jtU⟩)
def jeU:jV:=fun ds Φ=>∃(q:Q4) (k:Nat),ds=[.lst [tb (jm q)]]∧q≠q0∧k≤1500∧Bq k q∧Φ (.str (jW (ql (j2 q))))
theorem jhT:jX jeU:=fun ds Φ Ψ mo h0=>by
 obtain⟨q,k,a,b,c,d,h⟩:=h0
 exact⟨q,k,a,b,c,d,mo _ h⟩
abbrev jmk:S3 :=
 (jM (jC 1 jbd (jc (jC 1 jdQ (jc (jg ju (jd 0) (dC (.int 0))) jj)) jj)))
theorem jrg:∀(ds:List D) (Φ:D->Prop),ds.length=1->jeU ds Φ->jmk (jH Φ) (jz 1 ds):=by
 rintro ds Φ hl ⟨q,k,rfl,h0,hk,bq,h⟩
 refine⟨rfl,jm q,q,2 * k+3,rfl,rfl,h0,by omega,jdy h0 bq,?_⟩
 exact⟨rfl,ql (j2 q),rfl,Nat.le_refl 4,jnW ((jmx bq h0).mono (by omega)),h⟩
theorem jrv (T:Txt P w K mg t):FnOk P w K mg base j0 5 t.y44 t.y45 ["told"] (spD K 1 jeU):=by
 have sc:=jlf
 refine jU (k:=4) T.y165.F jlf (fun cdv A outer s H E hr=>⟨jmk,(js (jw (jq (jel T) jb3 (hr.mono (by decide)) T.y155 (ja (jq (jiW T) jf0 (hr.mono (by decide)) T.y164 (ja (jk (jb (pv 0)) je (fun _ _=>rfl)) jf)) jf)))),jrg⟩)
def jdm:jV:=fun ds Φ=>∃(t:T9),ds=[.lst [tb t]]∧Bd 1900 t.n∧Φ (.str (jaJ t.n))
theorem jga:jX jdm:=fun ds Φ Ψ mo h0=>by
 obtain⟨t,a,b,h⟩:=h0
 exact⟨t,a,b,mo _ h⟩
abbrev jjK:S3 :=
 (jM (dB jo7 (jc (jg ju (jg ju (jd 0) (dC (.int 0))) (dC (.int 1))) jj)))
theorem jpb:∀(ds:List D) (Φ:D->Prop),ds.length=1->jdm ds Φ->jjK (jH Φ) (jz 1 ds):=by
 rintro ds Φ hl ⟨t,rfl,hb,h⟩
 exact⟨jvK hb,h⟩
theorem jpm (T:Txt P w K mg t):FnOk P w K mg base j0 1 t.y46 t.y47 ["told"] (spD K 1 jdm):=by
 have sc:=jir
 refine jU (k:=0) T.y166.F jir (fun cdv A outer s H E hr=>⟨jjK,(js (jw (ja6 jqC rfl T.y213 jhN (ja (jk (jk (jb (pv 0)) je (fun _ _=>rfl)) je (fun _ _=>rfl)) jf)))),jpb⟩)
def je1:jV:=fun ds Φ=>(∃(p q:P3) (t u:Int) (k:Nat),ds=[pt p,.int t,pt q,.int u]∧k≤60000000∧Bp k p∧Bp k q∧Bd k t∧Bd k u∧Φ (pt (jZ t p u q))) ∨
 (∃(p q:Q4) (t u:Int) (k:Nat),ds=[qd p,.int t,qd q,.int u]∧k≤60000000∧Bq k p∧Bq k q∧Bd k t∧Bd k u∧Φ (qd (jz3 t p u q)))
theorem jkM:jX je1:=fun ds Φ Ψ mo h=>by
 rcases h with⟨p,q,t,u,k,a,b,c,d,e,f,h⟩ | ⟨p,q,t,u,k,a,b,c,d,e,f,h⟩
 ·exact .inl ⟨p,q,t,u,k,a,b,c,d,e,f,mo _ h⟩
 ·exact .inr ⟨p,q,t,u,k,a,b,c,d,e,f,mo _ h⟩
abbrev jpw:S3 :=
 (jM (dB je8 (jc (dF (jb4 1 (iR1 (jc (dB jeb (jc (jd 0) jj)) jj)) (gN 0) (fun _ Φ=>Φ true) (jg zA (jg zM (jd 2) (jg ju (jd 1) (jd 0))) (jg zM (jd 4) (jg ju (jd 3) (jd 0)))))) jj)))
theorem jue:∀(ds:List D) (Φ:D->Prop),ds.length=4->je1 ds Φ->jpw (jH Φ) (jz 4 ds):=by
 rintro ds Φ hl (⟨p,q,t,u,k,rfl,hk,hp,hq,ht,hu,h⟩ | ⟨p,q,t,u,k,rfl,hk,hp,hq,ht,hu,h⟩)
 ·have mk:∀{x y:Int},Bd k x->Bd k y->IntMulOk x y:=fun hx hy=>jcP hx hy (by omega)
  exact⟨show (-(2^62):Int)≤3 by decide,show (3:Int)<2^62 by decide,mk ht hp.x,mk hu hq.x,jag 0 rfl (by decide),mk ht hp.y,mk hu hq.y,jag 1 rfl (by decide),mk ht hp.z,mk hu hq.z,jag 2 rfl (by decide),h⟩
 ·have mk:∀{x y:Int},Bd k x->Bd k y->IntMulOk x y:=fun hx hy=>jcP hx hy (by omega)
  exact⟨show (-(2^62):Int)≤4 by decide,show (4:Int)<2^62 by decide,mk ht hp.a,mk hu hq.a,jag 0 rfl (by decide),mk ht hp.b,mk hu hq.b,jag 1 rfl (by decide),mk ht hp.c,mk hu hq.c,jag 2 rfl (by decide),mk ht hp.d,mk hu hq.d,jag 3 rfl (by decide),h⟩
theorem jnH (T:Txt P w K mg t):FnOk P w K mg base j0 1 t.y48 t.y49 ["one","times","other","times_too"] (spD K 4 je1):=by
 have sc:=jnp
 refine jU (k:=0) T.y167.F jnp (fun cdv A outer s H E hr=>⟨jpw,(js (jw (ja6 jet rfl T.y215 jdv (ja (jB (jbe (xs:=["place"]) (M:=["one","times","other","times_too"]) (n:=1) (by rfl) rfl rfl (jbz rfl T.y212 (ja (jax jcW rfl T.y210 jbK (ja (jb (pv 0)) jf)) jf)) (fun _ _ _ _=>(jaL (i:=0) (by decide) (show List.Nodup (["place","one","times","other","times_too"]:List Str) by decide +kernel) rfl (by first | exact Or.inl rfl | exact Or.inr rfl))) (fun _ _ _ _=>jbh) (fun _ _ _ _=>(jl jav (jl jI (jb (pv 2)) (jk (jb (pv 1)) (jb (pv 0)) (fun _ _=>rfl))) (jl jI (jb (pv 4)) (jk (jb (pv 3)) (jb (pv 0)) (fun _ _=>rfl))))))) jf)))),jue⟩)
def jfD:jV:=fun ds Φ=>(∃(p q:P3) (t:Int) (k:Nat),ds=[pt p,pt q,.int t]∧1≤k∧k≤60000000∧Bp k p∧Bp k q∧Bd k t∧Φ (pt (jZ 1 p (-t) q))) ∨
 (∃(p q:Q4) (t:Int) (k:Nat),ds=[qd p,qd q,.int t]∧1≤k∧k≤60000000∧Bq k p∧Bq k q∧Bd k t∧Φ (qd (jz3 1 p (-t) q)))
theorem jqu:jX jfD:=fun ds Φ Ψ mo h=>by
 rcases h with⟨p,q,t,k,a,b,c,d,e,f,h⟩ | ⟨p,q,t,k,a,b,c,d,e,f,h⟩
 ·exact .inl ⟨p,q,t,k,a,b,c,d,e,f,mo _ h⟩
 ·exact .inr ⟨p,q,t,k,a,b,c,d,e,f,mo _ h⟩
theorem bd1 {k:Nat}(h:1≤k):Bd k 1:=(show Bd 1 1 from jcq (by decide)).mono h
abbrev jnU:S3 :=
 (jM (jC 4 je1 (jc (jd 0) (jc (dC (.int 1)) (jc (jd 1) (jc (dU jjp (jd 2)) jj))))))
theorem jsJ:∀(ds:List D) (Φ:D->Prop),ds.length=3->jfD ds Φ->jnU (jH Φ) (jz 3 ds):=by
 rintro ds Φ hl (⟨p,q,t,k,rfl,h1,hk,hp,hq,ht,h⟩ | ⟨p,q,t,k,rfl,h1,hk,hp,hq,ht,h⟩)
 ·exact⟨rfl,.inl ⟨p,q,1,-t,k,rfl,hk,hp,hq,bd1 h1,ht.neg,h⟩⟩
 ·exact⟨rfl,.inr ⟨p,q,1,-t,k,rfl,hk,hp,hq,bd1 h1,ht.neg,h⟩⟩
theorem jsP (T:Txt P w K mg t):FnOk P w K mg base j0 2 t.y50 t.y51 ["row","taken","times"] (spD K 3 jfD):=by
 have sc:=jl1
 refine jU (k:=1) T.y168.F jl1 (fun cdv A outer s H E hr=>⟨jnU,(js (jw (jq (jnH T) jkM (hr.mono (by decide)) T.y167 (ja (jb (pv 0)) (ja je (ja (jb (pv 1)) (ja (je0 (jb (pv 2))) jf))))))),jsJ⟩)
def jfd:jV:=fun ds Φ=>∃(x y:Int),ds=[.int x,.int y]∧Bd 4000 x∧Bd 4000 y∧∀a b:Int,a * x+b * y=(Int.gcd x y:Int)->Bd 4010 a->Bd 4010 b->Φ (.tup [.int (Int.gcd x y:Int),.int a,.int b])
theorem jkd:jX jfd:=fun ds Φ Ψ mo h0=>by
 obtain⟨x,y,a,b,c,h⟩:=h0
 exact⟨x,y,a,b,c,fun s t h1 h2 h3=>mo _ (h s t h1 h2 h3)⟩
structure MkI (x y r' a' b' r a b:Int):Prop where
 e':a' * x+b' * y=r'
 e:a * x+b * y=r
 g:Int.gcd r' r=Int.gcd x y
 br':Bd 4000 r'
 br:Bd 4000 r
 ba':Bd 4010 a'
 bb':Bd 4010 b'
 ba:Bd 4010 a
 bb:Bd 4010 b
 p:(a'=1∧b'=0∧a=0∧b=1∧r'=x∧r=y)∨(Pot (x.natAbs+4 * y.natAbs) a' r' a r∧Pot (x.natAbs+4 * y.natAbs) b' r' b r)
theorem jzq:(2:Nat)^4003=8 * 2^4000:=by
 have:=Nat.pow_add 2 4000 3
 omega
theorem jzR {x y c:Int}(hx:Bd 4000 x)(hy:Bd 4000 y)(h:(c.natAbs:Int)≤x.natAbs+4 * y.natAbs):Bd 4010 c:=by
 have:Bd 4003 c:=by
  unfold Bd at *
  rw [jzq]
  generalize 2^4000=m at *
  omega
 exact this.mono (by decide)
theorem joW {k:Nat}{r' r:Int}(h:Bd k r')(_:r≠0):Bd (k+1) (r'.fdiv r):=by
 unfold Bd at *
 have h1:=Int.natAbs_ediv_le_natAbs r' r
 rw [Int.fdiv_eq_ediv,Nat.pow_succ]
 generalize r' / r=q at *
 generalize 2^k=m at *
 split <;> omega
theorem jyw {k:Nat}{r' r:Int}(h:Bd k r)(hr:r≠0):Bd k (r'.fmod r):=Nat.lt_trans (jiy hr) h
theorem jrq (a q b:Int):1 * a+-q * b=a - q * b:=by rw [Int.one_mul,Int.neg_mul,Int.sub_eq_add_neg]
theorem js9 (a r:Int):1 * a+-(a.fdiv r) * r=a.fmod r:=by rw [jrq,jcm,Int.mul_comm r]
theorem MkI.step {x y r' a' b' r a b:Int}(hx:Bd 4000 x)(hy:Bd 4000 y)(m:MkI x y r' a' b' r a b)(hr:r≠0):MkI x y r a b (1 * r'+-(r'.fdiv r) * r) (1 * a'+-(r'.fdiv r) * a) (1 * b'+-(r'.fdiv r) * b):=by
 have er:=js9 r' r
 have ea:=jrq a' (r'.fdiv r) a
 have eb:=jrq b' (r'.fdiv r) b
 have pp:Pot (x.natAbs+4 * y.natAbs) a r (a' - r'.fdiv r * a) (r'.fmod r)∧Pot (x.natAbs+4 * y.natAbs) b r (b' - r'.fdiv r * b) (r'.fmod r):=by
  rcases m.p with⟨rfl,rfl,rfl,rfl,rfl,rfl⟩ | ⟨h1,h2⟩
  ·exact⟨Pot.first hr (by decide) (by decide),Pot.first hr (by decide) (by decide)⟩
  ·exact⟨h1.step hr,h2.step hr⟩
 rw [er,ea,eb]
 refine⟨m.e,?_,?_,m.br,jyw m.br hr,m.ba,m.bb,jzR hx hy (pp.1.a hr),jzR hx hy (pp.2.a hr),.inr pp⟩
 ·rw [jcm,←m.e',←m.e]; grind
 ·rw [jqZ,m.g]
def jo4:S3 :=
 (jD 3 (jd 4))
def joF:S3 :=
 (jE (jD 2 (jd 3))
 jo4)
abbrev jrb:S3 :=
 (jE (jD 4 (jC 3 jfD (jc (jd 2) (jc (jd 3) (jc (jg zD (jg ju (jd 2) (dC (.int 0))) (jg ju (jd 3) (dC (.int 0)))) jj)))))
 joF)
def jsQ:S3 :=
 (jM (jd 2))
def jsF:S3 :=
 (jE (sIf (dT (jg (dI0 fun i j=>.bl (decide (i<j))) (jg ju (jd 2) (dC (.int 0))) (dC (.int 0))))
 (jM (ja9 (jc (dU jjp (jg ju (jd 2) (dC (.int 0)))) (jc (dU jjp (jg ju (jd 2) (dC (.int 1)))) (jc (dU jjp (jg ju (jd 2) (dC (.int 2)))) jj)))))
 jau)
 jsQ)
def js2:S3 :=
 (jE (jk3 (dT (jg dNe (jg ju (jd 3) (dC (.int 0))) (dC (.int 0))))
 jrb)
 jsF)
def jsA:S3 :=
 (jE (jD 3 (ja9 (jc (jd 1) (jc (dC (.int 0)) (jc (dC (.int 1)) jj)))))
 js2)
abbrev jp8:S3 :=
 (jE (jD 2 (ja9 (jc (jd 0) (jc (dC (.int 1)) (jc (dC (.int 0)) jj)))))
 jsA)
theorem juf:∀(ds:List D) (Φ:D->Prop),ds.length=2->jfd ds Φ->jp8 (jH Φ) (jz 5 ds):=by
 rintro ds Φ hl ⟨x,y,rfl,hx,hy,h⟩
 refine⟨jv 3 rfl (by decide),jv 3 rfl (by decide),?_⟩
 refine jla (fun ρ=>∃(r' a' b' r a b:Int) (s:Sl),ρ=[.val (.int x),.val (.int y),.val (pt ⟨r',a',b'⟩),.val (pt ⟨r,a,b⟩),s]∧MkI x y r' a' b' r a b)
  (fun ρ=>match ρ with | [_,_,_,.val (.tup (.int r::_)),_]=>r.natAbs | _=>0) ?_ ?_
 ·exact⟨x,1,0,y,0,1,.un,rfl,⟨by rw [Int.one_mul,Int.zero_mul,Int.add_zero],by rw [Int.zero_mul,Int.one_mul,Int.zero_add],rfl,hx,hy,jcq (by decide),jcq (by decide),jcq (by decide),jcq (by decide),.inl ⟨rfl,rfl,rfl,rfl,rfl,rfl⟩⟩⟩
 ·rintro ρ ⟨r',a',b',r,a,b,s,rfl,m⟩
  refine tst (fun hc=>?_) (fun hc=>?_)
  ·have hr:r≠0:=by
    intro z; subst z; simp at hc
   have hq:=joW m.br' hr
   refine⟨jhb hr m.br (by decide),rfl,.inl ⟨⟨r',a',b'⟩,⟨r,a,b⟩,r'.fdiv r,4010,rfl,by decide,by decide,⟨m.br'.mono (by decide),m.ba',m.bb'⟩,⟨m.br.mono (by decide),m.ba,m.bb⟩,hq.mono (by decide),?_⟩⟩
   refine⟨_,?_,rfl,r,a,b,_,_,_,_,rfl,m.step hx hy hr⟩
   show (1 * r'+-(r'.fdiv r) * r).natAbs<r.natAbs
   rw [js9]
   exact jiy hr
  ·have hr:r=0:=by
    have:(!decide (r=0))=false:=hc
    simpa using this
   subst hr
   have hg:(Int.gcd x y:Int)=r'.natAbs:=by rw [←m.g]; simp
   refine tst (fun h0=>?_) (fun h0=>?_)
   ·have h0:r'<0:=of_decide_eq_true h0
    refine⟨jv 3 rfl (by decide),?_⟩
    have e:(Int.gcd x y:Int)=-r':=hg.trans (Int.ofNat_natAbs_of_nonpos (Int.le_of_lt h0))
    have:=h (-a') (-b') (by rw [e,←m.e']; grind) m.ba'.neg m.bb'.neg
    rw [e] at this
    exact this
   ·have h0:¬r'<0:=of_decide_eq_false h0
    have e:(Int.gcd x y:Int)=r':=hg.trans (Int.natAbs_of_nonneg (Int.not_lt.mp h0))
    have:=h a' b' (by rw [e,←m.e']) m.ba' m.bb'
    rw [e] at this
    exact this
theorem jn2 (T:Txt P w K mg t):FnOk P w K mg base j0 3 t.y52 t.y53 ["one","other"] (spD K 2 jfd):=by
 have sc:=jnA
 refine jU (k:=2) T.y169.F jnA (fun cdv A outer s H E hr=>⟨jp8,(jo (jp (i:=2) sc.nd rfl (jn rfl) (jaB (ja (jb (pv 0)) (ja je (ja je jf)))))
 (jo (jp (i:=3) sc.nd rfl (jn rfl) (jaB (ja (jb (pv 1)) (ja je (ja je jf)))))
 (jo (jk9 PassesOwn.never (j7 jkg (jk (jb (pv 3)) je (fun _ _=>rfl)) je (jL _))
 (jo (jp (i:=4) sc.nd rfl (jn rfl) (jq (jsP T) jqu (hr.mono (by decide)) T.y168 (ja (jb (pv 2)) (ja (jb (pv 3)) (ja (jl jdd (jk (jb (pv 2)) je (fun _ _=>rfl)) (jk (jb (pv 3)) je (fun _ _=>rfl))) jf)))))
 (jo (jp (i:=2) sc.nd rfl (jn rfl) (jb (pv 3)))
 (js (jp (i:=3) sc.nd rfl (jn rfl) (jb (pv 4)))))))
 (jo (jaO (j7 jpi (jk (jb (pv 2)) je (fun _ _=>rfl)) je (jL _))
 (js (jw (jaB (ja (je0 (jk (jb (pv 2)) je (fun _ _=>rfl))) (ja (je0 (jk (jb (pv 2)) je (fun _ _=>rfl))) (ja (je0 (jk (jb (pv 2)) je (fun _ _=>rfl))) jf))))))
 jaf)
 (js (jw (jb (pv 2)))))))),juf⟩)
def jej:jV:=fun ds Φ=>∃(w:P3) (m:Int) (k:Nat),ds=[.tup [pt w,.int m]]∧0<m∧k≤4000∧Bp k w∧Bd k m∧jA [w.x,w.y,w.z,m]=1∧∀s,DS w m s->Φ (stD s)
theorem jns:jX jej:=fun ds Φ Ψ mo h0=>by
 obtain⟨w,m,k,a,b,c,d,e,f,h⟩:=h0
 exact⟨w,m,k,a,b,c,d,e,f,fun s hs=>mo _ (h s hs)⟩
def jm3:S3 :=
 (jM (dF (jam (jc (ja9 (jc (jd 5) (jc (jd 8) (jc (jd 9) jj)))) (jc (ja9 (jc (dC (.int 0)) (jc (jd 6) (jc (jd 10) jj)))) (jc (ja9 (jc (dC (.int 0)) (jc (dC (.int 0)) (jc (jd 7) jj)))) jj))))))
def jhZ:S3 :=
 (jE (jD 10 (jg zR (jg zM (dU jjp (jg zD (jg zM (jg ju (jd 1) (dC (.int 1))) (jd 6)) (jg ju (jd 3) (dC (.int 0))))) (jg ju (jd 3) (dC (.int 1)))) (jd 7)))
 jm3)
def jh7:S3 :=
 (jE (jD 9 (jg zR (jg zM (dU jjp (jg zD (jg zA (jg zM (jg ju (jd 1) (dC (.int 0))) (jd 5)) (jg zM (jg ju (jd 1) (dC (.int 1))) (jd 8))) (jg ju (jd 3) (dC (.int 0))))) (jg ju (jd 3) (dC (.int 1)))) (jd 7)))
 jhZ)
def joq:S3 :=
 (jE (jD 8 (jg zR (jg zM (dU jjp (jg ju (jd 1) (dC (.int 0)))) (jg ju (jd 4) (dC (.int 1)))) (jd 6)))
 jh7)
def jo3:S3 :=
 (jE (jD 7 (jg zD (jd 2) (jg ju (jd 3) (dC (.int 0)))))
 joq)
def jor:S3 :=
 (jE (jD 6 (jg zD (jg ju (jd 3) (dC (.int 0))) (jg ju (jd 4) (dC (.int 0)))))
 jo3)
def jin:S3 :=
 (jE (jD 5 (jg ju (jd 4) (dC (.int 0))))
 jor)
def jis:S3 :=
 (jE (jD 4 (jC 2 jfd (jc (jg ju (jd 1) (dC (.int 1))) (jc (jg ju (jd 3) (dC (.int 0))) jj))))
 jin)
def jpe:S3 :=
 (jE (jD 3 (jC 2 jfd (jc (jg ju (jd 1) (dC (.int 2))) (jc (jd 2) jj))))
 jis)
def jpl:S3 :=
 (jE (jD 2 (jg ju (jd 0) (dC (.int 1))))
 jpe)
abbrev jkv:S3 :=
 (jE (jD 1 (jg ju (jd 0) (dC (.int 0))))
 jpl)
theorem jqk:∀(ds:List D) (Φ:D->Prop),ds.length=1->jej ds Φ->jkv (jH Φ) (jz 11 ds):=by
 rintro ds Φ hl ⟨w,m,k,rfl,m0,hk,bw,bm,one,h⟩
 refine⟨rfl,w.z,m,rfl,bw.z.mono hk,bm.mono hk,fun s t eg bs bt=>?_⟩
 have gz:(Int.gcd w.z m:Int)∣w.z:=Int.gcd_dvd_left ..
 have gm:(Int.gcd w.z m:Int)∣m:=Int.gcd_dvd_right ..
 have gpos:∀{a b:Int},0<b->0<(Int.gcd a b:Int):=fun h=>Int.natCast_pos.mpr (Int.gcd_pos_of_ne_zero_right _ (Int.ne_of_gt h))
 have g0:0<(Int.gcd w.z m:Int):=gpos m0
 show jis (jH Φ) [.val (.tup [pt w,.int m]),.val (pt w),.val (.int m),.val (.tup [.int (Int.gcd w.z m:Int),.int s,.int t]),.un,.un,.un,.un,.un,.un,.un]
 have bg:Bd k (Int.gcd w.z m:Int):=Nat.lt_of_le_of_lt (js6 m0 gm) bm
 generalize (Int.gcd w.z m:Int)=g at *
 refine⟨rfl,w.y,g,rfl,bw.y.mono hk,bg.mono hk,fun u v eh bu bv=>?_⟩
 have hy:(Int.gcd w.y g:Int)∣w.y:=Int.gcd_dvd_left ..
 have hg:(Int.gcd w.y g:Int)∣g:=Int.gcd_dvd_right ..
 have h0:0<(Int.gcd w.y g:Int):=gpos g0
 have bh:Bd k (Int.gcd w.y g:Int):=Nat.lt_of_le_of_lt (js6 g0 hg) bg
 show jin (jH Φ) [.val (.tup [pt w,.int m]),.val (pt w),.val (.int m),.val (.tup [.int g,.int s,.int t]),.val (.tup [.int (Int.gcd w.y g:Int),.int u,.int v]),.un,.un,.un,.un,.un,.un]
 generalize (Int.gcd w.y g:Int)=e at *
 have dsf:=jBq m0 one eg gz gm g0 eh hy hg h0
 obtain⟨⟨_,d0,f0,b0,b1,_,_,_,_⟩,_⟩:=id dsf
 have gz0:g≠0:=Int.ne_of_gt g0
 have ez0:e≠0:=Int.ne_of_gt h0
 have dz:g.fdiv e≠0:=Int.ne_of_gt d0
 have fz:m.fdiv g≠0:=Int.ne_of_gt f0
 have k1:k+1≤4001:=Nat.add_le_add_right hk 1
 have bd:Bd (k+1) (g.fdiv e):=joW bg ez0
 have bb:Bd (k+1) ((-w.x * u).fmod (g.fdiv e)):=Nat.lt_of_le_of_lt (juZ b0 (Int.le_of_lt b1)) bd
 have kk:k+(k+1)≤134217728:=Nat.le_trans (Nat.add_le_add hk k1) (by decide)
 have b9:∀{x:Int},Bd (2 * k+3) x->Bd 4010 s->IntMulOk (-(x.fdiv g)) s:=fun hx hs=>jcP ((joW hx gz0).neg) hs (Nat.le_trans (Nat.add_le_add_right (Nat.add_le_add_right (Nat.add_le_add_right (Nat.mul_le_mul_left 2 hk) 3) 1) 4010) (by decide))
 have m1:IntMulOk (-w.x) u:=jcP bw.x.neg bu (Nat.le_trans (Nat.add_le_add_right hk 4010) (by decide))
 have m2:IntMulOk w.x e:=jcP bw.x bh (Nat.le_trans (Nat.add_le_add hk hk) (by decide))
 have m3:IntMulOk w.y ((-w.x * u).fmod (g.fdiv e)):=jcP bw.y bb kk
 have m4:IntMulOk w.y (g.fdiv e):=jcP bw.y bd kk
 have kk2:k+(k+1)=2 * k+1:=by rw [Nat.two_mul,Nat.add_assoc]
 have p4:Bd (2 * k+3) (w.y * g.fdiv e):=(bw.y.mul bd).mono (Nat.le_trans (Nat.le_of_eq kk2) (Nat.le_add_right _ 2))
 have p3:Bd (2 * k+3) (w.x * e+w.y * (-w.x * u).fmod (g.fdiv e)):=(((bw.x.mul bh).mono (show k+k≤2 * k+1 from Nat.le_trans (Nat.le_of_eq (Nat.two_mul k).symm) (Nat.le_succ _))).add ((bw.y.mul bb).mono (Nat.le_of_eq kk2))).mono (by rw [Nat.max_self]; exact Nat.le_succ _)
 have k9:k≤9000:=Nat.le_trans hk (by decide)
 have cg:∀x:Int,CD x g:=fun x=>jhb gz0 bg k9
 have ce:∀x:Int,CD x e:=fun x=>jhb ez0 bh k9
 have n1:=b9 p3 bs
 have n2:=b9 p4 bs
 have hh:=h _ dsf
 refine⟨ce _,cg _,m1,dz,?_⟩
 show jh7 (jH Φ) [.val (.tup [pt w,.int m]),.val (pt w),.val (.int m),.val (.tup [.int g,.int s,.int t]),.val (.tup [.int e,.int u,.int v]),.val (.int e),.val (.int (g.fdiv e)),.val (.int (m.fdiv g)),.val (.int ((-w.x * u).fmod (g.fdiv e))),.un,.un]
 refine⟨m2,m3,cg _,n1,fz,?_⟩
 show jhZ (jH Φ) [.val (.tup [pt w,.int m]),.val (pt w),.val (.int m),.val (.tup [.int g,.int s,.int t]),.val (.tup [.int e,.int u,.int v]),.val (.int e),.val (.int (g.fdiv e)),.val (.int (m.fdiv g)),.val (.int ((-w.x * u).fmod (g.fdiv e))),.val (.int ((-((w.x * e+w.y * (-w.x * u).fmod (g.fdiv e)).fdiv g) * s).fmod (m.fdiv g))),.un]
 refine⟨m4,cg _,n2,fz,?_⟩
 exact⟨jv 3 rfl (by decide),jv 3 rfl (by decide),jv 3 rfl (by decide),jv 3 rfl (by decide),hh⟩
theorem jqq (T:Txt P w K mg t):FnOk P w K mg base j0 4 t.y54 t.y55 ["dial"] (spD K 1 jej):=by
 have sc:=jjL
 refine jU (k:=3) T.y170.F jjL (fun cdv A outer s H E hr=>⟨jkv,(jo (jp (i:=1) sc.nd rfl (jn rfl) (jk (jb (pv 0)) je (fun _ _=>rfl)))
 (jo (jp (i:=2) sc.nd rfl (jn rfl) (jk (jb (pv 0)) je (fun _ _=>rfl)))
 (jo (jp (i:=3) sc.nd rfl (jn rfl) (jq (jn2 T) jkd (hr.mono (by decide)) T.y169 (ja (jk (jb (pv 1)) je (fun _ _=>rfl)) (ja (jb (pv 2)) jf))))
 (jo (jp (i:=4) sc.nd rfl (jn rfl) (jq (jn2 T) jkd (hr.mono (by decide)) T.y169 (ja (jk (jb (pv 1)) je (fun _ _=>rfl)) (ja (jk (jb (pv 3)) je (fun _ _=>rfl)) jf))))
 (jo (jp (i:=5) sc.nd rfl (jn rfl) (jk (jb (pv 4)) je (fun _ _=>rfl)))
 (jo (jp (i:=6) sc.nd rfl (jn rfl) (jl jdd (jk (jb (pv 3)) je (fun _ _=>rfl)) (jk (jb (pv 4)) je (fun _ _=>rfl))))
 (jo (jp (i:=7) sc.nd rfl (jn rfl) (jl jdd (jb (pv 2)) (jk (jb (pv 3)) je (fun _ _=>rfl))))
 (jo (jp (i:=8) sc.nd rfl (jn rfl) (jl jfJ (jl jI (je0 (jk (jb (pv 1)) je (fun _ _=>rfl))) (jk (jb (pv 4)) je (fun _ _=>rfl))) (jb (pv 6))))
 (jo (jp (i:=9) sc.nd rfl (jn rfl) (jl jfJ (jl jI (je0 (jl jdd (jl jav (jl jI (jk (jb (pv 1)) je (fun _ _=>rfl)) (jb (pv 5))) (jl jI (jk (jb (pv 1)) je (fun _ _=>rfl)) (jb (pv 8)))) (jk (jb (pv 3)) je (fun _ _=>rfl)))) (jk (jb (pv 3)) je (fun _ _=>rfl))) (jb (pv 7))))
 (jo (jp (i:=10) sc.nd rfl (jn rfl) (jl jfJ (jl jI (je0 (jl jdd (jl jI (jk (jb (pv 1)) je (fun _ _=>rfl)) (jb (pv 6))) (jk (jb (pv 3)) je (fun _ _=>rfl)))) (jk (jb (pv 3)) je (fun _ _=>rfl))) (jb (pv 7))))
 (js (jw (jB (jak (ja (jaB (ja (jb (pv 5)) (ja (jb (pv 8)) (ja (jb (pv 9)) jf)))) (ja (jaB (ja je (ja (jb (pv 6)) (ja (jb (pv 10)) jf)))) (ja (jaB (ja je (ja je (ja (jb (pv 7)) jf)))) jf))))))))))))))))),jqk⟩)
def jeA:jV:=fun ds Φ=>∃(t:T9) (i:Int),ds=[tr t,.int i]∧((i=0∧Φ (pt (jS t).p))∨(i=1∧Φ (pt (jS t).q))∨(i=2∧Φ (pt (jS t).r)))
theorem jhA:jX jeA:=fun ds Φ Ψ mo h0=>by
 obtain⟨t,i,a,h⟩:=h0
 exact⟨t,i,a,h.imp (fun z=>⟨z.1,mo _ z.2⟩) fun h=>h.imp (fun z=>⟨z.1,mo _ z.2⟩) fun z=>⟨z.1,mo _ z.2⟩⟩
abbrev jsr:S3 :=
 (jM (dB je8 (jc (dF (jb4 1 (iLT (jd 0)) (gN 0) (fun _ Φ=>Φ true) (jg ju (jd 0) (jd 2)))) jj)))
theorem jwc:∀(ds:List D) (Φ:D->Prop),ds.length=2->jeA ds Φ->jsr (jH Φ) (jz 2 ds):=by
 rintro ds Φ hl ⟨t,i,rfl,⟨rfl,h⟩ | ⟨rfl,h⟩ | ⟨rfl,h⟩⟩
 ·exact⟨jag 0 rfl (by decide),jag 1 rfl (by decide),jag 2 rfl (by decide),h⟩
 ·exact⟨jag 0 rfl (by decide),jag 1 rfl (by decide),jag 2 rfl (by decide),h⟩
 ·exact⟨jag 0 rfl (by decide),jag 1 rfl (by decide),jag 2 rfl (by decide),h⟩
theorem jjZ (T:Txt P w K mg t):FnOk P w K mg base j0 1 t.y56 t.y57 ["rows","place"] (spD K 2 jeA):=by
 have sc:=jpE
 refine jU (k:=0) T.y171.F jpE (fun cdv A outer s H E hr=>⟨jsr,(js (jw (ja6 jet rfl T.y215 jdv (ja (jB (jbe (xs:=["row"]) (M:=["rows","place"]) (n:=1) (by rfl) rfl rfl (jbE (jb (pv 0))) (fun _ _ _ _=>(jaL (i:=0) (by decide) (show List.Nodup (["row","rows","place"]:List Str) by decide +kernel) rfl (by first | exact Or.inl rfl | exact Or.inr rfl))) (fun _ _ _ _=>jbh) (fun _ _ _ _=>(jk (jb (pv 0)) (jb (pv 2)) (fun _ _=>rfl))))) jf)))),jwc⟩)
def jgd:jV:=fun ds Φ=>∃(t:T9),ds=[tb t]∧Φ (tb (jS t))
theorem jg7:jX jgd:=fun ds Φ Ψ mo h0=>by
 obtain⟨t,a,h⟩:=h0
 exact⟨t,a,mo _ h⟩
def jwA:S3 :=
 (jM (ja9 (jc (ja9 (jc (jC 2 jeA (jc (jd 1) (jc (dC (.int 0)) jj))) (jc (jC 2 jeA (jc (jd 1) (jc (dC (.int 1)) jj))) (jc (jC 2 jeA (jc (jd 1) (jc (dC (.int 2)) jj))) jj)))) (jc (jg ju (jd 0) (dC (.int 1))) jj))))
abbrev jv1:S3 :=
 (jE (jD 1 (jg ju (jd 0) (dC (.int 0))))
 jwA)
theorem jyW:∀(ds:List D) (Φ:D->Prop),ds.length=1->jgd ds Φ->jv1 (jH Φ) (jz 2 ds):=by
 rintro ds Φ hl ⟨t,rfl,h⟩
 refine⟨rfl,t,0,rfl,.inl ⟨rfl,?_⟩⟩
 refine⟨rfl,t,1,rfl,.inr (.inl ⟨rfl,?_⟩)⟩
 refine⟨rfl,t,2,rfl,.inr (.inr ⟨rfl,?_⟩)⟩
 exact⟨jv 3 rfl (by decide),jv 2 rfl (by decide),h⟩
theorem jlx (T:Txt P w K mg t):FnOk P w K mg base j0 2 t.y58 t.y59 ["turn"] (spD K 1 jgd):=by
 have sc:=jta
 refine jU (k:=1) T.y172.F jta (fun cdv A outer s H E hr=>⟨jv1,(jo (jp (i:=1) sc.nd rfl (jn rfl) (jk (jb (pv 0)) je (fun _ _=>rfl)))
 (js (jw (jaB (ja (jaB (ja (jq (jjZ T) jhA (hr.mono (by decide)) T.y171 (ja (jb (pv 1)) (ja je jf))) (ja (jq (jjZ T) jhA (hr.mono (by decide)) T.y171 (ja (jb (pv 1)) (ja je jf))) (ja (jq (jjZ T) jhA (hr.mono (by decide)) T.y171 (ja (jb (pv 1)) (ja je jf))) jf)))) (ja (jk (jb (pv 0)) je (fun _ _=>rfl)) jf)))))),jyW⟩)
def jcT:jV:=fun ds Φ=>∃(n g:Int) (k:Nat),ds=[.int n,.int g]∧0<n∧k≤9000∧Bd k n∧∀c,PW n g c->Φ (.int c)
theorem jlU:jX jcT:=fun ds Φ Ψ mo h0=>by
 obtain⟨n,g,k,a,b,c,d,h⟩:=h0
 exact⟨n,g,k,a,b,c,d,fun c hc=>mo _ (h c hc)⟩
theorem jjQ {a b:Int}(h:0<b)(d:a∣b):a.natAbs≤b.natAbs:=Nat.le_of_dvd (by omega) (Int.natAbs_dvd_natAbs.mpr d)
def jjS:S3 :=
 (jD 3 (jC 2 jaW (jc (jd 2) (jc (jd 3) jj))))
abbrev jlM:S3 :=
 (jE (jD 2 (jg zD (jd 2) (jd 3)))
 jjS)
def jmS:S3 :=
 (jM (jd 2))
def jfZ:S3 :=
 (jE (jk3 (dT (jg dNe (jd 3) (dC (.int 1))))
 jlM)
 jmS)
def jmz:S3 :=
 (jE (jD 3 (jC 2 jaW (jc (jd 0) (jc (jd 1) jj))))
 jfZ)
abbrev jhW:S3 :=
 (jE (jD 2 (jd 0))
 jmz)
theorem jn5:∀(ds:List D) (Φ:D->Prop),ds.length=2->jcT ds Φ->jhW (jH Φ) (jz 4 ds):=by
 rintro ds Φ hl ⟨n,g,k,rfl,n0,hk,bn,h⟩
 refine⟨rfl,n,g,rfl,?_⟩
 show jfZ (jH Φ) [.val (.int n),.val (.int g),.val (.int n),.val (.int (Int.gcd n g:Int))]
 refine jla (fun ρ=>∃(r s:Int),ρ=[.val (.int n),.val (.int g),.val (.int r),.val (.int s)]∧0<r∧r∣n∧s∣r∧s∣g∧0≤s∧(∀d,d∣r->d∣g->d∣s)∧(∀d,d∣n->Cop d g->d∣r)) (fun ρ=>match ρ with | [_,_,.val (.int r),_]=>r.natAbs | _=>0) ⟨n,Int.gcd n g,rfl,n0,Int.dvd_refl n,Int.gcd_dvd_left ..,Int.gcd_dvd_right ..,Int.natCast_nonneg _,fun d a b=>Int.dvd_coe_gcd a b,fun d a _=>a⟩ ?_
 rintro ρ ⟨r,s,rfl,r0,rn,sr,sg,s0,com,all⟩
 refine tst (fun hc=>?_) (fun hc=>?_)
 ·have s1:s≠1:=by intro z; subst z; simp at hc
  have sz:s≠0:=fun z=>by subst z; have:=Int.zero_dvd.mp sr; omega
  have er:s * r.fdiv s=r:=Int.mul_fdiv_cancel' sr
  have bs:Bd k s:=Nat.lt_of_le_of_lt (Nat.le_trans (jjQ r0 sr) (jjQ n0 rn)) bn
  have q0:0<r.fdiv s:=by
   rcases Int.lt_or_le 0 (r.fdiv s) with z | z
   ·exact z
   ·have:=Int.mul_nonpos_of_nonneg_of_nonpos s0 z
    omega
  have qr:r.fdiv s∣r:=⟨s,by rw [Int.mul_comm]; exact er.symm⟩
  refine⟨jhb sz bs hk,?_⟩
  refine⟨rfl,r.fdiv s,s,rfl,_,?_,rfl,r.fdiv s,Int.gcd (r.fdiv s) s,rfl,q0,Int.dvd_trans qr rn,Int.gcd_dvd_left ..,Int.dvd_trans (Int.gcd_dvd_right ..) sg,Int.natCast_nonneg _,fun d a b=>Int.dvd_coe_gcd a (com d (Int.dvd_trans a qr) b),fun d a b=>?_⟩
  ·show (r.fdiv s).natAbs<r.natAbs
   have:2 * r.fdiv s≤s * r.fdiv s:=Int.mul_le_mul_of_nonneg_right (by omega) (by omega)
   omega
  ·have:=all d a b
   rw [←er] at this
   exact Cop.mul (fun e h1 h2=>b e h1 (Int.dvd_trans h2 sg)) this
 ·have s1:s=1:=by simpa using hc
  subst s1
  exact h r ⟨r0,rn,fun d a b=>com d a b,all⟩
theorem jn9 (T:Txt P w K mg t):FnOk P w K mg base j0 2 t.y60 t.y61 ["n","other"] (spD K 2 jcT):=by
 have sc:=jg2
 refine jU (k:=1) T.y173.F jg2 (fun cdv A outer s H E hr=>⟨jhW,(jo (jp (i:=2) sc.nd rfl (jn rfl) (jb (pv 0)))
 (jo (jp (i:=3) sc.nd rfl (jn rfl) (jq (jc8 T) jcA (hr.mono (by decide)) T.y156 (ja (jb (pv 0)) (ja (jb (pv 1)) jf))))
 (jo (jk9 PassesOwn.never (j7 jkg (jb (pv 3)) je (jL _))
 (jo (jp (i:=2) sc.nd rfl (jn rfl) (jl jdd (jb (pv 2)) (jb (pv 3))))
 (js (jp (i:=3) sc.nd rfl (jn rfl) (jq (jc8 T) jcA (hr.mono (by decide)) T.y156 (ja (jb (pv 2)) (ja (jb (pv 3)) jf)))))))
 (js (jw (jb (pv 2))))))),jn5⟩)
def jgO:jV:=fun ds Φ=>∃(t:T9) (k:Nat),ds=[tb t]∧jdc t∧jdc (jS t)∧k≤4000∧Bt k t∧∀w:P3,jhR t w->0≤w.x->w.x<t.n->0≤w.y->w.y<t.n->0≤w.z->w.z<t.n->Φ (.tup [pt w,.int t.n])
theorem jrQ:jX jgO:=fun ds Φ Ψ mo h0=>by
 obtain⟨t,k,a,b,c,d,e,h⟩:=h0
 exact⟨t,k,a,b,c,d,e,fun w h1 h2 h3 h4 h5 h6 h7=>mo _ (h w h1 h2 h3 h4 h5 h6 h7)⟩
theorem jvF {j k:Nat}{w r:P3}{c:Int}(hj:2 * k≤j)(bw:Bp j w)(bc:Bd k c)(br:Bp k r):Bp (j+1) (jZ 1 w c r):=by
 have f:∀{x y:Int},Bd j x->Bd k y->Bd (j+1) (1 * x+c * y):=fun hx hy=>by
  rw [Int.one_mul]
  exact(hx.add ((bc.mul hy).mono (show k+k≤j by omega))).mono (by omega)
 exact⟨f bw.x br.x,f bw.y br.y,f bw.z br.z⟩
abbrev jkn:S3 :=
 (jD 2 (jC 4 je1 (jc (jd 2) (jc (dC (.int 1)) (jc (jd 3) (jc (jC 2 jcT (jc (jd 1) (jc (jC 1 jcN (jc (jd 2) jj)) jj))) jj))))))
def jhw:S3 :=
 (jM (ja9 (jc (dB je8 (jc (dF (jb4 1 (iLT (jd 2)) (gN 0) (fun _ Φ=>Φ true) (jg zR (jd 0) (jd 2)))) jj)) (jc (jd 1) jj))))
def jsv:S3 :=
 (jE (jxw (iLT (jg ju (jC 1 jgd (jc (jd 0) jj)) (dC (.int 0)))) (gN 3)
 jkn)
 jhw)
def jsB:S3 :=
 (jE (jD 2 (ja9 (jc (dC (.int 0)) (jc (dC (.int 0)) (jc (dC (.int 0)) jj)))))
 jsv)
abbrev jpR:S3 :=
 (jE (jD 1 (jg ju (jd 0) (dC (.int 1))))
 jsB)
theorem juk:∀(ds:List D) (Φ:D->Prop),ds.length=1->jgO ds Φ->jpR (jH Φ) (jz 4 ds):=by
 rintro ds Φ hl ⟨t,k,rfl,ht,ht',hk,bt,h⟩
 have n1:=ht.n
 have n0:0<t.n:=n1
 have k1:k≤2 * k+1:=Nat.le_trans (Nat.le_mul_of_pos_left k (by decide)) (Nat.le_succ _)
 have k2:k≤2 * k+2:=Nat.le_trans k1 (Nat.le_succ _)
 have o1:1≤2 * k+1:=Nat.le_add_left 1 _
 have o2:1≤2 * k+2:=Nat.le_trans (by decide) (Nat.le_add_left 2 _)
 have g1:2 * k+1≤60000000:=Nat.le_trans (Nat.add_le_add_right (Nat.mul_le_mul_left 2 hk) 1) (by decide)
 have g2:2 * k+2≤60000000:=Nat.le_trans (Nat.add_le_add_right (Nat.mul_le_mul_left 2 hk) 2) (by decide)
 have k9:k≤9000:=Nat.le_trans hk (by decide)
 have bu:=juW bt
 refine⟨jv 3 rfl (by decide),rfl,t,rfl,?_⟩
 show FOR (gN 3) jkn [pt (jS t).p,pt (jS t).q,pt (jS t).r] (juo jhw (jH Φ)) [.val (tb t),.val (.int t.n),.val (pt z3),.un]
 have cb:∀{g c:Int},PW t.n g c->Bd k c:=fun hc=>Nat.lt_of_le_of_lt (Nat.le_of_dvd (Int.natAbs_pos.mpr (Int.ne_of_gt n0)) (Int.natAbs_dvd_natAbs.mpr hc.dvd)) bt.n
 have bz:Bp (2 * k) z3:=by
  have:Bd (2 * k) 0:=by unfold Bd; exact Nat.pow_pos (by decide)
  exact⟨this,this,this⟩
 have b1:∀{j:Nat},1≤j->Bd j (1:Int):=fun {j} hj=>by
  have:Bd 1 (1:Int):=jcq (by decide)
  exact this.mono hj
 refine jmB ⟨rfl,[z3.x,z3.y,z3.z],.inr rfl,rfl,t.n,_,k,rfl,n0,k9,bt.n,fun a ha=>⟨rfl,.inl ⟨z3,(jS t).p,1,a,2 * k+1,rfl,g1,bz.mono (Nat.le_succ _),bu.p.mono k1,b1 o1,(cb ha).mono k1,?_⟩⟩⟩
 have w1:=jvF (Nat.le_refl _) bz (cb ha) bu.p
 refine jmB ⟨rfl,[(jZ 1 z3 a (jS t).p).x,(jZ 1 z3 a (jS t).p).y,(jZ 1 z3 a (jS t).p).z],.inr rfl,rfl,t.n,_,k,rfl,n0,k9,bt.n,fun b hb=>⟨rfl,.inl ⟨jZ 1 z3 a (jS t).p,(jS t).q,1,b,2 * k+1,rfl,g1,w1,bu.q.mono k1,b1 o1,(cb hb).mono k1,?_⟩⟩⟩
 have w2:=jvF (Nat.le_succ _) w1 (cb hb) bu.q
 refine jmB ⟨rfl,[(jZ 1 (jZ 1 z3 a (jS t).p) b (jS t).q).x,(jZ 1 (jZ 1 z3 a (jS t).p) b (jS t).q).y,(jZ 1 (jZ 1 z3 a (jS t).p) b (jS t).q).z],.inr rfl,rfl,t.n,_,k,rfl,n0,k9,bt.n,fun c hc=>⟨rfl,.inl ⟨jZ 1 (jZ 1 z3 a (jS t).p) b (jS t).q,(jS t).r,1,c,2 * k+2,rfl,g2,w2,bu.r.mono k2,b1 o2,(cb hc).mono k2,?_⟩⟩⟩
 refine jy1 ?_
 have dl:=jxg (jxd ht ht' ha hb hc)
 show jhw (jH Φ) [.val (tb t),.val (.int t.n),.val (pt (jZ 1 (jZ 1 (jZ 1 z3 a (jS t).p) b (jS t).q) c (jS t).r)),.val (pt (jS t).r)]
 generalize jZ 1 (jZ 1 (jZ 1 z3 a (jS t).p) b (jS t).q) c (jS t).r=w at *
 have m0:t.n≠0:=Int.ne_of_gt n0
 refine⟨m0,jag 0 rfl (by decide),m0,jag 1 rfl (by decide),m0,jag 2 rfl (by decide),jv 2 rfl (by decide),?_⟩
 exact h (jpg w t.n) dl (Int.fmod_nonneg_of_pos _ n0) (Int.fmod_lt_of_pos _ n0) (Int.fmod_nonneg_of_pos _ n0) (Int.fmod_lt_of_pos _ n0) (Int.fmod_nonneg_of_pos _ n0) (Int.fmod_lt_of_pos _ n0)
theorem jtS (T:Txt P w K mg t):FnOk P w K mg base j0 3 t.y62 t.y63 ["turn"] (spD K 1 jgO):=by
 have sc:=jnL
 refine jU (k:=2) T.y174.F jnL (fun cdv A outer s H E hr=>⟨jpR,(jo (jp (i:=1) sc.nd rfl (jn rfl) (jk (jb (pv 0)) je (fun _ _=>rfl)))
 (jo (jp (i:=2) sc.nd rfl (jn rfl) (jaB (ja je (ja je (ja je jf)))))
 (jo (jtE PassesOwn.never rfl (jbE (jk (jq (jlx T) jg7 (hr.mono (by decide)) T.y172 (ja (jb (pv 0)) jf)) je (fun _ _=>rfl))) (jgi (i:=3) sc.nd rfl (jn rfl))
 (js (jp (i:=2) sc.nd rfl (jn rfl) (jq (jnH T) jkM (hr.mono (by decide)) T.y167 (ja (jb (pv 2)) (ja je (ja (jb (pv 3)) (ja (jq (jn9 T) jlU (hr.mono (by decide)) T.y173 (ja (jb (pv 1)) (ja (jq (jfO T) jef (hr.mono (by decide)) T.y157 (ja (jb (pv 2)) jf)) jf))) jf))))))))
 (js (jw (jaB (ja (ja6 jet rfl T.y215 jdv (ja (jB (jbe (xs:=["number"]) (M:=["turn","bottom","w","row"]) (n:=1) (by rfl) rfl rfl (jbE (jb (pv 2))) (fun _ _ _ _=>(jaL (i:=0) (by decide) (show List.Nodup (["number","turn","bottom","w","row"]:List Str) by decide +kernel) rfl (by first | exact Or.inl rfl | exact Or.inr rfl))) (fun _ _ _ _=>jbh) (fun _ _ _ _=>(jl jfJ (jb (pv 0)) (jb (pv 2)))))) jf)) (ja (jb (pv 1)) jf)))))))),juk⟩)
def jcQ:jV:=fun ds Φ=>∃(t:T9) (k:Nat),ds=[tb t]∧jdc t∧jdc (jS t)∧k≤4000∧Bt k t∧∀w s,jhR t w->Bp k w->DS w t.n s->Φ (stD s)
theorem jlL:jX jcQ:=fun ds Φ Ψ mo h0=>by
 obtain⟨t,k,a,b,c,d,e,h⟩:=h0
 exact⟨t,k,a,b,c,d,e,fun w s h1 h2 h3=>mo _ (h w s h1 h2 h3)⟩
abbrev jh1:S3 :=
 (jM (jC 1 jej (jc (jC 1 jgO (jc (jd 0) jj)) jj)))
theorem jn4:∀(ds:List D) (Φ:D->Prop),ds.length=1->jcQ ds Φ->jh1 (jH Φ) (jz 1 ds):=by
 rintro ds Φ hl ⟨t,k,rfl,ht,ht',hk,bt,h⟩
 have n1:=ht.n
 refine⟨rfl,t,k,rfl,ht,ht',hk,bt,fun w dl x0 x1 y0 y1 z0 z1=>?_⟩
 have lt:∀{x:Int},0≤x->x<t.n->Bd k x:=fun h0 h1=>Nat.lt_trans (by omega) bt.n
 have bw:Bp k w:=⟨lt x0 x1,lt y0 y1,lt z0 z1⟩
 exact⟨rfl,w,t.n,k,rfl,by omega,hk,bw,bt.n,dl.one,fun s hs=>h w s dl bw hs⟩
theorem jnO (T:Txt P w K mg t):FnOk P w K mg base j0 5 t.y64 t.y65 ["turn"] (spD K 1 jcQ):=by
 have sc:=jg1
 refine jU (k:=4) T.y175.F jg1 (fun cdv A outer s H E hr=>⟨jh1,(js (jw (jq (jqq T) jns (hr.mono (by decide)) T.y170 (ja (jq (jtS T) jrQ (hr.mono (by decide)) T.y174 (ja (jb (pv 0)) jf)) jf)))),jn4⟩)
def jAZ (s:S6):Str:=Txt.join " " [jW [s.a,s.b,s.c],jW [0,s.d,s.e],jW [0,0,s.f]]
def jd8:jV:=fun ds Φ=>∃(t:T9) (k:Nat),ds=[.lst [tb t]]∧jdc t∧jdc (jS t)∧k≤1900∧Bt k t∧∀w s,jhR t w->Bp k w->DS w t.n s->Φ (.str (jAZ s))
theorem jha:jX jd8:=fun ds Φ Ψ mo h0=>by
 obtain⟨t,k,a,b,c,d,e,h⟩:=h0
 exact⟨t,k,a,b,c,d,e,fun w s h1 h2 h3=>mo _ (h w s h1 h2 h3)⟩
abbrev jj4:S3 :=
 (jM (dMt jqD (dC (.str " ")) (dF (jb4 1 (iLT (jC 1 jcQ (jc (jg ju (jd 0) (dC (.int 0))) jj))) (gN 0) (fun _ Φ=>Φ true) (jC 1 jbd (jc (jd 0) jj))))))
theorem jqp:∀(ds:List D) (Φ:D->Prop),ds.length=1->jd8 ds Φ->jj4 (jH Φ) (jz 1 ds):=by
 rintro ds Φ hl ⟨t,k,rfl,it,it2,hk,bt,h⟩
 refine⟨rfl,t,k,rfl,it,it2,by omega,bt,fun w s iw bw hs=>?_⟩
 obtain⟨b1,b2,b3⟩:=jBK hs.st hs.vol bt.n
 have all:∀p:P3,Bp k p->∀n∈[p.x,p.y,p.z],Bd 1900 n:=fun p bp n hn=>by
  simp only [List.mem_cons,List.not_mem_nil,or_false] at hn
  rcases hn with rfl | rfl | rfl
  ·exact bp.x.mono hk
  ·exact bp.y.mono hk
  ·exact bp.z.mono hk
 refine⟨rfl,[s.a,s.b,s.c],rfl,(show 3≤4 by decide),all _ b1,jag 0 rfl (by decide),?_⟩
 refine⟨rfl,[0,s.d,s.e],rfl,(show 3≤4 by decide),all _ b2,jag 1 rfl (by decide),?_⟩
 refine⟨rfl,[0,0,s.f],rfl,(show 3≤4 by decide),all _ b3,jag 2 rfl (by decide),?_⟩
 refine⟨[jW [s.a,s.b,s.c],jW [0,s.d,s.e],jW [0,0,s.f]],rfl,?_,h w s iw bw hs⟩
 have l1:=jkb _ (all _ b1)
 have l2:=jkb _ (all _ b2)
 have l3:=jkb _ (all _ b3)
 have l1:(jW [s.a,s.b,s.c]).length≤602 * 3:=l1
 have l2:(jW [0,s.d,s.e]).length≤602 * 3:=l2
 have l3:(jW [0,0,s.f]).length≤602 * 3:=l3
 simp only [List.map_cons,List.map_nil,List.sum_cons,List.sum_nil,List.length_cons,List.length_nil]
 rw [show (" ":Str).length=1 from rfl]
 omega
theorem jqy (T:Txt P w K mg t):FnOk P w K mg base j0 6 t.y66 t.y67 ["told"] (spD K 1 jd8):=by
 have sc:=jjN
 refine jU (k:=5) T.y176.F jjN (fun cdv A outer s H E hr=>⟨jj4,(js (jw (jj8 PySem.F.slot_str_join PySem.F.type_str_join jrC jh (jB (jbe (xs:=["point"]) (M:=["told"]) (n:=1) (by rfl) rfl rfl (jbE (jq (jnO T) jlL (hr.mono (by decide)) T.y175 (ja (jk (jb (pv 0)) je (fun _ _=>rfl)) jf))) (fun _ _ _ _=>(jaL (i:=0) (by decide) (show List.Nodup (["point","told"]:List Str) by decide +kernel) rfl (by first | exact Or.inl rfl | exact Or.inr rfl))) (fun _ _ _ _=>jbh) (fun _ _ _ _=>(jq (jel T) jb3 (hr.mono (by decide)) T.y155 (ja (jb (pv 0)) jf)))))))),jqp⟩)
def jh6:jV:=fun ds Φ=>∃(t:T9) (p:P3) (k:Nat),ds=[tb t,pt p]∧t.n≠0∧k≤4000∧Bt k t∧Bp k p∧Φ (qd (jek (jbo t p)))
theorem jn7:jX jh6:=fun ds Φ Ψ mo h0=>by
 obtain⟨t,p,k,a,b,c,d,e,h⟩:=h0
 exact⟨t,p,k,a,b,c,d,e,mo _ h⟩
def jpU:S3 :=
 (jM (jC 2 jbS (jc (jd 2) (jc (jC 1 jcN (jc (jd 2) jj)) jj))))
abbrev js7:S3 :=
 (jE (jD 2 (jg jnR (dB je8 (jc (dF (jb4 1 (iLT (jg ju (jd 0) (dC (.int 0)))) (gN 0) (fun _ Φ=>Φ true) (jC 2 jdg (jc (jd 0) (jc (jd 2) jj))))) jj)) (ja9 (jc (jg ju (jd 0) (dC (.int 1))) jj))))
 jpU)
theorem jw2:∀(ds:List D) (Φ:D->Prop),ds.length=2->jh6 ds Φ->js7 (jH Φ) (jz 3 ds):=by
 rintro ds Φ hl ⟨t,p,k,rfl,h0,hk,bt,bp,h⟩
 have hk6:k≤60000000:=by omega
 refine⟨rfl,.inl ⟨t.p,p,k,rfl,hk6,bt.p,bp,jag 0 rfl (by decide),?_⟩⟩
 refine⟨rfl,.inl ⟨t.q,p,k,rfl,hk6,bt.q,bp,jag 1 rfl (by decide),?_⟩⟩
 refine⟨rfl,.inl ⟨t.r,p,k,rfl,hk6,bt.r,bp,jag 2 rfl (by decide),?_⟩⟩
 refine⟨jv 1 rfl (by decide),jv 4 rfl (by decide),?_⟩
 show jpU (jH Φ) [.val (tb t),.val (pt p),.val (qd (jbo t p))]
 have s0:=jtp (p:=p) h0
 have g0:jA (ql (jbo t p))≠0:=fun z=>s0 (jlm z)
 exact⟨rfl,ql (jbo t p),.inr rfl,rfl,ql (jbo t p),_,2 * k+2,rfl,(show 4≤100 by decide),g0,by omega,jrH (js4 bt bp),h⟩
theorem jqK (T:Txt P w K mg t):FnOk P w K mg base j0 3 t.y68 t.y69 ["turn","point"] (spD K 2 jh6):=by
 have sc:=jsp
 refine jU (k:=2) T.y177.F jsp (fun cdv A outer s H E hr=>⟨js7,(jo (jp (i:=2) sc.nd rfl (jn rfl) (jl jne (ja6 jet rfl T.y215 jdv (ja (jB (jbe (xs:=["row"]) (M:=["turn","point","spot"]) (n:=1) (by rfl) rfl rfl (jbE (jk (jb (pv 0)) je (fun _ _=>rfl))) (fun _ _ _ _=>(jaL (i:=0) (by decide) (show List.Nodup (["row","turn","point","spot"]:List Str) by decide +kernel) rfl (by first | exact Or.inl rfl | exact Or.inr rfl))) (fun _ _ _ _=>jbh) (fun _ _ _ _=>(jq (jkx T) jh5 (hr.mono (by decide)) T.y162 (ja (jb (pv 0)) (ja (jb (pv 2)) jf)))))) jf)) (jaB (ja (jk (jb (pv 0)) je (fun _ _=>rfl)) jf))))
 (js (jw (jq (jdj T) jcs (hr.mono (by decide)) T.y159 (ja (jb (pv 2)) (ja (jq (jfO T) jef (hr.mono (by decide)) T.y157 (ja (jb (pv 2)) jf)) jf)))))),jw2⟩)
def jeP:jV:=fun ds Φ=>∃(t:T9) (p:P3) (k:Nat),ds=[.lst [tb t,pt p]]∧t.n≠0∧k≤900∧Bt k t∧Bp k p∧Φ (.str (jW (ql (jek (jbo t p)))))
theorem jhP:jX jeP:=fun ds Φ Ψ mo h0=>by
 obtain⟨t,p,k,a,b,c,d,e,h⟩:=h0
 exact⟨t,p,k,a,b,c,d,e,mo _ h⟩
abbrev jl9:S3 :=
 (jM (jC 1 jbd (jc (jC 2 jh6 (jc (jg ju (jd 0) (dC (.int 0))) (jc (jg ju (jd 0) (dC (.int 1))) jj))) jj)))
theorem jrJ:∀(ds:List D) (Φ:D->Prop),ds.length=1->jeP ds Φ->jl9 (jH Φ) (jz 1 ds):=by
 rintro ds Φ hl ⟨t,p,k,rfl,n0,hk,bt,bp,h⟩
 refine⟨rfl,t,p,k,rfl,n0,by omega,bt,bp,?_⟩
 exact⟨rfl,ql (jek (jbo t p)),rfl,Nat.le_refl 4,jnW ((jyv (jtp n0) (js4 bt bp)).mono (by omega)),h⟩
theorem jqS (T:Txt P w K mg t):FnOk P w K mg base j0 4 t.y70 t.y71 ["told"] (spD K 1 jeP):=by
 have sc:=jjY
 refine jU (k:=3) T.y178.F jjY (fun cdv A outer s H E hr=>⟨jl9,(js (jw (jq (jel T) jb3 (hr.mono (by decide)) T.y155 (ja (jq (jqK T) jn7 (hr.mono (by decide)) T.y177 (ja (jk (jb (pv 0)) je (fun _ _=>rfl)) (ja (jk (jb (pv 0)) je (fun _ _=>rfl)) jf))) jf)))),jrJ⟩)
def jdi:jV:=fun ds Φ=>∃b:Bool,ds=[.bl b]∧Φ (.str (if b=true then "yes" else "no"))
theorem jhJ:jX jdi:=fun ds Φ Ψ mo h0=>by
 obtain⟨b,a,h⟩:=h0
 exact⟨b,a,mo _ h⟩
abbrev jlY:S3 :=
 (jM (dIf (dT (jd 0)) (dC (.str "yes")) (dC (.str "no"))))
theorem jqT:∀(ds:List D) (Φ:D->Prop),ds.length=1->jdi ds Φ->jlY (jH Φ) (jz 1 ds):=by
 rintro ds Φ hl ⟨b,rfl,h⟩
 cases b
 ·exact tF rfl h
 ·exact tT rfl h
theorem jky (T:Txt P w K mg t):FnOk P w K mg base j0 1 t.y72 t.y73 ["truth"] (spD K 1 jdi):=by
 have sc:=jkR
 refine jU (k:=0) T.y179.F jkR (fun cdv A outer s H E hr=>⟨jlY,(js (jw (jr9 (jd2 (jb (pv 0))) jh jh))),jqT⟩)
def jeQ:jV:=fun ds Φ=>∃(t:T9) (p:P3) (k:Nat),ds=[tb t,pt p]∧0<t.n∧k≤4000∧Bt k t∧Bp k p∧Φ (.bl (decide (Shr t p)))
theorem jpc:jX jeQ:=fun ds Φ Ψ mo h0=>by
 obtain⟨t,p,k,a,b,c,d,e,h⟩:=h0
 exact⟨t,p,k,a,b,c,d,e,mo _ h⟩
abbrev jl2:S3 :=
 (jM (jg dEq (jg ju (jC 2 jh6 (jc (jC 1 jgd (jc (jd 0) jj)) (jc (jd 1) jj))) (dC (.int 3))) (dC (.int 1))))
theorem jqL:∀(ds:List D) (Φ:D->Prop),ds.length=2->jeQ ds Φ->jl2 (jH Φ) (jz 2 ds):=by
 rintro ds Φ hl ⟨t,p,k,rfl,n0,hk,bt,bp,h⟩
 refine⟨rfl,t,rfl,rfl,jS t,p,k,rfl,(show t.n≠0 by omega),hk,juW bt,bp,?_⟩
 show Φ (.bl (decide ((jek (jbo (jS t) p)).d=1)))
 rw [show decide ((jek (jbo (jS t) p)).d=1)=decide (Shr t p) from decide_eq_decide.mpr (jwh (u:=jS t) n0)]
 exact h
theorem jry (T:Txt P w K mg t):FnOk P w K mg base j0 4 t.y74 t.y75 ["turn","point"] (spD K 2 jeQ):=by
 have sc:=jko
 refine jU (k:=3) T.y180.F jko (fun cdv A outer s H E hr=>⟨jl2,(js (jw (jm1 jjh (jk (jq (jqK T) jn7 (hr.mono (by decide)) T.y177 (ja (jq (jlx T) jg7 (hr.mono (by decide)) T.y172 (ja (jb (pv 0)) jf)) (ja (jb (pv 1)) jf))) je (fun _ _=>rfl)) je (jL _)))),jqL⟩)
def jdn:jV:=fun ds Φ=>∃(t:T9) (p:P3) (k:Nat),ds=[.lst [tb t,pt p]]∧0<t.n∧k≤4000∧Bt k t∧Bp k p∧Φ (.str (if decide (Shr t p)=true then "yes" else "no"))
theorem jge:jX jdn:=fun ds Φ Ψ mo h0=>by
 obtain⟨t,p,k,a,b,c,d,e,h⟩:=h0
 exact⟨t,p,k,a,b,c,d,e,mo _ h⟩
abbrev jjP:S3 :=
 (jM (jC 1 jdi (jc (jC 2 jeQ (jc (jg ju (jd 0) (dC (.int 0))) (jc (jg ju (jd 0) (dC (.int 1))) jj))) jj)))
theorem jog:∀(ds:List D) (Φ:D->Prop),ds.length=1->jdn ds Φ->jjP (jH Φ) (jz 1 ds):=by
 rintro ds Φ hl ⟨t,p,k,rfl,n0,hk,bt,bp,h⟩
 exact⟨rfl,t,p,k,rfl,n0,hk,bt,bp,rfl,_,rfl,h⟩
theorem joX (T:Txt P w K mg t):FnOk P w K mg base j0 5 t.y76 t.y77 ["told"] (spD K 1 jdn):=by
 have sc:=jhE
 refine jU (k:=4) T.y181.F jhE (fun cdv A outer s H E hr=>⟨jjP,(js (jw (jq (jky T) jhJ (hr.mono (by decide)) T.y179 (ja (jq (jry T) jpc (hr.mono (by decide)) T.y180 (ja (jk (jb (pv 0)) je (fun _ _=>rfl)) (ja (jk (jb (pv 0)) je (fun _ _=>rfl)) jf))) jf)))),jog⟩)
def jgT:jV:=fun ds Φ=>∃(q:Q4) (k:Nat),ds=[qd q]∧k≤4000∧Bq k q∧Φ (tr (ja3 q))
theorem jrY:jX jgT:=fun ds Φ Ψ mo h0=>by
 obtain⟨q,k,a,b,c,h⟩:=h0
 exact⟨q,k,a,b,c,mo _ h⟩
theorem jzr (q:Q4):D.tup [.tup [.int (q.a * q.a+q.b * q.b - q.c * q.c - q.d * q.d),.int (2 * q.b * q.c - 2 * q.a * q.d),.int (2 * q.b * q.d+2 * q.a * q.c)],
  .tup [.int (2 * q.b * q.c+2 * q.a * q.d),.int (q.a * q.a - q.b * q.b+q.c * q.c - q.d * q.d),.int (2 * q.c * q.d - 2 * q.a * q.b)],
  .tup [.int (2 * q.b * q.d - 2 * q.a * q.c),.int (2 * q.c * q.d+2 * q.a * q.b),.int (q.a * q.a - q.b * q.b - q.c * q.c+q.d * q.d)]]=tr (ja3 q):=by
 have e1:2 * q.b * q.c - 2 * q.a * q.d=2 * (q.b * q.c - q.a * q.d):=by grind
 have e2:2 * q.b * q.d+2 * q.a * q.c=2 * (q.b * q.d+q.a * q.c):=by grind
 have e3:2 * q.b * q.c+2 * q.a * q.d=2 * (q.b * q.c+q.a * q.d):=by grind
 have e4:2 * q.c * q.d - 2 * q.a * q.b=2 * (q.c * q.d - q.a * q.b):=by grind
 have e5:2 * q.b * q.d - 2 * q.a * q.c=2 * (q.b * q.d - q.a * q.c):=by grind
 have e6:2 * q.c * q.d+2 * q.a * q.b=2 * (q.c * q.d+q.a * q.b):=by grind
 rw [e1,e2,e3,e4,e5,e6]; rfl
def jma:S3 :=
 (jM (ja9 (jc (ja9 (jc (jg zS (jg zS (jg zA (jg zM (jd 1) (jd 1)) (jg zM (jd 2) (jd 2))) (jg zM (jd 3) (jd 3))) (jg zM (jd 4) (jd 4))) (jc (jg zS (jg zM (jg zM (dC (.int 2)) (jd 2)) (jd 3)) (jg zM (jg zM (dC (.int 2)) (jd 1)) (jd 4))) (jc (jg zA (jg zM (jg zM (dC (.int 2)) (jd 2)) (jd 4)) (jg zM (jg zM (dC (.int 2)) (jd 1)) (jd 3))) jj)))) (jc (ja9 (jc (jg zA (jg zM (jg zM (dC (.int 2)) (jd 2)) (jd 3)) (jg zM (jg zM (dC (.int 2)) (jd 1)) (jd 4))) (jc (jg zS (jg zA (jg zS (jg zM (jd 1) (jd 1)) (jg zM (jd 2) (jd 2))) (jg zM (jd 3) (jd 3))) (jg zM (jd 4) (jd 4))) (jc (jg zS (jg zM (jg zM (dC (.int 2)) (jd 3)) (jd 4)) (jg zM (jg zM (dC (.int 2)) (jd 1)) (jd 2))) jj)))) (jc (ja9 (jc (jg zS (jg zM (jg zM (dC (.int 2)) (jd 2)) (jd 4)) (jg zM (jg zM (dC (.int 2)) (jd 1)) (jd 3))) (jc (jg zA (jg zM (jg zM (dC (.int 2)) (jd 3)) (jd 4)) (jg zM (jg zM (dC (.int 2)) (jd 1)) (jd 2))) (jc (jg zA (jg zS (jg zS (jg zM (jd 1) (jd 1)) (jg zM (jd 2) (jd 2))) (jg zM (jd 3) (jd 3))) (jg zM (jd 4) (jd 4))) jj)))) jj)))))
def jsE:S3 :=
 (jE (jD 4 (jg ju (jd 0) (dC (.int 3))))
 jma)
def jsU:S3 :=
 (jE (jD 3 (jg ju (jd 0) (dC (.int 2))))
 jsE)
def jsO:S3 :=
 (jE (jD 2 (jg ju (jd 0) (dC (.int 1))))
 jsU)
abbrev jpP:S3 :=
 (jE (jD 1 (jg ju (jd 0) (dC (.int 0))))
 jsO)
theorem jtN:∀(ds:List D) (Φ:D->Prop),ds.length=1->jgT ds Φ->jpP (jH Φ) (jz 5 ds):=by
 rintro ds Φ hl ⟨q,k,rfl,hk,bq,h⟩
 have mk:∀{x y:Int},Bd k x->Bd k y->IntMulOk x y:=fun hx hy=>jcP hx hy (by omega)
 have m2:∀{x:Int},IntMulOk 2 x:=IntMulOk.of_left (by decide)
 have m3:∀{x y:Int},Bd k x->Bd k y->IntMulOk (2 * x) y:=fun hx hy=>jcP (jrf hx) hy (by omega)
 show jma (jH Φ) [.val (qd q),.val (.int q.a),.val (.int q.b),.val (.int q.c),.val (.int q.d)]
 have aa:=mk bq.a bq.a; have bb:=mk bq.b bq.b; have cc:=mk bq.c bq.c; have dd:=mk bq.d bq.d
 have ab:=m3 bq.a bq.b; have ac:=m3 bq.a bq.c; have ad:=m3 bq.a bq.d; have bc:=m3 bq.b bq.c; have bd:=m3 bq.b bq.d; have cd:=m3 bq.c bq.d
 rw [←jzr] at h
 exact⟨aa,bb,cc,dd,m2,bc,m2,ad,m2,bd,m2,ac,jv 3 rfl (by decide),m2,bc,m2,ad,aa,bb,cc,dd,m2,cd,m2,ab,jv 3 rfl (by decide),m2,bd,m2,ac,m2,cd,m2,ab,aa,bb,cc,dd,jv 3 rfl (by decide),jv 3 rfl (by decide),h⟩
theorem jui (T:Txt P w K mg t):FnOk P w K mg base j0 1 t.y78 t.y79 ["quad"] (spD K 1 jgT):=by
 have sc:=jm4
 refine jU (k:=0) T.y182.F jm4 (fun cdv A outer s H E hr=>⟨jpP,(jo (jp (i:=1) sc.nd rfl (jn rfl) (jk (jb (pv 0)) je (fun _ _=>rfl)))
 (jo (jp (i:=2) sc.nd rfl (jn rfl) (jk (jb (pv 0)) je (fun _ _=>rfl)))
 (jo (jp (i:=3) sc.nd rfl (jn rfl) (jk (jb (pv 0)) je (fun _ _=>rfl)))
 (jo (jp (i:=4) sc.nd rfl (jn rfl) (jk (jb (pv 0)) je (fun _ _=>rfl)))
 (js (jw (jaB (ja (jaB (ja (jl jaV (jl jaV (jl jav (jl jI (jb (pv 1)) (jb (pv 1))) (jl jI (jb (pv 2)) (jb (pv 2)))) (jl jI (jb (pv 3)) (jb (pv 3)))) (jl jI (jb (pv 4)) (jb (pv 4)))) (ja (jl jaV (jl jI (jl jI je (jb (pv 2))) (jb (pv 3))) (jl jI (jl jI je (jb (pv 1))) (jb (pv 4)))) (ja (jl jav (jl jI (jl jI je (jb (pv 2))) (jb (pv 4))) (jl jI (jl jI je (jb (pv 1))) (jb (pv 3)))) jf)))) (ja (jaB (ja (jl jav (jl jI (jl jI je (jb (pv 2))) (jb (pv 3))) (jl jI (jl jI je (jb (pv 1))) (jb (pv 4)))) (ja (jl jaV (jl jav (jl jaV (jl jI (jb (pv 1)) (jb (pv 1))) (jl jI (jb (pv 2)) (jb (pv 2)))) (jl jI (jb (pv 3)) (jb (pv 3)))) (jl jI (jb (pv 4)) (jb (pv 4)))) (ja (jl jaV (jl jI (jl jI je (jb (pv 3))) (jb (pv 4))) (jl jI (jl jI je (jb (pv 1))) (jb (pv 2)))) jf)))) (ja (jaB (ja (jl jaV (jl jI (jl jI je (jb (pv 2))) (jb (pv 4))) (jl jI (jl jI je (jb (pv 1))) (jb (pv 3)))) (ja (jl jav (jl jI (jl jI je (jb (pv 3))) (jb (pv 4))) (jl jI (jl jI je (jb (pv 1))) (jb (pv 2)))) (ja (jl jav (jl jaV (jl jaV (jl jI (jb (pv 1)) (jb (pv 1))) (jl jI (jb (pv 2)) (jb (pv 2)))) (jl jI (jb (pv 3)) (jb (pv 3)))) (jl jI (jb (pv 4)) (jb (pv 4)))) jf)))) jf)))))))))),jtN⟩)
def jcC:jV:=fun ds Φ=>∃(t:T9),ds=[tr t,.int t.n]∧Φ (.int (jA (tl t)))
theorem jlg:jX jcC:=fun ds Φ Ψ mo h0=>by
 obtain⟨t,a,h⟩:=h0
 exact⟨t,a,mo _ h⟩
abbrev jgN:S3 :=
 (jM (jC 1 jcN (jc (jg jnR (jg jnR (jg jnR (jg ju (jd 0) (dC (.int 0))) (jg ju (jd 0) (dC (.int 1)))) (jg ju (jd 0) (dC (.int 2)))) (ja9 (jc (jd 1) jj))) jj)))
theorem jmy:∀(ds:List D) (Φ:D->Prop),ds.length=2->jcC ds Φ->jgN (jH Φ) (jz 2 ds):=by
 rintro ds Φ hl ⟨t,rfl,h⟩
 exact⟨jv 6 rfl (by decide),jv 9 rfl (by decide),jv 1 rfl (by decide),jv 10 rfl (by decide),rfl,tl t,.inr rfl,h⟩
theorem jmP (T:Txt P w K mg t):FnOk P w K mg base j0 3 t.y80 t.y81 ["rows","bottom"] (spD K 2 jcC):=by
 have sc:=jgE
 refine jU (k:=2) T.y183.F jgE (fun cdv A outer s H E hr=>⟨jgN,(js (jw (jq (jfO T) jef (hr.mono (by decide)) T.y157 (ja (jl jne (jl jne (jl jne (jk (jb (pv 0)) je (fun _ _=>rfl)) (jk (jb (pv 0)) je (fun _ _=>rfl))) (jk (jb (pv 0)) je (fun _ _=>rfl))) (jaB (ja (jb (pv 1)) jf))) jf)))),jmy⟩)
def je2:jV:=fun ds Φ=>∃(q:Q4) (k:Nat),ds=[qd q]∧q≠q0∧k≤4000∧Bq k q∧Φ (tb (jm q))
theorem jjU:jX je2:=fun ds Φ Ψ mo h0=>by
 obtain⟨q,k,a,b,c,d,h⟩:=h0
 exact⟨q,k,a,b,c,d,mo _ h⟩
def jml:S3 :=
 (jM (ja9 (jc (ja9 (jc (jC 2 jbS (jc (jg ju (jd 2) (dC (.int 0))) (jc (jd 3) jj))) (jc (jC 2 jbS (jc (jg ju (jd 2) (dC (.int 1))) (jc (jd 3) jj))) (jc (jC 2 jbS (jc (jg ju (jd 2) (dC (.int 2))) (jc (jd 3) jj))) jj)))) (jc (jg zD (jd 1) (jd 3)) jj))))
def jsR:S3 :=
 (jE (jD 3 (jC 2 jcC (jc (jd 2) (jc (jd 1) jj))))
 jml)
def jsG:S3 :=
 (jE (jD 2 (jC 1 jgT (jc (jd 0) jj)))
 jsR)
def jhd:S3 :=
 (jE (sIf (dT (jg dEq (jd 1) (dC (.int 0))))
 jff
 jau)
 jsG)
abbrev jpC:S3 :=
 (jE (jD 1 (jC 1 jh8 (jc (jd 0) jj)))
 jhd)
theorem juM:∀(ds:List D) (Φ:D->Prop),ds.length=1->je2 ds Φ->jpC (jH Φ) (jz 4 ds):=by
 rintro ds Φ hl ⟨q,k,rfl,h0,hk,bq,h⟩
 have np:=jcH h0
 obtain⟨gp,gb⟩:=jyT (by rw [jvv]; omega) (jtk bq)
 have g0:jA (tl (ja3 q))≠0:=by omega
 refine⟨rfl,q,k,rfl,by omega,bq,?_⟩
 show jhd (jH Φ) [.val (qd q),.val (.int (jK q)),.un,.un]
 unfold jhd
 refine tF (decide_eq_false (by omega)) ?_
 refine⟨rfl,q,k,rfl,hk,bq,rfl,ja3 q,rfl,?_⟩
 show jml (jH Φ) [.val (qd q),.val (.int (jK q)),.val (tr (ja3 q)),.val (.int (jA (tl (ja3 q))))]
 have h:Φ (tb (jxq (ja3 q) (jA (tl (ja3 q))))):=h
 have hk9:2 * k+3≤9000:=by omega
 generalize jA (tl (ja3 q))=g at *
 generalize hrw:ja3 q=t at *
 have tn:jK q=t.n:=by rw [←hrw]; rfl
 rw [tn]
 refine⟨rfl,[t.p.x,t.p.y,t.p.z],g,2 * k+3,rfl,(show 3≤100 by decide),g0,hk9,gb,?_⟩
 refine⟨rfl,[t.q.x,t.q.y,t.q.z],g,2 * k+3,rfl,(show 3≤100 by decide),g0,hk9,gb,?_⟩
 refine⟨rfl,[t.r.x,t.r.y,t.r.z],g,2 * k+3,rfl,(show 3≤100 by decide),g0,hk9,gb,?_⟩
 exact⟨jv 3 rfl (by decide),jhb g0 gb hk9,jv 2 rfl (by decide),h⟩
theorem jnc (T:Txt P w K mg t):FnOk P w K mg base j0 4 t.y82 t.y83 ["quad"] (spD K 1 je2):=by
 have sc:=jfF
 refine jU (k:=3) T.y184.F jfF (fun cdv A outer s H E hr=>⟨jpC,(jo (jp (i:=1) sc.nd rfl (jn rfl) (jq (joy T) jkQ (hr.mono (by decide)) T.y163 (ja (jb (pv 0)) jf)))
 (jo (jaO (j7 jjh (jb (pv 1)) je (jL _))
 (js jcL)
 jaf)
 (jo (jp (i:=2) sc.nd rfl (jn rfl) (jq (jui T) jrY (hr.mono (by decide)) T.y182 (ja (jb (pv 0)) jf)))
 (jo (jp (i:=3) sc.nd rfl (jn rfl) (jq (jmP T) jlg (hr.mono (by decide)) T.y183 (ja (jb (pv 2)) (ja (jb (pv 1)) jf))))
 (js (jw (jaB (ja (jaB (ja (jq (jdj T) jcs (hr.mono (by decide)) T.y159 (ja (jk (jb (pv 2)) je (fun _ _=>rfl)) (ja (jb (pv 3)) jf))) (ja (jq (jdj T) jcs (hr.mono (by decide)) T.y159 (ja (jk (jb (pv 2)) je (fun _ _=>rfl)) (ja (jb (pv 3)) jf))) (ja (jq (jdj T) jcs (hr.mono (by decide)) T.y159 (ja (jk (jb (pv 2)) je (fun _ _=>rfl)) (ja (jb (pv 3)) jf))) jf)))) (ja (jl jdd (jb (pv 1)) (jb (pv 3))) jf))))))))),juM⟩)
def jdu:List D->Prop:=fun ds=>ds=[qd q0]
def jfW:jN->Prop :=
 (jnN (jD 1 (jC 1 jh8 (jc (jd 0) jj)))
 (rIf (dT (jg dEq (jd 1) (dC (.int 0))))
 (jc (dC (.str "the quad of four noughts has no turn")) jj)
 jau
 (fun _=>False)))
theorem jlS:∀(ds:List D),ds.length=1->jdu ds->jfW (jz 4 ds):=by
 rintro ds hl rfl
 have z:Bd 1 (0:Int):=jcq (by decide)
 refine⟨rfl,q0,1,rfl,by decide,⟨z,z,z,z⟩,?_⟩
 exact jv 1 rfl (by decide)
theorem jlJ (T:Txt P w K mg t):FnOk P w K mg base (CXC P w) 4 t.y82 t.y83 ["quad"] (spR K 1 t.y135 jdu):=by
 have sc:=jfF
 refine jnC (k:=3) T.y184.F jfF (fun cdv A outer s H E hr hR=>⟨jfW,(jmC (jp (i:=1) sc.nd rfl (jn rfl) (jq (joy T) jkQ (hr.mono (by decide)) T.y163 (ja (jb (pv 0)) jf)))
 (jhY (j7 jjh (jb (pv 1)) je (jL _))
 (jdW rfl rfl T.y227 T.y242 (ja jh jf) hR)
 jaf
 jgP)),jlS⟩)
def jg8:jV:=fun ds Φ=>∃(p q:Q4) (k:Nat),ds=[qd p,qd q]∧k≤60000000∧Bq k p∧Bq k q∧Φ (qd (jba p q))
theorem jrS:jX jg8:=fun ds Φ Ψ mo h0=>by
 obtain⟨p,q,k,a,b,c,d,h⟩:=h0
 exact⟨p,q,k,a,b,c,d,mo _ h⟩
abbrev jqe:S3 :=
 (jM (ja9 (jc (jg zS (jg zS (jg zS (jg zM (jg ju (jd 0) (dC (.int 0))) (jg ju (jd 1) (dC (.int 0)))) (jg zM (jg ju (jd 0) (dC (.int 1))) (jg ju (jd 1) (dC (.int 1))))) (jg zM (jg ju (jd 0) (dC (.int 2))) (jg ju (jd 1) (dC (.int 2))))) (jg zM (jg ju (jd 0) (dC (.int 3))) (jg ju (jd 1) (dC (.int 3))))) (jc (jg zS (jg zA (jg zA (jg zM (jg ju (jd 0) (dC (.int 0))) (jg ju (jd 1) (dC (.int 1)))) (jg zM (jg ju (jd 0) (dC (.int 1))) (jg ju (jd 1) (dC (.int 0))))) (jg zM (jg ju (jd 0) (dC (.int 2))) (jg ju (jd 1) (dC (.int 3))))) (jg zM (jg ju (jd 0) (dC (.int 3))) (jg ju (jd 1) (dC (.int 2))))) (jc (jg zA (jg zA (jg zS (jg zM (jg ju (jd 0) (dC (.int 0))) (jg ju (jd 1) (dC (.int 2)))) (jg zM (jg ju (jd 0) (dC (.int 1))) (jg ju (jd 1) (dC (.int 3))))) (jg zM (jg ju (jd 0) (dC (.int 2))) (jg ju (jd 1) (dC (.int 0))))) (jg zM (jg ju (jd 0) (dC (.int 3))) (jg ju (jd 1) (dC (.int 1))))) (jc (jg zA (jg zS (jg zA (jg zM (jg ju (jd 0) (dC (.int 0))) (jg ju (jd 1) (dC (.int 3)))) (jg zM (jg ju (jd 0) (dC (.int 1))) (jg ju (jd 1) (dC (.int 2))))) (jg zM (jg ju (jd 0) (dC (.int 2))) (jg ju (jd 1) (dC (.int 1))))) (jg zM (jg ju (jd 0) (dC (.int 3))) (jg ju (jd 1) (dC (.int 0))))) jj))))))
theorem jt4:∀(ds:List D) (Φ:D->Prop),ds.length=2->jg8 ds Φ->jqe (jH Φ) (jz 2 ds):=by
 rintro ds Φ hl ⟨p,q,k,rfl,hk,hp,hq,h⟩
 have mk:∀{x y:Int},Bd k x->Bd k y->IntMulOk x y:=fun hx hy=>jcP hx hy (by omega)
 exact⟨mk hp.a hq.a,mk hp.b hq.b,mk hp.c hq.c,mk hp.d hq.d,mk hp.a hq.b,mk hp.b hq.a,mk hp.c hq.d,mk hp.d hq.c,mk hp.a hq.c,mk hp.b hq.d,mk hp.c hq.a,mk hp.d hq.b,mk hp.a hq.d,mk hp.b hq.c,mk hp.c hq.b,mk hp.d hq.a,jv 4 rfl (by decide),h⟩
theorem juj (T:Txt P w K mg t):FnOk P w K mg base j0 1 t.y84 t.y85 ["one","other"] (spD K 2 jg8):=by
 have sc:=jnn
 refine jU (k:=0) T.y185.F jnn (fun cdv A outer s H E hr=>⟨jqe,(js (jw (jaB (ja (jl jaV (jl jaV (jl jaV (jl jI (jk (jb (pv 0)) je (fun _ _=>rfl)) (jk (jb (pv 1)) je (fun _ _=>rfl))) (jl jI (jk (jb (pv 0)) je (fun _ _=>rfl)) (jk (jb (pv 1)) je (fun _ _=>rfl)))) (jl jI (jk (jb (pv 0)) je (fun _ _=>rfl)) (jk (jb (pv 1)) je (fun _ _=>rfl)))) (jl jI (jk (jb (pv 0)) je (fun _ _=>rfl)) (jk (jb (pv 1)) je (fun _ _=>rfl)))) (ja (jl jaV (jl jav (jl jav (jl jI (jk (jb (pv 0)) je (fun _ _=>rfl)) (jk (jb (pv 1)) je (fun _ _=>rfl))) (jl jI (jk (jb (pv 0)) je (fun _ _=>rfl)) (jk (jb (pv 1)) je (fun _ _=>rfl)))) (jl jI (jk (jb (pv 0)) je (fun _ _=>rfl)) (jk (jb (pv 1)) je (fun _ _=>rfl)))) (jl jI (jk (jb (pv 0)) je (fun _ _=>rfl)) (jk (jb (pv 1)) je (fun _ _=>rfl)))) (ja (jl jav (jl jav (jl jaV (jl jI (jk (jb (pv 0)) je (fun _ _=>rfl)) (jk (jb (pv 1)) je (fun _ _=>rfl))) (jl jI (jk (jb (pv 0)) je (fun _ _=>rfl)) (jk (jb (pv 1)) je (fun _ _=>rfl)))) (jl jI (jk (jb (pv 0)) je (fun _ _=>rfl)) (jk (jb (pv 1)) je (fun _ _=>rfl)))) (jl jI (jk (jb (pv 0)) je (fun _ _=>rfl)) (jk (jb (pv 1)) je (fun _ _=>rfl)))) (ja (jl jav (jl jaV (jl jav (jl jI (jk (jb (pv 0)) je (fun _ _=>rfl)) (jk (jb (pv 1)) je (fun _ _=>rfl))) (jl jI (jk (jb (pv 0)) je (fun _ _=>rfl)) (jk (jb (pv 1)) je (fun _ _=>rfl)))) (jl jI (jk (jb (pv 0)) je (fun _ _=>rfl)) (jk (jb (pv 1)) je (fun _ _=>rfl)))) (jl jI (jk (jb (pv 0)) je (fun _ _=>rfl)) (jk (jb (pv 1)) je (fun _ _=>rfl)))) jf))))))),jt4⟩)
def jio:jV:=fun ds Φ=>∃(t u:T9) (p q:Q4) (k:Nat),ds=[tb t,tb u]∧t=jm p∧u=jm q∧p≠q0∧q≠q0∧k≤1990∧Bq k p∧Bq k q∧Φ (tb (jm (jba p q)))
theorem jnd:jX jio:=fun ds Φ Ψ mo h0=>by
 obtain⟨t,u,p,q,k,a,b,c,d,e,f,g,i,h⟩:=h0
 exact⟨t,u,p,q,k,a,b,c,d,e,f,g,i,mo _ h⟩
abbrev jth:S3 :=
 (jM (jC 1 je2 (jc (jC 2 jg8 (jc (jC 1 jdQ (jc (jd 0) jj)) (jc (jC 1 jdQ (jc (jd 1) jj)) jj))) jj)))
theorem jxA:∀(ds:List D) (Φ:D->Prop),ds.length=2->jio ds Φ->jth (jH Φ) (jz 2 ds):=by
 rintro ds Φ hl ⟨t,u,p,q,k,rfl,rfl,rfl,hp,hq,hk,bp,bq,h⟩
 have pp:=jmx bp hp
 have pq:=jmx bq hq
 refine⟨rfl,jm p,p,2 * k+3,rfl,rfl,hp,by omega,jdy hp bp,?_⟩
 refine⟨rfl,jm q,q,2 * k+3,rfl,rfl,hq,by omega,jdy hq bq,?_⟩
 refine⟨rfl,j2 p,j2 q,k,rfl,by omega,pp,pq,?_⟩
 refine⟨rfl,jba (j2 p) (j2 q),k+k+3,rfl,jph (jdI hp).ne (jdI hq).ne,by omega,pp.mul pq,?_⟩
 rw [jxf hp hq]; exact h
theorem jrx (T:Txt P w K mg t):FnOk P w K mg base j0 5 t.y86 t.y87 ["one","other"] (spD K 2 jio):=by
 have sc:=jss
 refine jU (k:=4) T.y186.F jss (fun cdv A outer s H E hr=>⟨jth,(js (jw (jq (jnc T) jjU (hr.mono (by decide)) T.y184 (ja (jq (juj T) jrS (hr.mono (by decide)) T.y185 (ja (jq (jiW T) jf0 (hr.mono (by decide)) T.y164 (ja (jb (pv 0)) jf)) (ja (jq (jiW T) jf0 (hr.mono (by decide)) T.y164 (ja (jb (pv 1)) jf)) jf))) jf)))),jxA⟩)
def jdp:jV:=fun ds Φ=>∃(p q:Q4) (k:Nat),ds=[tb (jm p),tb (jm q)]∧p≠q0∧q≠q0∧k≤1500∧Bq k p∧Bq k q∧Φ (.bl (decide ((jm (jba (jeK p) q)).n=1)))
theorem jmQ:jX jdp:=fun ds Φ Ψ mo h0=>by
 obtain⟨p,q,k,a,b,c,d,e,f,h⟩:=h0
 exact⟨p,q,k,a,b,c,d,e,f,mo _ h⟩
abbrev jjG:S3 :=
 (jM (jg dEq (jg ju (jC 2 jio (jc (jC 1 jgd (jc (jd 0) jj)) (jc (jd 1) jj))) (dC (.int 1))) (dC (.int 1))))
theorem joU:∀(ds:List D) (Φ:D->Prop),ds.length=2->jdp ds Φ->jjG (jH Φ) (jz 2 ds):=by
 rintro ds Φ hl ⟨p,q,k,rfl,hp,hq,hk,bp,bq,h⟩
 refine⟨rfl,jm p,rfl,?_⟩
 exact⟨rfl,jS (jm p),jm q,jeK p,q,k,rfl,jrh p,rfl,jtm hp,hq,by omega,bp.bar,bq,h⟩
theorem joN (T:Txt P w K mg t):FnOk P w K mg base j0 6 t.y88 t.y89 ["one","other"] (spD K 2 jdp):=by
 have sc:=jia
 refine jU (k:=5) T.y187.F jia (fun cdv A outer s H E hr=>⟨jjG,(js (jw (jm1 jjh (jk (jq (jrx T) jnd (hr.mono (by decide)) T.y186 (ja (jq (jlx T) jg7 (hr.mono (by decide)) T.y172 (ja (jb (pv 0)) jf)) (ja (jb (pv 1)) jf))) je (fun _ _=>rfl)) je (jL _)))),joU⟩)
def jeT:jV:=fun ds Φ=>∃(p q:Q4) (k:Nat),ds=[.lst [tb (jm p),tb (jm q)]]∧p≠q0∧q≠q0∧k≤1500∧Bq k p∧Bq k q∧Φ (.str (if decide ((jm (jba (jeK p) q)).n=1)=true then "yes" else "no"))
theorem jie:jX jeT:=fun ds Φ Ψ mo h0=>by
 obtain⟨p,q,k,a,b,c,d,e,f,h⟩:=h0
 exact⟨p,q,k,a,b,c,d,e,f,mo _ h⟩
abbrev jl3:S3 :=
 (jM (jC 1 jdi (jc (jC 2 jdp (jc (jg ju (jd 0) (dC (.int 0))) (jc (jg ju (jd 0) (dC (.int 1))) jj))) jj)))
theorem jrd:∀(ds:List D) (Φ:D->Prop),ds.length=1->jeT ds Φ->jl3 (jH Φ) (jz 1 ds):=by
 rintro ds Φ hl ⟨p,q,k,rfl,hp,hq,hk,bp,bq,h⟩
 exact⟨rfl,p,q,k,rfl,hp,hq,hk,bp,bq,rfl,_,rfl,h⟩
theorem jqJ (T:Txt P w K mg t):FnOk P w K mg base j0 7 t.y90 t.y91 ["told"] (spD K 1 jeT):=by
 have sc:=jkD
 refine jU (k:=6) T.y188.F jkD (fun cdv A outer s H E hr=>⟨jl3,(js (jw (jq (jky T) jhJ (hr.mono (by decide)) T.y179 (ja (jq (joN T) jmQ (hr.mono (by decide)) T.y187 (ja (jk (jb (pv 0)) je (fun _ _=>rfl)) (ja (jk (jb (pv 0)) je (fun _ _=>rfl)) jf))) jf)))),jrd⟩)
def jlH:jV:=fun ds Φ=>∃(t:T9) (k:Nat),ds=[tb t]∧0<t.n∧k≤9000∧Bd k t.n∧((∃s:Nat,s≤4∧jbb t=((s:Int) - 1) * t.n∧Φ (.int (jlD s)))∨(¬t.n∣jbb t∧Φ .non))
theorem juF:jX jlH:=fun ds Φ Ψ mo h0=>by
 obtain⟨t,k,a,b,c,d,h⟩:=h0
 exact⟨t,k,a,b,c,d,h.imp (fun⟨s,e,f,g⟩=>⟨s,e,f,mo _ g⟩) (fun⟨e,f⟩=>⟨e,mo _ f⟩)⟩
def jps:S3 :=
 (jM (jg ju (dC jiP) (jg zA (jg zD (jd 1) (jg ju (jd 0) (dC (.int 1)))) (dC (.int 1)))))
def jle:S3 :=
 (jE (sIf (dT (jg dNe (jg zR (jd 1) (jg ju (jd 0) (dC (.int 1)))) (dC (.int 0))))
 (jM (dC .non))
 jau)
 jps)
abbrev jtI:S3 :=
 (jE (jD 1 (dB jwZ (jc (dF (jb4 1 (iR1 (jc (dC (.int 3)) jj)) (gN 0) (fun _ Φ=>Φ true) (jg ju (jg ju (jg ju (jd 1) (dC (.int 0))) (jd 0)) (jd 0)))) jj)))
 jle)
theorem jxB:∀(ds:List D) (Φ:D->Prop),ds.length=1->jlH ds Φ->jtI (jH Φ) (jz 2 ds):=by
 rintro ds Φ hl ⟨t,k,rfl,n0,hk,bn,h⟩
 refine⟨show (-(2^62):Int)≤3 by decide,show (3:Int)<2^62 by decide,?_⟩
 refine⟨jag 0 rfl (by decide),jag 1 rfl (by decide),jag 2 rfl (by decide),[t.p.x,t.q.y,t.r.z],rfl,?_⟩
 have e:[t.p.x,t.q.y,t.r.z].sum=jbb t:=by simp only [List.sum_cons,List.sum_nil,jbb]; omega
 rw [e]
 show jle (jH Φ) [.val (tb t),.val (.int (jbb t))]
 unfold jle
 refine⟨Int.ne_of_gt n0,tst (fun hc=>?_) (fun hc=>?_)⟩
 ·have hc:¬(jbb t).fmod t.n=0:=by
   have:(!decide ((jbb t).fmod t.n=0))=true:=hc
   simpa using this
  rcases h with⟨s,_,e,_⟩ | ⟨_,h⟩
  ·exact absurd (by rw [e]; exact Int.mul_fmod_left _ _) hc
  ·exact h
 ·have hc:(jbb t).fmod t.n=0:=by
   have:(!decide ((jbb t).fmod t.n=0))=false:=hc
   simpa using this
  rcases h with⟨s,hs,e,h⟩ | ⟨h,_⟩
  ·unfold jps
   refine⟨jhb (Int.ne_of_gt n0) bn hk,?_⟩
   have e2:(jbb t).fdiv t.n+1=s:=by rw [e,Int.mul_fdiv_cancel _ (Int.ne_of_gt n0)]; omega
   show onS (atI _ ((jbb t).fdiv t.n+1)) _
   rw [e2]
   have hs':s=0∨s=1∨s=2∨s=3∨s=4:=by omega
   rcases hs' with rfl | rfl | rfl | rfl | rfl
   ·exact jaC (d:=D.int 2) rfl h
   ·exact jaC (d:=D.int 3) rfl h
   ·exact jaC (d:=D.int 4) rfl h
   ·exact jaC (d:=D.int 6) rfl h
   ·exact jaC (d:=D.int 1) rfl h
  ·exact absurd (Int.dvd_of_fmod_eq_zero hc) h
theorem jxi (T:Txt P w K mg t):FnOk P w K mg base j0 1 t.y92 t.y93 ["turn"] (spD K 1 jlH):=by
 have sc:=jsi
 refine jU (k:=0) T.y189.F jsi (fun cdv A outer s H E hr=>⟨jtI,(jo (jp (i:=1) sc.nd rfl (jn rfl) (jax (jxY rfl) rfl T.y214 juU (ja (jB (jbe (xs:=["place"]) (M:=["turn","slant"]) (n:=1) (by rfl) rfl rfl (jbz rfl T.y212 (ja je jf)) (fun _ _ _ _=>(jaL (i:=0) (by decide) (show List.Nodup (["place","turn","slant"]:List Str) by decide +kernel) rfl (by first | exact Or.inl rfl | exact Or.inr rfl))) (fun _ _ _ _=>jbh) (fun _ _ _ _=>(jk (jk (jk (jb (pv 1)) je (fun _ _=>rfl)) (jb (pv 0)) (fun _ _=>rfl)) (jb (pv 0)) (fun _ _=>rfl))))) jf)))
 (jo (jaO (j7 jkg (jl jfJ (jb (pv 1)) (jk (jb (pv 0)) je (fun _ _=>rfl))) je (jL _))
 (js (jw jq9))
 jaf)
 (js (jw (jk (jmY rfl T.y220 T.y221) (jl jav (jl jdd (jb (pv 1)) (jk (jb (pv 0)) je (fun _ _=>rfl))) je) (fun _ _=>rfl)))))),jxB⟩)
def jd1:jV:=fun ds Φ=>∃(t:T9) (k:Nat),ds=[.lst [tb t]]∧0<t.n∧k≤9000∧Bd k t.n∧((∃s:Nat,s≤4∧jbb t=((s:Int) - 1) * t.n∧Φ (.str (jaJ (jlD s))))∨(¬t.n∣jbb t∧Φ (.str "never")))
theorem jgQ:jX jd1:=fun ds Φ Ψ mo h0=>by
 obtain⟨t,k,a,b,c,d,h⟩:=h0
 exact⟨t,k,a,b,c,d,h.imp (fun⟨s,e,f,g⟩=>⟨s,e,f,mo _ g⟩) (fun⟨e,f⟩=>⟨e,mo _ f⟩)⟩
theorem jAY:∀s:Nat,s≤4->(jlD s).natAbs.log2<1920
 | 0,_=>by decide
 | 1,_=>by decide
 | 2,_=>by decide
 | 3,_=>by decide
 | 4,_=>by decide
 | _+5,h=>absurd h (by omega)
def jpd:S3 :=
 (jM (dB jo7 (jc (jd 1) jj)))
def jb8:S3 :=
 (jE (sIf (dT (jg jzC (jd 1) (dC .non)))
 (jM (dC (.str "never")))
 jau)
 jpd)
abbrev jkX:S3 :=
 (jE (jD 1 (jC 1 jlH (jc (jg ju (jd 0) (dC (.int 0))) jj)))
 jb8)
theorem jqo:∀(ds:List D) (Φ:D->Prop),ds.length=1->jd1 ds Φ->jkX (jH Φ) (jz 2 ds):=by
 rintro ds Φ hl ⟨t,k,rfl,n0,hk,bn,h⟩
 refine⟨rfl,t,k,rfl,n0,hk,bn,?_⟩
 refine h.imp (fun⟨s,e,f,g⟩=>⟨s,e,f,?_⟩) (fun⟨e,f⟩=>⟨e,?_⟩)
 ·show jb8 (jH Φ) [.val (.lst [tb t]),.val (.int (jlD s))]
  unfold jb8
  refine tF rfl ?_
  exact⟨jAY s e,g⟩
 ·show jb8 (jH Φ) [.val (.lst [tb t]),.val .non]
  unfold jb8
  exact tT rfl f
theorem jqs (T:Txt P w K mg t):FnOk P w K mg base j0 2 t.y94 t.y95 ["told"] (spD K 1 jd1):=by
 have sc:=jjC
 refine jU (k:=1) T.y190.F jjC (fun cdv A outer s H E hr=>⟨jkX,(jo (jp (i:=1) sc.nd rfl (jn rfl) (jq (jxi T) juF (hr.mono (by decide)) T.y189 (ja (jk (jb (pv 0)) je (fun _ _=>rfl)) jf)))
 (jo (jaO (j7 jBp (jb (pv 1)) jq9 (jL _))
 (js (jw jh))
 jaf)
 (js (jw (ja6 jqC rfl T.y213 jhN (ja (jb (pv 1)) jf)))))),jqo⟩)
def jcR:jV:=fun ds Φ=>∃(x:D) (q:Q4) (k:Nat),ds=[.lst [x,qd q]]∧q≠q0∧k≤4000∧Bq k q∧Φ (tb (jm q))
theorem jfy:jX jcR:=fun ds Φ Ψ mo h0=>by
 obtain⟨x,q,k,a,b,c,d,h⟩:=h0
 exact⟨x,q,k,a,b,c,d,mo _ h⟩
abbrev jiC:S3 :=
 (jM (jC 1 je2 (jc (jg ju (jd 0) (dC (.int 1))) jj)))
theorem joa:∀(ds:List D) (Φ:D->Prop),ds.length=1->jcR ds Φ->jiC (jH Φ) (jz 1 ds):=by
 rintro ds Φ hl ⟨x,q,k,rfl,h0,hk,bq,h⟩
 exact⟨rfl,q,k,rfl,h0,hk,bq,h⟩
theorem jnb (T:Txt P w K mg t):FnOk P w K mg base j0 5 t.y96 t.y97 ["told"] (spD K 1 jcR):=by
 have sc:=jcD
 refine jU (k:=4) T.y191.F jcD (fun cdv A outer s H E hr=>⟨jiC,(js (jw (jq (jnc T) jjU (hr.mono (by decide)) T.y184 (ja (jk (jb (pv 0)) je (fun _ _=>rfl)) jf)))),joa⟩)
def jcb:List D->Prop:=fun ds=>∃x:D,ds=[.lst [x,qd q0]]
def jdE:jN->Prop :=
 (fun ρ=>(jc (jg ju (jd 0) (dC (.int 1))) jj) ρ fun ds=>ds.length=1∧jdu ds)
theorem jhp:∀(ds:List D),ds.length=1->jcb ds->jdE (jz 1 ds):=by
 rintro ds hl ⟨x,rfl⟩
 exact⟨rfl,rfl⟩
theorem jhj (T:Txt P w K mg t):FnOk P w K mg base (CXC P w) 5 t.y96 t.y97 ["told"] (spR K 1 t.y135 jcb):=by
 have sc:=jcD
 refine jAF (k:=4) T.y191.F jcD (fun cdv A outer s H E hr hR hP=>⟨jdE,(jyq (jy7 (jfY hP (jlJ T) (hr.mono (by decide)) rfl T.y184.m T.y184.F.kp T.y184.b (ja (jk (jb (pv 0)) je (fun _ _=>rfl)) jf)))),jhp⟩)
def jds:jV:=fun ds Φ=>∃(x:D) (p q:Q4) (k:Nat),ds=[.lst [x,tb (jm p),tb (jm q)]]∧p≠q0∧q≠q0∧k≤1500∧Bq k p∧Bq k q∧Φ (tb (jm (jba p q)))
theorem jfX:jX jds:=fun ds Φ Ψ mo h0=>by
 obtain⟨x,p,q,k,a,b,c,d,e,f,h⟩:=h0
 exact⟨x,p,q,k,a,b,c,d,e,f,mo _ h⟩
abbrev jjF:S3 :=
 (jM (jC 2 jio (jc (jg ju (jd 0) (dC (.int 1))) (jc (jg ju (jd 0) (dC (.int 2))) jj))))
theorem jpj:∀(ds:List D) (Φ:D->Prop),ds.length=1->jds ds Φ->jjF (jH Φ) (jz 1 ds):=by
 rintro ds Φ hl ⟨x,p,q,k,rfl,hp,hq,hk,bp,bq,h⟩
 exact⟨rfl,jm p,jm q,p,q,k,rfl,rfl,rfl,hp,hq,by omega,bp,bq,h⟩
theorem joZ (T:Txt P w K mg t):FnOk P w K mg base j0 6 t.y98 t.y99 ["told"] (spD K 1 jds):=by
 have sc:=jhM
 refine jU (k:=5) T.y192.F jhM (fun cdv A outer s H E hr=>⟨jjF,(js (jw (jq (jrx T) jnd (hr.mono (by decide)) T.y186 (ja (jk (jb (pv 0)) je (fun _ _=>rfl)) (ja (jk (jb (pv 0)) je (fun _ _=>rfl)) jf))))),jpj⟩)
def jeZ:jV:=fun ds Φ=>∃(x:D) (t:T9),ds=[.lst [x,tb t]]∧Φ (tb (jS t))
theorem jiv:jX jeZ:=fun ds Φ Ψ mo h0=>by
 obtain⟨x,t,a,h⟩:=h0
 exact⟨x,t,a,mo _ h⟩
abbrev jmi:S3 :=
 (jM (jC 1 jgd (jc (jg ju (jd 0) (dC (.int 1))) jj)))
theorem jst:∀(ds:List D) (Φ:D->Prop),ds.length=1->jeZ ds Φ->jmi (jH Φ) (jz 1 ds):=by
 rintro ds Φ hl ⟨x,t,rfl,h⟩
 exact⟨rfl,t,rfl,h⟩
theorem jrT (T:Txt P w K mg t):FnOk P w K mg base j0 3 t.y100 t.y101 ["told"] (spD K 1 jeZ):=by
 have sc:=jj2
 refine jU (k:=2) T.y193.F jj2 (fun cdv A outer s H E hr=>⟨jmi,(js (jw (jq (jlx T) jg7 (hr.mono (by decide)) T.y172 (ja (jk (jb (pv 0)) je (fun _ _=>rfl)) jf)))),jst⟩)
abbrev jgK:List jV:=[jcR,jds,jeZ]
theorem jni:∀C∈jgK,jX C:=(List.forall_mem_cons.mpr ⟨jfy,(List.forall_mem_cons.mpr ⟨jfX,(List.forall_mem_cons.mpr ⟨jiv,(fun _ h=>by cases h)⟩)⟩)⟩)
abbrev jcZ:List jV:=[jeU,jdm,jd8,jeP,jdn,jeT,jd1]
theorem jsY:∀C∈jcZ,jX C:=(List.forall_mem_cons.mpr ⟨jhT,(List.forall_mem_cons.mpr ⟨jga,(List.forall_mem_cons.mpr ⟨jha,(List.forall_mem_cons.mpr ⟨jhP,(List.forall_mem_cons.mpr ⟨jge,(List.forall_mem_cons.mpr ⟨jie,(List.forall_mem_cons.mpr ⟨jgQ,(fun _ h=>by cases h)⟩)⟩)⟩)⟩)⟩)⟩)⟩)
def jaU:jhl:=fun as W Φ=>∃(o:Ob) (z w:Str) (ws kd:List Str) (ms:List D),as=[.raw (.ref o.p),.val (.str z)]∧o∈W∧o.p≠o.q∧z.length≤10000∧Txt.split z " "=w::ws∧jP ks_ROWS jaH w=some (.tup (kd.map .str))∧kd.length=ws.length∧kd.length≤3∧joK o kd ws ms ∧
 ((∃C,jP ks_TELLERS jcZ w=some C∧C [.lst ms] fun d=>Φ d W) ∨
   (w∉ks_TELLERS∧∃C n,jP ks_MAKERS jgK w=some C∧ws[0]?=some n∧o.ks.length<sizeLine∧C [.lst ms] fun d=>NoL d∧Φ (.str "ok") (jex W (o.put n d))) ∨
   (w∉ks_TELLERS∧w∉ks_MAKERS∧∃n c,ws[0]?=some n∧jP o.ks o.ds n=some c∧Φ (.str "ok") (jex W (o.drop n))))
theorem jf3 {α:Type}{x:Str}{d:α}:∀{ks:List Str} {ds:List α},jP ks ds x=some d->d∈ds
 | [],_,e=>by cases e
 | _::_,[],e=>by cases e
 | k::ks,c::ds,e=>by
  unfold jP at e
  split at e
  ·cases e; exact List.mem_cons_self
  ·exact List.mem_cons_of_mem _ (jf3 e)
theorem jbV:ji3 jaU:=fun as W Φ Ψ mo ⟨o,z,w,ws,kd,ms,a,b,c,d,e,f,g,h,i,j⟩=>by
 refine⟨o,z,w,ws,kd,ms,a,b,c,d,e,f,g,h,i,?_⟩
 rcases j with⟨C,hC,j⟩ | ⟨hn,C,n,hC,h0,hs,j⟩ | ⟨hn,hn2,n,c,h0,hg,j⟩
 ·exact .inl ⟨C,hC,jsY C (jf3 hC) _ _ _ (fun d hd=>mo _ _ hd) j⟩
 ·exact .inr (.inl ⟨hn,C,n,hC,h0,hs,jni C (jf3 hC) _ _ _ (fun d hd=>⟨hd.1,mo _ _ hd.2⟩) j⟩)
 ·exact .inr (.inr ⟨hn,hn2,n,c,h0,hg,mo _ _ j⟩)
def jid:S4 :=
 (jay (jM (dC (.str "ok"))))
def jii:S4 :=
 (ja8 (wIf (jd0 (dT (jkO ks_MAKERS false (jd 3))))
 (jx0 (jmU 0) (jg ju (jd 2) (dC (.int 1))) (jae (jr2 ks_MAKERS jgK (jd 3) (jd 4))))
 (jtW (jz0 (jmU 0) (jg ju (jd 2) (dC (.int 1))))))
 jid)
def jod:S4 :=
 (ja8 (jay (sIf (dT (jkO ks_TELLERS false (jd 3)))
 (jM (jr2 ks_TELLERS jcZ (jd 3) (jd 4)))
 jau))
 jii)
def jos:S4 :=
 (ja8 (jt6 4 (jbu 0 2 jdZ (jah (jae (jd 2)) jaE)))
 jod)
def jo9:S4 :=
 (ja8 (jay (jD 3 (jg ju (jd 2) (dC (.int 0)))))
 jos)
abbrev jxX:S4 :=
 (ja8 (jay (jD 2 (jC 1 jcg (jc (jd 1) jj))))
 jo9)
theorem jzX:∀(as:List Sl) (W:Wd) (Φ:D->Wd->Prop),as.length=2->jaU as W Φ->jxX (jbr Φ) (ja0 5 as) W:=by
 rintro as W Φ hl ⟨o,z,w,ws,kd,ms,rfl,ho,hpq,hz,hs,hk,hkl,hk3,hm,h⟩
 refine⟨rfl,z,w,ws,kd.map .str,rfl,hz,hs,hk,by rw [List.length_map]; exact hkl,jy rfl,?_⟩
 show jo9 (jbr Φ) [.raw (.ref o.p),.val (.str z),.val (.lst ((w::ws).map .str)),.un,.un] W
 unfold jo9
 refine jaC (d:=.str w) (jeY ..) ?_
 refine⟨jy rfl,?_⟩
 show jos (jbr Φ) [.raw (.ref o.p),.val (.str z),.val (.lst ((w::ws).map .str)),.val (.str w),.un] W
 unfold jos
 refine⟨⟨o,ho,rfl,hpq⟩,rfl,o,w,ws,kd,ms,rfl,ho,hpq,hk,hk3,hm,?_⟩
 show jod (jbr Φ) [.raw (.ref o.p),.val (.str z),.val (.lst ((w::ws).map .str)),.val (.str w),.val (.lst ms)] W
 unfold jod
 rcases h with⟨C,hC,h⟩ | ⟨hn,C,n,hC,h0,hsz,h⟩ | ⟨hn,hn2,n,c,h0,hg,h⟩
 ·exact tT (by rw [decide_eq_true (ji4 hC)]; rfl) ⟨C,hC,h⟩
 ·refine tF (by rw [decide_eq_false hn]; rfl) ⟨jy rfl,?_⟩
  show jii (jbr Φ) [.raw (.ref o.p),.val (.str z),.val (.lst ((w::ws).map .str)),.val (.str w),.val (.lst ms)] W
  unfold jii
  refine tT (by rw [decide_eq_true (ji4 hC)]; rfl) ⟨C,hC,jni C (jf3 hC) _ _ _ (fun d hd=>?_) h⟩
  refine⟨o,ho,rfl,hpq,?_⟩
  refine jaC (d:=.str n) (by rw [jxW]; show (ws.map D.str)[0]?=_; rw [List.getElem?_map,h0]; rfl) ?_
  refine⟨hd.1,hsz,?_⟩
  show jid (jbr Φ) _ _
  unfold jid
  exact hd.2
 ·refine tF (by rw [decide_eq_false hn]; rfl) ⟨jy rfl,?_⟩
  show jii (jbr Φ) [.raw (.ref o.p),.val (.str z),.val (.lst ((w::ws).map .str)),.val (.str w),.val (.lst ms)] W
  unfold jii
  refine tF (by rw [decide_eq_false hn2]; rfl) ⟨o,ho,rfl,hpq,?_⟩
  refine jaC (d:=.str n) (by rw [jxW]; show (ws.map D.str)[0]?=_; rw [List.getElem?_map,h0]; rfl) ?_
  refine⟨c,hg,?_⟩
  show jid (jbr Φ) _ _
  unfold jid
  exact h
theorem jtf {g:G3}{tb:S4}{Φ:F4->Prop}(I:Nat->jN->Wd->Prop):∀(xs:List D) (i:Nat) (ρ:jN) (W:Wd),I i ρ W->(∀(j:Nat) d ρ W,xs[j]?=some d->I (i+j) ρ W->∀Ψ:F4->Prop,(∀ρ' W',I (i+j+1) ρ' W'->Ψ (.nx ρ' W'))->g d ρ fun ρ1=>noDct ρ1∧tb Ψ ρ1 W)->(∀ρ W,I (i+xs.length) ρ W->Φ (.nx ρ W))->jhs g tb xs Φ ρ W
 | [],i,ρ,W,h,_,hf=>hf ρ W h
 | d::xs,i,ρ,W,h,st,hf=>by
  refine st 0 d ρ W rfl h _ fun ρ' W' h'=>jtf I xs (i+1) ρ' W' h' (fun j d ρ W e hI Ψ hΨ=>?_) fun ρ W hI=>hf ρ W ?_
  ·refine st (j+1) d ρ W e (by rw [show i+(j+1)=i+1+j by omega]; exact hI) Ψ fun ρ' W' h'=>hΨ ρ' W' (by rw [show i+1+j+1=i+(j+1)+1 by omega]; exact h')
  ·rw [show i+(d::xs).length=i+1+xs.length by rw [List.length_cons]; omega]; exact hI
theorem jh0 (d:D):ndS (.val d)=true:=rfl
theorem jh3 (d:V):ndS (.raw d)=true:=rfl
theorem jlj:ndS .un=true:=rfl
theorem jfS (x:Str):jF (.str x) (.str x)=true:=by simp [jF]
theorem jb0 {n:Str}(h:j6 n=true):32∉cp n:=fun z=>by
 unfold j6 at h
 simp only [Bool.and_eq_true] at h
 have:=List.all_eq_true.mp h.2 _ z
 exact absurd this (by decide +kernel)
theorem ja2 {n:Str}(h:j6 n=true):n.length≤8:=by
 unfold j6 at h
 simp only [Bool.and_eq_true] at h
 exact of_decide_eq_true h.1.2
theorem jo5 (c:Nat):jdl c []=[]:=rfl
theorem jlB (c:Nat)(q:Str)(r:List Str):jdl c (q::r)=c::(cp q++jdl c r):=by
 show c::cp (Str.join ⟨#[c]⟩ (q::r))=_
 rw [jcc]
theorem jnq {c e:Nat}(hc:e≠c):∀l:List Str,(∀p∈l,e∉cp p)->e∉jdl c l
 | [],_,z=>by cases z
 | p::l,h,z=>by
  have z:e∈c::(cp p++jdl c l):=by rw [jlB] at z; exact z
  rcases List.mem_cons.mp z with z | z
  ·exact hc z
  ·rcases List.mem_append.mp z with z | z
   ·exact h p List.mem_cons_self z
   ·exact jnq hc l (fun q hq=>h q (List.mem_cons_of_mem _ hq)) z
theorem jpp {ns:List Int}:32∉cp (jW ns):=fun z=>by
 unfold jW at z
 rw [ji2] at z
 cases ns with
 | nil=>exact absurd z (by decide +kernel)
 | cons n ns =>
  rw [List.map_cons,show (",":Str)=⟨#[44]⟩ from rfl,jcc] at z
  rcases List.mem_append.mp z with z | z
  ·exact jmA (.inl (by decide)) z
  ·refine jnq (by decide) _ (fun p hp=>?_) z
   obtain⟨m,_,rfl⟩:=List.mem_map.mp hp
   exact jmA (.inl (by decide))
theorem jaF (x y:Str):(x++y).length=x.length+y.length:=by
 rw [←jbm,jbw,List.length_append,jbm,jbm]
theorem jks {z:Str}{ps:List Str}(hne:ps≠[])(hf:∀p∈ps,32∉cp p)(e:cp z=cp (Str.join ⟨#[32]⟩ ps)):Txt.split z " "=ps:=by
 rw [jnI e]; exact jnv 32 hne hf
theorem jCj {a' a n:Str}(ha:cp a'=cp a++[32])(fa:32∉cp a)(fn:32∉cp n):Txt.split (a'++n) " "=[a,n]:=by
 refine jks (fun e=>by cases e) (fun p hp=>?_) ?_
 ·simp only [List.mem_cons,List.not_mem_nil,or_false] at hp
  rcases hp with rfl | rfl
  ·exact fa
  ·exact fn
 ·rw [jcc,jbw,ha,List.append_assoc]
  simp only [jlB,jo5,List.append_assoc,List.append_nil,List.cons_append,List.nil_append]
theorem jud {a' a n m:Str}(ha:cp a'=cp a++[32])(fa:32∉cp a)(fn:32∉cp n)(fm:32∉cp m):Txt.split (a'++n++" "++m) " "=[a,n,m]:=by
 refine jks (fun e=>by cases e) (fun p hp=>?_) ?_
 ·simp only [List.mem_cons,List.not_mem_nil,or_false] at hp
  rcases hp with rfl | rfl | rfl
  ·exact fa
  ·exact fn
  ·exact fm
 ·rw [jcc,jbw,jbw,jbw,ha]
  rw [show cp (" ":Str)=[32] from rfl]
  simp only [jlB,jo5,List.append_assoc,List.append_nil,List.cons_append,List.nil_append]
theorem jCt {a' a n m l:Str}(ha:cp a'=cp a++[32])(fa:32∉cp a)(fn:32∉cp n)(fm:32∉cp m)(fl:32∉cp l):Txt.split (a'++n++" "++m++" "++l) " "=[a,n,m,l]:=by
 refine jks (fun e=>by cases e) (fun p hp=>?_) ?_
 ·simp only [List.mem_cons,List.not_mem_nil,or_false] at hp
  rcases hp with rfl | rfl | rfl | rfl
  ·exact fa
  ·exact fn
  ·exact fm
  ·exact fl
 ·rw [jcc,jbw,jbw,jbw,jbw,jbw,ha]
  rw [show cp (" ":Str)=[32] from rfl]
  simp only [jlB,jo5,List.append_assoc,List.append_nil,List.cons_append,List.nil_append]
theorem juh (t:T9):NoL (tb t):=by simp only [tb,tr,pt,NoL,ja4,and_self]
section
variable {W:Wd}{Φ:D->Wd->Prop}{o:Ob}
theorem juq {w' w n:Str}{d:D}{C:jV}(ho:o∈W)(hpq:o.p≠o.q)(ha:cp w'=cp w++[32])(hl:w'.length≤10)(fa:32∉cp w)(hw:jP ks_ROWS jaH w=some (.tup [.str "turn"]))(hC:jP ks_TELLERS jcZ w=some C)
  (hn:j6 n=true) (hg:jP o.ks o.ds n=some d) (h:C [.lst [d]] fun d=>Φ d W):jaU [.raw (.ref o.p),.val (.str (w'++n))] W Φ :=
 ⟨o,_,w,[n],["turn"],[d],rfl,ho,hpq,by rw [jaF]; have:=ja2 hn; omega,jCj ha fa (jb0 hn),hw,rfl,by decide,⟨.inr (.inr (.inr ⟨rfl,hg⟩)),trivial⟩,.inl ⟨C,hC,h⟩⟩
theorem jmE {n:Str}{q:Q4}{k:Nat}(ho:o∈W)(hpq:o.p≠o.q)(hn:j6 n=true)(hg:jP o.ks o.ds n=some (tb (jm q)))(h0:q≠q0)(hk:k≤1500)(bq:Bq k q)(h:Φ (.str (jW (ql (j2 q)))) W) :
  jaU [.raw (.ref o.p),.val (.str ("quad "++n))] W Φ:=juq (w:="quad") ho hpq rfl (by decide) (by decide +kernel) rfl rfl hn hg ⟨q,k,rfl,h0,hk,bq,h⟩
theorem jf7 {n:Str}{q:Q4}(ho:o∈W)(hpq:o.p≠o.q)(hn:j6 n=true)(h0:q≠q0)(hb:∀i∈ql q,i.natAbs<10^60)(hs:o.ks.length<sizeLine)(h:Φ (.str "ok") (jex W (o.put n (tb (jm q))))) :
  jaU [.raw (.ref o.p),.val (.str ("turn "++n++" "++jW (ql q)))] W Φ:=by
 have l1:=ja2 hn
 have l2:=ji0 hb
 have l2:(jW (ql q)).length≤62 * 4:=l2
 have e60:(10:Nat)^60≤2^200:=by decide
 have bq:Bq 200 q:=⟨Nat.lt_of_lt_of_le (hb _ (by simp [ql])) e60,Nat.lt_of_lt_of_le (hb _ (by simp [ql])) e60,Nat.lt_of_lt_of_le (hb _ (by simp [ql])) e60,Nat.lt_of_lt_of_le (hb _ (by simp [ql])) e60⟩
 refine⟨o,_,"turn",[n,jW (ql q)],["new","quad"],[.str n,qd q],rfl,ho,hpq,?_,jud rfl (by decide +kernel) (jb0 hn) jpp,rfl,rfl,by decide,⟨.inr (.inr (.inl ⟨rfl,hn,rfl⟩)),.inl ⟨rfl,ql q,rfl,rfl,hb,rfl⟩,trivial⟩,.inr (.inl ⟨by decide +kernel,_,n,rfl,rfl,hs,.str n,q,200,rfl,h0,by decide,bq,juh _,h⟩)⟩
 rw [jaF,jaF,jaF,show ("turn ":Str).length=5 from rfl,show (" ":Str).length=1 from rfl]
 omega
theorem jvG {n:Str}{q:Q4}{k:Nat}(ho:o∈W)(hpq:o.p≠o.q)(hn:j6 n=true)(hg:jP o.ks o.ds n=some (tb (jm q)))(h0:q≠q0)(hk:k≤1500)(bq:Bq k q)(h:Φ (.str (jo0 (j2 q))) W) :
  jaU [.raw (.ref o.p),.val (.str ("order "++n))] W Φ :=
 juq (w:="order") ho hpq rfl (by decide) (by decide +kernel) rfl rfl hn hg ⟨jm q,2 * k+3,rfl,jkY h0,by omega,(jdy h0 bq).n,jwM h0 (Φ:=fun d=>Φ d W) h⟩
theorem jxK {a b:Str}{p q:Q4}{k:Nat}(ho:o∈W)(hpq:o.p≠o.q)(ha:j6 a=true)(hb:j6 b=true)(hg:jP o.ks o.ds a=some (tb (jm p)))(hg':jP o.ks o.ds b=some (tb (jm q)))(hp:p≠q0)(hq:q≠q0)(hk:k≤1500)(bp:Bq k p)(bq:Bq k q)
  (h:Φ (.str (if decide ((jm (jba (jeK p) q)).n=1)=true then "yes" else "no")) W):jaU [.raw (.ref o.p),.val (.str ("same "++a++" "++b))] W Φ:=by
 have l1:=ja2 ha
 have l2:=ja2 hb
 refine⟨o,_,"same",[a,b],["turn","turn"],[tb (jm p),tb (jm q)],rfl,ho,hpq,?_,jud rfl (by decide +kernel) (jb0 ha) (jb0 hb),rfl,rfl,by decide,⟨.inr (.inr (.inr ⟨rfl,hg⟩)),.inr (.inr (.inr ⟨rfl,hg'⟩)),trivial⟩,.inl ⟨_,rfl,p,q,k,rfl,hp,hq,hk,bp,bq,h⟩⟩
 rw [jaF,jaF,jaF,show ("same ":Str).length=5 from rfl,show (" ":Str).length=1 from rfl]
 omega
theorem jq5 {n a:Str}{t:T9}(ho:o∈W)(hpq:o.p≠o.q)(hn:j6 n=true)(ha:j6 a=true)(hg:jP o.ks o.ds a=some (tb t))(hs:o.ks.length<sizeLine)(h:Φ (.str "ok") (jex W (o.put n (tb (jS t))))) :
  jaU [.raw (.ref o.p),.val (.str ("back "++n++" "++a))] W Φ:=by
 have l1:=ja2 hn
 have l2:=ja2 ha
 refine⟨o,_,"back",[n,a],["new","turn"],[.str n,tb t],rfl,ho,hpq,?_,jud rfl (by decide +kernel) (jb0 hn) (jb0 ha),rfl,rfl,by decide,⟨.inr (.inr (.inl ⟨rfl,hn,rfl⟩)),.inr (.inr (.inr ⟨rfl,hg⟩)),trivial⟩,.inr (.inl ⟨by decide +kernel,_,n,rfl,rfl,hs,.str n,t,rfl,juh _,h⟩)⟩
 rw [jaF,jaF,jaF,show ("back ":Str).length=5 from rfl,show (" ":Str).length=1 from rfl]
 omega
theorem jvu {n a b:Str}{p q:Q4}{k:Nat}(ho:o∈W)(hpq:o.p≠o.q)(hn:j6 n=true)(ha:j6 a=true)(hb:j6 b=true)(hg:jP o.ks o.ds a=some (tb (jm p)))(hg':jP o.ks o.ds b=some (tb (jm q)))(hp:p≠q0)(hq:q≠q0)(hk:k≤1500)(bp:Bq k p)(bq:Bq k q)(hs:o.ks.length<sizeLine)
  (h:Φ (.str "ok") (jex W (o.put n (tb (jm (jba p q)))))):jaU [.raw (.ref o.p),.val (.str ("after "++n++" "++a++" "++b))] W Φ:=by
 have l1:=ja2 hn
 have l2:=ja2 ha
 have l3:=ja2 hb
 refine⟨o,_,"after",[n,a,b],["new","turn","turn"],[.str n,tb (jm p),tb (jm q)],rfl,ho,hpq,?_,jCt rfl (by decide +kernel) (jb0 hn) (jb0 ha) (jb0 hb),rfl,rfl,by decide,⟨.inr (.inr (.inl ⟨rfl,hn,rfl⟩)),.inr (.inr (.inr ⟨rfl,hg⟩)),.inr (.inr (.inr ⟨rfl,hg'⟩)),trivial⟩,.inr (.inl ⟨by decide +kernel,_,n,rfl,rfl,hs,.str n,p,q,k,rfl,hp,hq,hk,bp,bq,juh _,h⟩)⟩
 rw [jaF,jaF,jaF,jaF,jaF,show ("after ":Str).length=6 from rfl,show (" ":Str).length=1 from rfl]
 omega
theorem juG {n:Str}{q:Q4}{k:Nat}(ho:o∈W)(hpq:o.p≠o.q)(hn:j6 n=true)(hg:jP o.ks o.ds n=some (tb (jm q)))(h0:q≠q0)(hk:k≤900)(bq:Bq k q)(h:Φ (.str (jaJ (jm q).n)) W) :
  jaU [.raw (.ref o.p),.val (.str ("bottom "++n))] W Φ:=juq (w:="bottom") ho hpq rfl (by decide) (by decide +kernel) rfl rfl hn hg ⟨jm q,rfl,(jdy h0 bq).n.mono (by omega),h⟩
theorem jpG (x y z:Str):x++(y++z)=x++y++z:=jnI (by rw [jbw,jbw,jbw,jbw,List.append_assoc])
theorem jpO {w' w n:Str}{t:T9}{p:P3}{C:jV}(ho:o∈W)(hpq:o.p≠o.q)(ha:cp w'=cp w++[32])(hl:w'.length≤10)(fa:32∉cp w)(hw:jP ks_ROWS jaH w=some (.tup [.str "turn",.str "point"]))(hC:jP ks_TELLERS jcZ w=some C)
  (hn:j6 n=true) (hg:jP o.ks o.ds n=some (tb t)) (hb:∀i∈[p.x,p.y,p.z],i.natAbs<10^60) (h:C [.lst [tb t,pt p]] fun d=>Φ d W):jaU [.raw (.ref o.p),.val (.str (w'++(n++" "++jW [p.x,p.y,p.z])))] W Φ:=by
 have l1:=ja2 hn
 have l2:(jW [p.x,p.y,p.z]).length≤62 * 3:=ji0 hb
 rw [jpG,jpG]
 refine⟨o,_,w,[n,jW [p.x,p.y,p.z]],["turn","point"],[tb t,pt p],rfl,ho,hpq,?_,jud ha fa (jb0 hn) jpp,hw,rfl,by decide,⟨.inr (.inr (.inr ⟨rfl,hg⟩)),.inr (.inl ⟨rfl,[p.x,p.y,p.z],rfl,rfl,hb,rfl⟩),trivial⟩,.inl ⟨C,hC,h⟩⟩
 rw [jaF,jaF,jaF,show (" ":Str).length=1 from rfl]
 omega
theorem jwQ {n:Str}{q:Q4}{p:P3}(ho:o∈W)(hpq:o.p≠o.q)(hn:j6 n=true)(hg:jP o.ks o.ds n=some (tb (jm q)))(h0:q≠q0)(bq:Bq 107 q)(hb:∀i∈[p.x,p.y,p.z],i.natAbs<10^60)(bp:Bp 217 p)(h:Φ (.str (jW (ql (jek (jbo (jm q) p))))) W) :
  jaU [.raw (.ref o.p),.val (.str ("move "++(n++" "++jW [p.x,p.y,p.z])))] W Φ:=jpO (w:="move") ho hpq rfl (by decide) (by decide +kernel) rfl rfl hn hg hb ⟨jm q,p,217,rfl,Int.ne_of_gt (jkY h0),by decide,jdy h0 bq,bp,h⟩
theorem jtV {n:Str}{q:Q4}{p:P3}(ho:o∈W)(hpq:o.p≠o.q)(hn:j6 n=true)(hg:jP o.ks o.ds n=some (tb (jm q)))(h0:q≠q0)(bq:Bq 107 q)(hb:∀i∈[p.x,p.y,p.z],i.natAbs<10^60)(bp:Bp 217 p)(h:Φ (.str (if decide (Shr (jm q) p)=true then "yes" else "no")) W) :
  jaU [.raw (.ref o.p),.val (.str ("shared "++(n++" "++jW [p.x,p.y,p.z])))] W Φ:=jpO (w:="shared") ho hpq rfl (by decide) (by decide +kernel) rfl rfl hn hg hb ⟨jm q,p,217,rfl,jkY h0,by decide,jdy h0 bq,bp,h⟩
end
theorem jsC {X:Cx}{t:Ad}(T:Txt X.prog X.w X.K X.mg t):Fns X 7 [.ref t.y44,.ref t.y46,.ref t.y66,.ref t.y70,.ref t.y76,.ref t.y90,.ref t.y94] jcZ :=
 (jbZ (jrv T) (by decide) rfl jhT T.y165.F.kp T.y165.b
 (jbZ (jpm T) (by decide) rfl jga T.y166.F.kp T.y166.b
 (jbZ (jqy T) (by decide) rfl jha T.y176.F.kp T.y176.b
 (jbZ (jqS T) (by decide) rfl jhP T.y178.F.kp T.y178.b
 (jbZ (joX T) (by decide) rfl jge T.y181.F.kp T.y181.b
 (jbZ (jqJ T) (by decide) rfl jie T.y188.F.kp T.y188.b
 (jbZ (jqs T) (by decide) rfl jgQ T.y190.F.kp T.y190.b
 jtA)))))))
theorem juJ {X:Cx}{t:Ad}(T:Txt X.prog X.w X.K X.mg t):Fns X 6 [.ref t.y96,.ref t.y98,.ref t.y100] jgK :=
 (jbZ (jnb T) (by decide) rfl jfy T.y191.F.kp T.y191.b
 (jbZ (joZ T) (by decide) rfl jfX T.y192.F.kp T.y192.b
 (jbZ (jrT T) (by decide) rfl jiv T.y193.F.kp T.y193.b
 jtA)))
theorem jij (T:Txt P w K mg t):FnOk P w K mg base j0 8 t.y102 t.y103 ["self","row"] (spW K (zc t) 2 jaU):=by
 have sc:=jdk
 refine jn6 (mo:=jbV) (k:=7) T.y194.F jdk (fun cdv A outer s H E hr=>⟨jxX,(j9 (jT (jp (i:=2) sc.nd rfl (jn rfl) (jq (jeW T) jdr (hr.mono (by decide)) T.y154 (ja (jb (pv 1)) jf))))
 (j9 (jT (jp (i:=3) sc.nd rfl (jn rfl) (jk (jb (pv 2)) je (fun _ _=>rfl))))
 (j9 (joh (i:=4) sc.nd rfl (jn rfl) (jbI (i:=0) (ps:=["self","words"]) rfl jfj (jac (j8 (jb (pv 2))) jat) (fun _ h=>jb7 (pv 0) T.cl T.y153.h (jmp T) (hr.mono (by decide)) T.y153.b .nil jb5 h)))
 (j9 (jT (jaO (job T.y324 (jb (pv 3)) rfl T.y323)
 (js (jw (jsb T.y324 T.y325 (jsC T) (hr.mono (by decide)) (jb (pv 3)) (jb (pv 4)) rfl T.y323 (fun _ _=>rfl))))
 jaf))
 (j9 (jgl (jcI (job T.y318 (jb (pv 3)) rfl T.y317))
 (ja5 (jwY (jnG hr) (jhK (pv 0) T.cl T.na rfl) (jk (jb (pv 2)) je (fun _ _=>rfl)) (j8 (jsb T.y318 T.y319 (juJ T) (hr.mono (by decide)) (jb (pv 3)) (jb (pv 4)) rfl T.y317 (fun _ _=>rfl)))))
 (ja5 (jrR (jAc (jhK (pv 0) T.cl T.na rfl) (jk (jb (pv 2)) je (fun _ _=>rfl)) ⟨rfl,rfl,rfl,rfl⟩))))
 (ja5 (jT (jw jh)))))))),jzX⟩)
def jd9:List Sl->Wd->Prop:=fun as W=>∃(o:Ob) (z w:Str) (ws kd:List Str),as=[.raw (.ref o.p),.val (.str z)]∧o∈W∧o.p≠o.q∧z.length≤10000∧Txt.split z " "=w::ws∧jP ks_ROWS jaH w=some (.tup (kd.map .str))∧kd.length=ws.length∧kd.length≤3∧jgV (juL o) o kd ws
def jgt:R4 :=
 (jdb (jay (jD 2 (jC 1 jcg (jc (jd 1) jj))))
 (jdb (jay (jD 3 (jg ju (jd 2) (dC (.int 0)))))
 (jfH 0 2 jda (jah (jae (jd 2)) jaE))))
theorem jqj:∀(as:List Sl) (W:Wd),as.length=2->jd9 as W->jgt (fun W'=>W'=W) (ja0 5 as) W:=by
 rintro as W hl ⟨o,z,w,ws,kd,rfl,ho,hpq,hz,hs,hk,hkl,hk3,hx⟩
 unfold jgt
 refine⟨rfl,z,w,ws,kd.map .str,rfl,hz,hs,hk,by rw [List.length_map,hkl],jy rfl,?_⟩
 refine jaC (d:=.str w) (jeY ..) ?_
 refine⟨jy rfl,⟨o,ho,rfl,hpq⟩,rfl,⟨o,w,ws,kd,rfl,ho,hpq,hk,hk3,hx⟩,rfl⟩
theorem jqz (T:Txt P w K mg t):FnOk P w K mg base (CXC P w) 8 t.y102 t.y103 ["self","row"] (jfn K (zc t) 2 t.y132 jd9):=by
 have sc:=jdk
 refine jfa (k:=7) T.y194.F jdk (fun cdv A outer s H E hr hR hP hH=>⟨jgt,(jch (jT (jp (i:=2) sc.nd rfl (jn rfl) (jq (jeW T) jdr (hr.mono (by decide)) T.y154 (ja (jb (pv 1)) jf))))
 (jch (jT (jp (i:=3) sc.nd rfl (jn rfl) (jk (jb (pv 2)) je (fun _ _=>rfl))))
 (jkJ (joo (i:=4) sc.nd rfl (jn rfl) (jg4 (i:=0) (ps:=["self","words"]) hP rfl (pv 0) T.cl T.y153.h (jkW T) (hr.mono (by decide)) T.y153.b (jac (j8 (jb (pv 2))) jat)))))),jqj⟩)
def jcF:List Sl->Wd->Prop:=fun as W=>∃(o:Ob) (z w:Str) (ws kd:List Str),as=[.raw (.ref o.p),.val (.str z)]∧o∈W∧o.p≠o.q∧z.length≤10000∧Txt.split z " "=w::ws∧jP ks_ROWS jaH w=some (.tup (kd.map .str))∧kd.length=ws.length∧kd.length≤3∧jgV (juI o) o kd ws
def jeh:R4 :=
 (jdb (jay (jD 2 (jC 1 jcg (jc (jd 1) jj))))
 (jdb (jay (jD 3 (jg ju (jd 2) (dC (.int 0)))))
 (jfH 0 2 jci (jah (jae (jd 2)) jaE))))
theorem jmv:∀(as:List Sl) (W:Wd),as.length=2->jcF as W->jeh (fun W'=>W'=W) (ja0 5 as) W:=by
 rintro as W hl ⟨o,z,w,ws,kd,rfl,ho,hpq,hz,hs,hk,hkl,hk3,hx⟩
 unfold jeh
 refine⟨rfl,z,w,ws,kd.map .str,rfl,hz,hs,hk,by rw [List.length_map,hkl],jy rfl,?_⟩
 refine jaC (d:=.str w) (jeY ..) ?_
 refine⟨jy rfl,⟨o,ho,rfl,hpq⟩,rfl,⟨o,w,ws,kd,rfl,ho,hpq,hk,hk3,hx⟩,rfl⟩
theorem jmI (T:Txt P w K mg t):FnOk P w K mg base (CXC P w) 8 t.y102 t.y103 ["self","row"] (jfn K (zc t) 2 t.y133 jcF):=by
 have sc:=jdk
 refine jfa (k:=7) T.y194.F jdk (fun cdv A outer s H E hr hR hP hH=>⟨jeh,(jch (jT (jp (i:=2) sc.nd rfl (jn rfl) (jq (jeW T) jdr (hr.mono (by decide)) T.y154 (ja (jb (pv 1)) jf))))
 (jch (jT (jp (i:=3) sc.nd rfl (jn rfl) (jk (jb (pv 2)) je (fun _ _=>rfl))))
 (jkJ (joo (i:=4) sc.nd rfl (jn rfl) (jg4 (i:=0) (ps:=["self","words"]) hP rfl (pv 0) T.cl T.y153.h (jhH T) (hr.mono (by decide)) T.y153.b (jac (j8 (jb (pv 2))) jat)))))),jmv⟩)
def jei:List Sl->Wd->Prop:=fun as W=>∃(o:Ob) (z n:Str),as=[.raw (.ref o.p),.val (.str z)]∧o∈W∧o.p≠o.q∧z.length≤10000∧Txt.split z " "=(("turn":Str)::[n,jW (ql q0)])∧j6 n=true
def jgx:R4 :=
 (jdb (jay (jD 2 (jC 1 jcg (jc (jd 1) jj))))
 (jdb (jay (jD 3 (jg ju (jd 2) (dC (.int 0)))))
 (jdb (jt6 4 (jbu 0 2 jdZ (jah (jae (jd 2)) jaE)))
 (jlc (jd0 (dT (jkO ks_TELLERS false (jd 3))))
 (fun _ _ _=>False)
 (jzS (jd0 (dT (jkO ks_MAKERS false (jd 3))))
 (jg0 (fun ρ=>(jd 3) ρ fun d=>d=.str "turn"∧(jd 4) ρ fun c=>jcb [c])))))))
theorem jqf:∀(as:List Sl) (W:Wd),as.length=2->jei as W->jgx (fun W'=>W'=W) (ja0 5 as) W:=by
 rintro as W hl ⟨o,z,n,rfl,ho,hpq,hz,hs,hn⟩
 unfold jgx
 refine⟨rfl,z,"turn",[n,jW (ql q0)],[D.str "new",D.str "quad"],rfl,hz,hs,rfl,rfl,jy rfl,?_⟩
 refine⟨jy rfl,⟨o,ho,rfl,hpq⟩,rfl,o,"turn",[n,jW (ql q0)],["new","quad"],[D.str n,qd q0],rfl,ho,hpq,rfl,by decide,⟨.inr (.inr (.inl ⟨rfl,hn,rfl⟩)),.inl ⟨rfl,ql q0,rfl,rfl,(fun i hi=>by
  simp only [ql,q0,List.mem_cons,List.not_mem_nil,or_false] at hi
  rcases hi with rfl | rfl | rfl | rfl <;> decide),rfl⟩,trivial⟩,?_⟩
 refine tF (by decide +kernel) ?_
 exact⟨by decide +kernel,⟨rfl,_,rfl⟩,rfl⟩
theorem jqr (T:Txt P w K mg t):FnOk P w K mg base (CXC P w) 8 t.y102 t.y103 ["self","row"] (jfn K (zc t) 2 t.y135 jei):=by
 have sc:=jdk
 refine jfa (k:=7) T.y194.F jdk (fun cdv A outer s H E hr hR hP hH=>⟨jgx,(jch (jT (jp (i:=2) sc.nd rfl (jn rfl) (jq (jeW T) jdr (hr.mono (by decide)) T.y154 (ja (jb (pv 1)) jf))))
 (jch (jT (jp (i:=3) sc.nd rfl (jn rfl) (jk (jb (pv 2)) je (fun _ _=>rfl))))
 (jch (joh (i:=4) sc.nd rfl (jn rfl) (jbI (i:=0) (ps:=["self","words"]) rfl jfj (jac (j8 (jb (pv 2))) jat) (fun _ h=>jb7 (pv 0) T.cl T.y153.h (jmp T) (hr.mono (by decide)) T.y153.b .nil jb5 h)))
 (jgG (jcI (job T.y324 (jb (pv 3)) rfl T.y323))
 je6
 (jyr (jcI (job T.y318 (jb (pv 3)) rfl T.y317))
 (jeG (jyA (jnG hr) (jhK (pv 0) T.cl T.na rfl) (jk (jb (pv 2)) je (fun _ _=>rfl)) (jec (jvi (z0:="turn") hP T.y318 T.y319 rfl (jhj T) rfl (hr.mono (by decide)) T.y191.F.kp T.y191.b (jb (pv 3)) (jb (pv 4)) rfl T.y317 (fun _ _=>rfl)))))))))),jqf⟩)
def jeM:List Sl->Wd->Prop:=fun as W=>∃(o:Ob) (d:D),as=[.raw (.ref o.p),.val d]∧jcl [d]
def jl4:R4 :=
 (jg0 (fun ρ=>(jc (jd 1) jj) ρ fun ds=>ds.length=1∧jcl ds))
theorem jrA:∀(as:List Sl) (W:Wd),as.length=2->jeM as W->jl4 (fun W'=>W'=W) (ja0 5 as) W:=by
 rintro as W hl ⟨o,d,rfl,h⟩
 exact⟨⟨rfl,h⟩,rfl⟩
theorem jrI (T:Txt P w K mg t):FnOk P w K mg base (CXC P w) 8 t.y102 t.y103 ["self","row"] (jfn K (zc t) 2 t.y136 jeM):=by
 have sc:=jdk
 refine jfa (k:=7) T.y194.F jdk (fun cdv A outer s H E hr hR hP hH=>⟨jl4,(jkJ (joo (i:=2) sc.nd rfl (jn rfl) (jec (jfY hP (jlR T) (hr.mono (by decide)) rfl T.y154.m T.y154.F.kp T.y154.b (ja (jb (pv 1)) jf))))),jrA⟩)
def edg:Str:=Txt.mul ("9":Str) 60
def rowsG:List Str:=[(("turn c ":Str)++edg++(",-":Str)++edg++(",0,-1":Str)),(("move a ":Str)++edg++(",-":Str)++edg++(",0":Str)),"turn c 0,0,0,-1","same a a","shared b 0,0,0","after c a a","back c c","turn abcdefgh 1,2,3,4","order b","turn drop 0,1,0,0","quad drop"]
def jfL:jV:=fun ds Φ=>ds=[]∧Φ (.lst (rowsG.map .str))
theorem jqi:jX jfL:=fun ds Φ Ψ mo h0=>by
 obtain⟨a,h⟩:=h0
 exact⟨a,mo _ h⟩
def jjW:S3 :=
 (jM (dF (ja7 (jd 1) (dF (jam (jc (dC (.str "turn drop 0,1,0,0")) (jc (dC (.str "quad drop")) jj)))))))
def jj6:S3 :=
 (jE (jD 1 (dF (ja7 (jd 1) (dF (jam (jc (dC (.str "shared b 0,0,0")) (jc (dC (.str "after c a a")) (jc (dC (.str "back c c")) (jc (dC (.str "turn abcdefgh 1,2,3,4")) (jc (dC (.str "order b")) jj))))))))))
 jjW)
def jkN:S3 :=
 (jE (jD 1 (dF (ja7 (jd 1) (dF (jam (jc (dC (.str "turn c 0,0,0,-1")) (jc (dC (.str "same a a")) jj)))))))
 jj6)
def jgn:S3 :=
 (jE (jD 1 (dF (jam (jc (jg jcf (jg jcf (jg jcf (jg jcf (dC (.str "turn c ")) (jd 0)) (dC (.str ",-"))) (jd 0)) (dC (.str ",0,-1"))) (jc (jg jcf (jg jcf (jg jcf (jg jcf (dC (.str "move a ")) (jd 0)) (dC (.str ",-"))) (jd 0)) (dC (.str ",0"))) jj)))))
 jkN)
abbrev jjl:S3 :=
 (jE (jD 0 (jg jqH (dC (.str "9")) (dC (.int 60))))
 jgn)
theorem jsx:∀(ds:List D) (Φ:D->Prop),ds.length=0->jfL ds Φ->jjl (jH Φ) (jz 2 ds):=by
 rintro ds Φ hl ⟨rfl,h⟩
 have fits:∀{n:Nat},n≤1000->n≤sizeLine:=fun h=>Nat.le_trans h (by decide)
 refine⟨by decide,by decide,rfl,?_⟩
 show jgn (jH Φ) [.val (.str edg),.un]
 try unfold jjl; try unfold jgn; try unfold jkN; try unfold jj6; try unfold jjW
 refine⟨fits (by decide +kernel),fits (by decide +kernel),fits (by decide +kernel),fits (by decide +kernel),fits (by decide +kernel),fits (by decide +kernel),fits (by decide +kernel),fits (by decide +kernel),?_⟩
 exact⟨jv 2 rfl (by decide),jv 2 rfl (by decide),jv 4 rfl (by decide),jv 5 rfl (by decide),jv 9 rfl (by decide),jv 2 rfl (by decide),jv 11 rfl (by decide),h⟩
theorem jsZ (T:Txt P w K mg t):FnOk P w K mg base j0 1 t.y104 t.y105 [] (spD K 0 jfL):=by
 have sc:=jl8
 refine jU (k:=0) T.y195.F jl8 (fun cdv A outer s H E hr=>⟨jjl,(jo (jp (i:=0) sc.nd rfl (jn rfl) (jl jrn jh je))
 (jo (jp (i:=1) sc.nd rfl (jn rfl) (jB (jak (ja (jl jbT (jl jbT (jl jbT (jl jbT jh (jb (pv 0))) jh) (jb (pv 0))) jh) (ja (jl jbT (jl jbT (jl jbT (jl jbT jh (jb (pv 0))) jh) (jb (pv 0))) jh) jf)))))
 (jo (jp (i:=1) sc.nd rfl (jn rfl) (jB (jbc (jb (pv 1)) (jB (jak (ja jh (ja jh jf)))))))
 (jo (jp (i:=1) sc.nd rfl (jn rfl) (jB (jbc (jb (pv 1)) (jB (jak (ja jh (ja jh (ja jh (ja jh (ja jh jf))))))))))
 (js (jw (jB (jbc (jb (pv 1)) (jB (jak (ja jh (ja jh jf)))))))))))),jsx⟩)
def jfB:jV:=fun ds Φ=>∃(c m:Int),ds=[.int c,.int m]∧0≤m∧∀z,-m≤z->z≤m->Φ (.int z)
theorem jqx:jX jfB:=fun ds Φ Ψ mo h0=>by
 obtain⟨c,m,a,b,h⟩:=h0
 exact⟨c,m,a,b,fun z h1 h2=>mo _ (h z h1 h2)⟩
def jsa:S3 :=
 (jM (jd 2))
def jrG:S3 :=
 (jE (sIf (dT (jg (dI0 fun i j=>.bl (decide (j<i))) (jd 2) (jd 1)))
 (jM (jg zS (jd 2) (jg zA (jg zM (dC (.int 2)) (jd 1)) (dC (.int 1)))))
 jau)
 jsa)
abbrev jnk:S3 :=
 (jE (jD 2 (jg zR (jd 0) (jg zA (jg zM (dC (.int 2)) (jd 1)) (dC (.int 1)))))
 jrG)
theorem jsX:∀(ds:List D) (Φ:D->Prop),ds.length=2->jfB ds Φ->jnk (jH Φ) (jz 3 ds):=by
 rintro ds Φ hl ⟨c,m,rfl,h0,h⟩
 have h1:=Int.emod_nonneg c (show 2 * m+1≠0 by omega)
 have h2:=Int.emod_lt_of_pos c (show 0<2 * m+1 by omega)
 have e:c.fmod (2 * m+1)=c % (2 * m+1):=jwU (by omega)
 refine⟨IntMulOk.of_left (by decide),(show 2 * m+1≠0 by omega),tst (fun hc=>⟨IntMulOk.of_left (by decide),?_⟩) (fun hc=>?_)⟩
 ·have hc:m<c.fmod (2 * m+1):=of_decide_eq_true hc
  exact h _ (show -m≤c.fmod (2 * m+1) - (2 * m+1) by omega) (show c.fmod (2 * m+1) - (2 * m+1)≤m by omega)
 ·have hc:¬m<c.fmod (2 * m+1):=of_decide_eq_false hc
  exact h _ (show -m≤c.fmod (2 * m+1) by omega) (show c.fmod (2 * m+1)≤m by omega)
theorem jsW (T:Txt P w K mg t):FnOk P w K mg base j0 1 t.y106 t.y107 ["cell","most"] (spD K 2 jfB):=by
 have sc:=jmm
 refine jU (k:=0) T.y196.F jmm (fun cdv A outer s H E hr=>⟨jnk,(jo (jp (i:=2) sc.nd rfl (jn rfl) (jl jfJ (jb (pv 0)) (jl jav (jl jI je (jb (pv 1))) je)))
 (jo (jaO (j7 jCm (jb (pv 2)) (jb (pv 1)) (jL _))
 (js (jw (jl jaV (jb (pv 2)) (jl jav (jl jI je (jb (pv 1))) je))))
 jaf)
 (js (jw (jb (pv 2)))))),jsX⟩)
def jcr:jV:=fun ds Φ=>∃(ns:List Int) (k:Nat),ds=[.lst (ns.map .int),.int k]∧Φ (.int (ns.getD k 0))
theorem jgw:jX jcr:=fun ds Φ Ψ m h0=>by
 obtain⟨ns,k,a,h⟩:=h0
 exact⟨ns,k,a,m _ h⟩
def jnt:S3 :=
 (jM (dC (.int 0)))
abbrev jjH:S3 :=
 (jE (sIf (dT (jg (dI0 fun i j=>.bl (decide (i<j))) (jd 1) (dB jeb (jc (jd 0) jj))))
 (jM (jg ju (jd 0) (jd 1)))
 jau)
 jnt)
theorem joH:∀(ds:List D) (Φ:D->Prop),ds.length=2->jcr ds Φ->jjH (jH Φ) (jz 2 ds):=by
 rintro ds Φ hl ⟨ns,k,rfl,h⟩
 rw [List.getD_eq_getElem?_getD] at h
 refine tst (fun hc=>?_) (fun hc=>?_)
 ·have hk:k<ns.length:=by
   have:=of_decide_eq_true hc
   rw [List.length_map] at this
   omega
  rw [List.getElem?_eq_getElem hk] at h
  refine jaC (d:=D.int ns[k]) ?_ ?_
  ·rw [jfE,List.getElem?_map,List.getElem?_eq_getElem hk]; rfl
  ·exact h
 ·have hk:¬k<ns.length:=by
   have:=of_decide_eq_false hc
   rw [List.length_map] at this
   omega
  rw [List.getElem?_eq_none (by omega)] at h
  exact h
theorem jiA (T:Txt P w K mg t):FnOk P w K mg base j0 1 t.y108 t.y109 ["script","k"] (spD K 2 jcr):=by
 have sc:=jih
 refine jU (k:=0) T.y197.F jih (fun cdv A outer s H E hr=>⟨jjH,(jo (jaO (j7 jpi (jb (pv 1)) (jax jcW rfl T.y210 jbK (ja (jb (pv 0)) jf)) (jL _))
 (js (jw (jk (jb (pv 0)) (jb (pv 1)) (fun _ _=>rfl))))
 jaf)
 (js (jw je))),joH⟩)
def jfC:jV:=fun ds Φ=>∃(ns:List Int) (j:Nat) (m:Int),ds=[.lst (ns.map .int),.int j,.int m]∧0≤m∧m≤10^30∧∀q:Q4,q≠q0->Bq 107 q->Φ (qd q)
theorem jqg:jX jfC:=fun ds Φ Ψ mo h0=>by
 obtain⟨ns,j,m,a,b,c,h⟩:=h0
 exact⟨ns,j,m,a,b,c,fun q h1 h2=>mo _ (h q h1 h2)⟩
def jqX:S3 :=
 (jM (jd 3))
def jgu:S3 :=
 (jE (sIf (dT (jg jcB (jd 3) (ja9 (jc (dC (.int 0)) (jc (dC (.int 0)) (jc (dC (.int 0)) (jc (dC (.int 0)) jj)))))))
 (jM (ja9 (jc (dC (.int 1)) (jc (dC (.int 1)) (jc (dC (.int 1)) (jc (dC (.int 0)) jj))))))
 jau)
 jqX)
abbrev jm9:S3 :=
 (jE (jD 3 (dB je8 (jc (dF (jb4 1 (iR1 (jc (dC (.int 4)) jj)) (gN 0) (fun _ Φ=>Φ true) (jC 2 jfB (jc (jC 2 jcr (jc (jd 1) (jc (jg zA (jd 2) (jd 0)) jj))) (jc (jd 3) jj))))) jj)))
 jgu)
theorem jsS:∀(ds:List D) (Φ:D->Prop),ds.length=3->jfC ds Φ->jm9 (jH Φ) (jz 4 ds):=by
 rintro ds Φ hl ⟨ns,j,m,rfl,m0,m1,h⟩
 have bd:∀{z:Int},-m≤z->z≤m->Bd 107 z:=fun h1 h2=>jBj (10^30) (by omega) (by decide)
 refine⟨show (-(2^62):Int)≤4 by decide,show (4:Int)<2^62 by decide,?_⟩
 refine⟨rfl,ns,j,(by show _=[D.lst (ns.map D.int),D.int (j:Int)]; simp),rfl,_,m,rfl,m0,fun a a1 a2=>⟨jag 0 rfl (by decide),?_⟩⟩
 refine⟨rfl,ns,j+1,rfl,rfl,_,m,rfl,m0,fun b b1 b2=>⟨jag 1 rfl (by decide),?_⟩⟩
 refine⟨rfl,ns,j+2,rfl,rfl,_,m,rfl,m0,fun c c1 c2=>⟨jag 2 rfl (by decide),?_⟩⟩
 refine⟨rfl,ns,j+3,rfl,rfl,_,m,rfl,m0,fun d d1 d2=>⟨jag 3 rfl (by decide),?_⟩⟩
 show jgu (jH Φ) [.val (.lst (ns.map .int)),.val (.int j),.val (.int m),.val (qd ⟨a,b,c,d⟩)]
 unfold jgu
 refine⟨jv 4 rfl (by decide),show (1:Nat)≤100 by decide,?_⟩
 refine tst (fun hc=>?_) (fun hc=>?_)
 ·exact⟨jv 4 rfl (by decide),h ⟨1,1,1,0⟩ (by decide) ⟨jcq (by decide),jcq (by decide),jcq (by decide),jcq (by decide)⟩⟩
 ·refine h ⟨a,b,c,d⟩ (fun z=>?_) ⟨bd a1 a2,bd b1 b2,bd c1 c2,bd d1 d2⟩
  cases z
  exact absurd hc (by decide)
theorem js0 (T:Txt P w K mg t):FnOk P w K mg base j0 2 t.y110 t.y111 ["script","k","most"] (spD K 3 jfC):=by
 have sc:=jl6
 refine jU (k:=1) T.y198.F jl6 (fun cdv A outer s H E hr=>⟨jm9,(jo (jp (i:=3) sc.nd rfl (jn rfl) (ja6 jet rfl T.y215 jdv (ja (jB (jbe (xs:=["j"]) (M:=["script","k","most","quad"]) (n:=1) (by rfl) rfl rfl (jbz rfl T.y212 (ja je jf)) (fun _ _ _ _=>(jaL (i:=0) (by decide) (show List.Nodup (["j","script","k","most","quad"]:List Str) by decide +kernel) rfl (by first | exact Or.inl rfl | exact Or.inr rfl))) (fun _ _ _ _=>jbh) (fun _ _ _ _=>(jq (jsW T) jqx (hr.mono (by decide)) T.y196 (ja (jq (jiA T) jgw (hr.mono (by decide)) T.y197 (ja (jb (pv 1)) (ja (jl jav (jb (pv 2)) (jb (pv 0))) jf))) (ja (jb (pv 3)) jf)))))) jf)))
 (jo (jaO (j7 (jbQ (hu3 hr)) (jb (pv 3)) (jaB (ja je (ja je (ja je (ja je jf))))) (jL _))
 (js (jw (jaB (ja je (ja je (ja je (ja je jf)))))))
 jaf)
 (js (jw (jb (pv 3)))))),jsS⟩)
def rowsR:List Str:=([""," ","turn","turn a","turn a 1,0,0,0 ","turn a 1, 0,0,0","turn  a 1,0,0,0","Turn a 1,0,0,0","after a b","after a b a b","back a","back a b a","drop","drop a b","quad","quad a b","quad a "]:List Str)++(["bottom","stair a b","move a","move a 1 2 3","shared a","same a","same a b a","order"," quad a","table a","a","turn\ta 1,0,0,0","quad a\n b","show a","times a b a","order a b","1,0,0,0"]:List Str)
def jcn:jV:=fun ds Φ=>ds=[]∧Φ (.lst (rowsR.map .str))
theorem jjR:jX jcn:=fun ds Φ Ψ mo h0=>by
 obtain⟨a,h⟩:=h0
 exact⟨a,mo _ h⟩
def je5:S3 :=
 (jM (dF (ja7 (jd 0) (dF (jam (jc (dC (.str "times a b a")) (jc (dC (.str "order a b")) (jc (dC (.str "1,0,0,0")) jj))))))))
def jfb:S3 :=
 (jE (jD 0 (dF (ja7 (jd 0) (dF (jam (jc (dC (.str "order")) (jc (dC (.str " quad a")) (jc (dC (.str "table a")) (jc (dC (.str "a")) (jc (dC (.str "turn\ta 1,0,0,0")) (jc (dC (.str "quad a\n b")) (jc (dC (.str "show a")) jj))))))))))))
 je5)
def jfc:S3 :=
 (jE (jD 0 (dF (ja7 (jd 0) (dF (jam (jc (dC (.str "bottom")) (jc (dC (.str "stair a b")) (jc (dC (.str "move a")) (jc (dC (.str "move a 1 2 3")) (jc (dC (.str "shared a")) (jc (dC (.str "same a")) (jc (dC (.str "same a b a")) jj))))))))))))
 jfb)
def je7:S3 :=
 (jE (jD 0 (dF (ja7 (jd 0) (dF (jam (jc (dC (.str "quad")) (jc (dC (.str "quad a b")) (jc (dC (.str "quad a ")) jj))))))))
 jfc)
def jfe:S3 :=
 (jE (jD 0 (dF (ja7 (jd 0) (dF (jam (jc (dC (.str "Turn a 1,0,0,0")) (jc (dC (.str "after a b")) (jc (dC (.str "after a b a b")) (jc (dC (.str "back a")) (jc (dC (.str "back a b a")) (jc (dC (.str "drop")) (jc (dC (.str "drop a b")) jj))))))))))))
 je7)
abbrev jdt:S3 :=
 (jE (jD 0 (dF (jam (jc (dC (.str "")) (jc (dC (.str " ")) (jc (dC (.str "turn")) (jc (dC (.str "turn a")) (jc (dC (.str "turn a 1,0,0,0 ")) (jc (dC (.str "turn a 1, 0,0,0")) (jc (dC (.str "turn  a 1,0,0,0")) jj))))))))))
 jfe)
theorem jlO:∀(ds:List D) (Φ:D->Prop),ds.length=0->jcn ds Φ->jdt (jH Φ) (jz 1 ds):=by
 rintro ds Φ hl ⟨rfl,h⟩
 try unfold jdt; try unfold jfe; try unfold je7; try unfold jfc; try unfold jfb; try unfold je5
 exact⟨jv 7 rfl (by decide),jv 7 rfl (by decide),jv 14 rfl (by decide),jv 3 rfl (by decide),jv 17 rfl (by decide),jv 7 rfl (by decide),jv 24 rfl (by decide),jv 7 rfl (by decide),jv 31 rfl (by decide),jv 3 rfl (by decide),jv 34 rfl (by decide),h⟩
theorem jlP (T:Txt P w K mg t):FnOk P w K mg base j0 1 t.y112 t.y113 [] (spD K 0 jcn):=by
 have sc:=jfx
 refine jU (k:=0) T.y199.F jfx (fun cdv A outer s H E hr=>⟨jdt,(jo (jp (i:=0) sc.nd rfl (jn rfl) (jB (jak (ja jh (ja jh (ja jh (ja jh (ja jh (ja jh (ja jh jf))))))))))
 (jo (jp (i:=0) sc.nd rfl (jn rfl) (jB (jbc (jb (pv 0)) (jB (jak (ja jh (ja jh (ja jh (ja jh (ja jh (ja jh (ja jh jf))))))))))))
 (jo (jp (i:=0) sc.nd rfl (jn rfl) (jB (jbc (jb (pv 0)) (jB (jak (ja jh (ja jh (ja jh jf))))))))
 (jo (jp (i:=0) sc.nd rfl (jn rfl) (jB (jbc (jb (pv 0)) (jB (jak (ja jh (ja jh (ja jh (ja jh (ja jh (ja jh (ja jh jf))))))))))))
 (jo (jp (i:=0) sc.nd rfl (jn rfl) (jB (jbc (jb (pv 0)) (jB (jak (ja jh (ja jh (ja jh (ja jh (ja jh (ja jh (ja jh jf))))))))))))
 (js (jw (jB (jbc (jb (pv 0)) (jB (jak (ja jh (ja jh (ja jh jf)))))))))))))),jlO⟩)
def rowsN:List Str:=["quad zz","quad ","quad A","bottom c","drop zz","drop ","stair zz","order zz","move zz 1,2,3","move zz x","back A a","back zz zz","back  a","shared zz 1,2","same a zz","same zz a","same a ","same  a","turn A 0,0,0,0","turn abcdefghi 1","turn a1 1,0,0,0","after A a b","after zz zz a","after zz a zz","after c zz A","turn  1,0,0,0","after  a b","turn a, 1,0,0,0","quad a,","quad b\n"]
def jb6:jV:=fun ds Φ=>ds=[]∧Φ (.lst (rowsN.map .str))
theorem jju:jX jb6:=fun ds Φ Ψ mo h0=>by
 obtain⟨a,h⟩:=h0
 exact⟨a,mo _ h⟩
def jer:S3 :=
 (jM (dF (ja7 (jd 0) (dF (jam (jc (dC (.str "after c zz A")) (jc (dC (.str "turn  1,0,0,0")) (jc (dC (.str "after  a b")) (jc (dC (.str "turn a, 1,0,0,0")) (jc (dC (.str "quad a,")) (jc (dC (.str "quad b\n")) jj)))))))))))
def jeo:S3 :=
 (jE (jD 0 (dF (ja7 (jd 0) (dF (jam (jc (dC (.str "turn abcdefghi 1")) (jc (dC (.str "turn a1 1,0,0,0")) (jc (dC (.str "after A a b")) (jc (dC (.str "after zz zz a")) (jc (dC (.str "after zz a zz")) jj))))))))))
 jer)
def jes:S3 :=
 (jE (jD 0 (dF (ja7 (jd 0) (dF (jam (jc (dC (.str "shared zz 1,2")) (jc (dC (.str "same a zz")) (jc (dC (.str "same zz a")) (jc (dC (.str "same a ")) (jc (dC (.str "same  a")) (jc (dC (.str "turn A 0,0,0,0")) jj)))))))))))
 jeo)
def jep:S3 :=
 (jE (jD 0 (dF (ja7 (jd 0) (dF (jam (jc (dC (.str "move zz 1,2,3")) (jc (dC (.str "move zz x")) (jc (dC (.str "back A a")) (jc (dC (.str "back zz zz")) (jc (dC (.str "back  a")) jj))))))))))
 jes)
abbrev jc4:S3 :=
 (jE (jD 0 (dF (jam (jc (dC (.str "quad zz")) (jc (dC (.str "quad ")) (jc (dC (.str "quad A")) (jc (dC (.str "bottom c")) (jc (dC (.str "drop zz")) (jc (dC (.str "drop ")) (jc (dC (.str "stair zz")) (jc (dC (.str "order zz")) jj)))))))))))
 jep)
theorem jli:∀(ds:List D) (Φ:D->Prop),ds.length=0->jb6 ds Φ->jc4 (jH Φ) (jz 1 ds):=by
 rintro ds Φ hl ⟨rfl,h⟩
 try unfold jc4; try unfold jep; try unfold jes; try unfold jeo; try unfold jer
 exact⟨jv 8 rfl (by decide),jv 5 rfl (by decide),jv 13 rfl (by decide),jv 6 rfl (by decide),jv 19 rfl (by decide),jv 5 rfl (by decide),jv 24 rfl (by decide),jv 6 rfl (by decide),jv 30 rfl (by decide),h⟩
theorem jkA (T:Txt P w K mg t):FnOk P w K mg base j0 1 t.y114 t.y115 [] (spD K 0 jb6):=by
 have sc:=je9
 refine jU (k:=0) T.y200.F je9 (fun cdv A outer s H E hr=>⟨jc4,(jo (jp (i:=0) sc.nd rfl (jn rfl) (jB (jak (ja jh (ja jh (ja jh (ja jh (ja jh (ja jh (ja jh (ja jh jf)))))))))))
 (jo (jp (i:=0) sc.nd rfl (jn rfl) (jB (jbc (jb (pv 0)) (jB (jak (ja jh (ja jh (ja jh (ja jh (ja jh jf))))))))))
 (jo (jp (i:=0) sc.nd rfl (jn rfl) (jB (jbc (jb (pv 0)) (jB (jak (ja jh (ja jh (ja jh (ja jh (ja jh (ja jh jf)))))))))))
 (jo (jp (i:=0) sc.nd rfl (jn rfl) (jB (jbc (jb (pv 0)) (jB (jak (ja jh (ja jh (ja jh (ja jh (ja jh jf))))))))))
 (js (jw (jB (jbc (jb (pv 0)) (jB (jak (ja jh (ja jh (ja jh (ja jh (ja jh (ja jh jf)))))))))))))))),jli⟩)
def rowsU:List Str:=["turn a ","turn a 1","turn a 1,0,0","turn a 1,0,0,0,0","turn a 1,0,0,","turn a ,1,0,0","turn a 1,,0,0","turn zz 01,0,0,0","turn a 1,0,00,0","turn a 1,-0,0,0","turn a +1,0,0,0","turn a 1,0,0,1_0","turn a 0,0,0,x","shared a 1,2","shared a -0,0,0","turn a 1,0,0,--1","turn a 1;0;0;0","turn a 1.0,0,0,0","turn a a,b,c,d","turn a 1,0,0,-",(("turn a 1,0,0,":Str)++Txt.mul ("1":Str) 61),(("turn a -":Str)++Txt.mul ("1":Str) 61++(",0,0,0":Str)),"move a 1,2","move a 1,2,3,4","move b ,,","move b 1,2,x","shared b 1,2,03","turn a 1,0,0,1\n","move a \t1,2,3"]
def jbM:jV:=fun ds Φ=>ds=[]∧Φ (.lst (rowsU.map .str))
theorem jhg:jX jbM:=fun ds Φ Ψ mo h0=>by
 obtain⟨a,h⟩:=h0
 exact⟨a,mo _ h⟩
def jdN:S3 :=
 (jM (dF (ja7 (jd 0) (dF (jam (jc (dC (.str "move b 1,2,x")) (jc (dC (.str "shared b 1,2,03")) (jc (dC (.str "turn a 1,0,0,1\n")) (jc (dC (.str "move a \t1,2,3")) jj)))))))))
def jdC:S3 :=
 (jE (jD 0 (dF (ja7 (jd 0) (dF (jam (jc (dC (.str "move a 1,2,3,4")) (jc (dC (.str "move b ,,")) jj)))))))
 jdN)
def jdO:S3 :=
 (jE (jD 0 (dF (ja7 (jd 0) (dF (jam (jc (jg jcf (dC (.str "turn a 1,0,0,")) (jg jqH (dC (.str "1")) (dC (.int 61)))) (jc (jg jcf (jg jcf (dC (.str "turn a -")) (jg jqH (dC (.str "1")) (dC (.int 61)))) (dC (.str ",0,0,0"))) (jc (dC (.str "move a 1,2")) jj))))))))
 jdC)
def jdD:S3 :=
 (jE (jD 0 (dF (ja7 (jd 0) (dF (jam (jc (dC (.str "turn a 1,0,0,--1")) (jc (dC (.str "turn a 1;0;0;0")) (jc (dC (.str "turn a 1.0,0,0,0")) (jc (dC (.str "turn a a,b,c,d")) (jc (dC (.str "turn a 1,0,0,-")) jj))))))))))
 jdO)
def jdM:S3 :=
 (jE (jD 0 (dF (ja7 (jd 0) (dF (jam (jc (dC (.str "turn a 1,0,0,1_0")) (jc (dC (.str "turn a 0,0,0,x")) (jc (dC (.str "shared a 1,2")) (jc (dC (.str "shared a -0,0,0")) jj)))))))))
 jdD)
def jdP:S3 :=
 (jE (jD 0 (dF (ja7 (jd 0) (dF (jam (jc (dC (.str "turn a 1,,0,0")) (jc (dC (.str "turn zz 01,0,0,0")) (jc (dC (.str "turn a 1,0,00,0")) (jc (dC (.str "turn a 1,-0,0,0")) (jc (dC (.str "turn a +1,0,0,0")) jj))))))))))
 jdM)
abbrev jcw:S3 :=
 (jE (jD 0 (dF (jam (jc (dC (.str "turn a ")) (jc (dC (.str "turn a 1")) (jc (dC (.str "turn a 1,0,0")) (jc (dC (.str "turn a 1,0,0,0,0")) (jc (dC (.str "turn a 1,0,0,")) (jc (dC (.str "turn a ,1,0,0")) jj)))))))))
 jdP)
theorem jjz:∀(ds:List D) (Φ:D->Prop),ds.length=0->jbM ds Φ->jcw (jH Φ) (jz 1 ds):=by
 rintro ds Φ hl ⟨rfl,h⟩
 have fits:∀{n:Nat},n≤1000->n≤sizeLine:=fun h=>Nat.le_trans h (by decide)
 try unfold jcw; try unfold jdP; try unfold jdM; try unfold jdD; try unfold jdO; try unfold jdC; try unfold jdN
 refine⟨jv 6 rfl (by decide),jv 5 rfl (by decide),jv 11 rfl (by decide),jv 4 rfl (by decide),jv 15 rfl (by decide),jv 5 rfl (by decide),jv 20 rfl (by decide),?_⟩
 refine⟨by decide,by decide,rfl,fits (by decide +kernel),by decide,by decide,rfl,fits (by decide +kernel),fits (by decide +kernel),?_⟩
 exact⟨jv 3 rfl (by decide),jv 23 rfl (by decide),jv 2 rfl (by decide),jv 25 rfl (by decide),jv 4 rfl (by decide),jv 29 rfl (by decide),h⟩
theorem jjt (T:Txt P w K mg t):FnOk P w K mg base j0 1 t.y116 t.y117 [] (spD K 0 jbM):=by
 have sc:=jeg
 refine jU (k:=0) T.y201.F jeg (fun cdv A outer s H E hr=>⟨jcw,(jo (jp (i:=0) sc.nd rfl (jn rfl) (jB (jak (ja jh (ja jh (ja jh (ja jh (ja jh (ja jh jf)))))))))
 (jo (jp (i:=0) sc.nd rfl (jn rfl) (jB (jbc (jb (pv 0)) (jB (jak (ja jh (ja jh (ja jh (ja jh (ja jh jf))))))))))
 (jo (jp (i:=0) sc.nd rfl (jn rfl) (jB (jbc (jb (pv 0)) (jB (jak (ja jh (ja jh (ja jh (ja jh jf)))))))))
 (jo (jp (i:=0) sc.nd rfl (jn rfl) (jB (jbc (jb (pv 0)) (jB (jak (ja jh (ja jh (ja jh (ja jh (ja jh jf))))))))))
 (jo (jp (i:=0) sc.nd rfl (jn rfl) (jB (jbc (jb (pv 0)) (jB (jak (ja (jl jbT jh (jl jrn jh je)) (ja (jl jbT (jl jbT jh (jl jrn jh je)) jh) (ja jh jf))))))))
 (jo (jp (i:=0) sc.nd rfl (jn rfl) (jB (jbc (jb (pv 0)) (jB (jak (ja jh (ja jh jf)))))))
 (js (jw (jB (jbc (jb (pv 0)) (jB (jak (ja jh (ja jh (ja jh (ja jh jf)))))))))))))))),jjz⟩)
def jaD:jhl:=fun as W Φ=>∃(o:Ob) (d:D),as=[.raw (.ref o.p),.val d]∧o∈W∧o.p≠o.q∧((jaU [.raw (.ref o.p),.val d] W fun _ W'=>Φ (.str "good") W')∨(jeM [.raw (.ref o.p),.val d] W∧Φ (.str "row") W)∨(jd9 [.raw (.ref o.p),.val d] W∧Φ (.str "name") W)∨(jcF [.raw (.ref o.p),.val d] W∧Φ (.str "numbers") W)∨(jei [.raw (.ref o.p),.val d] W∧Φ (.str "quad") W))
theorem jaY:ji3 jaD:=fun as W Φ Ψ mo ⟨o,d,a,b,c,h⟩=>by
 refine⟨o,d,a,b,c,?_⟩
 rcases h with h | ⟨p,h⟩ | ⟨p,h⟩ | ⟨p,h⟩ | ⟨p,h⟩
 ·exact .inl (jbV _ _ _ _ (fun _ _ z=>mo _ _ z) h)
 ·exact .inr (.inl ⟨p,mo _ _ h⟩)
 ·exact .inr (.inr (.inl ⟨p,mo _ _ h⟩))
 ·exact .inr (.inr (.inr (.inl ⟨p,mo _ _ h⟩)))
 ·exact .inr (.inr (.inr (.inr ⟨p,mo _ _ h⟩)))
theorem joI (l:List Bool):∀e∈l.map D.bl,dep e≤90:=fun e he=>by
 obtain⟨b,_,rfl⟩:=List.mem_map.mp he
 simp only [dep]; decide
theorem jrN (a b:Bool):jF (.bl a) (.bl b)=(a == b):=by simp only [jF]
theorem jy5 (l:List Bool):(l.map D.bl).countP (fun e=>jF e (.bl true))=l.countP fun b=>b == true:=by
 rw [List.countP_map]
 exact congrArg (fun f=>List.countP f l) (funext fun b=>jrN b true)
abbrev jCd:S3:=jbG 2 (dC (.str "other")) (xIf (jgk (dT (jg dEq (dLm joz (jd 4) (dC (.bl true))) (dC (.int 1)))) (jgk (dT (jg (dI0 fun i j=>.bl (decide (i<j))) (dLm jgc (jd 4) (dC (.bl true))) (dC (.int 4)))) (fun _ Φ=>Φ true))) (jbG 2 (jg ju (dF (jam (jc (dC (.str "row")) (jc (dC (.str "name")) (jc (dC (.str "numbers")) (jc (dC (.str "quad")) jj)))))) (dLm jgc (jd 4) (dC (.bl true)))) jau))
theorem jzs {l:List Bool}{j:Nat}(h:l[j]?=some true)(hn:∀i,i<j->l[i]?=some false):(∃e,(l.map D.bl)[j]?=some e∧jF e (.bl true)=true)∧∀i e,i<j->(l.map D.bl)[i]?=some e->jF e (.bl true)=false:=by
 refine⟨⟨.bl true,by rw [List.getElem?_map,h]; rfl,by rw [jrN]; rfl⟩,fun i e hi he=>?_⟩
 rw [List.getElem?_map,hn i hi] at he
 cases he
 rw [jrN]; rfl
theorem jln {l:List Bool}{j:Nat}{way:Str}{a b x c:Sl}{Ψ:F3->Prop}(hc:(l.countP fun b=>b == true)=1)(hj:l[j]?=some true)(hn:∀i,i<j->l[i]?=some false)(h4:j<4)(hw:(["row","name","numbers","quad"]:List Str)[j]?=some way)(h:Ψ (.nx [a,b,.val (.str way),c,.val (.lst (l.map .bl))])) :
  jCd Ψ [a,b,x,c,.val (.lst (l.map .bl))]:=by
 refine⟨joI l,?_⟩
 rw [jy5,hc]
 refine tT (by decide) ?_
 obtain⟨e1,e2⟩:=jzs hj hn
 refine⟨joI l,j,e1,e2,by omega,?_⟩
 refine tT (decide_eq_true (show (j:Int)<4 by omega)) ?_
 refine tT rfl ?_
 refine⟨jv 4 rfl (by decide),joI l,j,e1,e2,by omega,?_⟩
 have ea:atI ([D.str "row",D.str "name",D.str "numbers",D.str "quad"]:List D) (j:Int)=some (.str way):=by
  rw [show ([D.str "row",D.str "name",D.str "numbers",D.str "quad"]:List D)=(["row","name","numbers","quad"]:List Str).map D.str from rfl,jfE,List.getElem?_map,hw]
  rfl
 exact jaC ea h
theorem jz5 {P:Nat->Prop}:∀i,i<0->P i:=fun i h=>by omega
theorem jzP {P:Nat->Prop}(h0:P 0):∀i,i<1->P i:=fun i h=>by
 obtain rfl:i=0:=by omega
 exact h0
theorem jzB {P:Nat->Prop}(h0:P 0)(h1:P 1):∀i,i<2->P i:=fun i h=>by
 rcases i with _ | _ | i
 ·exact h0
 ·exact h1
 ·omega
theorem jA4 {P:Nat->Prop}(h0:P 0)(h1:P 1)(h2:P 2):∀i,i<3->P i:=fun i h=>by
 rcases i with _ | _ | _ | i
 ·exact h0
 ·exact h1
 ·exact h2
 ·omega
def jed:S4 :=
 (jay (jM (jd 2)))
def jd4:S4 :=
 (ja8 (wOr (jym (jtW (jbu 0 2 jaU (jah (jae (jd 1)) jaE))))
 (wOr (jhS 3 0 2 jei (jah (jae (jd 1)) jaE) (jbG 4 (dF (jam (jc (dC (.bl false)) (jc (dC (.bl false)) (jc (dC (.bl false)) (jc (dC (.bl true)) jj)))))) (jbG 4 (dF (ja7 (jd 4) (dF (jam (jc (dC (.bl false)) (jc (dC (.bl false)) (jc (dC (.bl false)) (jc (dC (.bl false)) jj)))))))) (jbG 4 (dF (ja7 (jd 4) (dF (jam (jc (dC (.bl false)) jj))))) (jbG 2 (dC (.str "other")) (xIf (jgk (dT (jg dEq (dLm joz (jd 4) (dC (.bl true))) (dC (.int 1)))) (jgk (dT (jg (dI0 fun i j=>.bl (decide (i<j))) (dLm jgc (jd 4) (dC (.bl true))) (dC (.int 4)))) (fun _ Φ=>Φ true))) (jbG 2 (jg ju (dF (jam (jc (dC (.str "row")) (jc (dC (.str "name")) (jc (dC (.str "numbers")) (jc (dC (.str "quad")) jj)))))) (dLm jgc (jd 4) (dC (.bl true)))) jau)))))))
 (wOr (jhS 3 0 2 jd9 (jah (jae (jd 1)) jaE) (jbG 4 (dF (jam (jc (dC (.bl false)) (jc (dC (.bl true)) (jc (dC (.bl false)) (jc (dC (.bl false)) jj)))))) (jbG 4 (dF (ja7 (jd 4) (dF (jam (jc (dC (.bl false)) (jc (dC (.bl false)) (jc (dC (.bl false)) (jc (dC (.bl false)) jj)))))))) (jbG 4 (dF (ja7 (jd 4) (dF (jam (jc (dC (.bl false)) jj))))) (jbG 2 (dC (.str "other")) (xIf (jgk (dT (jg dEq (dLm joz (jd 4) (dC (.bl true))) (dC (.int 1)))) (jgk (dT (jg (dI0 fun i j=>.bl (decide (i<j))) (dLm jgc (jd 4) (dC (.bl true))) (dC (.int 4)))) (fun _ Φ=>Φ true))) (jbG 2 (jg ju (dF (jam (jc (dC (.str "row")) (jc (dC (.str "name")) (jc (dC (.str "numbers")) (jc (dC (.str "quad")) jj)))))) (dLm jgc (jd 4) (dC (.bl true)))) jau)))))))
 (wOr (jhS 3 0 2 jcF (jah (jae (jd 1)) jaE) (jbG 4 (dF (jam (jc (dC (.bl false)) (jc (dC (.bl false)) (jc (dC (.bl true)) (jc (dC (.bl false)) jj)))))) (jbG 4 (dF (ja7 (jd 4) (dF (jam (jc (dC (.bl false)) (jc (dC (.bl false)) (jc (dC (.bl false)) (jc (dC (.bl false)) jj)))))))) (jbG 4 (dF (ja7 (jd 4) (dF (jam (jc (dC (.bl false)) jj))))) (jbG 2 (dC (.str "other")) (xIf (jgk (dT (jg dEq (dLm joz (jd 4) (dC (.bl true))) (dC (.int 1)))) (jgk (dT (jg (dI0 fun i j=>.bl (decide (i<j))) (dLm jgc (jd 4) (dC (.bl true))) (dC (.int 4)))) (fun _ Φ=>Φ true))) (jbG 2 (jg ju (dF (jam (jc (dC (.str "row")) (jc (dC (.str "name")) (jc (dC (.str "numbers")) (jc (dC (.str "quad")) jj)))))) (dLm jgc (jd 4) (dC (.bl true)))) jau)))))))
 (jhS 3 0 2 jeM (jah (jae (jd 1)) jaE) (jbG 4 (dF (jam (jc (dC (.bl true)) (jc (dC (.bl false)) (jc (dC (.bl false)) (jc (dC (.bl false)) jj)))))) (jbG 4 (dF (ja7 (jd 4) (dF (jam (jc (dC (.bl false)) (jc (dC (.bl false)) (jc (dC (.bl false)) (jc (dC (.bl false)) jj)))))))) (jbG 4 (dF (ja7 (jd 4) (dF (jam (jc (dC (.bl false)) jj))))) (jbG 2 (dC (.str "other")) (xIf (jgk (dT (jg dEq (dLm joz (jd 4) (dC (.bl true))) (dC (.int 1)))) (jgk (dT (jg (dI0 fun i j=>.bl (decide (i<j))) (dLm jgc (jd 4) (dC (.bl true))) (dC (.int 4)))) (fun _ Φ=>Φ true))) (jbG 2 (jg ju (dF (jam (jc (dC (.str "row")) (jc (dC (.str "name")) (jc (dC (.str "numbers")) (jc (dC (.str "quad")) jj)))))) (dLm jgc (jd 4) (dC (.bl true)))) jau)))))))))))
 jed)
abbrev jjO:S4 :=
 (ja8 (jay (jD 2 (dC (.str "good"))))
 jd4)
theorem jom:∀(as:List Sl) (W:Wd) (Φ:D->Wd->Prop),as.length=2->jaD as W Φ->jjO (jbr Φ) (ja0 5 as) W:=by
 rintro as W Φ hl ⟨o,d,rfl,ho,hpq,h⟩
 refine⟨jy rfl,?_⟩
 show jd4 (jbr Φ) [.raw (.ref o.p),.val d,.val (.str "good"),.un,.un] W
 unfold jd4
 have two:∀(w:Str) (x:Sl) (W':Wd),Φ (.str w) W'->jed (jbr Φ) [.raw (.ref o.p),.val d,.val (.str w),.un,x] W':=fun w x W' hw=>by
  unfold jed
  exact hw
 rcases h with h | ⟨p,h⟩ | ⟨p,h⟩ | ⟨p,h⟩ | ⟨p,h⟩
 ·refine .inl ⟨⟨o,ho,rfl,hpq⟩,rfl,jbV _ _ _ _ (fun _ W' z=>?_) h⟩
  exact two _ _ _ z
 ·refine .inr (.inr (.inr (.inr ⟨⟨o,ho,rfl,hpq⟩,rfl,p,rfl,?_⟩)))
  refine⟨jv 4 rfl (by decide),jv 4 rfl (by decide),jv 8 rfl (by decide),jv 1 rfl (by decide),jv 9 rfl (by decide),?_⟩
  exact jln (l:=[true,false,false,false,false,false,false,false,false]) (j:=0) (way:="row") (by decide) rfl jz5 (by decide) rfl ⟨rfl,jy rfl,two _ _ _ h⟩
 ·refine .inr (.inr (.inl ⟨⟨o,ho,rfl,hpq⟩,rfl,p,rfl,?_⟩))
  refine⟨jv 4 rfl (by decide),jv 4 rfl (by decide),jv 8 rfl (by decide),jv 1 rfl (by decide),jv 9 rfl (by decide),?_⟩
  exact jln (l:=[false,true,false,false,false,false,false,false,false]) (j:=1) (way:="name") (by decide) rfl (jzP rfl) (by decide) rfl ⟨rfl,jy rfl,two _ _ _ h⟩
 ·refine .inr (.inr (.inr (.inl ⟨⟨o,ho,rfl,hpq⟩,rfl,p,rfl,?_⟩)))
  refine⟨jv 4 rfl (by decide),jv 4 rfl (by decide),jv 8 rfl (by decide),jv 1 rfl (by decide),jv 9 rfl (by decide),?_⟩
  exact jln (l:=[false,false,true,false,false,false,false,false,false]) (j:=2) (way:="numbers") (by decide) rfl (jzB rfl rfl) (by decide) rfl ⟨rfl,jy rfl,two _ _ _ h⟩
 ·refine .inr (.inl ⟨⟨o,ho,rfl,hpq⟩,rfl,p,rfl,?_⟩)
  refine⟨jv 4 rfl (by decide),jv 4 rfl (by decide),jv 8 rfl (by decide),jv 1 rfl (by decide),jv 9 rfl (by decide),?_⟩
  exact jln (l:=[false,false,false,true,false,false,false,false,false]) (j:=3) (way:="quad") (by decide) rfl (jA4 rfl rfl rfl) (by decide) rfl ⟨rfl,jy rfl,two _ _ _ h⟩
theorem jbD (T:Txt P w K mg t):FnOk P w K mg base j0 9 t.y118 t.y119 ["desk","row"] (spW K (zc t) 2 jaD):=by
 have sc:=jh2
 refine jn6 (mo:=jaY) (k:=8) T.y202.F jh2 (fun cdv A outer s H E hr=>⟨jjO,(j9 (jT (jp (i:=2) sc.nd rfl (jn rfl) jh))
 (j9 (jm0 (jw4 (fun _ _ z=>z) (jrR (jbI (i:=0) (ps:=["self","row"]) rfl jbV (jac (j8 (jb (pv 1))) jat) (fun _ h=>jb7 (pv 0) T.cl T.y194.h (jij T) (hr.mono (by decide)) T.y194.b .nil jb5 h))))
 (jm0 (jgM (i:=3) (j:=0) (C:=t.y135) (ps:=["self","row"]) (fun _ _ z=>z) rfl rfl rfl (pv 0) T.cl T.y194.h (jqr T) (hr.mono (by decide)) T.y194.b (jac (j8 (jb (pv 1))) jat) rfl T.y231 (jR T.y261) T.y315 T.y261 T.y295 sc.nd rfl rfl (fun ea oe hc=>(jap (j:=4) (by decide) sc.nd rfl (jn rfl) (jbP (jG (jar (bv:=false) (jY (.head _) (XCls.mk (jR T.y264) T.y246 T.y250 T.y238 T.y264 T.y257) hc rfl T.y209 jt rfl (.inl rfl) rfl T.y228 (jai T.y291 T.y258 T.y312 T.y292))) (jG (jar (bv:=false) (jY (.head _) (XCls.mk (jR T.y264) T.y246 T.y250 T.y238 T.y264 T.y257) hc rfl T.y209 jt rfl (.inl rfl) rfl T.y224 (jai T.y291 T.y254 T.y308 T.y288))) (jG (jar (bv:=false) (jY (.head _) (XCls.mk (jR T.y264) T.y246 T.y250 T.y238 T.y264 T.y257) hc rfl T.y209 jt rfl (.inl rfl) rfl T.y225 (jai T.y291 T.y255 T.y309 T.y289))) (jG (jar (bv:=true) (jY (.head _) (XCls.mk (jR T.y264) T.y246 T.y250 T.y238 T.y264 T.y257) hc rfl T.y209 jt rfl (.inl rfl) rfl T.y227 (jlv T.y257 T.y311 T.y291))) jbs))))) (jap (j:=4) (by decide) sc.nd rfl (jn rfl) (jdS (jbx (jb (pv 4))) (jbP (jG (jar (bv:=false) (jY (.head _) (XCls.mk (jR T.y264) T.y246 T.y250 T.y238 T.y264 T.y257) hc rfl T.y209 jt rfl (.inl rfl) rfl T.y222 (jai T.y291 T.y252 T.y306 T.y286))) (jG (jar (bv:=false) (jY (.head _) (XCls.mk (jR T.y264) T.y246 T.y250 T.y238 T.y264 T.y257) hc rfl T.y209 jt rfl (.inl rfl) rfl T.y223 (jai T.y291 T.y253 T.y307 T.y287))) (jG (jar (bv:=false) (jY (.head _) (XCls.mk (jR T.y264) T.y246 T.y250 T.y238 T.y264 T.y257) hc rfl T.y209 jt rfl (.inl rfl) rfl T.y226 (jai T.y291 T.y256 T.y310 T.y290))) (jG (jar (bv:=false) (jY (.head _) (XCls.mk (jR T.y264) T.y246 T.y250 T.y238 T.y264 T.y257) hc rfl T.y209 jt rfl (.inl rfl) rfl T.y229 (jai T.y291 T.y259 T.y313 T.y293))) jbs)))))) (jap (j:=4) (by decide) sc.nd rfl (jn rfl) (jdS (jbx (jb (pv 4))) (jbP (jG (jar (bv:=false) (jY (.head _) (XCls.mk (jR T.y264) T.y246 T.y250 T.y238 T.y264 T.y257) hc rfl T.y209 jt rfl (.inl rfl) rfl T.y230 (jai T.y291 T.y260 T.y314 T.y294))) jbs))) (jap (j:=2) (by decide) sc.nd rfl (jn rfl) (jbx jh) (jiQ (PWX.ptx (jdL (je3 (j7 jjh (jct PySem.F.slot_list_count PySem.F.type_list_count (ji5 (hux hr)) jlr (jb (pv 4)) jby) je (jL _))) (jdL (je3 (j7 jpi (jct PySem.F.slot_list_index PySem.F.type_list_index (jcK (hux hr)) jdU (jb (pv 4)) jby) je (jL _))) (jjx (jqB (bv:=true) (jjA (T:="ValueError") (.head _) (XCls.mk (jR T.y264) T.y246 T.y250 T.y238 T.y264 T.y257) hc rfl T.y209 jt rfl (.inl rfl) rfl T.y205 jdq (jiV jcE T.y234))))))) (jap (j:=2) (by decide) sc.nd rfl (jn rfl) (jbx (jk (jB (jak (ja jh (ja jh (ja jh (ja jh jf)))))) (jct PySem.F.slot_list_index PySem.F.type_list_index (jcK (hux hr)) jdU (jb (pv 4)) jby) (fun _ _=>rfl))) jgU))))))))
 (jm0 (jgM (i:=3) (j:=0) (C:=t.y132) (ps:=["self","row"]) (fun _ _ z=>z) rfl rfl rfl (pv 0) T.cl T.y194.h (jqz T) (hr.mono (by decide)) T.y194.b (jac (j8 (jb (pv 1))) jat) rfl T.y231 (jR T.y261) T.y315 T.y261 T.y275 sc.nd rfl rfl (fun ea oe hc=>(jap (j:=4) (by decide) sc.nd rfl (jn rfl) (jbP (jG (jar (bv:=false) (jY (.head _) (XCls.mk (jR T.y262) T.y244 T.y248 T.y236 T.y262 T.y254) hc rfl T.y209 jt rfl (.inl rfl) rfl T.y228 (jai T.y268 T.y258 T.y312 T.y272))) (jG (jar (bv:=true) (jY (.head _) (XCls.mk (jR T.y262) T.y244 T.y248 T.y236 T.y262 T.y254) hc rfl T.y209 jt rfl (.inl rfl) rfl T.y224 (jlv T.y254 T.y308 T.y268))) (jG (jar (bv:=false) (jY (.head _) (XCls.mk (jR T.y262) T.y244 T.y248 T.y236 T.y262 T.y254) hc rfl T.y209 jt rfl (.inl rfl) rfl T.y225 (jai T.y268 T.y255 T.y309 T.y269))) (jG (jar (bv:=false) (jY (.head _) (XCls.mk (jR T.y262) T.y244 T.y248 T.y236 T.y262 T.y254) hc rfl T.y209 jt rfl (.inl rfl) rfl T.y227 (jai T.y268 T.y257 T.y311 T.y271))) jbs))))) (jap (j:=4) (by decide) sc.nd rfl (jn rfl) (jdS (jbx (jb (pv 4))) (jbP (jG (jar (bv:=false) (jY (.head _) (XCls.mk (jR T.y262) T.y244 T.y248 T.y236 T.y262 T.y254) hc rfl T.y209 jt rfl (.inl rfl) rfl T.y222 (jai T.y268 T.y252 T.y306 T.y266))) (jG (jar (bv:=false) (jY (.head _) (XCls.mk (jR T.y262) T.y244 T.y248 T.y236 T.y262 T.y254) hc rfl T.y209 jt rfl (.inl rfl) rfl T.y223 (jai T.y268 T.y253 T.y307 T.y267))) (jG (jar (bv:=false) (jY (.head _) (XCls.mk (jR T.y262) T.y244 T.y248 T.y236 T.y262 T.y254) hc rfl T.y209 jt rfl (.inl rfl) rfl T.y226 (jai T.y268 T.y256 T.y310 T.y270))) (jG (jar (bv:=false) (jY (.head _) (XCls.mk (jR T.y262) T.y244 T.y248 T.y236 T.y262 T.y254) hc rfl T.y209 jt rfl (.inl rfl) rfl T.y229 (jai T.y268 T.y259 T.y313 T.y273))) jbs)))))) (jap (j:=4) (by decide) sc.nd rfl (jn rfl) (jdS (jbx (jb (pv 4))) (jbP (jG (jar (bv:=false) (jY (.head _) (XCls.mk (jR T.y262) T.y244 T.y248 T.y236 T.y262 T.y254) hc rfl T.y209 jt rfl (.inl rfl) rfl T.y230 (jai T.y268 T.y260 T.y314 T.y274))) jbs))) (jap (j:=2) (by decide) sc.nd rfl (jn rfl) (jbx jh) (jiQ (PWX.ptx (jdL (je3 (j7 jjh (jct PySem.F.slot_list_count PySem.F.type_list_count (ji5 (hux hr)) jlr (jb (pv 4)) jby) je (jL _))) (jdL (je3 (j7 jpi (jct PySem.F.slot_list_index PySem.F.type_list_index (jcK (hux hr)) jdU (jb (pv 4)) jby) je (jL _))) (jjx (jqB (bv:=true) (jjA (T:="ValueError") (.head _) (XCls.mk (jR T.y262) T.y244 T.y248 T.y236 T.y262 T.y254) hc rfl T.y209 jt rfl (.inl rfl) rfl T.y205 jdq (jiV jcE T.y232))))))) (jap (j:=2) (by decide) sc.nd rfl (jn rfl) (jbx (jk (jB (jak (ja jh (ja jh (ja jh (ja jh jf)))))) (jct PySem.F.slot_list_index PySem.F.type_list_index (jcK (hux hr)) jdU (jb (pv 4)) jby) (fun _ _=>rfl))) jgU))))))))
 (jm0 (jgM (i:=3) (j:=0) (C:=t.y133) (ps:=["self","row"]) (fun _ _ z=>z) rfl rfl rfl (pv 0) T.cl T.y194.h (jmI T) (hr.mono (by decide)) T.y194.b (jac (j8 (jb (pv 1))) jat) rfl T.y231 (jR T.y261) T.y315 T.y261 T.y285 sc.nd rfl rfl (fun ea oe hc=>(jap (j:=4) (by decide) sc.nd rfl (jn rfl) (jbP (jG (jar (bv:=false) (jY (.head _) (XCls.mk (jR T.y263) T.y245 T.y249 T.y237 T.y263 T.y255) hc rfl T.y209 jt rfl (.inl rfl) rfl T.y228 (jai T.y279 T.y258 T.y312 T.y282))) (jG (jar (bv:=false) (jY (.head _) (XCls.mk (jR T.y263) T.y245 T.y249 T.y237 T.y263 T.y255) hc rfl T.y209 jt rfl (.inl rfl) rfl T.y224 (jai T.y279 T.y254 T.y308 T.y278))) (jG (jar (bv:=true) (jY (.head _) (XCls.mk (jR T.y263) T.y245 T.y249 T.y237 T.y263 T.y255) hc rfl T.y209 jt rfl (.inl rfl) rfl T.y225 (jlv T.y255 T.y309 T.y279))) (jG (jar (bv:=false) (jY (.head _) (XCls.mk (jR T.y263) T.y245 T.y249 T.y237 T.y263 T.y255) hc rfl T.y209 jt rfl (.inl rfl) rfl T.y227 (jai T.y279 T.y257 T.y311 T.y281))) jbs))))) (jap (j:=4) (by decide) sc.nd rfl (jn rfl) (jdS (jbx (jb (pv 4))) (jbP (jG (jar (bv:=false) (jY (.head _) (XCls.mk (jR T.y263) T.y245 T.y249 T.y237 T.y263 T.y255) hc rfl T.y209 jt rfl (.inl rfl) rfl T.y222 (jai T.y279 T.y252 T.y306 T.y276))) (jG (jar (bv:=false) (jY (.head _) (XCls.mk (jR T.y263) T.y245 T.y249 T.y237 T.y263 T.y255) hc rfl T.y209 jt rfl (.inl rfl) rfl T.y223 (jai T.y279 T.y253 T.y307 T.y277))) (jG (jar (bv:=false) (jY (.head _) (XCls.mk (jR T.y263) T.y245 T.y249 T.y237 T.y263 T.y255) hc rfl T.y209 jt rfl (.inl rfl) rfl T.y226 (jai T.y279 T.y256 T.y310 T.y280))) (jG (jar (bv:=false) (jY (.head _) (XCls.mk (jR T.y263) T.y245 T.y249 T.y237 T.y263 T.y255) hc rfl T.y209 jt rfl (.inl rfl) rfl T.y229 (jai T.y279 T.y259 T.y313 T.y283))) jbs)))))) (jap (j:=4) (by decide) sc.nd rfl (jn rfl) (jdS (jbx (jb (pv 4))) (jbP (jG (jar (bv:=false) (jY (.head _) (XCls.mk (jR T.y263) T.y245 T.y249 T.y237 T.y263 T.y255) hc rfl T.y209 jt rfl (.inl rfl) rfl T.y230 (jai T.y279 T.y260 T.y314 T.y284))) jbs))) (jap (j:=2) (by decide) sc.nd rfl (jn rfl) (jbx jh) (jiQ (PWX.ptx (jdL (je3 (j7 jjh (jct PySem.F.slot_list_count PySem.F.type_list_count (ji5 (hux hr)) jlr (jb (pv 4)) jby) je (jL _))) (jdL (je3 (j7 jpi (jct PySem.F.slot_list_index PySem.F.type_list_index (jcK (hux hr)) jdU (jb (pv 4)) jby) je (jL _))) (jjx (jqB (bv:=true) (jjA (T:="ValueError") (.head _) (XCls.mk (jR T.y263) T.y245 T.y249 T.y237 T.y263 T.y255) hc rfl T.y209 jt rfl (.inl rfl) rfl T.y205 jdq (jiV jcE T.y233))))))) (jap (j:=2) (by decide) sc.nd rfl (jn rfl) (jbx (jk (jB (jak (ja jh (ja jh (ja jh (ja jh jf)))))) (jct PySem.F.slot_list_index PySem.F.type_list_index (jcK (hux hr)) jdU (jb (pv 4)) jby) (fun _ _=>rfl))) jgU))))))))
 (jgM (i:=3) (j:=0) (C:=t.y136) (ps:=["self","row"]) (fun _ _ z=>z) rfl rfl rfl (pv 0) T.cl T.y194.h (jrI T) (hr.mono (by decide)) T.y194.b (jac (j8 (jb (pv 1))) jat) rfl T.y231 (jR T.y261) T.y315 T.y261 T.y305 sc.nd rfl rfl (fun ea oe hc=>(jap (j:=4) (by decide) sc.nd rfl (jn rfl) (jbP (jG (jar (bv:=true) (jY (.head _) (XCls.mk (jR T.y265) T.y247 T.y251 T.y239 T.y265 T.y258) hc rfl T.y209 jt rfl (.inl rfl) rfl T.y228 (jlv T.y258 T.y312 T.y302))) (jG (jar (bv:=false) (jY (.head _) (XCls.mk (jR T.y265) T.y247 T.y251 T.y239 T.y265 T.y258) hc rfl T.y209 jt rfl (.inl rfl) rfl T.y224 (jai T.y302 T.y254 T.y308 T.y298))) (jG (jar (bv:=false) (jY (.head _) (XCls.mk (jR T.y265) T.y247 T.y251 T.y239 T.y265 T.y258) hc rfl T.y209 jt rfl (.inl rfl) rfl T.y225 (jai T.y302 T.y255 T.y309 T.y299))) (jG (jar (bv:=false) (jY (.head _) (XCls.mk (jR T.y265) T.y247 T.y251 T.y239 T.y265 T.y258) hc rfl T.y209 jt rfl (.inl rfl) rfl T.y227 (jai T.y302 T.y257 T.y311 T.y301))) jbs))))) (jap (j:=4) (by decide) sc.nd rfl (jn rfl) (jdS (jbx (jb (pv 4))) (jbP (jG (jar (bv:=false) (jY (.head _) (XCls.mk (jR T.y265) T.y247 T.y251 T.y239 T.y265 T.y258) hc rfl T.y209 jt rfl (.inl rfl) rfl T.y222 (jai T.y302 T.y252 T.y306 T.y296))) (jG (jar (bv:=false) (jY (.head _) (XCls.mk (jR T.y265) T.y247 T.y251 T.y239 T.y265 T.y258) hc rfl T.y209 jt rfl (.inl rfl) rfl T.y223 (jai T.y302 T.y253 T.y307 T.y297))) (jG (jar (bv:=false) (jY (.head _) (XCls.mk (jR T.y265) T.y247 T.y251 T.y239 T.y265 T.y258) hc rfl T.y209 jt rfl (.inl rfl) rfl T.y226 (jai T.y302 T.y256 T.y310 T.y300))) (jG (jar (bv:=false) (jY (.head _) (XCls.mk (jR T.y265) T.y247 T.y251 T.y239 T.y265 T.y258) hc rfl T.y209 jt rfl (.inl rfl) rfl T.y229 (jai T.y302 T.y259 T.y313 T.y303))) jbs)))))) (jap (j:=4) (by decide) sc.nd rfl (jn rfl) (jdS (jbx (jb (pv 4))) (jbP (jG (jar (bv:=false) (jY (.head _) (XCls.mk (jR T.y265) T.y247 T.y251 T.y239 T.y265 T.y258) hc rfl T.y209 jt rfl (.inl rfl) rfl T.y230 (jai T.y302 T.y260 T.y314 T.y304))) jbs))) (jap (j:=2) (by decide) sc.nd rfl (jn rfl) (jbx jh) (jiQ (PWX.ptx (jdL (je3 (j7 jjh (jct PySem.F.slot_list_count PySem.F.type_list_count (ji5 (hux hr)) jlr (jb (pv 4)) jby) je (jL _))) (jdL (je3 (j7 jpi (jct PySem.F.slot_list_index PySem.F.type_list_index (jcK (hux hr)) jdU (jb (pv 4)) jby) je (jL _))) (jjx (jqB (bv:=true) (jjA (T:="ValueError") (.head _) (XCls.mk (jR T.y265) T.y247 T.y251 T.y239 T.y265 T.y258) hc rfl T.y209 jt rfl (.inl rfl) rfl T.y205 jdq (jiV jcE T.y235))))))) (jap (j:=2) (by decide) sc.nd rfl (jn rfl) (jbx (jk (jB (jak (ja jh (ja jh (ja jh (ja jh jf)))))) (jct PySem.F.slot_list_index PySem.F.type_list_index (jcK (hux hr)) jdU (jb (pv 4)) jby) (fun _ _=>rfl))) jgU))))))))))))
 (ja5 (jT (jw (jb (pv 2))))))),jom⟩)
def jeN:jV:=jbd
theorem joG:jX jeN:=jb3
abbrev jmo:S3 :=
 (jM (dMt jqD (dC (.str ",")) (dF (jb4 1 (iLT (jd 0)) (gN 0) (fun _ Φ=>Φ true) (dB jo7 (jc (jd 0) jj))))))
theorem jr6:∀(ds:List D) (Φ:D->Prop),ds.length=1->jeN ds Φ->jmo (jH Φ) (jz 1 ds):=by
 exact jgY
theorem jsd (T:Txt P w K mg t):FnOk P w K mg base j0 1 t.y120 t.y121 ["numbers"] (spD K 1 jeN):=by
 have sc:=jkV
 refine jU (k:=0) T.y203.F jkV (fun cdv A outer s H E hr=>⟨jmo,(js (jw (jj8 PySem.F.slot_str_join PySem.F.type_str_join jrC jh (jB (jbe (xs:=["one"]) (M:=["numbers"]) (n:=1) (by rfl) rfl rfl (jbE (jb (pv 0))) (fun _ _ _ _=>(jaL (i:=0) (by decide) (show List.Nodup (["one","numbers"]:List Str) by decide +kernel) rfl (by first | exact Or.inl rfl | exact Or.inr rfl))) (fun _ _ _ _=>jbh) (fun _ _ _ _=>(ja6 jqC rfl T.y213 jhN (ja (jb (pv 0)) jf)))))))),jr6⟩)
abbrev jye:jV:=jrj
def kdL:List (List Str):=[["new","quad"],["new","turn","turn"],["new","turn"],["turn"],["turn"],["turn"],["turn"],["turn","point"],["turn","point"],["turn","turn"],["turn"]]
theorem jjj {α β:Type}(f:α->β)(x:Str):∀(ks:List Str) (xs:List α),jP ks (xs.map f) x=(jP ks xs x).map f
 | [],_=>rfl
 | _::_,[]=>rfl
 | k::ks,c::xs=>by
  rw [List.map_cons]
  unfold jP
  split
  ·rfl
  ·exact jjj f x ks xs
theorem jok:jaH=kdL.map fun l=>D.tup (l.map .str):=rfl
theorem jv5 {w:Str}{kd:List Str}(h:jP ks_ROWS kdL w=some kd):kd.length≤3:=by
 have:∀l∈kdL,l.length≤3:=by decide
 exact this kd (jf3 h)
def goR (ks:List Str):List Str->List Str->Nat
 | k::kd,w::ws=>if k="new" then (if j6 w=true then goR ks kd ws else if w.length≤900 then 1 else 9) else if k="turn" then (if w∈ks then goR ks kd ws else 1) else if k="quad" then (if jso w=true∧jnV w 4=false then 2 else 9) else if k="point" then (if jso w=true∧jnV w 3=false then 2 else 9) else 9
 | _,_=>9
def jeV (ks:List Str)(z:Str):Nat:=if 900<z.length then 9 else match Txt.split z " " with
 | []=>9
 | w::ws=>match jP ks_ROWS kdL w with
  | none=>0
  | some kd=>if kd.length=ws.length then goR ks kd ws else 0
theorem joe (ks:List Str):∀kd ws,goR ks kd ws≠0
 | [],ws=>by unfold goR; decide
 | k::kd,[]=>by unfold goR; decide
 | k::kd,w::ws=>by
  unfold goR
  split
  ·split
   ·exact joe ks kd ws
   ·split <;> decide
  ·split
   ·split
    ·exact joe ks kd ws
    ·decide
   ·split
    ·split <;> decide
    ·split
     ·split <;> decide
     ·decide
theorem jrU {o:Ob}(hl:o.ks.length=o.ds.length):∀kd ws,(goR o.ks kd ws=1->jgV (juL o) o kd ws)∧(goR o.ks kd ws=2->jgV (juI o) o kd ws)
 | [],ws=>by unfold goR; exact⟨fun h=>(by cases h),fun h=>(by cases h)⟩
 | k::kd,[]=>by unfold goR; exact⟨fun h=>(by cases h),fun h=>(by cases h)⟩
 | k::kd,w::ws=>by
  have ih:=jrU hl kd ws
  unfold goR
  split
  ·rename_i e1
   split
   ·rename_i hn
    have m:∃d,Mng o k w d:=⟨.str w,.inr (.inr (.inl ⟨e1,hn,rfl⟩))⟩
    exact⟨fun h=>.inr ⟨m,ih.1 h⟩,fun h=>.inr ⟨m,ih.2 h⟩⟩
   ·rename_i hn
    split
    ·rename_i h9
     exact⟨fun _=>.inl (.inl ⟨e1,h9,by cases e:j6 w with | true=>exact absurd e hn | false=>rfl⟩),fun h=>(by cases h)⟩
    ·exact⟨fun h=>(by cases h),fun h=>(by cases h)⟩
  ·split
   ·rename_i e2
    split
    ·rename_i hm
     have:(jP o.ks o.ds w).isSome=true:=by rw [jbW hl]; exact decide_eq_true hm
     obtain⟨d,hd⟩:=Option.isSome_iff_exists.mp this
     have m:∃d,Mng o k w d:=⟨d,.inr (.inr (.inr ⟨e2,hd⟩))⟩
     exact⟨fun h=>.inr ⟨m,ih.1 h⟩,fun h=>.inr ⟨m,ih.2 h⟩⟩
    ·rename_i hm
     exact⟨fun _=>.inl (.inr ⟨e2,hm⟩),fun h=>(by cases h)⟩
   ·split
    ·rename_i e3
     split
     ·rename_i hb
      exact⟨fun h=>(by cases h),fun _=>.inl ⟨4,.inl ⟨e3,rfl⟩,hb.1,hb.2⟩⟩
     ·exact⟨fun h=>(by cases h),fun h=>(by cases h)⟩
    ·split
     ·rename_i e4
      split
      ·rename_i hb
       exact⟨fun h=>(by cases h),fun _=>.inl ⟨3,.inr ⟨e4,rfl⟩,hb.1,hb.2⟩⟩
      ·exact⟨fun h=>(by cases h),fun h=>(by cases h)⟩
     ·exact⟨fun h=>(by cases h),fun h=>(by cases h)⟩
theorem jmF {ks:List Str}{z:Str}{r:Nat}(h:jeV ks z=r)(hr:r<9):z.length≤900∧∃w ws,Txt.split z " "=w::ws∧((r=0∧(jP ks_ROWS kdL w=none∨∃kd,jP ks_ROWS kdL w=some kd∧kd.length≠ws.length))∨∃kd,jP ks_ROWS kdL w=some kd∧kd.length=ws.length∧goR ks kd ws=r):=by
 unfold jeV at h
 split at h
 ·omega
 ·rename_i hz
  refine⟨by omega,?_⟩
  split at h
  ·omega
  ·rename_i w ws es
   refine⟨w,ws,es,?_⟩
   split at h
   ·rename_i eg; exact .inl ⟨h.symm,.inl eg⟩
   ·rename_i kd eg
    split at h
    ·rename_i el; exact .inr ⟨kd,eg,el,h⟩
    ·rename_i el; exact .inl ⟨h.symm,.inr ⟨kd,eg,el⟩⟩
section
variable {W:Wd}{o:Ob}{z:Str}
def jls (W:Wd)(o:Ob)(d:D)(way:Str):Prop:=∀Φ:D->Wd->Prop,Φ (.str way) W->jaD [.raw (.ref o.p),.val d] W Φ
theorem jAO (ho:o∈W)(hpq:o.p≠o.q){ks:List Str}(h:jeV ks z=0):jls W o (.str z) "row":=fun Φ k=>by
 obtain⟨hz,w,ws,es,⟨_,hn⟩ | ⟨kd,_,_,hg⟩⟩:=jmF h (by decide)
 ·refine⟨o,_,rfl,ho,hpq,.inr (.inl ⟨⟨o,_,rfl,_,rfl,.inr ⟨z,w,ws,rfl,by omega,es,?_⟩⟩,k⟩)⟩
  rcases hn with hn | ⟨kd,hk,hl⟩
  ·refine .inl fun hm=>?_
   have:(jP ks_ROWS kdL w).isSome=true:=by rw [jbW (ks:=ks_ROWS) (us:=kdL) rfl]; exact decide_eq_true hm
   rw [hn] at this
   cases this
  ·exact .inr ⟨kd.map .str,by rw [jok,jjj,hk]; rfl,by rw [List.length_map]; exact hl⟩
 ·exact absurd hg (joe _ _ _)
theorem jwz (ho:o∈W)(hpq:o.p≠o.q){d:D}(h:jnh d=false):jls W o d "row":=fun Φ k=>⟨o,d,rfl,ho,hpq,.inr (.inl ⟨⟨o,d,rfl,d,rfl,.inl h⟩,k⟩)⟩
theorem joQ (ho:o∈W)(hpq:o.p≠o.q)(hl:o.ks.length=o.ds.length)(h:jeV o.ks z=1):jls W o (.str z) "name":=fun Φ k=>by
 obtain⟨hz,w,ws,es,⟨h0,_⟩ | ⟨kd,hk,hkl,hg⟩⟩:=jmF h (by decide)
 ·cases h0
 ·exact⟨o,_,rfl,ho,hpq,.inr (.inr (.inl ⟨⟨o,z,w,ws,kd,rfl,ho,hpq,by omega,es,by rw [jok,jjj,hk]; rfl,hkl,jv5 hk,(jrU hl kd ws).1 hg⟩,k⟩))⟩
theorem jy6 (ho:o∈W)(hpq:o.p≠o.q)(hl:o.ks.length=o.ds.length)(h:jeV o.ks z=2):jls W o (.str z) "numbers":=fun Φ k=>by
 obtain⟨hz,w,ws,es,⟨h0,_⟩ | ⟨kd,hk,hkl,hg⟩⟩:=jmF h (by decide)
 ·cases h0
 ·exact⟨o,_,rfl,ho,hpq,.inr (.inr (.inr (.inl ⟨⟨o,z,w,ws,kd,rfl,ho,hpq,by omega,es,by rw [jok,jjj,hk]; rfl,hkl,jv5 hk,(jrU hl kd ws).2 hg⟩,k⟩)))⟩
theorem joR (ho:o∈W)(hpq:o.p≠o.q){n:Str}(hz:z.length≤10000)(hs:Txt.split z " "=(("turn":Str)::[n,jW (ql q0)]))(hn:j6 n=true):jls W o (.str z) "quad":=fun Φ k =>
 ⟨o,_,rfl,ho,hpq,.inr (.inr (.inr (.inr ⟨⟨o,z,n,rfl,ho,hpq,hz,hs,hn⟩,k⟩)))⟩
theorem jpa (ho:o∈W)(hpq:o.p≠o.q){W2:Wd}{d:D}(h:jaU [.raw (.ref o.p),.val d] W fun _ W'=>W'=W2){Φ:D->Wd->Prop}(k:Φ (.str "good") W2):jaD [.raw (.ref o.p),.val d] W Φ :=
 ⟨o,_,rfl,ho,hpq,.inl (jbV _ _ _ _ (fun _ W' e=>by subst e; exact k) h)⟩
end
theorem jdX {q p:Addr}{ks ks':List Str}{ds ds':List D}{n:Str}{d:D}(h1:jfK ks n=ks')(h2:jc1 ks ds n d=ds'):jex [⟨q,p,ks,ds⟩] (Ob.put ⟨q,p,ks,ds⟩ n d)=[⟨q,p,ks',ds'⟩]:=by
 subst h1 h2; simp [jex,Ob.put]
theorem jBQ:(rowsR.all fun z=>decide (jeV ["a","b"] z=0))=true:=by decide +kernel
theorem jBS:(rowsN.all fun z=>decide (jeV ["a","b"] z=1))=true:=by decide +kernel
theorem jBw:(rowsU.all fun z=>decide (jeV ["a","b"] z=2))=true:=by decide +kernel
theorem joM {P:Str->Prop}[DecidablePred P]{l:List Str}{Q:D->Prop}(h:(l.all fun z=>decide (P z))=true)(hq:∀z,P z->Q (.str z)):∀d∈l.map D.str,Q d:=fun d hd=>by
 obtain⟨z,hz,rfl⟩:=List.mem_map.mp hd
 exact hq z (of_decide_eq_true (List.all_eq_true.mp h z hz))
theorem jre {g:G3}{tb:S4}{d:D}{ds:List D}{Φ:F4->Prop}{ρ:jN}{W:Wd}(h:g d ρ fun ρ1=>noDct ρ1∧tb (ju7 (jhs g tb ds) Φ) ρ1 W):jhs g tb (d::ds) Φ ρ W:=h
theorem jzt {n:Nat}{d:D}(h:d∈ups 0 n):∃i:Nat,d=.int (i:Int):=by
 rw [jj7] at h
 obtain⟨i,_,rfl⟩:=List.mem_map.mp h
 exact⟨i,rfl⟩
abbrev wd1 (q p:Addr)(ks:List Str)(ds:List D):Wd:=[⟨q,p,ks,ds⟩]
abbrev scr (ns:List Int):Sl:=.val (.lst (ns.map .int))
abbrev bfr (qa qb:Q4):Sl:=.val (.lst [.str (jW (ql (j2 qa))),.str (jW (ql (j2 qb)))])
abbrev wab (q p:Addr)(qa qb:Q4):Wd:=wd1 q p ["a","b"] [tb (jm qa),tb (jm qb)]
def jjw:S4 :=
 (wIf (mT (mOp jmq (jbu 1 2 jaU (jah (jae (jg jcf (jg jcf (jg jcf (dC (.str "turn ")) (jg jA7 (dC (.str "ab")) (jd 2))) (dC (.str " "))) (jC 1 jeN (jc (jd 3) jj)))) jaE)) (dC (.str "ok"))))
 (jay (jM (dC (.bl false))))
 jjr)
abbrev jq4:S4 :=
 (ja8 (jay (jD 3 (jC 3 jfC (jc (jd 0) (jc (jg zM (dC (.int 4)) (jd 2)) (jc (jg (dI jug fun i j=>.int (i^j.toNat)) (dC (.int 10)) (dC (.int 20))) jj))))))
 jjw)
def jhu:S4 :=
 (wIf (jzJ (mT (mOp jmq (jgv 2 jaD (jg9 1 (jah (jae (dC (.str "bottom zz"))) jaE))) (dC (.str "name")))) (mT (mOp jmq (jgv 2 jaD (jg9 1 (jah (jae (dC (.str "bottom c"))) jaE))) (dC (.str "name")))))
 (jay (jM (dC (.bl false))))
 jjr)
def jiN:S4 :=
 (ja8 (wIf (mT (mOp jmq (jxb (jkh (jbu 1 2 jaU (jah (jae (dC (.str "quad a"))) jaE)) (jkh (jbu 1 2 jaU (jah (jae (dC (.str "quad b"))) jaE)) jup))) (jd 4)))
 (jay (jM (dC (.bl false))))
 jjr)
 jhu)
def jiF:S4 :=
 (ja8 (wIf (mT (mOp jmq (jgv 2 jaD (jg9 1 (jah (jae (jg ju (jd 7) (jg zR (jg zD (jd 5) (dC (.int 5))) (dB jeb (jc (jd 7) jj))))) jaE))) (jd 6)))
 (jay (jM (dC (.bl false))))
 jjr)
 jiN)
def jcX:S4 :=
 (ja8 (jay (sIf (dT (jg jcB (jd 6) (dC (.str "thing"))))
 (jD 6 (dC (.str "row")))
 jau))
 jiF)
def jcU:S4 :=
 (ja8 (jay (sIf (dT (jg jcB (jd 6) (dC (.str "quad"))))
 (jD 7 (dF (jam (jc (dC (.str "turn a 0,0,0,0")) (jc (dC (.str "turn zz 0,0,0,0")) (jc (dC (.str "turn b 0,0,0,0")) jj))))))
 jau))
 jcX)
def jcV:S4 :=
 (ja8 (jay (sIf (dT (jg jcB (jd 6) (dC (.str "numbers"))))
 (jD 7 (jC 0 jbM jj))
 jau))
 jcU)
def jcO:S4 :=
 (ja8 (jay (sIf (dT (jg jcB (jd 6) (dC (.str "name"))))
 (jD 7 (jC 0 jb6 jj))
 jau))
 jcV)
def jaT:S4 :=
 (ja8 (jay (sIf (dT (jg jcB (jd 6) (dC (.str "row"))))
 (jD 7 (jC 0 jcn jj))
 jau))
 jcO)
def jiT:S4 :=
 (ja8 (jay (jD 7 (dF (jam (jc (dC (.int 5)) (jc (dC .non) (jc (dC (.bl true)) (jc (dF (jam (jc (dC (.str "quad")) (jc (dC (.str "a")) jj)))) (jc (ja9 (jc (dC (.str "a")) jj)) (jc (dC (.int 0)) jj))))))))))
 jaT)
def jje:S4 :=
 (ja8 (jay (jD 6 (jg ju (dF (jam (jc (dC (.str "row")) (jc (dC (.str "name")) (jc (dC (.str "numbers")) (jc (dC (.str "quad")) (jc (dC (.str "thing")) jj))))))) (jg zR (jd 5) (dC (.int 5))))))
 jiT)
abbrev jwx:S4 :=
 (ja8 (jay (jD 5 (jC 2 jcr (jc (jd 0) (jc (jg zA (dC (.int 8)) (jd 2)) jj)))))
 jje)
abbrev jjs:S4 :=
 (wIf (mT (mOp jmq (jgv 2 jaD (jg9 1 (jah (jae (jd 8)) jaE))) (dC (.str "good"))))
 (jay (jM (dC (.bl false))))
 jjr)
def jlu:S4 :=
 (juP (jAy (mOp jcB (jgv 2 jaD (jg9 1 (jah (jae (dC (.str "back zz a"))) jaE))) (dC (.str "good"))) (mOp jcB (jgv 2 jaD (jg9 1 (jah (jae (dC (.str "bottom zz"))) jaE))) (dC (.str "good")))))
def joL:S4 :=
 (ja8 (juK (iLT (jC 0 jfL jj)) (gN 8)
 jjs)
 jlu)
def joT:S4 :=
 (ja8 (juK (iR1 (jc (dC (.int 10)) jj)) (gN 2)
 jwx)
 joL)
def jo2:S4 :=
 (ja8 (jt6 4 (jxb (jkh (jbu 1 2 jaU (jah (jae (dC (.str "quad a"))) jaE)) (jkh (jbu 1 2 jaU (jah (jae (dC (.str "quad b"))) jaE)) jup))))
 joT)
def jon:S4 :=
 (ja8 (juK (iR1 (jc (dC (.int 2)) jj)) (gN 2)
 jq4)
 jo2)
abbrev jyg:S4 :=
 (jz7 1
 jon)
theorem jzE:∀(ds:List D) (Φ:D->Prop),ds.length=1->jye ds Φ->jyg (jou Φ) (jz 9 ds) []:=by
 rintro ds Φ hl ⟨ns,rfl,h63,h⟩
 intro p q hne _
 show jon (jm8 (jou Φ)) [scr ns,.raw (.ref p),.un,.un,.un,.un,.un,.un,.un] (wd1 q p [] [])
 have fin:∀ks ds,(jm8 (jou Φ)) (.rt (.bl true) (wd1 q p ks ds)):=fun ks ds=>⟨_,_,rfl,h⟩
 generalize jm8 (jou Φ)=Θ at fin ⊢
 have fits:∀{n:Nat},n≤1000->n≤sizeLine:=fun h=>Nat.le_trans h (by decide)
 have sz:∀{n:Nat},n≤1000->n<sizeLine:=fun h=>Nat.lt_of_le_of_lt h (by decide)
 have small:∀{v:Q4},Bq 107 v->∀i∈ql v,i.natAbs<10^60:=fun bv i hi=>Nat.lt_of_lt_of_le (jnW bv i hi) (show 2^107≤10^60 by decide)
 have mem:∀{ks ds},(⟨q,p,ks,ds⟩:Ob)∈wd1 q p ks ds:=List.mem_cons_self
 -- one turn of the first loop
 have step:∀(k:Nat) (n:Str) (ks ks':List Str) (ds:List D) (ds':D->List D) (Ψ:F4->Prop) (s2 s3:Sl),k≤1->n.length=1->j6 n=true->(∀Ξ:Nat->Prop,Ξ (n.cps.toList.headD 0)->onS (atI ("ab":Str).cps.toList (k:Int)) Ξ)->(⟨#[n.cps.toList.headD 0]⟩:Str)=n->ks.length≤9->(∀d,jfK ks n=ks'∧jc1 ks ds n d=ds' d)->(ndS s2&&ndS s3)=true ->
   (∀v,v≠q0->Bq 107 v->Ψ (.nx [scr ns,.raw (.ref p),.val (.int (k:Int)),.val (qd v),.un,.un,.un,.un,.un] (wd1 q p ks' (ds' (tb (jm v)))))) ->
   noDct [scr ns,.raw (.ref p),.val (.int (k:Int)),s3,.un,.un,.un,.un,.un]∧jq4 Ψ [scr ns,.raw (.ref p),.val (.int (k:Int)),s3,.un,.un,.un,.un,.un] (wd1 q p ks ds):=fun k n ks ks' ds ds' Ψ s2 s3 hk hn1 hn hat hen hks hput hnd hΨ=>by
  simp only [Bool.and_eq_true] at hnd
  refine⟨jy (by simp only [List.all_cons,List.all_nil,jh0,jh3,jlj,hnd,Bool.and_self]),?_⟩
  refine⟨jcP (k:=3) (l:=3) (by unfold Bd; decide) (show k<2^3 by omega) (by decide),jzL (by decide),rfl,ns,4 * k,10^20,?_,by decide,by decide,fun v v0 bv=>⟨jy rfl,?_⟩⟩
  ·show [D.lst (ns.map .int),D.int (4 * (k:Int)),D.int (10^20)]=[D.lst (ns.map .int),D.int ((4 * k:Nat):Int),D.int (10^20)]
   rw [Int.natCast_mul]; rfl
  show jjw Ψ [scr ns,.raw (.ref p),.val (.int (k:Int)),.val (qd v),.un,.un,.un,.un,.un] (wd1 q p ks ds)
  unfold jjw
  have l2:(jW (ql v)).length≤62 * 4:=ji0 (small bv)
  refine⟨⟨_,mem,rfl,hne⟩,jv 2 rfl (by decide),hat _ ?_⟩
  rw [hen]
  refine⟨fits (show 5+n.length≤1000 by omega),fits (show ("turn "++n).length+1≤1000 by rw [jaF]; show 5+n.length+1≤1000; omega),rfl,ql v,rfl,(show 4≤4 by decide),fun i hi=>(jnW bv i hi).mono (by decide),?_⟩
  refine⟨fits (show ("turn "++n++" ").length+(jW (ql v)).length≤1000 by rw [jaF,jaF]; show 5+n.length+1+_≤1000; omega),rfl,?_⟩
  refine jf7 (o:=⟨q,p,ks,ds⟩) mem hne hn v0 (small bv) (sz (show ks.length≤1000 by omega)) ?_
  rw [jdX (hput (tb (jm v))).1 (hput (tb (jm v))).2]
  exact⟨j4,tF (by decide +kernel) (hΨ v v0 bv)⟩
 unfold jon
 refine⟨by decide,by decide,?_⟩
 refine jre (d:=.int 0) (step 0 "a" [] ["a"] [] (fun d=>[d]) _ .un .un (by decide) rfl (by decide +kernel) (fun Ξ z=>z) rfl (by decide) (fun d=>⟨rfl,rfl⟩) rfl fun qa a0 ba=>?_)
 refine jre (d:=.int 1) (step 1 "b" ["a"] ["a","b"] [tb (jm qa)] (fun d=>[tb (jm qa),d]) _ .un (.val (qd qa)) (by decide) rfl (by decide +kernel) (fun Ξ z=>z) rfl (by decide) (fun d=>⟨rfl,rfl⟩) rfl fun qb b0 bb=>?_)
 show jo2 Θ [scr ns,.raw (.ref p),.val (.int 1),.val (qd qb),.un,.un,.un,.un,.un] (wab q p qa qb)
 have ho:(⟨q,p,["a","b"],[tb (jm qa),tb (jm qb)]⟩:Ob)∈wab q p qa qb:=mem
 have hll:(["a","b"]:List Str).length=([tb (jm qa),tb (jm qb)]:List D).length:=rfl
 have na:j6 "a"=true:=by decide +kernel
 have nb:j6 "b"=true:=by decide +kernel
 have sqa:∀{Φ:D->Wd->Prop},Φ (.str (jW (ql (j2 qa)))) (wab q p qa qb)->jaU [.raw (.ref p),.val (.str "quad a")] (wab q p qa qb) Φ:=fun hΦ=>jmE (n:="a") ho hne na rfl a0 (by decide) ba hΦ
 have sqb:∀{Φ:D->Wd->Prop},Φ (.str (jW (ql (j2 qb)))) (wab q p qa qb)->jaU [.raw (.ref p),.val (.str "quad b")] (wab q p qa qb) Φ:=fun hΦ=>jmE (n:="b") ho hne nb rfl b0 (by decide) bb hΦ
 unfold jo2
 refine⟨⟨_,ho,rfl,hne⟩,rfl,sqa ?_⟩
 refine⟨⟨_,ho,rfl,hne⟩,rfl,sqb ?_⟩
 refine⟨jv 2 rfl (by decide),?_⟩
 show joT Θ [scr ns,.raw (.ref p),.val (.int 1),.val (qd qb),bfr qa qb,.un,.un,.un,.un] (wab q p qa qb)
 unfold joT
 refine⟨by decide,by decide,?_⟩
 refine jtf (fun _ ρ W'=>W'=wab q p qa qb∧∃x2 x5 x6 x7:Sl,(ndS x2&&ndS x5&&ndS x6&&ndS x7)=true∧ρ=[scr ns,.raw (.ref p),x2,.val (qd qb),bfr qa qb,x5,x6,x7,.un]) _ 0 _ _ ⟨rfl,_,.un,.un,.un,rfl,rfl⟩ ?_ ?_
 ·rintro j d ρ W' ed ⟨rfl,x2,x5,x6,x7,hnd,rfl⟩ Ψ hΨ
  obtain⟨i,rfl⟩:=jzt (List.mem_of_getElem? ed)
  simp only [Bool.and_eq_true] at hnd
  refine⟨jy (by simp only [List.set_cons_zero,List.set_cons_succ,List.all_cons,List.all_nil,jh0,jh3,jlj,hnd,Bool.and_self]),?_⟩
  refine⟨rfl,ns,8+i,rfl,jy (by simp only [List.set_cons_zero,List.set_cons_succ,List.all_cons,List.all_nil,jh0,jh3,jlj,hnd,Bool.and_self]),?_⟩
  generalize ns.getD (8+i) 0=cell
  show jje Ψ [scr ns,.raw (.ref p),.val (.int i),.val (qd qb),bfr qa qb,.val (.int cell),x6,x7,.un] _
  -- behind the choice of the rows
  have fin8:∀(way:Str) (some:List D),some≠[]->(∀d∈some,jls (wab q p qa qb) ⟨q,p,["a","b"],[tb (jm qa),tb (jm qb)]⟩ d way)->jiF Ψ [scr ns,.raw (.ref p),.val (.int i),.val (qd qb),bfr qa qb,.val (.int cell),.val (.str way),.val (.lst some),.un] (wab q p qa qb):=fun way some hs0 hs=>by
   have hl0:0<some.length:=List.length_pos_iff.mpr hs0
   have f0:=Int.fmod_nonneg_of_pos (cell.fdiv 5) (show (0:Int)<(some.length:Int) by omega)
   have f1:=Int.fmod_lt_of_pos (cell.fdiv 5) (show (0:Int)<(some.length:Int) by omega)
   obtain⟨m,hm⟩:∃m:Nat,(cell.fdiv 5).fmod (some.length:Int)=(m:Int):=⟨((cell.fdiv 5).fmod (some.length:Int)).toNat,by omega⟩
   have hml:m<some.length:=by omega
   have hne0:(some.length:Int)≠0:=by omega
   unfold jiF
   refine⟨jAh (by decide),hne0,jaC (d:=some[m]) (by rw [hm,jfE,List.getElem?_eq_getElem hml]) ?_⟩
   refine⟨rfl,hs _ (List.getElem_mem hml) _ ⟨j4,tF (by rw [jfS]; rfl) ?_⟩⟩
   show jiN Ψ [scr ns,.raw (.ref p),.val (.int i),.val (qd qb),bfr qa qb,.val (.int cell),.val (.str way),.val (.lst some),.un] _
   unfold jiN
   refine⟨⟨_,ho,rfl,hne⟩,rfl,sqa ?_⟩
   refine⟨⟨_,ho,rfl,hne⟩,rfl,sqb ?_⟩
   refine⟨jv 2 rfl (by decide),by simp only [dep,jgj]; decide,tF (by rw [jf9]; rfl) ?_⟩
   show jhu Ψ [scr ns,.raw (.ref p),.val (.int i),.val (qd qb),bfr qa qb,.val (.int cell),.val (.str way),.val (.lst some),.un] _
   unfold jhu
   refine⟨rfl,joQ (z:="bottom zz") ho hne hll (show jeV ["a","b"] "bottom zz"=1 by decide +kernel) _ ⟨j4,tF (by rw [jfS]; rfl) ?_⟩⟩
   refine⟨rfl,joQ (z:="bottom c") ho hne hll (show jeV ["a","b"] "bottom c"=1 by decide +kernel) _ ⟨j4,tF (by rw [jfS]; rfl) ?_⟩⟩
   exact hΨ _ _ ⟨rfl,_,_,_,_,rfl,rfl⟩
  have f0:=Int.fmod_nonneg_of_pos cell (show (0:Int)<5 by decide)
  have f1:=Int.fmod_lt_of_pos cell (show (0:Int)<5 by decide)
  have hw:cell.fmod 5=0∨cell.fmod 5=1∨cell.fmod 5=2∨cell.fmod 5=3∨cell.fmod 5=4:=by omega
  have n5:(5:Int)≠0:=by decide
  have nd1:∀s:Sl,ndS s=true->noDct [scr ns,.raw (.ref p),.val (.int i),.val (qd qb),bfr qa qb,.val (.int cell),s,x7,.un]:=fun s hs=>jy (by simp only [List.all_cons,List.all_nil,jh0,jh3,jlj,hnd,hs,Bool.and_self])
  unfold jje
  refine⟨jv 5 rfl (by decide),n5,?_⟩
  show onS (atI ([.str "row",.str "name",.str "numbers",.str "quad",.str "thing"]:List D) (cell.fmod 5)) _
  have go2:∀way:Str,jaT Ψ [scr ns,.raw (.ref p),.val (.int i),.val (qd qb),bfr qa qb,.val (.int cell),.val (.str way),.val (.lst [.int 5,.non,.bl true,.lst [.str "quad",.str "a"],.tup [.str "a"],.int 0]),.un] (wab q p qa qb)->noDct [scr ns,.raw (.ref p),.val (.int i),.val (qd qb),bfr qa qb,.val (.int cell),.val (.str way),x7,.un]∧jiT Ψ [scr ns,.raw (.ref p),.val (.int i),.val (qd qb),bfr qa qb,.val (.int cell),.val (.str way),x7,.un] (wab q p qa qb):=fun way hw=>by
   refine⟨nd1 _ rfl,?_⟩
   unfold jiT
   exact⟨jv 2 rfl (by decide),jv 1 rfl (by decide),jv 6 rfl (by decide),jy rfl,hw⟩
  rcases hw with e | e | e | e | e
  ·rw [e]
   refine go2 "row" ?_
   show jaT _ _ _
   unfold jaT jcO jcV jcU jcX
   refine⟨j4,tT (by decide +kernel) ⟨rfl,rfl,jy rfl,?_⟩⟩
   refine⟨j4,tF (by decide +kernel) ⟨jy rfl,?_⟩⟩
   refine⟨j4,tF (by decide +kernel) ⟨jy rfl,?_⟩⟩
   refine⟨j4,tF (by decide +kernel) ⟨jy rfl,?_⟩⟩
   refine⟨j4,tF (by decide +kernel) ⟨jy rfl,?_⟩⟩
   exact fin8 "row" (rowsR.map .str) (by decide +kernel) (joM jBQ fun z hz=>jAO ho hne hz)
  ·rw [e]
   refine go2 "name" ?_
   show jaT _ _ _
   unfold jaT jcO jcV jcU jcX
   refine⟨j4,tF (by decide +kernel) ⟨jy rfl,?_⟩⟩
   refine⟨j4,tT (by decide +kernel) ⟨rfl,rfl,jy rfl,?_⟩⟩
   refine⟨j4,tF (by decide +kernel) ⟨jy rfl,?_⟩⟩
   refine⟨j4,tF (by decide +kernel) ⟨jy rfl,?_⟩⟩
   refine⟨j4,tF (by decide +kernel) ⟨jy rfl,?_⟩⟩
   exact fin8 "name" (rowsN.map .str) (fun z=>by cases z) (joM jBS fun z hz=>joQ ho hne hll hz)
  ·rw [e]
   refine go2 "numbers" ?_
   show jaT _ _ _
   unfold jaT jcO jcV jcU jcX
   refine⟨j4,tF (by decide +kernel) ⟨jy rfl,?_⟩⟩
   refine⟨j4,tF (by decide +kernel) ⟨jy rfl,?_⟩⟩
   refine⟨j4,tT (by decide +kernel) ⟨rfl,rfl,jy rfl,?_⟩⟩
   refine⟨j4,tF (by decide +kernel) ⟨jy rfl,?_⟩⟩
   refine⟨j4,tF (by decide +kernel) ⟨jy rfl,?_⟩⟩
   exact fin8 "numbers" (rowsU.map .str) (fun z=>by cases z) (joM jBw fun z hz=>jy6 ho hne hll hz)
  ·rw [e]
   refine go2 "quad" ?_
   show jaT _ _ _
   unfold jaT jcO jcV jcU jcX
   refine⟨j4,tF (by decide +kernel) ⟨jy rfl,?_⟩⟩
   refine⟨j4,tF (by decide +kernel) ⟨jy rfl,?_⟩⟩
   refine⟨j4,tF (by decide +kernel) ⟨jy rfl,?_⟩⟩
   refine⟨j4,tT (by decide +kernel) ⟨jv 3 rfl (by decide),jy rfl,?_⟩⟩
   refine⟨j4,tF (by decide +kernel) ⟨jy rfl,?_⟩⟩
   refine fin8 "quad" [.str "turn a 0,0,0,0",.str "turn zz 0,0,0,0",.str "turn b 0,0,0,0"] (fun z=>by cases z) fun d hd=>?_
   simp only [List.mem_cons,List.not_mem_nil,or_false] at hd
   rcases hd with rfl | rfl | rfl
   ·exact joR (n:="a") ho hne (by decide +kernel) (by decide +kernel) na
   ·exact joR (n:="zz") ho hne (by decide +kernel) (by decide +kernel) (by decide +kernel)
   ·exact joR (n:="b") ho hne (by decide +kernel) (by decide +kernel) nb
  ·rw [e]
   refine go2 "thing" ?_
   show jaT _ _ _
   unfold jaT jcO jcV jcU jcX
   refine⟨j4,tF (by decide +kernel) ⟨jy rfl,?_⟩⟩
   refine⟨j4,tF (by decide +kernel) ⟨jy rfl,?_⟩⟩
   refine⟨j4,tF (by decide +kernel) ⟨jy rfl,?_⟩⟩
   refine⟨j4,tF (by decide +kernel) ⟨jy rfl,?_⟩⟩
   refine⟨j4,tT (by decide +kernel) ⟨jy rfl,?_⟩⟩
   refine fin8 "row" [.int 5,.non,.bl true,.lst [.str "quad",.str "a"],.tup [.str "a"],.int 0] (fun z=>by cases z) fun d hd=>jwz ho hne ?_
   simp only [List.mem_cons,List.not_mem_nil,or_false] at hd
   rcases hd with rfl | rfl | rfl | rfl | rfl | rfl <;> rfl
 ·rintro ρ W' ⟨rfl,x2,x5,x6,x7,hnd,rfl⟩
  simp only [Bool.and_eq_true] at hnd
  show joL Θ [scr ns,.raw (.ref p),x2,.val (qd qb),bfr qa qb,x5,x6,x7,.un] (wab q p qa qb)
  unfold joL
  refine⟨rfl,rfl,?_⟩
  have goodS:∀(z:Str) (jJ:List D) (x8:Sl) (ks ks':List Str) (ds ds':List D) (Ω:F4->Prop),jaU [.raw (.ref p),.val (.str z)] (wd1 q p ks ds) (fun _ W'=>W'=wd1 q p ks' ds') ->
    jhs (gN 8) jjs jJ Ω [scr ns,.raw (.ref p),x2,.val (qd qb),bfr qa qb,x5,x6,x7,.val (.str z)] (wd1 q p ks' ds') ->
    jhs (gN 8) jjs (.str z::jJ) Ω [scr ns,.raw (.ref p),x2,.val (qd qb),bfr qa qb,x5,x6,x7,x8] (wd1 q p ks ds):=fun z jJ x8 ks ks' ds ds' Ω hs hr=>by
   refine jre ⟨jy (by simp only [List.set_cons_zero,List.set_cons_succ,List.all_cons,List.all_nil,jh0,jh3,jlj,hnd,Bool.and_self]),?_⟩
   exact⟨rfl,jpa (o:=⟨q,p,ks,ds⟩) mem hne hs ⟨j4,tF (by rw [jfS]; rfl) hr⟩⟩
  have nc:j6 "c"=true:=by decide +kernel
  have n8:j6 "abcdefgh"=true:=by decide +kernel
  have nd:j6 "drop"=true:=by decide +kernel
  have nz:j6 "zz"=true:=by decide +kernel
  have four:∀{a b c d:Int} {n:Nat},a.natAbs<n->b.natAbs<n->c.natAbs<n->d.natAbs<n->∀i∈ql ⟨a,b,c,d⟩,i.natAbs<n:=fun h1 h2 h3 h4 i hi=>by
   simp only [ql,List.mem_cons,List.not_mem_nil,or_false] at hi
   rcases hi with rfl | rfl | rfl | rfl
   ·exact h1
   ·exact h2
   ·exact h3
   ·exact h4
  have three:∀{a b c:Int} {n:Nat},a.natAbs<n->b.natAbs<n->c.natAbs<n->∀i∈[a,b,c],i.natAbs<n:=fun h1 h2 h3 i hi=>by
   simp only [List.mem_cons,List.not_mem_nil,or_false] at hi
   rcases hi with rfl | rfl | rfl
   ·exact h1
   ·exact h2
   ·exact h3
  have qm:=jph a0 a0
  show jhs (gN 8) jjs [.str (("turn c ":Str)++edg++(",-":Str)++edg++(",0,-1":Str)),.str (("move a ":Str)++edg++(",-":Str)++edg++(",0":Str)),.str "turn c 0,0,0,-1",.str "same a a",.str "shared b 0,0,0",.str "after c a a",.str "back c c",.str "turn abcdefgh 1,2,3,4",.str "order b",.str "turn drop 0,1,0,0",.str "quad drop"] (jx6 jlu Θ) _ _
  refine goodS _ _ _ _ ["a","b","c"] _ [tb (jm qa),tb (jm qb),tb (jm ⟨10^60 - 1,-(10^60 - 1),0,-1⟩)] _ ?_ ?_
  ·rw [show (("turn c ":Str)++edg++(",-":Str)++edg++(",0,-1":Str))=("turn ":Str)++"c"++" "++jW (ql ⟨10^60 - 1,-(10^60 - 1),0,-1⟩) by decide +kernel]
   exact jf7 (o:=⟨q,p,_,_⟩) mem hne nc (fun z=>absurd (congrArg Q4.d z) (by decide)) (four (by decide +kernel) (by decide +kernel) (by decide +kernel) (by decide +kernel)) (sz (Nat.le_of_ble_eq_true rfl)) (jdX rfl rfl)
  refine goodS _ _ _ _ ["a","b","c"] _ [tb (jm qa),tb (jm qb),tb (jm ⟨10^60 - 1,-(10^60 - 1),0,-1⟩)] _ ?_ ?_
  ·rw [show (("move a ":Str)++edg++(",-":Str)++edg++(",0":Str))=("move ":Str)++("a"++" "++jW [10^60 - 1,-(10^60 - 1),0]) by decide +kernel]
   exact jwQ (o:=⟨q,p,_,_⟩) (p:=⟨10^60 - 1,-(10^60 - 1),0⟩) mem hne na rfl a0 ba (three (by decide +kernel) (by decide +kernel) (by decide +kernel)) ⟨by unfold Bd; decide +kernel,by unfold Bd; decide +kernel,by unfold Bd; decide +kernel⟩ rfl
  refine goodS _ _ _ _ ["a","b","c"] _ [tb (jm qa),tb (jm qb),tb (jm ⟨0,0,0,-1⟩)] _ ?_ ?_
  ·rw [show ("turn c 0,0,0,-1":Str)=("turn ":Str)++"c"++" "++jW (ql ⟨0,0,0,-1⟩) by decide +kernel]
   exact jf7 (o:=⟨q,p,_,_⟩) mem hne nc (fun z=>absurd (congrArg Q4.d z) (by decide)) (four (by decide +kernel) (by decide +kernel) (by decide +kernel) (by decide +kernel)) (sz (Nat.le_of_ble_eq_true rfl)) (jdX rfl rfl)
  refine goodS _ _ _ _ ["a","b","c"] _ [tb (jm qa),tb (jm qb),tb (jm ⟨0,0,0,-1⟩)] _ ?_ ?_
  ·exact jxK (o:=⟨q,p,_,_⟩) (a:="a") (b:="a") mem hne na na rfl rfl a0 a0 (by decide) ba ba rfl
  refine goodS _ _ _ _ ["a","b","c"] _ [tb (jm qa),tb (jm qb),tb (jm ⟨0,0,0,-1⟩)] _ ?_ ?_
  ·rw [show ("shared b 0,0,0":Str)=("shared ":Str)++("b"++" "++jW [0,0,0]) by decide +kernel]
   exact jtV (o:=⟨q,p,_,_⟩) (p:=⟨0,0,0⟩) mem hne nb rfl b0 bb (three (by decide +kernel) (by decide +kernel) (by decide +kernel)) ⟨by unfold Bd; decide +kernel,by unfold Bd; decide +kernel,by unfold Bd; decide +kernel⟩ rfl
  refine goodS _ _ _ _ ["a","b","c"] _ [tb (jm qa),tb (jm qb),tb (jm (jba qa qa))] _ ?_ ?_
  ·exact jvu (o:=⟨q,p,_,_⟩) (n:="c") (a:="a") (b:="a") mem hne nc na na rfl rfl a0 a0 (by decide) ba ba (sz (Nat.le_of_ble_eq_true rfl)) (jdX rfl rfl)
  refine goodS _ _ _ _ ["a","b","c"] _ [tb (jm qa),tb (jm qb),tb (jS (jm (jba qa qa)))] _ ?_ ?_
  ·exact jq5 (o:=⟨q,p,_,_⟩) (n:="c") (a:="c") mem hne nc nc rfl (sz (Nat.le_of_ble_eq_true rfl)) (jdX rfl rfl)
  refine goodS _ _ _ _ ["a","b","c","abcdefgh"] _ [tb (jm qa),tb (jm qb),tb (jS (jm (jba qa qa))),tb (jm ⟨1,2,3,4⟩)] _ ?_ ?_
  ·rw [show ("turn abcdefgh 1,2,3,4":Str)=("turn ":Str)++"abcdefgh"++" "++jW (ql ⟨1,2,3,4⟩) by decide +kernel]
   exact jf7 (o:=⟨q,p,_,_⟩) mem hne n8 (fun z=>absurd (congrArg Q4.d z) (by decide)) (four (by decide +kernel) (by decide +kernel) (by decide +kernel) (by decide +kernel)) (sz (Nat.le_of_ble_eq_true rfl)) (jdX rfl rfl)
  refine goodS _ _ _ _ ["a","b","c","abcdefgh"] _ [tb (jm qa),tb (jm qb),tb (jS (jm (jba qa qa))),tb (jm ⟨1,2,3,4⟩)] _ ?_ ?_
  ·exact jvG (o:=⟨q,p,_,_⟩) (n:="b") mem hne nb rfl b0 (by decide) bb rfl
  refine goodS _ _ _ _ ["a","b","c","abcdefgh","drop"] _ [tb (jm qa),tb (jm qb),tb (jS (jm (jba qa qa))),tb (jm ⟨1,2,3,4⟩),tb (jm ⟨0,1,0,0⟩)] _ ?_ ?_
  ·rw [show ("turn drop 0,1,0,0":Str)=("turn ":Str)++"drop"++" "++jW (ql ⟨0,1,0,0⟩) by decide +kernel]
   exact jf7 (o:=⟨q,p,_,_⟩) mem hne nd (fun z=>absurd (congrArg Q4.b z) (by decide)) (four (by decide +kernel) (by decide +kernel) (by decide +kernel) (by decide +kernel)) (sz (Nat.le_of_ble_eq_true rfl)) (jdX rfl rfl)
  refine goodS _ _ _ _ ["a","b","c","abcdefgh","drop"] _ [tb (jm qa),tb (jm qb),tb (jS (jm (jba qa qa))),tb (jm ⟨1,2,3,4⟩),tb (jm ⟨0,1,0,0⟩)] _ ?_ ?_
  ·exact jmE (o:=⟨q,p,_,_⟩) (n:="drop") (q:=⟨0,1,0,0⟩) (k:=107) mem hne nd rfl (fun z=>absurd (congrArg Q4.b z) (by decide)) (by decide) ⟨by unfold Bd; decide,by unfold Bd; decide,by unfold Bd; decide,by unfold Bd; decide⟩ rfl
  show jlu Θ [scr ns,.raw (.ref p),x2,.val (qd qb),bfr qa qb,x5,x6,x7,.val (.str "quad drop")] (wd1 q p ["a","b","c","abcdefgh","drop"] [tb (jm qa),tb (jm qb),tb (jS (jm (jba qa qa))),tb (jm ⟨1,2,3,4⟩),tb (jm ⟨0,1,0,0⟩)])
  unfold jlu
  refine⟨rfl,jpa (o:=⟨q,p,_,_⟩) (W2:=wd1 q p ["a","b","c","abcdefgh","drop","zz"] [tb (jm qa),tb (jm qb),tb (jS (jm (jba qa qa))),tb (jm ⟨1,2,3,4⟩),tb (jm ⟨0,1,0,0⟩),tb (jm (jeK qa))]) mem hne ?_ ?_⟩
  ·refine jq5 (o:=⟨q,p,_,_⟩) (n:="zz") (a:="a") (t:=jm qa) mem hne nz na rfl (sz (Nat.le_of_ble_eq_true rfl)) ?_
   have e:jS (jm qa)=jm (jeK qa):=by rw [jrh]
   rw [e]
   exact jdX rfl rfl
  refine⟨j4,?_⟩
  refine tT (by rw [jfS]) ?_
  refine⟨rfl,jpa (o:=⟨q,p,_,_⟩) (W2:=wd1 q p ["a","b","c","abcdefgh","drop","zz"] [tb (jm qa),tb (jm qb),tb (jS (jm (jba qa qa))),tb (jm ⟨1,2,3,4⟩),tb (jm ⟨0,1,0,0⟩),tb (jm (jeK qa))]) mem hne ?_ ?_⟩
  ·exact juG (o:=⟨q,p,_,_⟩) (n:="zz") mem hne nz rfl (jtm a0) (by decide) ba.bar rfl
  refine⟨j4,?_⟩
  rw [jfS]
  exact fin _ _
theorem jzZ (T:Txt P w K mg t):FnOk P w K mg base j0 10 t.y122 t.y123 ["script"] (spD K 1 jye):=by
 have sc:=jwg
 refine jAw (Z:=zc t) (k:=9) T.y204.F jwg (fun cdv A outer s H E hr=>⟨jyg,(jzk (i:=1) sc.nd rfl (jn rfl) (jwT T.mkc (jyy T) (hr.mono (by decide)) rfl T.y316 T.y146.b .nil jb5)
 (j9 (jow PassesOwn.never rfl (jbz rfl T.y212 (ja je jf)) (jgi (i:=2) sc.nd rfl (jn rfl))
 (j9 (jT (jp (i:=3) sc.nd rfl (jn rfl) (jq (js0 T) jqg (hr.mono (by decide)) T.y198 (ja (jb (pv 0)) (ja (jl jI je (jb (pv 2))) (ja (jl jBI je je) jf))))))
 (ja5 (jgl (jfU (jlG (hu3 hr)) (jbI (i:=1) (ps:=["self","row"]) rfl jbV (jac (j8 (jl jbT (jl jbT (jl jbT jh (jzY jh (jb (pv 2)) (fun _ _=>rfl))) jh) (jq (jsd T) joG (hr.mono (by decide)) T.y203 (ja (jb (pv 3)) jf)))) jat) (fun _ h=>jb7 (pv 1) T.cl T.y194.h (jij T) (hr.mono (by decide)) T.y194.b .nil jb5 h)) jh (jL _))
 (ja5 (jT (jw jby)))
 jfR))))
 (j9 (joh (i:=4) sc.nd rfl (jn rfl) (jvD (jiJ (jbI (i:=1) (ps:=["self","row"]) rfl jbV (jac (j8 jh) jat) (fun _ h=>jb7 (pv 1) T.cl T.y194.h (jij T) (hr.mono (by decide)) T.y194.b .nil jb5 h)) (jiJ (jbI (i:=1) (ps:=["self","row"]) rfl jbV (jac (j8 jh) jat) (fun _ h=>jb7 (pv 1) T.cl T.y194.h (jij T) (hr.mono (by decide)) T.y194.b .nil jb5 h)) jtl))))
 (j9 (jow PassesOwn.never rfl (jbz rfl T.y212 (ja je jf)) (jgi (i:=2) sc.nd rfl (jn rfl))
 (j9 (jT (jp (i:=5) sc.nd rfl (jn rfl) (jq (jiA T) jgw (hr.mono (by decide)) T.y197 (ja (jb (pv 0)) (ja (jl jav je (jb (pv 2))) jf)))))
 (j9 (jT (jp (i:=6) sc.nd rfl (jn rfl) (jk (jB (jak (ja jh (ja jh (ja jh (ja jh (ja jh jf))))))) (jl jfJ (jb (pv 5)) je) (fun _ _=>rfl))))
 (j9 (jT (jp (i:=7) sc.nd rfl (jn rfl) (jB (jak (ja je (ja jq9 (ja jby (ja (jB (jak (ja jh (ja jh jf)))) (ja (jaB (ja jh jf)) (ja je jf))))))))))
 (j9 (jT (jaO (j7 (jbQ (hu3 hr)) (jb (pv 6)) jh (jL _))
 (js (jp (i:=7) sc.nd rfl (jn rfl) (jjc (jlP T) jjR (hr.mono (by decide)) rfl T.y199.m T.y199.F.kp T.y199.b)))
 jaf))
 (j9 (jT (jaO (j7 (jbQ (hu3 hr)) (jb (pv 6)) jh (jL _))
 (js (jp (i:=7) sc.nd rfl (jn rfl) (jjc (jkA T) jju (hr.mono (by decide)) rfl T.y200.m T.y200.F.kp T.y200.b)))
 jaf))
 (j9 (jT (jaO (j7 (jbQ (hu3 hr)) (jb (pv 6)) jh (jL _))
 (js (jp (i:=7) sc.nd rfl (jn rfl) (jjc (jjt T) jhg (hr.mono (by decide)) rfl T.y201.m T.y201.F.kp T.y201.b)))
 jaf))
 (j9 (jT (jaO (j7 (jbQ (hu3 hr)) (jb (pv 6)) jh (jL _))
 (js (jp (i:=7) sc.nd rfl (jn rfl) (jB (jak (ja jh (ja jh (ja jh jf)))))))
 jaf))
 (j9 (jT (jaO (j7 (jbQ (hu3 hr)) (jb (pv 6)) jh (jL _))
 (js (jp (i:=6) sc.nd rfl (jn rfl) jh))
 jaf))
 (j9 (jgl (jfU (jlG (hu3 hr)) (jez (jbD T) jaY (hr.mono (by decide)) rfl T.y202.m T.y202.F.kp T.y202.b (jfQ (pv 1) (jac (j8 (jk (jb (pv 7)) (jl jfJ (jl jdd (jb (pv 5)) je) (jax jcW rfl T.y210 jbK (ja (jb (pv 7)) jf))) (fun _ _=>rfl))) jat))) (jb (pv 6)) (jL _))
 (ja5 (jT (jw jby)))
 jfR)
 (j9 (jgl (jfU (jlG (hu3 hr)) (jvD (jiJ (jbI (i:=1) (ps:=["self","row"]) rfl jbV (jac (j8 jh) jat) (fun _ h=>jb7 (pv 1) T.cl T.y194.h (jij T) (hr.mono (by decide)) T.y194.b .nil jb5 h)) (jiJ (jbI (i:=1) (ps:=["self","row"]) rfl jbV (jac (j8 jh) jat) (fun _ h=>jb7 (pv 1) T.cl T.y194.h (jij T) (hr.mono (by decide)) T.y194.b .nil jb5 h)) jtl))) (jb (pv 4)) (jL _))
 (ja5 (jT (jw jby)))
 jfR)
 (ja5 (jgl (PWM.pmb (jAv (jfU (jlG (hu3 hr)) (jez (jbD T) jaY (hr.mono (by decide)) rfl T.y202.m T.y202.F.kp T.y202.b (jfQ (pv 1) (jac (j8 jh) jat))) jh (jL _)) (jyP (jfU (jlG (hu3 hr)) (jez (jbD T) jaY (hr.mono (by decide)) rfl T.y202.m T.y202.F.kp T.y202.b (jfQ (pv 1) (jac (j8 jh) jat))) jh (jL _)))))
 (ja5 (jT (jw jby)))
 jfR)))))))))))))
 (j9 (jow PassesOwn.never rfl (jbE (jjc (jsZ T) jqi (hr.mono (by decide)) rfl T.y195.m T.y195.F.kp T.y195.b)) (jgi (i:=8) sc.nd rfl (jn rfl))
 (ja5 (jgl (jfU (jlG (hu3 hr)) (jez (jbD T) jaY (hr.mono (by decide)) rfl T.y202.m T.y202.F.kp T.y202.b (jfQ (pv 1) (jac (j8 (jb (pv 8))) jat))) jh (jL _))
 (ja5 (jT (jw jby)))
 jfR)))
 (ja5 (jov (jA1 (juQ (jbQ (hu3 hr)) (jez (jbD T) jaY (hr.mono (by decide)) rfl T.y202.m T.y202.F.kp T.y202.b (jfQ (pv 1) (jac (j8 jh) jat))) jh (jL _)) (jA8 (juQ (jbQ (hu3 hr)) (jez (jbD T) jaY (hr.mono (by decide)) rfl T.y202.m T.y202.F.kp T.y202.b (jfQ (pv 1) (jac (j8 jh) jat))) jh (jL _))))))))))),jzE⟩)
theorem jzO {l:PySem.W.OpenLaw}{fa:Addr}(hfa:mg "law"=some (.ref fa))(T:Txt l.prog w K mg t):∃fd:FuncData,(∀(s:Shared) (v:Value),BindsTo s fd ⟨[v],[]⟩ [("script",v)])∧∀base:Heap,K.In base->base.Ns mainGlobals mg->FnOk l.prog w K mg base j0 10 fa fd ["script"] (spD K 1 jrj):=by
 have e:=hfa.symm.trans T.y204.m
 cases e
 refine⟨_,fun s v=>?_,fun base _ _=>jzZ T⟩
 obtain⟨oc,od,kV,doc,pm,an,cdv,ct,osl,e,lk,hcd⟩:=T.y204.F.ex
 rw [e]; exact .of_eq rfl
theorem jvl {f:Addr}{od:Option Addr}{n:Nat}{sl:Array (Option Value)}{t0 t1 t2 t3 t4:Tok}(l:K.lookup f=some ⟨.type "tuple",od,.seq #[.int 2 t0,.int 3 t1,.int 4 t2,.int 6 t3,.int 1 t4] n,sl⟩):jfl K jiP (.ref f) (.ref f):=jyH (ns:=[2,3,4,6,1]) l (show 5≤sizeLine by decide) (jgf (jgf (jgf (jgf (jgf jbt)))))
theorem jvx {a f0 f1 f2:Addr}{n:Nat}{t0 t1 t2:Tok}(hl:K.lookup a=some ⟨.type "dict",none,.dict (jiY w [("turn",t0,.ref f0),("after",t1,.ref f1),("back",t2,.ref f2)]).toArray n,#[]⟩)(hs:(a == sysModules)=false):CDct P w K a ks_MAKERS [.ref f0,.ref f1,.ref f2]:=jo1 [("turn",t0,.ref f0),("after",t1,.ref f1),("back",t2,.ref f2)] hl hs (show ks_MAKERS.Nodup by decide +kernel)
theorem jyF {a f0 f1 f2 f3 f4 f5 f6 f7 f8 f9 f10:Addr}{n:Nat}{t0 t1 t2 t3 t4 t5 t6 t7 t8 t9 t10:Tok}(hl:K.lookup a=some ⟨.type "dict",none,.dict (jiY w [("turn",t0,.ref f0),("after",t1,.ref f1),("back",t2,.ref f2),("drop",t3,.ref f3),("quad",t4,.ref f4),("bottom",t5,.ref f5),("stair",t6,.ref f6),("move",t7,.ref f7),("shared",t8,.ref f8),("same",t9,.ref f9),("order",t10,.ref f10)]).toArray n,#[]⟩)(hs:(a == sysModules)=false):CDct P w K a ks_ROWS [.ref f0,.ref f1,.ref f2,.ref f3,.ref f4,.ref f5,.ref f6,.ref f7,.ref f8,.ref f9,.ref f10]:=jo1 [("turn",t0,.ref f0),("after",t1,.ref f1),("back",t2,.ref f2),("drop",t3,.ref f3),("quad",t4,.ref f4),("bottom",t5,.ref f5),("stair",t6,.ref f6),("move",t7,.ref f7),("shared",t8,.ref f8),("same",t9,.ref f9),("order",t10,.ref f10)] hl hs (show ks_ROWS.Nodup by decide +kernel)
theorem jzu {f0 f1 f2 f3 f4 f5 f6 f7 f8 f9 f10:Addr}{d0:Option Addr}{n0:Nat}{s0:Array (Option Value)}{u0_0 u0_1:Tok}(l0:K.lookup f0=some ⟨.type "tuple",d0,.seq #[.str "new" u0_0,.str "quad" u0_1] n0,s0⟩)
    {d1:Option Addr} {n1:Nat} {s1:Array (Option Value)} {u1_0 u1_1 u1_2:Tok} (l1:K.lookup f1=some ⟨.type "tuple",d1,.seq #[.str "new" u1_0,.str "turn" u1_1,.str "turn" u1_2] n1,s1⟩)
    {d2:Option Addr} {n2:Nat} {s2:Array (Option Value)} {u2_0 u2_1:Tok} (l2:K.lookup f2=some ⟨.type "tuple",d2,.seq #[.str "new" u2_0,.str "turn" u2_1] n2,s2⟩)
    {d3:Option Addr} {n3:Nat} {s3:Array (Option Value)} {u3_0:Tok} (l3:K.lookup f3=some ⟨.type "tuple",d3,.seq #[.str "turn" u3_0] n3,s3⟩)
    {d4:Option Addr} {n4:Nat} {s4:Array (Option Value)} {u4_0:Tok} (l4:K.lookup f4=some ⟨.type "tuple",d4,.seq #[.str "turn" u4_0] n4,s4⟩)
    {d5:Option Addr} {n5:Nat} {s5:Array (Option Value)} {u5_0:Tok} (l5:K.lookup f5=some ⟨.type "tuple",d5,.seq #[.str "turn" u5_0] n5,s5⟩)
    {d6:Option Addr} {n6:Nat} {s6:Array (Option Value)} {u6_0:Tok} (l6:K.lookup f6=some ⟨.type "tuple",d6,.seq #[.str "turn" u6_0] n6,s6⟩)
    {d7:Option Addr} {n7:Nat} {s7:Array (Option Value)} {u7_0 u7_1:Tok} (l7:K.lookup f7=some ⟨.type "tuple",d7,.seq #[.str "turn" u7_0,.str "point" u7_1] n7,s7⟩)
    {d8:Option Addr} {n8:Nat} {s8:Array (Option Value)} {u8_0 u8_1:Tok} (l8:K.lookup f8=some ⟨.type "tuple",d8,.seq #[.str "turn" u8_0,.str "point" u8_1] n8,s8⟩)
    {d9:Option Addr} {n9:Nat} {s9:Array (Option Value)} {u9_0 u9_1:Tok} (l9:K.lookup f9=some ⟨.type "tuple",d9,.seq #[.str "turn" u9_0,.str "turn" u9_1] n9,s9⟩)
    {d10:Option Addr} {n10:Nat} {s10:Array (Option Value)} {u10_0:Tok} (l10:K.lookup f10=some ⟨.type "tuple",d10,.seq #[.str "turn" u10_0] n10,s10⟩)
   :jlq K jaH [.ref f0,.ref f1,.ref f2,.ref f3,.ref f4,.ref f5,.ref f6,.ref f7,.ref f8,.ref f9,.ref f10] [.ref f0,.ref f1,.ref f2,.ref f3,.ref f4,.ref f5,.ref f6,.ref f7,.ref f8,.ref f9,.ref f10]:=(jbn (jbF (ns:=["new","quad"]) l0 (show 2≤sizeLine by decide) (jaK (jaK jbt))) (jbn (jbF (ns:=["new","turn","turn"]) l1 (show 3≤sizeLine by decide) (jaK (jaK (jaK jbt)))) (jbn (jbF (ns:=["new","turn"]) l2 (show 2≤sizeLine by decide) (jaK (jaK jbt))) (jbn (jbF (ns:=["turn"]) l3 (show 1≤sizeLine by decide) (jaK jbt)) (jbn (jbF (ns:=["turn"]) l4 (show 1≤sizeLine by decide) (jaK jbt)) (jbn (jbF (ns:=["turn"]) l5 (show 1≤sizeLine by decide) (jaK jbt)) (jbn (jbF (ns:=["turn"]) l6 (show 1≤sizeLine by decide) (jaK jbt)) (jbn (jbF (ns:=["turn","point"]) l7 (show 2≤sizeLine by decide) (jaK (jaK jbt))) (jbn (jbF (ns:=["turn","point"]) l8 (show 2≤sizeLine by decide) (jaK (jaK jbt))) (jbn (jbF (ns:=["turn","turn"]) l9 (show 2≤sizeLine by decide) (jaK (jaK jbt))) (jbn (jbF (ns:=["turn"]) l10 (show 1≤sizeLine by decide) (jaK jbt)) jwI)))))))))))
theorem juv {a f0 f1 f2 f3 f4 f5 f6:Addr}{n:Nat}{t0 t1 t2 t3 t4 t5 t6:Tok}(hl:K.lookup a=some ⟨.type "dict",none,.dict (jiY w [("quad",t0,.ref f0),("bottom",t1,.ref f1),("stair",t2,.ref f2),("move",t3,.ref f3),("shared",t4,.ref f4),("same",t5,.ref f5),("order",t6,.ref f6)]).toArray n,#[]⟩)(hs:(a == sysModules)=false):CDct P w K a ks_TELLERS [.ref f0,.ref f1,.ref f2,.ref f3,.ref f4,.ref f5,.ref f6]:=jo1 [("quad",t0,.ref f0),("bottom",t1,.ref f1),("stair",t2,.ref f2),("move",t3,.ref f3),("shared",t4,.ref f4),("same",t5,.ref f5),("order",t6,.ref f6)] hl hs (show ks_TELLERS.Nodup by decide +kernel)
theorem tmk {v0 v2 v4 v6 v8 v10 v12 v14 v16 v18 v20 v22 v24 v26 v28 v30 v32 v34 v36 v38 v40 v42 v44 v46 v48 v50 v52 v54 v56 v58 v60 v62 v64 v66 v68 v70 v72 v74 v76 v78 v80 v82 v84 v86 v88 v90 v92 v94 v96 v98 v100 v102 v104 v106 v108 v110 v112 v114 v116 v124 v125 v126 v127 v128 v129 v130 v131 v132 v133 v134 v135 v136 v139:Addr}{v1 v3 v5 v7 v9 v11 v13 v15 v17 v19 v21 v23 v25 v27 v29 v31 v33 v35 v37 v39 v41 v43 v45 v47 v49 v51 v53 v55 v57 v59 v61 v63 v65 v67 v69 v71 v73 v75 v77 v79 v81 v83 v85 v87 v89 v91 v93 v95 v97 v99 v101 v103 v105 v107 v109 v111 v113 v115 v117:FuncData}{v118 v120 v122:V}{v119 v121 v123:Value}{v137:List V}{v138:List Value}
  (h0:jfA K v134 "__init__" "Desk.__init__" jrs v0 v1 ["self"])
  (h1:jr K mg "has_only" jjd v2 v3 ["word","signs"])
  (h2:jr K mg "is_number" jhn v4 v5 ["word"])
  (h3:jr K mg "numbers_of" jgB v6 v7 ["word","often"])
  (h4:jr K mg "is_name" jkP v8 v9 ["word"])
  (h5:jr K mg "new_name" jiS v10 v11 ["word"])
  (h6:jfA K v134 "meaning" "Desk.meaning" jkZ v12 v13 ["self","kind","word"])
  (h7:jfA K v134 "meanings" "Desk.meanings" jiL v14 v15 ["self","words"])
  (h8:jr K mg "words_of" jjB v16 v17 ["row"])
  (h9:jr K mg "numbers_told" jeB v18 v19 ["numbers"])
  (h10:jr K mg "divisor_of_two" jdx v20 v21 ["one","other"])
  (h11:jr K mg "divisor" jk6 v22 v23 ["numbers"])
  (h12:jr K mg "leads_below_nought" jco v24 v25 ["quad"])
  (h13:jr K mg "row_over" jiU v26 v27 ["row","n"])
  (h14:jr K mg "plain" jox v28 v29 ["quad"])
  (h15:jr K mg "multiples_of_quad" jcy v30 v31 ["turn"])
  (h16:jr K mg "row_times" jhB v32 v33 ["one","other"])
  (h17:jr K mg "size" jrP v34 v35 ["quad"])
  (h18:jr K mg "quad_of" jkl v36 v37 ["turn"])
  (h19:jr K mg "told_quad" jhz v38 v39 ["told"])
  (h20:jr K mg "told_bottom" jfi v40 v41 ["told"])
  (h21:jr K mg "row_mix" jke v42 v43 ["one","times","other","times_too"])
  (h22:jr K mg "row_less" ji1 v44 v45 ["row","taken","times"])
  (h23:jr K mg "makings" jku v46 v47 ["one","other"])
  (h24:jr K mg "dial_stair" jgg v48 v49 ["dial"])
  (h25:jr K mg "column" jmD v50 v51 ["rows","place"])
  (h26:jr K mg "back" jsf v52 v53 ["turn"])
  (h27:jr K mg "part_without" jeE v54 v55 ["n","other"])
  (h28:jr K mg "dial_of" jj0 v56 v57 ["turn"])
  (h29:jr K mg "shared_stair" jeC v58 v59 ["turn"])
  (h30:jr K mg "told_stair" jf6 v60 v61 ["told"])
  (h31:jr K mg "moved" jpf v62 v63 ["turn","point"])
  (h32:jr K mg "told_spot" jhi v64 v65 ["told"])
  (h33:jr K mg "yes_or_no" jhq v66 v67 ["truth"])
  (h34:jr K mg "is_shared" jhm v68 v69 ["turn","point"])
  (h35:jr K mg "told_shared" jft v70 v71 ["told"])
  (h36:jr K mg "rows_of" jkE v72 v73 ["quad"])
  (h37:jr K mg "table_divisor" jd7 v74 v75 ["rows","bottom"])
  (h38:jr K mg "turn_of" jkc v76 v77 ["quad"])
  (h39:jr K mg "product" jk8 v78 v79 ["one","other"])
  (h40:jr K mg "after" jot v80 v81 ["one","other"])
  (h41:jr K mg "share_alike" jfp v82 v83 ["one","other"])
  (h42:jr K mg "told_same" jhc v84 v85 ["told"])
  (h43:jr K mg "order" jpn v86 v87 ["turn"])
  (h44:jr K mg "told_order" jgb v88 v89 ["told"])
  (h45:jr K mg "made_of_quad" jeD v90 v91 ["told"])
  (h46:jr K mg "made_of_two" jfm v92 v93 ["told"])
  (h47:jr K mg "made_back" jhe v94 v95 ["told"])
  (h48:jfA K v134 "say" "Desk.say" juu v96 v97 ["self","row"])
  (h49:jr K mg "_law_good" jjm v98 v99 [])
  (h50:jr K mg "_law_near" jjn v100 v101 ["cell","most"])
  (h51:jr K mg "_law_cell_at" jfk v102 v103 ["script","k"])
  (h52:jr K mg "_law_quad" jiO v104 v105 ["script","k","most"])
  (h53:jr K mg "_law_rows_wrong" jdw v106 v107 [])
  (h54:jr K mg "_law_names_wrong" jc7 v108 v109 [])
  (h55:jr K mg "_law_numbers_wrong" jcx v110 v111 [])
  (h56:jr K mg "_law_word_of" jfs v112 v113 ["desk","row"])
  (h57:jr K mg "_law_spelt" jho v114 v115 ["numbers"])
  (h58:jr K mg "law" jt0 v116 v117 ["script"])
  (h59:mg "ValueError"=none)
  (h60:mg "abs"=none)
  (h61:mg "all"=none)
  (h62:mg "int"=none)
  (h63:mg "isinstance"=none)
  (h64:mg "len"=none)
  (h65:mg "max"=none)
  (h66:mg "range"=none)
  (h67:mg "str"=none)
  (h68:mg "sum"=none)
  (h69:mg "tuple"=none)
  (h70:mg "FIGURES"=some v119)
  (h71:jfl K jkC v118 v119)
  (h72:mg "LETTERS"=some v121)
  (h73:jfl K jj9 v120 v121)
  (h74:mg "ORDERS"=some v123)
  (h75:jfl K jiP v122 v123)
  (h76:mg "NoDial"=some (.ref v124))
  (h77:mg "NoGrid"=some (.ref v125))
  (h78:mg "NoName"=some (.ref v126))
  (h79:mg "NoNumbers"=some (.ref v127))
  (h80:mg "NoParts"=some (.ref v128))
  (h81:mg "NoQuad"=some (.ref v129))
  (h82:mg "NoRow"=some (.ref v130))
  (h83:mg "NoStone"=some (.ref v131))
  (h84:mg "NoWay"=some (.ref v132))
  (h85:mg "SpaceError"=some (.ref v133))
  (h86:PySem.W.mroIn K v126 (.type "ValueError")=some true)
  (h87:PySem.W.mroIn K v127 (.type "ValueError")=some true)
  (h88:PySem.W.mroIn K v129 (.type "ValueError")=some true)
  (h89:PySem.W.mroIn K v130 (.type "ValueError")=some true)
  (h90:PySem.W.findIn K (.ref v126) "__class__"=some (some (.builtin "object.__class__")))
  (h91:PySem.W.findIn K (.ref v127) "__class__"=some (some (.builtin "object.__class__")))
  (h92:PySem.W.findIn K (.ref v129) "__class__"=some (some (.builtin "object.__class__")))
  (h93:PySem.W.findIn K (.ref v130) "__class__"=some (some (.builtin "object.__class__")))
  (h94:PySem.W.excIn K v126 bmV "ValueError.__new__"=true)
  (h95:PySem.W.excIn K v127 bmV "ValueError.__new__"=true)
  (h96:PySem.W.excIn K v129 bmV "ValueError.__new__"=true)
  (h97:PySem.W.excIn K v130 bmV "ValueError.__new__"=true)
  (h98:PySem.W.findIn K (.ref v126) "__getattribute__"=some (some (.builtin "BaseException.__getattribute__")))
  (h99:PySem.W.findIn K (.ref v127) "__getattribute__"=some (some (.builtin "BaseException.__getattribute__")))
  (h100:PySem.W.findIn K (.ref v129) "__getattribute__"=some (some (.builtin "BaseException.__getattribute__")))
  (h101:PySem.W.findIn K (.ref v130) "__getattribute__"=some (some (.builtin "BaseException.__getattribute__")))
  (h102:PySem.W.findIn K (.ref v126) "__getattr__"=some none)
  (h103:PySem.W.findIn K (.ref v127) "__getattr__"=some none)
  (h104:PySem.W.findIn K (.ref v129) "__getattr__"=some none)
  (h105:PySem.W.findIn K (.ref v130) "__getattr__"=some none)
  (h106:PySem.W.mroIn K v124 (.type "BaseException")=some true)
  (h107:PySem.W.mroIn K v125 (.type "BaseException")=some true)
  (h108:PySem.W.mroIn K v126 (.type "BaseException")=some true)
  (h109:PySem.W.mroIn K v127 (.type "BaseException")=some true)
  (h110:PySem.W.mroIn K v128 (.type "BaseException")=some true)
  (h111:PySem.W.mroIn K v129 (.type "BaseException")=some true)
  (h112:PySem.W.mroIn K v130 (.type "BaseException")=some true)
  (h113:PySem.W.mroIn K v131 (.type "BaseException")=some true)
  (h114:PySem.W.mroIn K v132 (.type "BaseException")=some true)
  (h115:PySem.W.mroIn K v133 (.type "BaseException")=some true)
  (h116:PySem.W.mroIn K v126 (.type "object")=some true)
  (h117:PySem.W.mroIn K v127 (.type "object")=some true)
  (h118:PySem.W.mroIn K v129 (.type "object")=some true)
  (h119:PySem.W.mroIn K v130 (.type "object")=some true)
  (h120:PySem.W.mroIn K v126 (.ref v124)=some false)
  (h121:PySem.W.mroIn K v126 (.ref v125)=some false)
  (h122:PySem.W.mroIn K v126 (.ref v126)=some true)
  (h123:PySem.W.mroIn K v126 (.ref v127)=some false)
  (h124:PySem.W.mroIn K v126 (.ref v128)=some false)
  (h125:PySem.W.mroIn K v126 (.ref v129)=some false)
  (h126:PySem.W.mroIn K v126 (.ref v130)=some false)
  (h127:PySem.W.mroIn K v126 (.ref v131)=some false)
  (h128:PySem.W.mroIn K v126 (.ref v132)=some false)
  (h129:PySem.W.mroIn K v126 (.ref v133)=some true)
  (h130:PySem.W.mroIn K v127 (.ref v124)=some false)
  (h131:PySem.W.mroIn K v127 (.ref v125)=some false)
  (h132:PySem.W.mroIn K v127 (.ref v126)=some false)
  (h133:PySem.W.mroIn K v127 (.ref v127)=some true)
  (h134:PySem.W.mroIn K v127 (.ref v128)=some false)
  (h135:PySem.W.mroIn K v127 (.ref v129)=some false)
  (h136:PySem.W.mroIn K v127 (.ref v130)=some false)
  (h137:PySem.W.mroIn K v127 (.ref v131)=some false)
  (h138:PySem.W.mroIn K v127 (.ref v132)=some false)
  (h139:PySem.W.mroIn K v127 (.ref v133)=some true)
  (h140:PySem.W.mroIn K v129 (.ref v124)=some false)
  (h141:PySem.W.mroIn K v129 (.ref v125)=some false)
  (h142:PySem.W.mroIn K v129 (.ref v126)=some false)
  (h143:PySem.W.mroIn K v129 (.ref v127)=some false)
  (h144:PySem.W.mroIn K v129 (.ref v128)=some false)
  (h145:PySem.W.mroIn K v129 (.ref v129)=some true)
  (h146:PySem.W.mroIn K v129 (.ref v130)=some false)
  (h147:PySem.W.mroIn K v129 (.ref v131)=some false)
  (h148:PySem.W.mroIn K v129 (.ref v132)=some false)
  (h149:PySem.W.mroIn K v129 (.ref v133)=some true)
  (h150:PySem.W.mroIn K v130 (.ref v124)=some false)
  (h151:PySem.W.mroIn K v130 (.ref v125)=some false)
  (h152:PySem.W.mroIn K v130 (.ref v126)=some false)
  (h153:PySem.W.mroIn K v130 (.ref v127)=some false)
  (h154:PySem.W.mroIn K v130 (.ref v128)=some false)
  (h155:PySem.W.mroIn K v130 (.ref v129)=some false)
  (h156:PySem.W.mroIn K v130 (.ref v130)=some true)
  (h157:PySem.W.mroIn K v130 (.ref v131)=some false)
  (h158:PySem.W.mroIn K v130 (.ref v132)=some false)
  (h159:PySem.W.mroIn K v130 (.ref v133)=some true)
  (h160:PySem.W.typeIn K (.ref v124)=some (.type "type"))
  (h161:PySem.W.typeIn K (.ref v125)=some (.type "type"))
  (h162:PySem.W.typeIn K (.ref v126)=some (.type "type"))
  (h163:PySem.W.typeIn K (.ref v127)=some (.type "type"))
  (h164:PySem.W.typeIn K (.ref v128)=some (.type "type"))
  (h165:PySem.W.typeIn K (.ref v129)=some (.type "type"))
  (h166:PySem.W.typeIn K (.ref v130)=some (.type "type"))
  (h167:PySem.W.typeIn K (.ref v131)=some (.type "type"))
  (h168:PySem.W.typeIn K (.ref v132)=some (.type "type"))
  (h169:PySem.W.typeIn K (.ref v133)=some (.type "type"))
  (h170:mg "Desk"=some (.ref v134))
  (h171:Cls K v134)
  (h172:NoAttr K v134 "turns")
  (h173:Mk K v134 v0)
  (h174:mg "MAKERS"=some (.ref v135))
  (h175:CDct P w K v135 ks_MAKERS [.ref v90,.ref v92,.ref v94])
  (h176:Vals [.ref v90,.ref v92,.ref v94] [.ref v90,.ref v92,.ref v94])
  (h177:mg "ROWS"=some (.ref v136))
  (h178:CDct P w K v136 ks_ROWS v138)
  (h179:jlq K jaH v137 v138)
  (h180:mg "TELLERS"=some (.ref v139))
  (h181:CDct P w K v139 ks_TELLERS [.ref v38,.ref v40,.ref v60,.ref v64,.ref v70,.ref v84,.ref v88])
  (h182:Vals [.ref v38,.ref v40,.ref v60,.ref v64,.ref v70,.ref v84,.ref v88] [.ref v38,.ref v40,.ref v60,.ref v64,.ref v70,.ref v84,.ref v88])
 :Txt P w K mg ⟨v0,v1,v2,v3,v4,v5,v6,v7,v8,v9,v10,v11,v12,v13,v14,v15,v16,v17,v18,v19,v20,v21,v22,v23,v24,v25,v26,v27,v28,v29,v30,v31,v32,v33,v34,v35,v36,v37,v38,v39,v40,v41,v42,v43,v44,v45,v46,v47,v48,v49,v50,v51,v52,v53,v54,v55,v56,v57,v58,v59,v60,v61,v62,v63,v64,v65,v66,v67,v68,v69,v70,v71,v72,v73,v74,v75,v76,v77,v78,v79,v80,v81,v82,v83,v84,v85,v86,v87,v88,v89,v90,v91,v92,v93,v94,v95,v96,v97,v98,v99,v100,v101,v102,v103,v104,v105,v106,v107,v108,v109,v110,v111,v112,v113,v114,v115,v116,v117,v118,v119,v120,v121,v122,v123,v124,v125,v126,v127,v128,v129,v130,v131,v132,v133,v134,v135,v136,v137,v138,v139⟩:=⟨h0,h1,h2,h3,h4,h5,h6,h7,h8,h9,h10,h11,h12,h13,h14,h15,h16,h17,h18,h19,h20,h21,h22,h23,h24,h25,h26,h27,h28,h29,h30,h31,h32,h33,h34,h35,h36,h37,h38,h39,h40,h41,h42,h43,h44,h45,h46,h47,h48,h49,h50,h51,h52,h53,h54,h55,h56,h57,h58,h59,h60,h61,h62,h63,h64,h65,h66,h67,h68,h69,h70,h71,h72,h73,h74,h75,h76,h77,h78,h79,h80,h81,h82,h83,h84,h85,h86,h87,h88,h89,h90,h91,h92,h93,h94,h95,h96,h97,h98,h99,h100,h101,h102,h103,h104,h105,h106,h107,h108,h109,h110,h111,h112,h113,h114,h115,h116,h117,h118,h119,h120,h121,h122,h123,h124,h125,h126,h127,h128,h129,h130,h131,h132,h133,h134,h135,h136,h137,h138,h139,h140,h141,h142,h143,h144,h145,h146,h147,h148,h149,h150,h151,h152,h153,h154,h155,h156,h157,h158,h159,h160,h161,h162,h163,h164,h165,h166,h167,h168,h169,h170,h171,h172,h173,h174,h175,h176,h177,h178,h179,h180,h181,h182⟩
end My
open PySem PySem.W PyProof.Rows D3 L2
set_option maxRecDepth 100000 in
set_option maxHeartbeats 0 in
def PySem.W.Fast.tw13534376345538555635:Unit:=()
def PySem.W.Fast.tw12598153356017832825:Unit:=()
def PySem.W.Fast.tw4560006567626115540:Unit:=()
def PySem.W.Fast.tw8431158796646684640:Unit:=()
def PySem.W.Fast.tw5526641036741807432:Unit:=()
def PySem.W.Fast.tw16145126224296902062:Unit:=()
def PySem.W.Fast.tw3408758015525577003:Unit:=()
def PySem.W.Fast.tw9644418137960266351:Unit:=()
def PySem.W.Fast.tw17876602809036055376:Unit:=()
def PySem.W.Fast.tw4877324823288680993:Unit:=()
def PySem.W.Fast.tw6802249231706754430:Unit:=()
def PySem.W.Fast.tw106819860273724325:Unit:=()
def PySem.W.Fast.tw16328989396824649281:Unit:=()
def PySem.W.Fast.tw5153783220024249904:Unit:=()
def PySem.W.Fast.tw13023425458892093802:Unit:=()
def PySem.W.Fast.tw6549725706865851997:Unit:=()
def PySem.W.Fast.tw3855564747584662153:Unit:=()
def PySem.W.Fast.tw16200569689436916543:Unit:=()
def PySem.W.Fast.tw3521095402167147315:Unit:=()
def PySem.W.Fast.tw11912339461450461003:Unit:=()
def PySem.W.Fast.tw7314029716065567205:Unit:=()
def PySem.W.Fast.tw16749429944747555418:Unit:=()
def PySem.W.Fast.tw2545932802742289933:Unit:=()
def PySem.W.Fast.tw16534168264275438117:Unit:=()
def PySem.W.Fast.tw16943025346004346546:Unit:=()
def PySem.W.Fast.tw2005840099965294118:Unit:=()
def PySem.W.Fast.tw10814200082337920485:Unit:=()
def PySem.W.Fast.tw383037856904290039:Unit:=()
def PySem.W.Fast.tw3434083220951449965:Unit:=()
def PySem.W.Fast.tw2820479940207223534:Unit:=()
def PySem.W.Fast.tw7085558354118294458:Unit:=()
def PySem.W.Fast.tw14755587648432345101:Unit:=()
def PySem.W.Fast.tw16729482967051175744:Unit:=()
def PySem.W.Fast.tw15001336663430770498:Unit:=()
def PySem.W.Fast.tw4142238807070850942:Unit:=()
def PySem.W.Fast.tw9997250280845935335:Unit:=()
def PySem.W.Fast.tw15694735822474841072:Unit:=()
def PySem.W.Fast.tw7798823394796163167:Unit:=()
def PySem.W.Fast.tw923098595647911477:Unit:=()
def PySem.W.Fast.tw785306349539701515:Unit:=()
def PySem.W.Fast.tw2751752230650917209:Unit:=()
def PySem.W.Fast.tw11886170711211922946:Unit:=()
def PySem.W.Fast.tw9281819905338842822:Unit:=()
def PySem.W.Fast.tw17409568775839155041:Unit:=()
def PySem.W.Fast.tw17688772771256833182:Unit:=()
def PySem.W.Fast.tw11543442861083644881:Unit:=()
def PySem.W.Fast.tw12372883484297030659:Unit:=()
def PySem.W.Fast.tw5771584385284303728:Unit:=()
def PySem.W.Fast.tw11783792750866901244:Unit:=()
def PySem.W.Fast.tw1943581244767655414:Unit:=()
def PySem.W.Fast.tw16421292086807113229:Unit:=()
def PySem.W.Fast.tw6683187220626879859:Unit:=()
theorem PySem.Challenge.cw_turngrid_k54_desk_refuses_holds : PySem.Challenge.rw_turngrid_k54_desk_refuses.Holds := by
 w_on; o_law; k_head; (case hw=>w_witness2)
 k_fill
 refine D3.jCx (l:=PySem.Challenge.rw_turngrid_k54_desk_refuses) (k:=10) rfl rfl ⟨rfl,by decide,by decide⟩ (fun w h Y=>PySem.W.kIn_of Y) ?F
 case F =>
  intro w mg fa h KX G hmg
  refine' My.jzO hmg (My.tmk (jqF ?a0 ?i0 ?l0 ?c0 ?k0 fun _ _ _ _ _ _ us hl=>len_1 us hl fun _=>rfl)
   (jbl KX G ?a1 ?l1 ?c1 ?k1 fun _ _ _ _ _ _ _ _=>rfl)
   (jal KX G ?a2 ?l2 ?c2 ?k2 fun _ _ _ _ _ _ _=>rfl)
   (jbl KX G ?a3 ?l3 ?c3 ?k3 fun _ _ _ _ _ _ _ _=>rfl)
   (jal KX G ?a4 ?l4 ?c4 ?k4 fun _ _ _ _ _ _ _=>rfl)
   (jal KX G ?a5 ?l5 ?c5 ?k5 fun _ _ _ _ _ _ _=>rfl)
   (jqF ?a6 ?i6 ?l6 ?c6 ?k6 fun _ _ _ _ _ _ us hl=>len_3 us hl fun _ _ _=>rfl)
   (jqF ?a7 ?i7 ?l7 ?c7 ?k7 fun _ _ _ _ _ _ us hl=>len_2 us hl fun _ _=>rfl)
   (jal KX G ?a8 ?l8 ?c8 ?k8 fun _ _ _ _ _ _ _=>rfl)
   (jal KX G ?a9 ?l9 ?c9 ?k9 fun _ _ _ _ _ _ _=>rfl)
   (jbl KX G ?a10 ?l10 ?c10 ?k10 fun _ _ _ _ _ _ _ _=>rfl)
   (jal KX G ?a11 ?l11 ?c11 ?k11 fun _ _ _ _ _ _ _=>rfl)
   (jal KX G ?a12 ?l12 ?c12 ?k12 fun _ _ _ _ _ _ _=>rfl)
   (jbl KX G ?a13 ?l13 ?c13 ?k13 fun _ _ _ _ _ _ _ _=>rfl)
   (jal KX G ?a14 ?l14 ?c14 ?k14 fun _ _ _ _ _ _ _=>rfl)
   (jal KX G ?a15 ?l15 ?c15 ?k15 fun _ _ _ _ _ _ _=>rfl)
   (jbl KX G ?a16 ?l16 ?c16 ?k16 fun _ _ _ _ _ _ _ _=>rfl)
   (jal KX G ?a17 ?l17 ?c17 ?k17 fun _ _ _ _ _ _ _=>rfl)
   (jal KX G ?a18 ?l18 ?c18 ?k18 fun _ _ _ _ _ _ _=>rfl)
   (jal KX G ?a19 ?l19 ?c19 ?k19 fun _ _ _ _ _ _ _=>rfl)
   (jal KX G ?a20 ?l20 ?c20 ?k20 fun _ _ _ _ _ _ _=>rfl)
   (jlk KX G ?a21 ?l21 ?c21 ?k21 fun _ _ _ _ _ _ us hl=>len_4 us hl fun _ _ _ _=>rfl)
   (jvL KX G ?a22 ?l22 ?c22 ?k22 fun _ _ _ _ _ _ _ _ _=>rfl)
   (jbl KX G ?a23 ?l23 ?c23 ?k23 fun _ _ _ _ _ _ _ _=>rfl)
   (jal KX G ?a24 ?l24 ?c24 ?k24 fun _ _ _ _ _ _ _=>rfl)
   (jbl KX G ?a25 ?l25 ?c25 ?k25 fun _ _ _ _ _ _ _ _=>rfl)
   (jal KX G ?a26 ?l26 ?c26 ?k26 fun _ _ _ _ _ _ _=>rfl)
   (jbl KX G ?a27 ?l27 ?c27 ?k27 fun _ _ _ _ _ _ _ _=>rfl)
   (jal KX G ?a28 ?l28 ?c28 ?k28 fun _ _ _ _ _ _ _=>rfl)
   (jal KX G ?a29 ?l29 ?c29 ?k29 fun _ _ _ _ _ _ _=>rfl)
   (jal KX G ?a30 ?l30 ?c30 ?k30 fun _ _ _ _ _ _ _=>rfl)
   (jbl KX G ?a31 ?l31 ?c31 ?k31 fun _ _ _ _ _ _ _ _=>rfl)
   (jal KX G ?a32 ?l32 ?c32 ?k32 fun _ _ _ _ _ _ _=>rfl)
   (jal KX G ?a33 ?l33 ?c33 ?k33 fun _ _ _ _ _ _ _=>rfl)
   (jbl KX G ?a34 ?l34 ?c34 ?k34 fun _ _ _ _ _ _ _ _=>rfl)
   (jal KX G ?a35 ?l35 ?c35 ?k35 fun _ _ _ _ _ _ _=>rfl)
   (jal KX G ?a36 ?l36 ?c36 ?k36 fun _ _ _ _ _ _ _=>rfl)
   (jbl KX G ?a37 ?l37 ?c37 ?k37 fun _ _ _ _ _ _ _ _=>rfl)
   (jal KX G ?a38 ?l38 ?c38 ?k38 fun _ _ _ _ _ _ _=>rfl)
   (jbl KX G ?a39 ?l39 ?c39 ?k39 fun _ _ _ _ _ _ _ _=>rfl)
   (jbl KX G ?a40 ?l40 ?c40 ?k40 fun _ _ _ _ _ _ _ _=>rfl)
   (jbl KX G ?a41 ?l41 ?c41 ?k41 fun _ _ _ _ _ _ _ _=>rfl)
   (jal KX G ?a42 ?l42 ?c42 ?k42 fun _ _ _ _ _ _ _=>rfl)
   (jal KX G ?a43 ?l43 ?c43 ?k43 fun _ _ _ _ _ _ _=>rfl)
   (jal KX G ?a44 ?l44 ?c44 ?k44 fun _ _ _ _ _ _ _=>rfl)
   (jal KX G ?a45 ?l45 ?c45 ?k45 fun _ _ _ _ _ _ _=>rfl)
   (jal KX G ?a46 ?l46 ?c46 ?k46 fun _ _ _ _ _ _ _=>rfl)
   (jal KX G ?a47 ?l47 ?c47 ?k47 fun _ _ _ _ _ _ _=>rfl)
   (jqF ?a48 ?i48 ?l48 ?c48 ?k48 fun _ _ _ _ _ _ us hl=>len_2 us hl fun _ _=>rfl)
   (jlk KX G ?a49 ?l49 ?c49 ?k49 fun _ _ _ _ _ _ us hl=>len_0 us hl rfl)
   (jbl KX G ?a50 ?l50 ?c50 ?k50 fun _ _ _ _ _ _ _ _=>rfl)
   (jbl KX G ?a51 ?l51 ?c51 ?k51 fun _ _ _ _ _ _ _ _=>rfl)
   (jvL KX G ?a52 ?l52 ?c52 ?k52 fun _ _ _ _ _ _ _ _ _=>rfl)
   (jlk KX G ?a53 ?l53 ?c53 ?k53 fun _ _ _ _ _ _ us hl=>len_0 us hl rfl)
   (jlk KX G ?a54 ?l54 ?c54 ?k54 fun _ _ _ _ _ _ us hl=>len_0 us hl rfl)
   (jlk KX G ?a55 ?l55 ?c55 ?k55 fun _ _ _ _ _ _ us hl=>len_0 us hl rfl)
   (jbl KX G ?a56 ?l56 ?c56 ?k56 fun _ _ _ _ _ _ _ _=>rfl)
   (jal KX G ?a57 ?l57 ?c57 ?k57 fun _ _ _ _ _ _ _=>rfl)
   (jal KX G ?a58 ?l58 ?c58 ?k58 fun _ _ _ _ _ _ _=>rfl)
   (PySem.W.mg_none_of KX G ?y205)
   (PySem.W.mg_none_of KX G ?y206)
   (PySem.W.mg_none_of KX G ?y207)
   (PySem.W.mg_none_of KX G ?y208)
   (PySem.W.mg_none_of KX G ?y209)
   (PySem.W.mg_none_of KX G ?y210)
   (PySem.W.mg_none_of KX G ?y211)
   (PySem.W.mg_none_of KX G ?y212)
   (PySem.W.mg_none_of KX G ?y213)
   (PySem.W.mg_none_of KX G ?y214)
   (PySem.W.mg_none_of KX G ?y215)
   (mgS (u:="0123456789") KX G ?a_FIGURES)
   jtB
   (mgS (u:="abcdefghijklmnopqrstuvwxyz") KX G ?a_LETTERS)
   jtB
   (mgR KX G ?a_ORDERS)
   (My.jvl ?l_ORDERS)
   (mgR KX G ?a_NoDial)
   (mgR KX G ?a_NoGrid)
   (mgR KX G ?a_NoName)
   (mgR KX G ?a_NoNumbers)
   (mgR KX G ?a_NoParts)
   (mgR KX G ?a_NoQuad)
   (mgR KX G ?a_NoRow)
   (mgR KX G ?a_NoStone)
   (mgR KX G ?a_NoWay)
   (mgR KX G ?a_SpaceError)
   ?y232
   ?y233
   ?y234
   ?y235
   ?y236
   ?y237
   ?y238
   ?y239
   ?y240
   ?y241
   ?y242
   ?y243
   ?y244
   ?y245
   ?y246
   ?y247
   ?y248
   ?y249
   ?y250
   ?y251
   ?y252
   ?y253
   ?y254
   ?y255
   ?y256
   ?y257
   ?y258
   ?y259
   ?y260
   ?y261
   ?y262
   ?y263
   ?y264
   ?y265
   ?y266
   ?y267
   ?y268
   ?y269
   ?y270
   ?y271
   ?y272
   ?y273
   ?y274
   ?y275
   ?y276
   ?y277
   ?y278
   ?y279
   ?y280
   ?y281
   ?y282
   ?y283
   ?y284
   ?y285
   ?y286
   ?y287
   ?y288
   ?y289
   ?y290
   ?y291
   ?y292
   ?y293
   ?y294
   ?y295
   ?y296
   ?y297
   ?y298
   ?y299
   ?y300
   ?y301
   ?y302
   ?y303
   ?y304
   ?y305
   ?y306
   ?y307
   ?y308
   ?y309
   ?y310
   ?y311
   ?y312
   ?y313
   ?y314
   ?y315
   (mgR KX G ?aC)
   (L2.Cls.mk ?pg ?hdi ?po ?sa)
   (jAS ?nA)
   (L2.Mk.mk ?mk ?ini ?ifn ?kc)
   (mgR KX G ?a_MAKERS)
   (My.jvx ?l_MAKERS ?y_MAKERS)
   (.cons rfl (.cons rfl (.cons rfl .nil)))
   (mgR KX G ?a_ROWS)
   (My.jyF ?l_ROWS ?y_ROWS)
   (My.jzu ?l_ROWS0 ?l_ROWS1 ?l_ROWS2 ?l_ROWS3 ?l_ROWS4 ?l_ROWS5 ?l_ROWS6 ?l_ROWS7 ?l_ROWS8 ?l_ROWS9 ?l_ROWS10)
   (mgR KX G ?a_TELLERS)
   (My.juv ?l_TELLERS ?y_TELLERS)
   (.cons rfl (.cons rfl (.cons rfl (.cons rfl (.cons rfl (.cons rfl (.cons rfl .nil))))))))
  case aC=>k_is
  case pg=>k_is
  case hdi=>k_is
  case po=>k_is
  case sa=>k_is
  case mk=>k_is
  case kc=>k_is
  case nA=>k_is
  case a0=>k_is
  case i0=>k_is
  case l0=>k_is
  case c0=>k_is
  case k0=>k_is
  case a1=>k_is
  case l1=>k_is
  case c1=>k_is
  case k1=>k_is
  case a2=>k_is
  case l2=>k_is
  case c2=>k_is
  case k2=>k_is
  case a3=>k_is
  case l3=>k_is
  case c3=>k_is
  case k3=>k_is
  case a4=>k_is
  case l4=>k_is
  case c4=>k_is
  case k4=>k_is
  case a5=>k_is
  case l5=>k_is
  case c5=>k_is
  case k5=>k_is
  case a6=>k_is
  case i6=>k_is
  case l6=>k_is
  case c6=>k_is
  case k6=>k_is
  case a7=>k_is
  case i7=>k_is
  case l7=>k_is
  case c7=>k_is
  case k7=>k_is
  case a8=>k_is
  case l8=>k_is
  case c8=>k_is
  case k8=>k_is
  case a9=>k_is
  case l9=>k_is
  case c9=>k_is
  case k9=>k_is
  case a10=>k_is
  case l10=>k_is
  case c10=>k_is
  case k10=>k_is
  case a11=>k_is
  case l11=>k_is
  case c11=>k_is
  case k11=>k_is
  case a12=>k_is
  case l12=>k_is
  case c12=>k_is
  case k12=>k_is
  case a13=>k_is
  case l13=>k_is
  case c13=>k_is
  case k13=>k_is
  case a14=>k_is
  case l14=>k_is
  case c14=>k_is
  case k14=>k_is
  case a15=>k_is
  case l15=>k_is
  case c15=>k_is
  case k15=>k_is
  case a16=>k_is
  case l16=>k_is
  case c16=>k_is
  case k16=>k_is
  case a17=>k_is
  case l17=>k_is
  case c17=>k_is
  case k17=>k_is
  case a18=>k_is
  case l18=>k_is
  case c18=>k_is
  case k18=>k_is
  case a19=>k_is
  case l19=>k_is
  case c19=>k_is
  case k19=>k_is
  case a20=>k_is
  case l20=>k_is
  case c20=>k_is
  case k20=>k_is
  case a21=>k_is
  case l21=>k_is
  case c21=>k_is
  case k21=>k_is
  case a22=>k_is
  case l22=>k_is
  case c22=>k_is
  case k22=>k_is
  case a23=>k_is
  case l23=>k_is
  case c23=>k_is
  case k23=>k_is
  case a24=>k_is
  case l24=>k_is
  case c24=>k_is
  case k24=>k_is
  case a25=>k_is
  case l25=>k_is
  case c25=>k_is
  case k25=>k_is
  case a26=>k_is
  case l26=>k_is
  case c26=>k_is
  case k26=>k_is
  case a27=>k_is
  case l27=>k_is
  case c27=>k_is
  case k27=>k_is
  case a28=>k_is
  case l28=>k_is
  case c28=>k_is
  case k28=>k_is
  case a29=>k_is
  case l29=>k_is
  case c29=>k_is
  case k29=>k_is
  case a30=>k_is
  case l30=>k_is
  case c30=>k_is
  case k30=>k_is
  case a31=>k_is
  case l31=>k_is
  case c31=>k_is
  case k31=>k_is
  case a32=>k_is
  case l32=>k_is
  case c32=>k_is
  case k32=>k_is
  case a33=>k_is
  case l33=>k_is
  case c33=>k_is
  case k33=>k_is
  case a34=>k_is
  case l34=>k_is
  case c34=>k_is
  case k34=>k_is
  case a35=>k_is
  case l35=>k_is
  case c35=>k_is
  case k35=>k_is
  case a36=>k_is
  case l36=>k_is
  case c36=>k_is
  case k36=>k_is
  case a37=>k_is
  case l37=>k_is
  case c37=>k_is
  case k37=>k_is
  case a38=>k_is
  case l38=>k_is
  case c38=>k_is
  case k38=>k_is
  case a39=>k_is
  case l39=>k_is
  case c39=>k_is
  case k39=>k_is
  case a40=>k_is
  case l40=>k_is
  case c40=>k_is
  case k40=>k_is
  case a41=>k_is
  case l41=>k_is
  case c41=>k_is
  case k41=>k_is
  case a42=>k_is
  case l42=>k_is
  case c42=>k_is
  case k42=>k_is
  case a43=>k_is
  case l43=>k_is
  case c43=>k_is
  case k43=>k_is
  case a44=>k_is
  case l44=>k_is
  case c44=>k_is
  case k44=>k_is
  case a45=>k_is
  case l45=>k_is
  case c45=>k_is
  case k45=>k_is
  case a46=>k_is
  case l46=>k_is
  case c46=>k_is
  case k46=>k_is
  case a47=>k_is
  case l47=>k_is
  case c47=>k_is
  case k47=>k_is
  case a48=>k_is
  case i48=>k_is
  case l48=>k_is
  case c48=>k_is
  case k48=>k_is
  case a49=>k_is
  case l49=>k_is
  case c49=>k_is
  case k49=>k_is
  case a50=>k_is
  case l50=>k_is
  case c50=>k_is
  case k50=>k_is
  case a51=>k_is
  case l51=>k_is
  case c51=>k_is
  case k51=>k_is
  case a52=>k_is
  case l52=>k_is
  case c52=>k_is
  case k52=>k_is
  case a53=>k_is
  case l53=>k_is
  case c53=>k_is
  case k53=>k_is
  case a54=>k_is
  case l54=>k_is
  case c54=>k_is
  case k54=>k_is
  case a55=>k_is
  case l55=>k_is
  case c55=>k_is
  case k55=>k_is
  case a56=>k_is
  case l56=>k_is
  case c56=>k_is
  case k56=>k_is
  case a57=>k_is
  case l57=>k_is
  case c57=>k_is
  case k57=>k_is
  case a58=>k_is
  case l58=>k_is
  case c58=>k_is
  case k58=>k_is
  case y205=>k_is
  case y206=>k_is
  case y207=>k_is
  case y208=>k_is
  case y209=>k_is
  case y210=>k_is
  case y211=>k_is
  case y212=>k_is
  case y213=>k_is
  case y214=>k_is
  case y215=>k_is
  case a_FIGURES=>k_is
  case a_LETTERS=>k_is
  case a_ORDERS=>k_is
  case l_ORDERS=>k_is
  case a_NoDial=>k_is
  case a_NoGrid=>k_is
  case a_NoName=>k_is
  case a_NoNumbers=>k_is
  case a_NoParts=>k_is
  case a_NoQuad=>k_is
  case a_NoRow=>k_is
  case a_NoStone=>k_is
  case a_NoWay=>k_is
  case a_SpaceError=>k_is
  case y232=>k_is
  case y233=>k_is
  case y234=>k_is
  case y235=>k_is
  case y236=>k_is
  case y237=>k_is
  case y238=>k_is
  case y239=>k_is
  (case y240=>k_exc)
  (case y241=>k_exc)
  (case y242=>k_exc)
  (case y243=>k_exc)
  case y244=>k_is
  case y245=>k_is
  case y246=>k_is
  case y247=>k_is
  case y248=>k_is
  case y249=>k_is
  case y250=>k_is
  case y251=>k_is
  case y252=>k_is
  case y253=>k_is
  case y254=>k_is
  case y255=>k_is
  case y256=>k_is
  case y257=>k_is
  case y258=>k_is
  case y259=>k_is
  case y260=>k_is
  case y261=>k_is
  case y262=>k_is
  case y263=>k_is
  case y264=>k_is
  case y265=>k_is
  case y266=>k_is
  case y267=>k_is
  case y268=>k_is
  case y269=>k_is
  case y270=>k_is
  case y271=>k_is
  case y272=>k_is
  case y273=>k_is
  case y274=>k_is
  case y275=>k_is
  case y276=>k_is
  case y277=>k_is
  case y278=>k_is
  case y279=>k_is
  case y280=>k_is
  case y281=>k_is
  case y282=>k_is
  case y283=>k_is
  case y284=>k_is
  case y285=>k_is
  case y286=>k_is
  case y287=>k_is
  case y288=>k_is
  case y289=>k_is
  case y290=>k_is
  case y291=>k_is
  case y292=>k_is
  case y293=>k_is
  case y294=>k_is
  case y295=>k_is
  case y296=>k_is
  case y297=>k_is
  case y298=>k_is
  case y299=>k_is
  case y300=>k_is
  case y301=>k_is
  case y302=>k_is
  case y303=>k_is
  case y304=>k_is
  case y305=>k_is
  case y306=>k_is
  case y307=>k_is
  case y308=>k_is
  case y309=>k_is
  case y310=>k_is
  case y311=>k_is
  case y312=>k_is
  case y313=>k_is
  case y314=>k_is
  case y315=>k_is
  case a_MAKERS=>k_is
  case l_MAKERS=>k_is
  (case y_MAKERS=>rfl)
  case a_ROWS=>k_is
  case l_ROWS=>k_is
  (case y_ROWS=>rfl)
  case l_ROWS0=>k_is
  case l_ROWS1=>k_is
  case l_ROWS2=>k_is
  case l_ROWS3=>k_is
  case l_ROWS4=>k_is
  case l_ROWS5=>k_is
  case l_ROWS6=>k_is
  case l_ROWS7=>k_is
  case l_ROWS8=>k_is
  case l_ROWS9=>k_is
  case l_ROWS10=>k_is
  case a_TELLERS=>k_is
  case l_TELLERS=>k_is
  (case y_TELLERS=>rfl)
  case ini=>k_is
  case ifn=>k_is
