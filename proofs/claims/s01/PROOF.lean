import PyProof.Rows.All
import Wide.All
import OpenK.AllK
import Wide.FinOn
import PyProof.EqAt
import PyProof.EqKinds
import PyProof.TupleCall
import KE.BitLaws
import Open.SpecLaws
import KE.OsHead
import KE.OsGo
import KE.KLam
import KE.KSortKeyAny
import KE.KSortTupG
import KE.KNestM
import PySem.Challenge.RW_paperspool_s01_answers
set_option Elab.async false
set_option bootstrap.genMatcherCode false
set_option compiler.extract_closed false
section
set_option Elab.async false
set_option linter.all false
set_option maxRecDepth 100000
namespace L2
open PySem PySem.Spec PyProof.Rows
noncomputable abbrev Key:=Sum Int Str
noncomputable def keyIs:Key->Value->Bool
 | .inl k,v=>Value.isInt k v
 | .inr x,v=>Value.isStrOf x v
noncomputable def keyH (w:World):Key->Int
 | .inl k=>hashInt k
 | .inr x=>hashStr w x
theorem keyIs_shape:∀ {k:Key} {v:Value},keyIs k v=true->(∃ i t,k=Sum.inl i∧v=Value.int i t)∨(∃ x t,k=Sum.inr x∧v=Value.str x t)
 | .inl i,v,h=>by
  obtain ⟨t,e⟩:=Value.isInt_shape (k:=i) (v:=v) h
  exact .inl ⟨i,t,rfl,e⟩
 | .inr x,v,h=>by
  obtain ⟨t,e⟩:=Value.isStrOf_shape (x:=x) (v:=v) h
  exact .inr ⟨x,t,rfl,e⟩
theorem keyIs_int (i:Int) (t:Tok):keyIs (.inl i) (.int i t)=true:=by simp [keyIs,Value.isInt]
theorem keyIs_str (x:Str) (t:Tok):keyIs (.inr x) (.str x t)=true:=by simp [keyIs,Value.isStrOf]
theorem key_ll (a b:Int):decide ((Sum.inl a:Key)=Sum.inl b)=(a == b):=by
 by_cases e:a=b
 ·subst e;simp
 ·have h:¬ (Sum.inl a:Key)=Sum.inl b:=fun q=>e (Sum.inl.inj q)
  rw [decide_eq_false h]
  exact (beq_eq_false_iff_ne.mpr e).symm
theorem key_rr (a b:Str):decide ((Sum.inr a:Key)=Sum.inr b)=decide (a=b):=by
 by_cases e:a=b
 ·subst e;simp
 ·have h:¬ (Sum.inr a:Key)=Sum.inr b:=fun q=>e (Sum.inr.inj q)
  rw [decide_eq_false h,decide_eq_false e]
theorem key_lr (a:Int) (b:Str):decide ((Sum.inl a:Key)=Sum.inr b)=false:=decide_eq_false (fun q=>nomatch q)
theorem key_rl (a:Str) (b:Int):decide ((Sum.inr a:Key)=Sum.inl b)=false:=decide_eq_false (fun q=>nomatch q)
noncomputable def mixKind (prog:Program) (w:World):PySem.KeyKind prog w Key where
 is:=keyIs
 hash:=keyH w
 inj:=fun v a b ha hb=>by
  rcases keyIs_shape ha with ⟨i,t,rfl,rfl⟩ | ⟨x,t,rfl,rfl⟩
  ·rcases keyIs_shape hb with ⟨j,u,rfl,e⟩ | ⟨y,u,rfl,e⟩
   ·injection e with e1 _;rw [e1]
   ·exact nomatch e
  ·rcases keyIs_shape hb with ⟨j,u,rfl,e⟩ | ⟨y,u,rfl,e⟩
   ·exact nomatch e
   ·injection e with e1 _;rw [e1]
 byValue:=fun k v h=>by
  rcases keyIs_shape h with ⟨i,t,rfl,rfl⟩ | ⟨x,t,rfl,rfl⟩ <;> rfl
 pyHash:=fun hv h=>by
  rcases keyIs_shape hv with ⟨i,t,rfl,rfl⟩ | ⟨x,t,rfl,rfl⟩
  ·exact wpAny_pyHash_int h
  ·exact wpAny_pyHash_str h
 eqBool:=fun hu hv h=>by
  rcases keyIs_shape hu with ⟨i,t,rfl,rfl⟩ | ⟨x,t,rfl,rfl⟩
  ·rcases keyIs_shape hv with ⟨j,u,rfl,rfl⟩ | ⟨y,u,rfl,rfl⟩
   ·rw [key_ll] at h;exact wpAny_eqBool_int h
   ·rw [key_lr] at h;exact SeqAt.EqAt.int_str i t y u _ _ _ _ h
  ·rcases keyIs_shape hv with ⟨j,u,rfl,rfl⟩ | ⟨y,u,rfl,rfl⟩
   ·rw [key_rl] at h;exact SeqAt.EqAt.str_int x t j u _ _ _ _ h
   ·rw [key_rr] at h;exact wpAny_eqBool_str h
 «strs»:=fun k x t v h=>by
  rcases keyIs_shape h with ⟨i,u,rfl,e⟩ | ⟨y,u,rfl,e⟩
  ·exact nomatch e
  ·injection e with e1 _
   subst e1
   cases v <;> rfl
theorem mixKind_int (prog:Program) (w:World) (i:Int) (t:Tok):(mixKind prog w).is (.inl i) (.int i t)=true:=keyIs_int i t
theorem mixKind_str (prog:Program) (w:World) (x:Str) (t:Tok):(mixKind prog w).is (.inr x) (.str x t)=true:=keyIs_str x t
end L2
namespace L2
open PySem PySem.Spec PyProof.Rows
inductive V where
 | non | bl (b:Bool) | int (i:Int) | str (x:Str) | byt (b:Array UInt8) | flt (b:UInt64) | ref (a:Addr) | ty (n:String)
 deriving DecidableEq
noncomputable def RelV:V->Value->Prop
 | .non,u=>u=Value.none
 | .bl b,u=>u=Value.bool b
 | .int i,u=>∃ t,u=Value.int i t
 | .str x,u=>∃ t,u=Value.str x t
 | .byt b,u=>∃ t,u=Value.bytes b t
 | .flt b,u=>∃ t,u=Value.float b t
 | .ref a,u=>u=Value.ref a
 | .ty n,u=>u=Value.type n
noncomputable abbrev Vals:List V->List Value->Prop:=Paired RelV
theorem Vals.length {xs:List V} {us:List Value} (r:Vals xs us):xs.length=us.length:=Paired.length r
theorem Vals.get:∀ {xs:List V} {us:List Value} {i:Nat} {x:V},Vals xs us->xs[i]? = some x->∃ u,us[i]? = some u∧RelV x u
 | _,_,_,_,.nil,e=>by simp at e
 | _,_,0,_,.cons r _,e=>by simp at e;subst e;exact ⟨_,rfl,r⟩
 | _,_,i + 1,x,.cons _ t,e=>by
  obtain ⟨u,h1,h2⟩:=Vals.get (i:=i) (x:=x) t (by simpa using e)
  exact ⟨u,by simpa using h1,h2⟩
theorem Vals.set {x:V} {u:Value} (r:RelV x u):∀ {xs:List V} {us:List Value} (i:Nat),Vals xs us->Vals (xs.set i x) (us.set i u)
 | _,_,_,.nil=>.nil
 | _,_,0,.cons _ t=>.cons r t
 | _,_,i + 1,.cons q t=>.cons q (Vals.set r i t)
theorem Vals.append:∀ {xs ys:List V} {us ws:List Value},Vals xs us->Vals ys ws->Vals (xs++ys) (us++ws)
 | _,_,_,_,.nil,s=>s
 | _,_,_,_,.cons r t,s=>.cons r (Vals.append t s)
theorem Vals.take:∀ {xs:List V} {us:List Value} (n:Nat),Vals xs us->Vals (xs.take n) (us.take n)
 | _,_,0,_=>.nil
 | _,_,_ + 1,.nil=>.nil
 | _,_,n + 1,.cons r t=>.cons r (Vals.take n t)
theorem Vals.drop:∀ {xs:List V} {us:List Value} (n:Nat),Vals xs us->Vals (xs.drop n) (us.drop n)
 | _,_,0,r=>r
 | _,_,_ + 1,.nil=>.nil
 | _,_,n + 1,.cons _ t=>Vals.drop n t
noncomputable def RelO:Option V->Option Value->Prop
 | some v,some u=>RelV v u
 | none,none=>True
 | _,_=>False
noncomputable def KV {κ:Type}:List (κ × V)->List (κ × Value)->Prop:=Paired fun (p:κ × V) (q:κ × Value)=>p.1=q.1∧RelV p.2 q.2
noncomputable def kV:Key->V
 | .inl i=>.int i
 | .inr x=>.str x
inductive HO where
 /-- a list -/
 | lst (xs:List V)
 /-- a tuple (never changes) -/
 | tup (xs:List V)
 /-- a dict whose keys are vints and texts;one whose keys are tuples of vints and texts (the empty one is both) -/
 | dK (kvs:List (Key × V)) | dT (kvs:List (List Key × V))
 /-- a set of vints: its members,its size -/
 | set (S:Int->Bool) (n:Nat)
 /-- an instance of the class at C,its dict at dx,its attributes -/
 | ins (C dx:Addr) (fs:List (Str × V))
 /-- the dict of the instance at x -/
 | own (x:Addr)
 /-- the dict of an exception -/
 | xd (fs:List (Str × V))
 /-- a bound method,f of x -/
 | met (f x:Addr)
 /-- a range object lo,lo + 1,.. below hi -/
 | rng (lo hi:Int)
 /-- a thing that is known to the object (the script;a dict while a loop walks it): read,never written while it is so -/
 | frz (o:Obj) (u:HO)
 /-- a code object's table -/
 | tbl (ps:Array Value)
 /-- any other thing,by what is true of its one object (a def of one's own: SetO a S n:=HO.ext fun h=>..) -/
 | ext (φ:Heap->Prop)
noncomputable abbrev Hp:=Addr->Option HO
noncomputable def upd (H:Hp) (a:Addr) (o:HO):Hp:=fun b=>if b=a then some o else H b
theorem upd_same {H:Hp} {a:Addr} {o:HO}:upd H a o a=some o:=by unfold upd;rw [if_pos rfl]
theorem upd_ne {H:Hp} {a b:Addr} {o:HO} (h:b ≠ a):upd H a o b=H b:=by unfold upd;rw [if_neg h]
theorem upd_upd {H:Hp} {a:Addr} {o u:HO}:upd (upd H a o) a u=upd H a u:=by
 funext b;unfold upd;split <;> rfl
theorem ne_of {H:Hp} {a b:Addr} {o u:HO} (h:H a=some o) (h':H b=some u) (d:o ≠ u):a ≠ b:=by
 intro e;subst e;rw [h] at h';exact d (Option.some.inj h')
theorem ne_of_none {H:Hp} {a b:Addr} {o:HO} (h:H a=some o) (h':H b=none):a ≠ b:=by
 intro e;subst e;rw [h] at h';cases h'
section
variable (P:Program) (w:World)
noncomputable def ObjOk (H:Hp) (h:Heap) (a:Addr):HO->Prop
 | .lst xs=>xs.length≤sizeLine∧∃ (its:List Value) (n:Nat),Vals xs its∧h.get? a=some { cls:=.type "list",data:=.seq its.toArray n }
 | .tup xs=>xs.length≤sizeLine∧∃ its:List Value,Vals xs its∧IsTup h a its.toArray
 | .dK kvs=>kvs.length≤sizeLine∧(a == sysModules)=false∧∃ vs,KV kvs vs∧h.DictOf (mixKind P w) a vs
 | .dT kvs=>kvs.length≤sizeLine∧(a == sysModules)=false∧∃ xs:List (List Key × Addr × Value),
   Paired (fun (p:List Key × V) (q:List Key × Addr × Value)=>p.1=q.1∧H q.2.1=some (.tup (p.1.map kV))∧RelV p.2 q.2.2) kvs xs ∧
   ∃ o es ep,h.get? a=some o∧o.ExactDict∧o.data = .dict es ep∧es.toList=xs.map (entryOfKey (tupleKind (mixKind P w)))∧(xs.map (·.1)).Nodup
 | .set S n=>h.SetOf (intKind P w) a S n
 | .ins C dx fs=>H dx=some (.own a)∧fs.length≤1000∧dx ≠ a∧h.get? a=some (PySem.W.instObj C dx) ∧
   ∃ mA,h.Ns1 dx mA∧(∀ f,RelO (fs.lookup f) (mA f))∧PySem.Within mA (fs.map (·.1))
 | .own _=>∃ o,h.get? a=some o
 | .xd fs=>∃ mA,h.Ns1 a mA∧∀ f,RelO (fs.lookup f) (mA f)
 | .rng lo hi=>∃ t u v,h.get? a=some { cls:=.type "range",data:=.fields #[.int lo t,.int hi u,.int 1 v] }
 | .frz o u=>h.get? a=some o∧ObjOk H h a u
 | .tbl ps=>h.get? a=some { cls:=.none,data:=.fields ps }
 | .met f x=>h.get? a=some (PySem.W.methodObj (.ref f) (.ref x))
 | .ext φ=>φ h∧(∃ o,h.get? a=some o)∧∀ h1 h2:Heap,φ h1->(∀ o,h1.get? a=some o->h2.get? a=some o)->φ h2
noncomputable def HOk (H:Hp) (h:Heap):Prop:=∀ a o,H a=some o->ObjOk P w H h a o
end
section
variable {P:Program} {w:World} {H H':Hp} {h h':Heap} {a:Addr} {o:HO}
theorem ObjOk.lt (x:ObjOk P w H h a o):a < h.objs.size:=by
 cases o with
 | lst xs=>obtain ⟨_,_,_,_,e⟩:=x;exact Heap.lt_size e
 | tup xs=>obtain ⟨_,_,_,p⟩:=x;exact p.lt
 | dK kvs=>obtain ⟨_,_,_,_,o,_,_,e,_⟩:=x;exact Heap.lt_size e
 | dT kvs=>obtain ⟨_,_,_,_,o,_,_,e,_⟩:=x;exact Heap.lt_size e
 | set S n=>obtain ⟨o,_,_,_,e,_⟩:=x;exact Heap.lt_size e
 | ins C dx fs=>obtain ⟨_,_,_,e,_⟩:=x;exact Heap.lt_size e
 | own y=>obtain ⟨_,e⟩:=x;exact Heap.lt_size e
 | xd fs=>obtain ⟨_,⟨_,_,_,e,_⟩,_⟩:=x;exact Heap.lt_size e
 | rng lo hi=>obtain ⟨_,_,_,e⟩:=x;exact Heap.lt_size e
 | frz ob u=>obtain ⟨e,_⟩:=x;exact Heap.lt_size e
 | tbl ps=>exact Heap.lt_size (show h.get? a=some _ from x)
 | met f y=>exact Heap.lt_size (show h.get? a=some _ from x)
 | ext φ=>obtain ⟨_,⟨_,e⟩,_⟩:=x;exact Heap.lt_size e
theorem Paired.mapP {α β:Type} {F G:α->β->Prop}:∀ {l₁:List α} {l₂:List β},Paired F l₁ l₂->(∀ a b,F a b->G a b)->Paired G l₁ l₂
 | _,_,.nil,_=>.nil
 | _,_,.cons r t,f=>.cons (f _ _ r) (Paired.mapP t f)
theorem ObjOk.stay (x:ObjOk P w H h a o) (k:∀ b u,(b=a∨H b=some (.own a))->h.get? b=some u->h'.get? b=some u)
  (ho:∀ b,H b=some (.own a)->H' b=some (.own a)) (ht:∀ b xs,H b=some (.tup xs)->H' b=some (.tup xs)):ObjOk P w H' h' a o:=by
 induction o with
 | lst xs=>obtain ⟨z,its,n,r,e⟩:=x;exact ⟨z,its,n,r,k _ _ (.inl rfl) e⟩
 | tup xs=>obtain ⟨z,its,r,ob,e,c⟩:=x;exact ⟨z,its,r,ob,k _ _ (.inl rfl) e,c⟩
 | dK kvs=>obtain ⟨z,y,vs,r,ob,es,ep,e,c⟩:=x;exact ⟨z,y,vs,r,ob,es,ep,k _ _ (.inl rfl) e,c⟩
 | dT kvs =>
  obtain ⟨z,y,xs,r,ob,es,ep,e,c⟩:=x
  exact ⟨z,y,xs,Paired.mapP r fun p q z=>⟨z.1,ht _ _ z.2.1,z.2.2⟩,ob,es,ep,k _ _ (.inl rfl) e,c⟩
 | set S n=>obtain ⟨ob,es,ep,t,e,c⟩:=x;exact ⟨ob,es,ep,t,k _ _ (.inl rfl) e,c⟩
 | ins C dx fs =>
  obtain ⟨d,z,ne,e,mA,⟨od,es,ep,e2,c⟩,r⟩:=x
  exact ⟨ho _ d,z,ne,k _ _ (.inl rfl) e,mA,⟨od,es,ep,k _ _ (.inr d) e2,c⟩,r⟩
 | own y=>obtain ⟨ob,e⟩:=x;exact ⟨ob,k _ _ (.inl rfl) e⟩
 | xd fs=>obtain ⟨mA,⟨od,es,ep,e,c⟩,r⟩:=x;exact ⟨mA,⟨od,es,ep,k _ _ (.inl rfl) e,c⟩,r⟩
 | rng lo hi=>obtain ⟨t,u,v,e⟩:=x;exact ⟨t,u,v,k _ _ (.inl rfl) e⟩
 | frz ob u ih=>obtain ⟨e,q⟩:=x;exact ⟨k _ _ (.inl rfl) e,ih q⟩
 | tbl ps =>
  have e:h.get? a=some { cls:=.none,data:=.fields ps }:=x
  show h'.get? a=some { cls:=.none,data:=.fields ps }
  exact k a _ (.inl rfl) e
 | met f y =>
  have e:h.get? a=some (PySem.W.methodObj (.ref f) (.ref y)):=x
  show h'.get? a=some (PySem.W.methodObj (.ref f) (.ref y))
  exact k a _ (.inl rfl) e
 | ext φ=>obtain ⟨p,⟨o,e⟩,st⟩:=x;exact ⟨st _ _ p fun o q=>k _ _ (.inl rfl) q,⟨o,k _ _ (.inl rfl) e⟩,st⟩
theorem HOk.lt (x:HOk P w H h) (e:H a=some o):a < h.objs.size:=(x a o e).lt
theorem HOk.fresh (x:HOk P w H h) (e:h.objs.size≤a):H a=none:=by
 cases q:H a with
 | none=>rfl
 | some u=>exact absurd (Nat.lt_of_lt_of_le (x.lt q) e) (Nat.lt_irrefl _)
theorem HOk.kept (x:HOk P w H h) (k:∀ b u,h.get? b=some u->h'.get? b=some u):HOk P w H h':=fun a o e =>
 (x a o e).stay (fun b u _ q=>k b u q) (fun _ q=>q) fun _ _ q=>q
theorem HOk.laid (x:HOk P w H h) (k:∀ b u,h.get? b=some u->h'.get? b=some u) (hp:h.objs.size≤a) (new:ObjOk P w (upd H a o) h' a o):HOk P w (upd H a o) h':=fun b u e=>by
 have hn:=x.fresh hp
 by_cases hb:b=a
 ·subst hb;rw [upd_same] at e;cases e;exact new
 ·rw [upd_ne hb] at e
  exact (x b u e).stay (fun c v _ q=>k c v q) (fun c q=>by rw [upd_ne (ne_of_none q hn)];exact q) fun c xs q=>by rw [upd_ne (ne_of_none q hn)];exact q
end
noncomputable def Rd (H:Hp) (a:Addr) (u:HO):Prop:=H a=some u∨∃ o,H a=some (.frz o u)
theorem Rd.ok {P:Program} {w:World} {H:Hp} {h:Heap} {a:Addr} {u:HO} (r:Rd H a u) (x:HOk P w H h):ObjOk P w H h a u:=by
 rcases r with r | ⟨o,r⟩
 ·exact x a u r
 ·obtain ⟨_,q⟩:=x a _ r
  exact q
noncomputable def Mut:Option HO->Prop
 | some (.lst _)=>True
 | some (.dK _)=>True
 | some (.dT _)=>True
 | some (.set _ _)=>True
 | some (.ins _ _ _)=>True
 | some (.ext _)=>True
 | _=>False
section
variable {P:Program} {w:World} {H:Hp} {h h':Heap} {x e:Addr} {o':HO}
theorem HOk.write (ok:HOk P w H h) (mu:Mut (H x)) (he:e=x∨H e=some (.own x)) (k:∀ b u,b ≠ e->h.get? b=some u->h'.get? b=some u) (heo:∃ u,h'.get? e=some u)
  (new:ObjOk P w (upd H x o') h' x o'):HOk P w (upd H x o') h':=fun b u q=>by
 have nown:∀ c y,H c=some (.own y)->c ≠ x:=fun c y r z=>by subst z;rw [r] at mu;exact mu
 have ntup:∀ c xs,H c=some (.tup xs)->c ≠ x:=fun c xs r z=>by subst z;rw [r] at mu;exact mu
 by_cases hb:b=x
 ·subst hb;rw [upd_same] at q;cases q;exact new
 ·rw [upd_ne hb] at q
  by_cases hbe:b=e
  ·have q':H b=some (.own x):=by
    rcases he with z | z
    ·exact absurd (hbe.trans z) hb
    ·rw [hbe];exact z
   rw [q] at q';cases q'
   obtain ⟨v,hv⟩:=heo
   exact ⟨v,by rw [hbe];exact hv⟩
  ·refine (ok b u q).stay (fun c v hc r=>k c v ?_ r) (fun c r=>by rw [upd_ne (nown c b r)];exact r) fun c xs r=>by rw [upd_ne (ntup c xs r)];exact r
   rcases hc with rfl | hc
   ·exact hbe
   ·rintro rfl
    rcases he with z | z
    ·exact nown c b hc z
    ·rw [hc] at z;cases z;exact hb rfl
end
structure Un (fs ex:List Addr) (H H':Hp) (h h':Heap):Prop where
 keep:∀ b o,h.get? b=some o->H b=none->b ∉ fs->b ∉ ex->h'.get? b=some o
 slot:∀ b o,h.get? b=some o->H b=none->b ∈ fs->b ∉ ex->∃ sl,h'.get? b=some { o with slots:=sl }
 free:∀ b o,h.get? b=some o->H b=none->b ∉ ex->H' b=none
 there:∀ b o,h.get? b=some o->b ∉ ex->∃ o',h'.get? b=some o'
 tups:∀ b xs,H b=some (.tup xs)->H' b=some (.tup xs)
 frzs:∀ b o u,H b=some (.frz o u)->H' b=some (.frz o u)
 tbls:∀ b ps,H b=some (.tbl ps)->∃ more,H' b=some (.tbl (ps++more))
section
variable {fs fs' ex ex':List Addr} {H H1 H2:Hp} {h h1 h2 h':Heap} {a x e:Addr} {o:HO}
theorem Un.any (u:Un fs ex H H1 h h1) {b:Addr} {ob:Obj} (q:h.get? b=some ob) (n:H b=none) (hx:b ∉ ex):∃ sl,h1.get? b=some { ob with slots:=sl }:=by
 by_cases hb:b ∈ fs
 ·exact u.slot b ob q n hb hx
 ·exact ⟨ob.slots,u.keep b ob q n hb hx⟩
theorem Un.kept (k:∀ b u,h.get? b=some u->h'.get? b=some u):Un fs ex H H h h':=
 ⟨fun b ob q _ _ _=>k b ob q,fun b ob q _ _ _=>⟨ob.slots,k b ob q⟩,fun _ _ _ n _=>n,fun b ob q _=>⟨ob,k b ob q⟩,fun _ _ q=>q,fun _ _ _ q=>q,fun _ ps q=>⟨#[],by rw [q];simp⟩⟩
theorem Un.refl:Un fs ex H H h h:=Un.kept fun _ _ q=>q
theorem Un.laid (k:∀ b u,h.get? b=some u->h'.get? b=some u) (hp:h.objs.size≤a) (hn:H a=none):Un fs ex H (upd H a o) h h' where
 keep:=fun b u q _ _ _=>k b u q
 slot:=fun b u q _ _ _=>⟨u.slots,k b u q⟩
 free:=fun b u q n _=>by rw [upd_ne (Nat.ne_of_lt (Nat.lt_of_lt_of_le (Heap.lt_size q) hp))];exact n
 there:=fun b u q _=>⟨u,k b u q⟩
 tups:=fun b xs q=>by rw [upd_ne (ne_of_none q hn)];exact q
 frzs:=fun b u xs q=>by rw [upd_ne (ne_of_none q hn)];exact q
 tbls:=fun b ps q=>⟨#[],by rw [upd_ne (ne_of_none q hn),q];simp⟩
theorem Un.write (mu:Mut (H x)) (he:e=x∨H e=some (.own x)) (k:∀ b u,b ≠ e->h.get? b=some u->h'.get? b=some u) (heo:∃ u,h'.get? e=some u):Un fs ex H (upd H x o) h h':=by
 have hx:∀ b,H b=none->b ≠ x:=fun b n z=>by subst z;rw [n] at mu;exact mu
 have hb:∀ b,H b=none->b ≠ e:=fun b n z=>by
  subst z
  rcases he with r | r
  ·exact hx b n r
  ·rw [n] at r;cases r
 have hm:∀ b u,H b=some u->¬ Mut (some u)->b ≠ x:=fun b u q nm z=>by subst z;rw [q] at mu;exact nm mu
 refine ⟨fun b u q n _ _=>k b u (hb b n) q,fun b u q n _ _=>⟨u.slots,k b u (hb b n) q⟩,fun b u q n _=>by rw [upd_ne (hx b n)];exact n,fun b u q _=>?_,
  fun b xs q=>by rw [upd_ne (hm b _ q fun z=>z)];exact q,fun b u xs q=>by rw [upd_ne (hm b _ q fun z=>z)];exact q,fun b ps q=>⟨#[],by rw [upd_ne (hm b _ q fun z=>z),q];simp⟩⟩
 by_cases hbe:b=e
 ·subst hbe;exact heo
 ·exact ⟨u,k b u hbe q⟩
end
noncomputable def trk (h:Heap) (H:Hp):List Addr:=(List.range h.objs.size).filter fun a=>(H a).isSome
noncomputable def hidT (h:Heap) (H:Hp):Heap:=PySem.W.hideAll h (trk h H)
theorem hidT_size (h:Heap) (H:Hp):(hidT h H).objs.size=h.objs.size:=PySem.W.hideAll_size _ _
theorem hidT_get {h:Heap} {H:Hp} {b:Addr} {o:Obj} (e:h.get? b=some o) (n:H b=none):(hidT h H).get? b=some o:=
 PySem.W.hideAll_get _ e fun hm=>by
  have q:(H b).isSome=true:=(List.mem_filter.mp hm).2
  rw [n] at q;simp at q
theorem of_hidT {h:Heap} {H:Hp} {b:Addr} {o:Obj} (e:(hidT h H).get? b=some o):h.get? b=some o∧H b=none:=by
 have e':h.get? b=some o:=PySem.W.of_hideAll (trk h H) e
 refine ⟨e',?_⟩
 cases q:H b with
 | none=>rfl
 | some x =>
  have hm:b ∈ trk h H:=List.mem_filter.mpr ⟨List.mem_range.mpr (Heap.lt_size e'),by simp [q]⟩
  have z:(hidT h H).get? b=none:=PySem.W.hideAll_none (trk h H) hm
  rw [z] at e;cases e
end L2
namespace L2
open PySem PySem.Spec PyProof.Rows
structure Mod (K:PySem.W.Frag) (mg:Str->Option Value) (base:Heap):Prop where
 kin:K.In base
 glob:base.Ns mainGlobals mg
 blt:∃ mb,base.Ns builtinsNs mb∧∀ x:Str,x ≠ "__name__" → mb x=bootBuiltins x
 nolimit:base.NoLimit
structure Cx where
 prog:Program
 w:World
 K:PySem.W.Frag
 mg:Str->Option Value
 base:Heap
 A:Around
 N:List Str
 s_0:Shared
 H_0:Hp
 env:Env
 outer:List Env
 stack:List Env
 ex:List Addr
 fn:Str->Bool
 calm:Bool
 pn:List (Addr × Obj)
 xe:Value->Shared->Prop
noncomputable def frs (l:List Env):List Addr:=l.filterMap (·.frame)
noncomputable abbrev Cx.fs (X:Cx):List Addr:=frs X.outer
noncomputable def Vis (sc:Scope) (x:Str):Prop:=sc.names.lookup x=some .local∨sc.names.lookup x=some .cell∨sc.names.lookup x=some .free
noncomputable def Loc (sc:Scope) (x:Str):Prop:=sc.names.lookup x=some .local∨sc.names.lookup x=some .cell
noncomputable def Look (env:Env) (h:Heap) (m:Str->Option Value) (x:Str) (u:Value):Prop:=
 (env.kindOf x=some .local∧m x=some u)∨((env.kindOf x=some .cell∨env.kindOf x=some .free)∧∃ c,env.cells.lookup x=some c∧h.IsCell c (some u))
structure Cx.Ok (X:Cx):Prop where
 mod:Mod X.K X.mg X.base
 kind:X.env.scope.kind = .function
 glob:X.env.globals=mainGlobals
 blt:X.env.builtins=builtinsNs
 above:X.s_0.heap.objs.size≤X.env.locals
 inj:∀ x y c,X.env.cells.lookup x=some c->X.env.cells.lookup y=some c->x=y
 has:∀ x,(X.env.kindOf x=some .cell∨X.env.kindOf x=some .free)->∃ c,X.env.cells.lookup x=some c
 cab:∀ x c,X.fn x=true->X.env.cells.lookup x=some c->X.s_0.heap.objs.size≤c
 hd:X.calm=true->X.A.handled=none
 frames:X.A.frames=some X.stack
 stk:X.stack=X.outer∨(X.stack=X.env::X.outer∧X.env.frame=some X.env.locals)
 exf:∀ b ∈ X.ex,b ≠ X.env.locals∧∀ x c,X.env.cells.lookup x=some c->c ≠ b
 bs:∀ b o,X.base.get? b=some o->X.s_0.heap.get? b=some o∧X.H_0 b=none
 bsz:X.base.objs.size≤X.s_0.heap.objs.size
 noex:∀ b o,X.base.get? b=some o->b ∉ X.ex
 exfs:∀ b ∈ X.ex,b ∉ X.fs
 funs:X.s_0.heap.FunFrames X.base X.outer
 frf:∀ b ∈ X.fs,X.H_0 b=none
structure Inv (X:Cx) (pins:List (Addr × Obj)) (σ:List (Option V)) (H:Hp) (s:Shared):Prop where
 ok:X.Ok
 os:s.os=X.s_0.os
 bare:AllBare s.gens
 base:Un X.fs X.ex X.H_0 H X.s_0.heap s.heap
 loc:∃ m,s.heap.Ns X.env.locals m∧∀ (i:Nat) (x:Str) (v:V),X.N[i]? = some x->σ[i]? = some (some v)->Vis X.env.scope x->∃ u,RelV v u∧Look X.env s.heap m x u
 cell:∀ x c,X.env.cells.lookup x=some c->∃ v,s.heap.IsCell c v
 free:H X.env.locals=none
 freeC:∀ x c,X.env.cells.lookup x=some c->H c=none
 pin:∀ p ∈ X.pn++pins,s.heap.get? p.1=some p.2∧H p.1=none∧p.1 ≠ X.env.locals∧p.1 ∉ X.fs∧∀ v,p.2.data ≠ .cell v
 hok:HOk X.prog X.w H s.heap
 len:σ.length=X.N.length
section
variable {X:Cx} {pins:List (Addr × Obj)} {σ:List (Option V)} {H H':Hp} {s:Shared} {h':Heap}
theorem Cx.Ok.nofr (ok:X.Ok) {b:Addr} {o:Obj} (e:X.base.get? b=some o):b ∉ X.fs:=fun hb=>by
 have:=(ok.funs.mem hb).1
 rw [e] at this;cases this
theorem Inv.bs (I:Inv X pins σ H s):∀ b o,X.base.get? b=some o->s.heap.get? b=some o∧H b=none:=fun b o e =>
 ⟨I.base.keep b o (I.ok.bs b o e).1 (I.ok.bs b o e).2 (I.ok.nofr e) (I.ok.noex b o e),I.base.free b o (I.ok.bs b o e).1 (I.ok.bs b o e).2 (I.ok.noex b o e)⟩
theorem Inv.bk (I:Inv X pins σ H s):∀ b o,X.base.get? b=some o->s.heap.get? b=some o:=fun b o e=>(I.bs b o e).1
theorem Inv.mod (I:Inv X pins σ H s):Mod X.K X.mg X.base:=I.ok.mod
theorem Inv.kIn (I:Inv X pins σ H s):X.K.In s.heap:=I.ok.mod.kin.keeps I.bk
theorem Inv.lt (I:Inv X pins σ H s):X.env.locals < s.heap.objs.size:=let ⟨_,hn,_⟩:=I.loc;hn.lt
theorem Inv.sz (I:Inv X pins σ H s):X.s_0.heap.objs.size≤s.heap.objs.size:=Nat.le_trans I.ok.above (Nat.le_of_lt I.lt)
theorem Inv.nofs (I:Inv X pins σ H s) {a:Addr} (h:s.heap.objs.size≤a):a ∉ X.fs:=fun hb=>by
 obtain ⟨_,o,ho,_⟩:=I.ok.funs.mem hb
 exact absurd (Nat.lt_of_lt_of_le (Heap.lt_size ho) (Nat.le_trans I.sz h)) (Nat.lt_irrefl _)
theorem Inv.cne (I:Inv X pins σ H s):∀ x c,X.env.cells.lookup x=some c->c ≠ X.env.locals:=fun x c e z=>by
 obtain ⟨v,o,ho,hd⟩:=I.cell x c e
 obtain ⟨m,⟨o',es,ep,ho',hd',_⟩,_⟩:=I.loc
 rw [z,ho'] at ho;cases ho;rw [hd'] at hd;cases hd
theorem Inv.funs (I:Inv X pins σ H s):s.heap.FunFrames X.base X.outer:=by
 have all:∀ (l:List Env),(∀ b ∈ frs l,b ∈ X.fs)->X.s_0.heap.FunFrames X.base l->s.heap.FunFrames X.base l:=by
  intro l
  induction l with
  | nil=>intro _ _;trivial
  | cons env r ih =>
   intro hs hl
   obtain ⟨hk,⟨L,o,hf,hn,ho,hd⟩,hr⟩:=hl
   have hL:L ∈ X.fs:=hs L (by unfold frs;rw [List.filterMap_cons,hf];exact List.mem_cons_self)
   obtain ⟨sl,e⟩:=I.base.slot L o ho (I.ok.frf L hL) hL fun z=>I.ok.exfs L z hL
   exact ⟨hk,⟨L,_,hf,hn,e,hd⟩,ih (fun b hb=>hs b (by unfold frs;rw [List.filterMap_cons,hf];exact List.mem_cons_of_mem _ hb)) hr⟩
 exact all X.outer (fun _ hb=>hb) I.ok.funs
theorem Inv.stack (I:Inv X pins σ H s):s.heap.FunFrames X.base X.stack:=by
 rcases I.ok.stk with e | ⟨e,hf⟩
 ·rw [e];exact I.funs
 ·rw [e]
  obtain ⟨m,hn,_⟩:=I.loc
  refine .cons (by rw [I.ok.kind];decide) hf hn ?_ I.funs
  exact Heap.get?_none_of_le (Nat.le_trans I.ok.bsz I.ok.above)
theorem Inv.stkSub (I:Inv X pins σ H s):∀ b ∈ frs X.stack,b ∈ X.env.locals::X.fs:=fun b hb=>by
 rcases I.ok.stk with e | ⟨e,hf⟩
 ·rw [e] at hb;exact List.mem_cons_of_mem _ hb
 ·rw [e] at hb
  unfold frs at hb
  rw [List.filterMap_cons,hf] at hb
  exact hb
theorem Inv.stkFree (I:Inv X pins σ H s):∀ b ∈ frs X.stack,H b=none:=fun b hb=>by
 rcases List.mem_cons.mp (I.stkSub b hb) with e | hb
 ·rw [e];exact I.free
 ·obtain ⟨_,o,ho,_⟩:=I.ok.funs.mem hb
  exact I.base.free b o ho (I.ok.frf b hb) fun z=>I.ok.exfs b z hb
theorem Inv.step {g':Array GenState} {t':Nat} {d':Drawn} {ch:List Addr} (I:Inv X pins σ H s)
  (hch:∀ b ∈ ch,(b ∈ X.ex∨X.s_0.heap.objs.size≤b)∧b ≠ X.env.locals∧(∀ x c,X.env.cells.lookup x=some c->c ≠ b)∧∀ p ∈ X.pn++pins,p.1 ≠ b)
  (keep:∀ b o,b ≠ X.env.locals->b ∉ X.fs->b ∉ ch->s.heap.get? b=some o->H b=none->h'.get? b=some o)
  (slot:∀ b o,b ≠ X.env.locals->b ∈ X.fs->b ∉ ch->s.heap.get? b=some o->H b=none->∃ sl,h'.get? b=some { o with slots:=sl }) (free:∀ b o,b ∉ ch->s.heap.get? b=some o->H b=none->H' b=none)
  (there:∀ b o,b ∉ ch->s.heap.get? b=some o->∃ o',h'.get? b=some o')
  (tups:∀ b xs,H b=some (.tup xs)->H' b=some (.tup xs)) (frzs:∀ b o u,H b=some (.frz o u)->H' b=some (.frz o u)) (tbls:∀ b ps,H b=some (.tbl ps)->∃ more,H' b=some (.tbl (ps++more)))
  (ns:∀ m,s.heap.Ns X.env.locals m->h'.Ns X.env.locals m) (hok:HOk X.prog X.w H' h') (hg:AllBare g') :
  Inv X pins σ H' { s with heap:=h',gens:=g',drawn:=d',toks:=t' }:=by
 have neL:∀ b o,X.s_0.heap.get? b=some o->b ≠ X.env.locals:=fun b o e=>Nat.ne_of_lt (Nat.lt_of_lt_of_le (Heap.lt_size e) I.ok.above)
 have neC:∀ b o,X.s_0.heap.get? b=some o->b ∉ X.ex->b ∉ ch:=fun b o e hx hb=>by
  rcases (hch b hb).1 with z | z
  ·exact hx z
  ·exact absurd (Nat.lt_of_lt_of_le (Heap.lt_size e) z) (Nat.lt_irrefl _)
 have cellK:∀ x c,X.env.cells.lookup x=some c->∀ v,s.heap.IsCell c v->h'.IsCell c v:=fun x c e v ⟨o,ho,hd⟩=>by
  have nch:c ∉ ch:=fun z=>(hch c z).2.2.1 x c e rfl
  by_cases hc:c ∈ X.fs
  ·obtain ⟨sl,q⟩:=slot c o (I.cne x c e) hc nch ho (I.freeC x c e)
   exact ⟨_,q,hd⟩
  ·exact ⟨o,keep c o (I.cne x c e) hc nch ho (I.freeC x c e),hd⟩
 refine ⟨I.ok,I.os,hg,⟨fun b o e n hb hx=>?_,fun b o e n hb hx=>?_,fun b o e n hx=>?_,fun b o e hx=>?_,fun b xs e=>tups b xs (I.base.tups b xs e),fun b o xs e=>frzs b o xs (I.base.frzs b o xs e),fun b ps e=>?_⟩,?_,fun x c e=>?_,?_,fun x c e=>?_,fun p hp=>?_,hok,I.len⟩
 ·exact keep b o (neL b o e) hb (neC b o e hx) (I.base.keep b o e n hb hx) (I.base.free b o e n hx)
 ·obtain ⟨sl,e1⟩:=I.base.slot b o e n hb hx
  obtain ⟨sl',e2⟩:=slot b _ (neL b o e) hb (neC b o e hx) e1 (I.base.free b o e n hx)
  exact ⟨sl',e2⟩
 ·obtain ⟨o',e1⟩:=I.base.there b o e hx
  exact free b o' (neC b o e hx) e1 (I.base.free b o e n hx)
 ·obtain ⟨o',e1⟩:=I.base.there b o e hx
  exact there b o' (neC b o e hx) e1
 ·obtain ⟨m1,e1⟩:=I.base.tbls b ps e
  obtain ⟨m2,e2⟩:=tbls b _ e1
  exact ⟨m1++m2,by rw [e2,Array.append_assoc]⟩
 ·obtain ⟨m,hn,hl⟩:=I.loc
  refine ⟨m,ns m hn,fun i x v e1 e2 e3=>?_⟩
  obtain ⟨u,r,l⟩:=hl i x v e1 e2 e3
  refine ⟨u,r,?_⟩
  rcases l with l | ⟨k,c,e,z⟩
  ·exact .inl l
  ·exact .inr ⟨k,c,e,cellK x c e _ z⟩
 ·obtain ⟨v,z⟩:=I.cell x c e
  exact ⟨v,cellK x c e v z⟩
 ·obtain ⟨m,⟨o,_,_,ho,_⟩,_⟩:=I.loc
  exact free _ o (fun z=>(hch _ z).2.1 rfl) ho I.free
 ·obtain ⟨v,o,ho,hd⟩:=I.cell x c e
  exact free c o (fun z=>(hch c z).2.2.1 x c e rfl) ho (I.freeC x c e)
 ·obtain ⟨e,n,ne,nf,d⟩:=I.pin p hp
  have nch:p.1 ∉ ch:=fun z=>(hch p.1 z).2.2.2 p hp rfl
  exact ⟨keep p.1 p.2 ne nf nch e n,free p.1 p.2 nch e n,ne,nf,d⟩
theorem Inv.un {t':Nat} (I:Inv X pins σ H s) (u:Un X.fs [] H H' s.heap h') (hok:HOk X.prog X.w H' h'):Inv X pins σ H' { s with heap:=h',toks:=t' }:=by
 obtain ⟨m,⟨o,es,ep,ho,r⟩,_⟩:=id I.loc
 obtain ⟨sl,hL⟩:=u.any ho I.free (by simp)
 exact I.step (g':=s.gens) (d':=s.drawn) (ch:=[]) (fun _ z=>nomatch z) (fun b o _ hb _ e n=>u.keep b o e n hb (by simp)) (fun b o _ hb _ e n=>u.slot b o e n hb (by simp)) (fun b o _ e n=>u.free b o e n (by simp)) (fun b o _ e=>u.there b o e (by simp)) u.tups u.frzs u.tbls (fun m' hm=>by
  obtain ⟨o',es',ep',ho',r'⟩:=hm
  rw [ho] at ho';cases ho'
  exact ⟨_,es',ep',hL,r'⟩) hok I.bare
theorem Inv.call {g':Array GenState} {t':Nat} {d':Drawn} {ch:List Addr} (I:Inv X pins σ H s) (u:Un (frs X.stack) ch H H' s.heap h') (hok:HOk X.prog X.w H' h') (hg:AllBare g')
  (hch:∀ b ∈ ch,(b ∈ X.ex∨X.s_0.heap.objs.size≤b)∧b ≠ X.env.locals∧(∀ x c,X.env.cells.lookup x=some c->c ≠ b)∧∀ p ∈ X.pn++pins,p.1 ≠ b) :
  Inv X pins σ H' { s with heap:=h',gens:=g',drawn:=d',toks:=t' }:=by
 obtain ⟨m,⟨o,es,ep,ho,r⟩,_⟩:=id I.loc
 obtain ⟨sl,hL⟩:=u.any ho I.free fun z=>(hch _ z).2.1 rfl
 exact I.step (ch:=ch) hch (fun b o hL hb hc e n=>u.keep b o e n (fun z=>(List.mem_cons.mp (I.stkSub b z)).elim hL hb) hc) (fun b o _ _ hc e n=>u.any e n hc) (fun b o hc e n=>u.free b o e n hc) (fun b o hc e=>u.there b o e hc) u.tups u.frzs u.tbls (fun m' hm=>by
  obtain ⟨o',es',ep',ho',r'⟩:=hm
  rw [ho] at ho';cases ho'
  exact ⟨_,es',ep',hL,r'⟩) hok hg
theorem Inv.turned {t':Nat} {it:Addr} (I:Inv X pins σ H s) (k:∀ b o,b ≠ it->s.heap.get? b=some o->h'.get? b=some o) (hn:H it=none) (hL:it ≠ X.env.locals)
  (h1:it ∈ X.ex∨X.s_0.heap.objs.size≤it) (h2:∀ x c,X.env.cells.lookup x=some c->c ≠ it) (h3:∀ p ∈ X.pn++pins,p.1 ≠ it):Inv X pins σ H { s with heap:=h',toks:=t' }:=by
 have nit:∀ b u,H b=some u->b ≠ it:=fun b u e z=>by rw [z,hn] at e;cases e
 refine I.step (g':=s.gens) (d':=s.drawn) (ch:=[it]) (fun b hb=>?_) (fun b o _ _ hc e _=>k b o (fun z=>hc (by simp [z])) e) (fun b o _ _ hc e _=>⟨o.slots,k b o (fun z=>hc (by simp [z])) e⟩) (fun _ _ _ _ n=>n)
  (fun b o hc e=>⟨o,k b o (fun z=>hc (by simp [z])) e⟩) (fun _ _ e=>e) (fun _ _ _ e=>e) (fun b ps e=>⟨#[],by rw [e];simp⟩) (fun m hm=>?_) (fun b u e=>?_) I.bare
 ·have e:b=it:=by simpa using hb
  subst e
  exact ⟨h1,hL,h2,h3⟩
 ·obtain ⟨o,es,ep,ho,r⟩:=hm
  exact ⟨o,es,ep,k _ o (Ne.symm hL) ho,r⟩
 ·refine (I.hok b u e).stay (fun c v hc q=>k c v ?_ q) (fun _ q=>q) fun _ _ q=>q
  rcases hc with z | z
  ·rw [z];exact nit b u e
  ·exact nit c _ z
theorem Inv.tok (I:Inv X pins σ H s) (t:Nat):Inv X pins σ H { s with toks:=t }:=I.un (h':=s.heap) (t':=t) Un.refl I.hok
theorem Inv.kept {t':Nat} (I:Inv X pins σ H s) (k:∀ b u,s.heap.get? b=some u->h'.get? b=some u):Inv X pins σ H { s with heap:=h',toks:=t' }:=I.un (Un.kept k) (I.hok.kept k)
theorem Inv.laid {a:Addr} {o:HO} {t':Nat} (I:Inv X pins σ H s) (k:∀ b u,s.heap.get? b=some u->h'.get? b=some u) (hp:s.heap.objs.size≤a) (new:ObjOk X.prog X.w (upd H a o) h' a o) :
  Inv X pins σ (upd H a o) { s with heap:=h',toks:=t' }:=I.un (Un.laid k hp (I.hok.fresh hp)) (I.hok.laid k hp new)
theorem Inv.write {x e:Addr} {o:HO} {t':Nat} (I:Inv X pins σ H s) (mu:Mut (H x)) (he:e=x∨H e=some (.own x)) (k:∀ b u,b ≠ e->s.heap.get? b=some u->h'.get? b=some u) (heo:∃ u,h'.get? e=some u)
  (new:ObjOk X.prog X.w (upd H x o) h' x o):Inv X pins σ (upd H x o) { s with heap:=h',toks:=t' }:=I.un (Un.write mu he k heo) (I.hok.write mu he k heo new)
theorem Inv.weak {σ':List (Option V)} (I:Inv X pins σ H s) (hl:σ'.length=σ.length) (w:∀ (i:Nat) v,σ'[i]? = some (some v)->σ[i]? = some (some v)):Inv X pins σ' H s:=
 ⟨I.ok,I.os,I.bare,I.base,let ⟨m,hn,hl'⟩:=I.loc;⟨m,hn,fun i x v e1 e2 e3=>hl' i x v e1 (w i v e2) e3⟩,I.cell,I.free,I.freeC,I.pin,I.hok,hl.trans I.len⟩
theorem Inv.pins_of {pins':List (Addr × Obj)} (I:Inv X pins σ H s) (h:∀ p ∈ pins',s.heap.get? p.1=some p.2∧H p.1=none∧p.1 ≠ X.env.locals∧p.1 ∉ X.fs∧∀ v,p.2.data ≠ .cell v):Inv X pins' σ H s:=
 ⟨I.ok,I.os,I.bare,I.base,I.loc,I.cell,I.free,I.freeC,fun p hp=>(List.mem_append.mp hp).elim (fun z=>I.pin p (List.mem_append_left _ z)) (h p),I.hok,I.len⟩
theorem nodup_ix {N:List Str} (hN:N.Nodup) {i j:Nat} {x:Str} (a:N[i]? = some x) (b:N[j]? = some x):i=j:=by
 obtain ⟨h1,e1⟩:=List.getElem?_eq_some_iff.mp a
 obtain ⟨h2,e2⟩:=List.getElem?_eq_some_iff.mp b
 exact (List.getElem_inj hN).mp (e1.trans e2.symm)
theorem store_ok2 {M:Model} {A:Around} {E:Value->Shared->Prop} {i:Nat} {x:Str} {v:V} {u:Value} {Q:Unit->Shared->Prop} (I:Inv X pins σ H s) (hN:X.N.Nodup) (hi:X.N[i]? = some x) (hx:Loc X.env.scope x) (r:RelV v u)
  (h:∀ s',Inv X pins (σ.set i (some v)) H s'->(∃ a,Heap.SameBut a s.heap s'.heap∧(a=X.env.locals∨X.env.cells.lookup x=some a))->Q () s') (hf:X.fn x=true∨X.env.scope.names.lookup x=some .local:=by first | exact .inl rfl | exact .inr rfl | assumption):wpAny M A (storeName X.env x u) Q E s:=by
 obtain ⟨m,hn,hl⟩:=id I.loc
 have hcls:(X.env.scope.kind == .class || (X.env.scope.kind == .module && X.env.locals != X.env.globals))=false:=by rw [I.ok.kind];rfl
 have hiσ:i < σ.length:=by rw [I.len];exact (List.getElem?_eq_some_iff.mp hi).1
 have cne:=I.cne
 have tracked:∀ {a:Addr} {h':Heap},(∃ o,s.heap.get? a=some o∧H a=none)->Heap.SameBut a s.heap h'->HOk X.prog X.w H h':=fun {a h'} ha hs b ob e=>by
  obtain ⟨_,_,hfree⟩:=ha
  refine (I.hok b ob e).stay (fun c w' hc q=>(hs.2 c ?_).trans q) (fun _ q=>q) fun _ _ q=>q
  rintro rfl
  rcases hc with rfl | hc
  ·rw [hfree] at e;cases e
  ·rw [hfree] at hc;cases hc
 rcases hx with hk | hk
 ·refine wpAny_storeName_local hk hn (fun h' hn' hs=>?_) hcls
  obtain ⟨oL,_,_,hoL,_⟩:=id hn
  refine h _ ⟨I.ok,I.os,I.bare,⟨fun b o e n hb hx=>?_,fun b o e n hb hx=>?_,I.base.free,fun b o e hx=>?_,I.base.tups,I.base.frzs,I.base.tbls⟩,⟨_,hn',fun j y v' e1 e2 e3=>?_⟩,fun y c e=>?_,I.free,I.freeC,fun p hp=>?_,tracked ⟨oL,hoL,I.free⟩ hs,by simpa using I.len⟩ ⟨_,hs,.inl rfl⟩
  ·exact (hs.2 b (Nat.ne_of_lt (Nat.lt_of_lt_of_le (Heap.lt_size e) I.ok.above))).trans (I.base.keep b o e n hb hx)
  ·obtain ⟨sl,e1⟩:=I.base.slot b o e n hb hx
   exact ⟨sl,(hs.2 b (Nat.ne_of_lt (Nat.lt_of_lt_of_le (Heap.lt_size e) I.ok.above))).trans e1⟩
  ·obtain ⟨o',e1⟩:=I.base.there b o e hx
   exact ⟨o',(hs.2 b (Nat.ne_of_lt (Nat.lt_of_lt_of_le (Heap.lt_size e) I.ok.above))).trans e1⟩
  ·by_cases hj:j=i
   ·subst hj
    rw [hi] at e1;cases e1
    rw [List.getElem?_set_self hiσ] at e2
    cases e2
    exact ⟨u,r,.inl ⟨hk,by simp⟩⟩
   ·rw [List.getElem?_set_ne (Ne.symm hj)] at e2
    obtain ⟨u',r',q⟩:=hl j y v' e1 e2 e3
    refine ⟨u',r',?_⟩
    rcases q with ⟨k,e⟩ | ⟨k,c,e,z⟩
    ·refine .inl ⟨k,?_⟩
     have:y ≠ x:=fun e=>hj (nodup_ix hN e1 (e ▸ hi))
     simp [this,e]
    ·exact .inr ⟨k,c,e,z.sameBut hs (cne y c e)⟩
  ·obtain ⟨w',z⟩:=I.cell y c e
   exact ⟨w',z.sameBut hs (cne y c e)⟩
  ·obtain ⟨e,n,ne,nf,d⟩:=I.pin p hp
   exact ⟨(hs.2 p.1 ne).trans e,n,ne,nf,d⟩
 ·have hfn:X.fn x=true:=by
   rcases hf with z | z
   ·exact z
   ·rw [z] at hk;cases hk
  obtain ⟨c,hc⟩:=I.ok.has x (.inl hk)
  obtain ⟨w',z⟩:=I.cell x c hc
  refine wpAny_storeName_cell I.ok.kind hk hc z (fun h' hc' hs=>?_)
  obtain ⟨oc,hoc,hocd⟩:=id z
  refine h { s with heap:=h' } ⟨I.ok,I.os,I.bare,⟨fun b o e n hb hx=>?_,fun b o e n hb hx=>?_,I.base.free,fun b o e hx=>?_,I.base.tups,I.base.frzs,I.base.tbls⟩,⟨m,hn.sameBut hs (Ne.symm (cne x c hc)),fun j y v' e1 e2 e3=>?_⟩,fun y c' e=>?_,I.free,I.freeC,fun p hp=>?_,tracked ⟨oc,hoc,I.freeC x c hc⟩ hs,by simpa using I.len⟩ ⟨c,hs,.inr hc⟩
  ·exact (hs.2 b (Nat.ne_of_lt (Nat.lt_of_lt_of_le (Heap.lt_size e) (I.ok.cab x c hfn hc)))).trans (I.base.keep b o e n hb hx)
  ·obtain ⟨sl,e1⟩:=I.base.slot b o e n hb hx
   exact ⟨sl,(hs.2 b (Nat.ne_of_lt (Nat.lt_of_lt_of_le (Heap.lt_size e) (I.ok.cab x c hfn hc)))).trans e1⟩
  ·obtain ⟨o',e1⟩:=I.base.there b o e hx
   exact ⟨o',(hs.2 b (Nat.ne_of_lt (Nat.lt_of_lt_of_le (Heap.lt_size e) (I.ok.cab x c hfn hc)))).trans e1⟩
  ·by_cases hj:j=i
   ·subst hj
    rw [hi] at e1;cases e1
    rw [List.getElem?_set_self hiσ] at e2
    cases e2
    exact ⟨u,r,.inr ⟨.inl hk,c,hc,hc'⟩⟩
   ·rw [List.getElem?_set_ne (Ne.symm hj)] at e2
    obtain ⟨u',r',q⟩:=hl j y v' e1 e2 e3
    refine ⟨u',r',?_⟩
    rcases q with q | ⟨k,c',e,z'⟩
    ·exact .inl q
    ·refine .inr ⟨k,c',e,z'.sameBut hs ?_⟩
     rintro rfl
     exact hj (nodup_ix hN e1 (I.ok.inj _ _ _ e hc ▸ hi))
  ·by_cases hcc:c'=c
   ·subst hcc;exact ⟨_,hc'⟩
   ·obtain ⟨w2,z2⟩:=I.cell y c' e
    exact ⟨w2,z2.sameBut hs hcc⟩
  ·obtain ⟨e,n,ne,nf,d⟩:=I.pin p hp
   refine ⟨(hs.2 p.1 ?_).trans e,n,ne,nf,d⟩
   intro q
   rw [q,hoc] at e
   have q':oc=p.2:=Option.some.inj e
   exact d w' (by rw [← q'];exact hocd)
theorem store_ok {M:Model} {A:Around} {E:Value->Shared->Prop} {i:Nat} {x:Str} {v:V} {u:Value} {Q:Unit->Shared->Prop} (I:Inv X pins σ H s) (hN:X.N.Nodup) (hi:X.N[i]? = some x) (hx:Loc X.env.scope x) (r:RelV v u)
  (h:∀ s',Inv X pins (σ.set i (some v)) H s'->Q () s') (hf:X.fn x=true∨X.env.scope.names.lookup x=some .local:=by first | exact .inl rfl | exact .inr rfl | assumption):wpAny M A (storeName X.env x u) Q E s:=
 store_ok2 I hN hi hx r (fun s' I' _=>h s' I') hf
theorem Inv.call' {s':Shared} {ch:List Addr} (I:Inv X pins σ H s) (ho:s'.os=s.os) (u:Un (frs X.stack) ch H H' s.heap s'.heap) (hok:HOk X.prog X.w H' s'.heap) (hg:AllBare s'.gens)
  (hch:∀ b ∈ ch,(b ∈ X.ex∨X.s_0.heap.objs.size≤b)∧b ≠ X.env.locals∧(∀ x c,X.env.cells.lookup x=some c->c ≠ b)∧∀ p ∈ X.pn++pins,p.1 ≠ b):Inv X pins σ H' s':=by
 obtain ⟨h',g',d',t',o'⟩:=s'
 have e:o'=s.os:=ho
 subst e
 exact I.call (g':=g') (t':=t') (d':=d') u hok hg hch
end
noncomputable abbrev XK:=Value->Option Addr->Hp->Prop
noncomputable abbrev St:=List (Option V)
noncomputable abbrev VK:=V->Hp->Prop
noncomputable abbrev TE:=St->Hp->VK->Prop
noncomputable abbrev TT:=St->Hp->(Bool->Hp->Prop)->Prop
noncomputable abbrev TA:=St->Hp->(List V->Hp->Prop)->Prop
structure Ends where
 nx:St->Hp->Prop
 rt:VK
 bk:St->Hp->Prop:=fun _ _=>False
 ct:St->Hp->Prop:=fun _ _=>False
noncomputable abbrev TS:=Ends->St->Hp->Prop
noncomputable def EP (X:Cx) (pins:List (Addr × Obj)) (σ:St) (Q:VK) (u:Value) (s':Shared):Prop:=∃ v H',Inv X pins σ H' s'∧RelV v u∧Q v H'
noncomputable def TP (X:Cx) (pins:List (Addr × Obj)) (σ:St) (Q:Bool->Hp->Prop) (b:Bool) (s':Shared):Prop:=∃ H',Inv X pins σ H' s'∧Q b H'
noncomputable def AP (X:Cx) (pins:List (Addr × Obj)) (σ:St) (Q:List V->Hp->Prop) (us:List Value) (s':Shared):Prop:=∃ vs H',Inv X pins σ H' s'∧Vals vs us∧Q vs H'
noncomputable def SP (X:Cx) (pins:List (Addr × Obj)) (D:Ends) (f:Flow) (s':Shared):Prop:=
 match f with
 | .next=>∃ σ' H',Inv X pins σ' H' s'∧D.nx σ' H'
 | .brk=>∃ σ' H',Inv X pins σ' H' s'∧D.bk σ' H'
 | .cont=>∃ σ' H',Inv X pins σ' H' s'∧D.ct σ' H'
 | .ret u=>∃ v σ' H',Inv X pins σ' H' s'∧RelV v u∧D.rt v H'
noncomputable def PE (X:Cx) (e:Expr) (t:TE):Prop:=
 ∀ (pins:List (Addr × Obj)) (s:Shared) (σ:St) (H:Hp) (Q:VK),Inv X pins σ H s->t σ H Q->wpAny (model X.prog X.w) X.A (eval e X.env) (EP X pins σ Q) X.xe s
noncomputable def PT (X:Cx) (e:Expr) (t:TT):Prop:=
 ∀ (pins:List (Addr × Obj)) (s:Shared) (σ:St) (H:Hp) (Q:Bool->Hp->Prop),Inv X pins σ H s->t σ H Q->wpAny (model X.prog X.w) X.A (isTrue e X.env (eval e X.env)) (TP X pins σ Q) X.xe s
noncomputable def PW (X:Cx) (e:Expr) (t:TT):Prop:=
 ∀ (whole:Sem Value) (pins:List (Addr × Obj)) (s:Shared) (σ:St) (H:Hp) (Q:Bool->Hp->Prop),Inv X pins σ H s->t σ H Q->wpAny (model X.prog X.w) X.A (isTrue e X.env whole) (TP X pins σ Q) X.xe s
theorem PW.pt {X:Cx} {e:Expr} {t:TT} (h:PW X e t):PT X e t:=h _
noncomputable def PA (X:Cx) (es:List Expr) (t:TA):Prop:=
 ∀ (pos:Pos) (pins:List (Addr × Obj)) (s:Shared) (σ:St) (H:Hp) (Q:List V->Hp->Prop),Inv X pins σ H s->t σ H Q->wpAny (model X.prog X.w) X.A (spliced (backTo pos (starEach es X.env))) (AP X pins σ Q) X.xe s
noncomputable def PS (X:Cx) (st:Stmt) (t:TS):Prop:=
 ∀ (pins:List (Addr × Obj)) (s:Shared) (σ:St) (H:Hp) (D:Ends),Inv X pins σ H s->t D σ H->wpAny (model X.prog X.w) X.A (exec st X.env) (SP X pins D) X.xe s
noncomputable def PSs (X:Cx) (st:List Stmt) (t:TS):Prop:=
 ∀ (pins:List (Addr × Obj)) (s:Shared) (σ:St) (H:Hp) (D:Ends),Inv X pins σ H s->t D σ H->wpAny (model X.prog X.w) X.A (execs st X.env) (SP X pins D) X.xe s
theorem thn {α:Type} {t:Sem α} {Q Q':α->Shared->Prop} {M:Model} {A:Around} {E:Value->Shared->Prop} {s:Shared} (h:wpAny M A t Q E s) (hQ:∀ a s,Q a s->Q' a s):wpAny M A t Q' E s:=wpAny_mono h hQ fun _ _ x=>x
end L2
namespace L2
open PySem PySem.Spec PyProof.Rows
section
variable {X:Cx}
noncomputable def tVar (i:Nat):TE:=fun σ H Q=>∃ v,σ[i]? = some (some v)∧Q v H
noncomputable def tC (v:V):TE:=fun _ H Q=>Q v H
theorem pe_var {i:Nat} {x:Str} {pos:Pos} (hN:X.N[i]? = some x) (hv:Vis X.env.scope x) (hd:(x == ("__debug__" : Str))=false:=by decide) (hcd:(x == ("__classdict__" : Str))=false:=by decide):PE X (.Name x pos) (tVar i):=by
 intro pins s σ H Q I h
 obtain ⟨v,e,h⟩:=h
 obtain ⟨m,hn,hl⟩:=I.loc
 obtain ⟨u,r,l⟩:=hl i x v hN e hv
 have fin:EP X pins σ Q u s:=⟨v,H,I,r,h⟩
 rcases l with ⟨hk,hm⟩ | ⟨hk,c,hc,hcell⟩
 ·exact wpAny_Name (wpAny_loadName_local I.ok.kind hk hn hm fin) hd
 ·rcases hk with hk | hk
  ·exact wpAny_Name (wpAny_loadName_cell I.ok.kind hk hc hcell fin) hd
  ·exact wpAny_Name (wpAny_loadName_free I.ok.kind hk hc hcell fin hcd) hd
theorem pe_int {i j pos}:PE X (.Constant (.int i) j pos) (tC (.int i)):=fun _ _ _ H _ I h=>wpAny_Constant_int ⟨.int i,H,I.tok _,⟨_,rfl⟩,h⟩
theorem pe_bl {b j pos}:PE X (.Constant (.bool b) j pos) (tC (.bl b)):=fun _ _ _ H _ I h=>Constant_bool ⟨.bl b,H,I,rfl,h⟩
theorem pe_str {x j pos}:PE X (.Constant (.str x) j pos) (tC (.str x)):=fun _ _ _ H _ I h=>Calls.Constant_str ⟨.str x,H,I.tok _,⟨_,rfl⟩,h⟩
noncomputable def Gl (X:Cx) (x:Str):Prop:=X.env.kindOf x=some .globalImplicit
theorem ld_glob {E:Value->Shared->Prop} {pins:List (Addr × Obj)} {s:Shared} {σ:St} {H:Hp} {x:Str} {u:Value} {pos:Pos} {Q:Value->Shared->Prop} (I:Inv X pins σ H s) (hg:Gl X x) (hm:X.mg x=some u) (h:Q u s)
  (hd:(x == ("__debug__" : Str))=false:=by decide):wpAny (model X.prog X.w) X.A (eval (.Name x pos) X.env) Q E s:=
 Calls.Name_function_global I.ok.kind hg (Calls.loadGlobal_global (by rw [I.ok.glob];exact I.mod.glob.keeps I.bk) hm h) hd
theorem ld_blt {E:Value->Shared->Prop} {pins:List (Addr × Obj)} {s:Shared} {σ:St} {H:Hp} {x:Str} {u:Value} {pos:Pos} {Q:Value->Shared->Prop} (I:Inv X pins σ H s) (hg:Gl X x) (hm:X.mg x=none) (hv:bootBuiltins x=some u) (h:Q u s)
  (hn:x ≠ "__name__":=by decide) (hd:(x == ("__debug__" : Str))=false:=by decide):wpAny (model X.prog X.w) X.A (eval (.Name x pos) X.env) Q E s:=by
 obtain ⟨mb,h1,h2⟩:=I.mod.blt
 exact Calls.Name_function_global I.ok.kind hg (Calls.loadGlobal_builtin (by rw [I.ok.glob];exact I.mod.glob.keeps I.bk) hm (by rw [I.ok.blt];exact h1.keeps I.bk) ((h2 x hn).trans hv) h) hd
theorem pe_glob {x:Str} {v:V} {u:Value} {pos:Pos} (hg:Gl X x) (hm:X.mg x=some u) (r:RelV v u) (hd:(x == ("__debug__" : Str))=false:=by decide):PE X (.Name x pos) (tC v):=
 fun _ _ _ H _ I h=>ld_glob I hg hm ⟨v,H,I,r,h⟩ hd
variable {a b:Expr} {ta tb:TE} {pos:Pos}
noncomputable def PC (X:Cx) (op:CmpOp) (a b:Expr) (t:TE):Prop:=
 ∀ (pins:List (Addr × Obj)) (s:Shared) (σ:St) (H:Hp) (Q:VK),Inv X pins σ H s->t σ H Q →
  wpAny (model X.prog X.w) X.A (eval a X.env) (fun v s₁=>wpAny (model X.prog X.w) X.A (eval b X.env) (fun u s₂=>wpAny (model X.prog X.w) X.A (compareOp op v u) (EP X pins σ Q) X.xe s₂) X.xe s₁) X.xe s
noncomputable def tB (t:TE):TT:=fun σ H Q=>t σ H fun x H1=>∃ c,x = .bl c∧Q c H1
theorem pt_cmp {op:CmpOp} {t:TE} (h:PC X op a b t) (h1:behindInMarks op b=false:=by first | exact nobehind _ (by decide) (by decide) | rfl):PT X (.Compare a [op] [b] pos) (tB t):=by
 intro pins s σ H Q I hw
 refine wpAny_isTrue_Compare1 (thn (h pins s σ H _ I hw) fun v s1 h1=>thn h1 fun u s2 h2=>thn h2 fun c s3 ⟨x,H1,I1,r1,q1⟩=>?_) h1
 obtain ⟨d,rfl,q⟩:=q1
 cases r1
 exact wpAny_truthy_bool ⟨H1,I1,q⟩
theorem pt_val {e:Expr} {t:TE} (h:PE X e t) (he:∀ whole,isTrue e X.env whole=(do let v ← whole;standAt e.pos;holding [v] (truthy v)):=by intro _;rfl):PT X e (tB t):=by
 intro pins s σ H Q I hw
 refine isTrue_plain (thn (h pins s σ H _ I hw) fun v s1 ⟨x,H1,I1,r1,q1⟩=>?_) (he _)
 obtain ⟨d,rfl,q⟩:=q1
 cases r1
 exact wpAny_truthy_bool ⟨H1,I1,q⟩
variable {tA tB':TT} {rest:List Expr}
noncomputable def tAnd (t u:TT):TT:=fun σ H Q=>t σ H fun c H1=>if c=true then u σ H1 Q else Q false H1
noncomputable def tOr (t u:TT):TT:=fun σ H Q=>t σ H fun c H1=>if c=true then Q true H1 else u σ H1 Q
noncomputable def tNot (t:TT):TT:=fun σ H Q=>t σ H fun c H1=>Q (!c) H1
theorem pw_and1 (ha:PT X a tA):PW X (.BoolOp .And [a] pos) tA:=by
 intro wh pins s σ H Q I h
 refine isTrue_and (thn (ha pins s σ H Q I h) fun c s1 e=>?_)
 cases c with
 | true=>exact isTrue_and_nil e
 | false=>exact e
theorem pw_or1 (ha:PT X a tA):PW X (.BoolOp .Or [a] pos) tA:=by
 intro wh pins s σ H Q I h
 refine isTrue_or (thn (ha pins s σ H Q I h) fun c s1 e=>?_)
 cases c with
 | false=>exact isTrue_or_nil e
 | true=>exact e
theorem pw_and (ha:PT X a tA) (hb:PW X (.BoolOp .And (b::rest) pos) tB'):PW X (.BoolOp .And (a::b::rest) pos) (tAnd tA tB'):=by
 intro wh pins s σ H Q I h
 refine isTrue_and (thn (ha pins s σ H _ I h) fun c s1 ⟨H1,I1,q1⟩=>?_)
 cases c with
 | true=>exact hb wh pins s1 σ H1 Q I1 q1
 | false=>exact ⟨H1,I1,q1⟩
theorem pw_or (ha:PT X a tA) (hb:PW X (.BoolOp .Or (b::rest) pos) tB'):PW X (.BoolOp .Or (a::b::rest) pos) (tOr tA tB'):=by
 intro wh pins s σ H Q I h
 refine isTrue_or (thn (ha pins s σ H _ I h) fun c s1 ⟨H1,I1,q1⟩=>?_)
 cases c with
 | true=>exact ⟨H1,I1,q1⟩
 | false=>exact hb wh pins s1 σ H1 Q I1 q1
theorem pt_not (ha:PT X a tA):PT X (.UnaryOp .Not a pos) (tNot tA):=by
 intro pins s σ H Q I h
 exact isTrue_not (ha pins s σ H (fun c H1=>Q (!c) H1) I h)
noncomputable def tAndV (ta tb:TE):TE:=fun σ H Q=>ta σ H fun x H1=>∃ c,x = .bl c∧if c=true then tb σ H1 Q else Q (.bl false) H1
noncomputable def tOrV (ta tb:TE):TE:=fun σ H Q=>ta σ H fun x H1=>∃ c,x = .bl c∧if c=true then Q (.bl true) H1 else tb σ H1 Q
noncomputable def tNotV (ta:TE):TE:=fun σ H Q=>ta σ H fun x H1=>∃ c,x = .bl c∧Q (.bl (!c)) H1
theorem pe_one {op} {t:TE} (h:PE X a t):PE X (.BoolOp op [a] pos) t:=fun pins s σ H Q I hw=>BoolOp_one (h pins s σ H Q I hw)
theorem pe_and (ha:PE X a ta) (hb:PE X (.BoolOp .And (b::rest) pos) tb):PE X (.BoolOp .And (a::b::rest) pos) (tAndV ta tb):=by
 intro pins s σ H Q I h
 refine BoolOp_and (thn (ha pins s σ H _ I h) fun v s1 ⟨x,H1,I1,r1,q1⟩=>?_)
 obtain ⟨c,rfl,q1⟩:=q1
 cases r1
 refine wpAny_truthy_bool ?_
 cases c with
 | true=>exact hb pins s1 σ H1 Q I1 q1
 | false=>exact ⟨.bl false,H1,I1,rfl,q1⟩
theorem pe_or (ha:PE X a ta) (hb:PE X (.BoolOp .Or (b::rest) pos) tb):PE X (.BoolOp .Or (a::b::rest) pos) (tOrV ta tb):=by
 intro pins s σ H Q I h
 refine BoolOp_or (thn (ha pins s σ H _ I h) fun v s1 ⟨x,H1,I1,r1,q1⟩=>?_)
 obtain ⟨c,rfl,q1⟩:=q1
 cases r1
 refine wpAny_truthy_bool ?_
 cases c with
 | false=>exact hb pins s1 σ H1 Q I1 q1
 | true=>exact ⟨.bl true,H1,I1,rfl,q1⟩
theorem pe_not (ha:PE X a ta):PE X (.UnaryOp .Not a pos) (tNotV ta):=by
 intro pins s σ H Q I h
 refine UnaryOp_ (thn (ha pins s σ H _ I h) fun v s1 ⟨x,H1,I1,r1,q1⟩=>?_)
 obtain ⟨c,rfl,q1⟩:=q1
 cases r1
 exact not_of (wpAny_truthy_bool ⟨.bl (!c),H1,I1,rfl,q1⟩)
end
end L2
namespace L2
open PySem PySem.Spec PyProof.Rows
noncomputable def SqL (K:PySem.W.Frag) (H:Hp) (a:Addr) (xs:List V):Prop:=
 Rd H a (.lst xs) ∨
  ∃ (o:Obj) (its:Array Value) (n:Nat),K.lookup a=some o∧o.cls = .type "list" ∧ o.dict=none∧o.data = .seq its n∧its.size≤sizeLine∧Vals xs its.toList
noncomputable def SqT (K:PySem.W.Frag) (H:Hp) (a:Addr) (xs:List V):Prop:=
 Rd H a (.tup xs) ∨
  ∃ (o:Obj) (its:Array Value) (n:Nat),K.lookup a=some o∧o.cls = .type "tuple" ∧ o.data = .seq its n∧its.size≤sizeLine∧Vals xs its.toList
noncomputable def absV:Value->Option V
 | .none=>some .non
 | .bool b=>some (.bl b)
 | .int i _=>some (.int i)
 | .str x _=>some (.str x)
 | .bytes b _=>some (.byt b)
 | .float b _=>some (.flt b)
 | .ref a=>some (.ref a)
 | .type n=>some (.ty n)
 | _=>none
theorem RelV.abs {x:V} {u:Value} (r:RelV x u):absV u=some x:=by
 cases x with
 | non=>cases r;rfl
 | bl _=>cases r;rfl
 | int _=>obtain ⟨t,rfl⟩:=r;rfl
 | str _=>obtain ⟨t,rfl⟩:=r;rfl
 | byt _=>obtain ⟨t,rfl⟩:=r;rfl
 | flt _=>obtain ⟨t,rfl⟩:=r;rfl
 | ref _=>cases r;rfl
 | ty _=>cases r;rfl
theorem RelV.inj {x y:V} {u:Value} (r:RelV x u) (q:RelV y u):x=y:=Option.some.inj (r.abs.symm.trans q.abs)
theorem Vals.inj:∀ {xs ys:List V} {us:List Value},Vals xs us->Vals ys us->xs=ys
 | _,_,_,.nil,.nil=>rfl
 | _,_,_,.cons r t,.cons r' t'=>by rw [r.inj r',Vals.inj t t']
section
variable {X:Cx} {pins:List (Addr × Obj)} {σ:St} {H:Hp} {s:Shared} {a:Addr} {xs ys:List V}
theorem SqL.of {K:PySem.W.Frag} (h:H a=some (.lst xs)):SqL K H a xs:=.inl (.inl h)
theorem SqT.of {K:PySem.W.Frag} (h:H a=some (.tup xs)):SqT K H a xs:=.inl (.inl h)
theorem Inv.list (I:Inv X pins σ H s) (h:SqL X.K H a xs):∃ its:List Value,Vals xs its∧PlainL s.heap a its.toArray∧xs.length≤sizeLine:=by
 rcases h with h | ⟨o,its,n,hk,hc,hd,hs,hz,r⟩
 ·obtain ⟨z,its,n,r,e⟩:=h.ok I.hok
  exact ⟨its,r,⟨_,n,e,rfl,rfl,rfl⟩,z⟩
 ·refine ⟨its.toList,r,⟨o,n,I.kIn a o hk,hc,hd,by simpa using hs⟩,?_⟩
  have e:=r.length
  simp only [Array.length_toList] at e
  omega
theorem Inv.tuple (I:Inv X pins σ H s) (h:SqT X.K H a xs):∃ its:List Value,Vals xs its∧IsTup s.heap a its.toArray∧xs.length≤sizeLine:=by
 rcases h with h | ⟨o,its,n,hk,hc,hs,hz,r⟩
 ·obtain ⟨z,its,r,p⟩:=h.ok I.hok
  exact ⟨its,r,p,z⟩
 ·refine ⟨its.toList,r,⟨o,I.kIn a o hk,hc,n,by simpa using hs⟩,?_⟩
  have e:=r.length
  simp only [Array.length_toList] at e
  omega
theorem Inv.list_inj (I:Inv X pins σ H s) (h:SqL X.K H a xs) (h':SqL X.K H a ys):xs=ys:=by
 obtain ⟨its,r,⟨o,n,e,_,_,d⟩,_⟩:=I.list h
 obtain ⟨its',r',⟨o',n',e',_,_,d'⟩,_⟩:=I.list h'
 rw [e] at e';cases e'
 rw [d] at d'
 injection d' with d1 _
 have:its=its':=by simpa using congrArg Array.toList d1
 subst this
 exact r.inj r'
end
noncomputable abbrev Cx.wish (X:Cx) (E:Value->Shared->Prop):Cx:={ X with xe:=E }
noncomputable abbrev Cx.nox (X:Cx):Cx:=X.wish fun _ _=>False
theorem Cx.Ok.wish {X:Cx} (ok:X.Ok) (E:Value->Shared->Prop):(X.wish E).Ok:=
 ⟨ok.mod,ok.kind,ok.glob,ok.blt,ok.above,ok.inj,ok.has,ok.cab,ok.hd,ok.frames,ok.stk,ok.exf,ok.bs,ok.bsz,ok.noex,ok.exfs,ok.funs,ok.frf⟩
theorem Cx.Ok.unwish {X:Cx} {E:Value->Shared->Prop} (ok:(X.wish E).Ok):X.Ok:=
 ⟨ok.mod,ok.kind,ok.glob,ok.blt,ok.above,ok.inj,ok.has,ok.cab,ok.hd,ok.frames,ok.stk,ok.exf,ok.bs,ok.bsz,ok.noex,ok.exfs,ok.funs,ok.frf⟩
section
variable {X:Cx} {pins:List (Addr × Obj)} {σ:St} {H:Hp} {s:Shared} {E:Value->Shared->Prop}
theorem Inv.wish (I:Inv X pins σ H s) (E:Value->Shared->Prop):Inv (X.wish E) pins σ H s:=⟨I.ok.wish E,I.os,I.bare,I.base,I.loc,I.cell,I.free,I.freeC,I.pin,I.hok,I.len⟩
theorem Inv.unwish (I:Inv (X.wish E) pins σ H s):Inv X pins σ H s:=⟨I.ok.unwish,I.os,I.bare,I.base,I.loc,I.cell,I.free,I.freeC,I.pin,I.hok,I.len⟩
theorem SP.unwish {D:Ends} {f:Flow} {s':Shared} (h:SP (X.wish E) pins D f s'):SP X pins D f s':=by
 cases f with
 | next=>obtain ⟨σ',H',I,q⟩:=h;exact ⟨σ',H',I.unwish,q⟩
 | brk=>obtain ⟨σ',H',I,q⟩:=h;exact ⟨σ',H',I.unwish,q⟩
 | cont=>obtain ⟨σ',H',I,q⟩:=h;exact ⟨σ',H',I.unwish,q⟩
 | ret u=>obtain ⟨v,σ',H',I,r,q⟩:=h;exact ⟨v,σ',H',I.unwish,r,q⟩
theorem PE.nox {e:Expr} {t:TE} (h:PE X.nox e t):PE X e t:=fun pins s σ H Q I hw =>
 wpAny_mono (h pins s σ H Q (I.wish _) hw) (fun _ _ ⟨v,H',I',r,q⟩=>⟨v,H',I'.unwish,r,q⟩) fun _ _ z=>False.elim z
theorem PSs.nox {st:List Stmt} {t:TS} (h:PSs X.nox st t):PSs X st t:=fun pins s σ H D I hw =>
 wpAny_mono (h pins s σ H D (I.wish _) hw) (fun _ _ q=>q.unwish) fun _ _ z=>False.elim z
end
section
variable {X:Cx} {st:Stmt} {rest:List Stmt} {t u:TS} {e:Expr} {te:TE} {pos:Pos}
noncomputable def tNext:TS:=fun D σ H=>D.nx σ H
noncomputable def tSeq (t u:TS):TS:=fun D σ H=>t { D with nx:=u D } σ H
theorem pss_nil:PSs X [] tNext:=fun _ _ σ H _ I h=>wpAny_execs_nil ⟨σ,H,I,h⟩
theorem pss_cons (h1:PS X st t) (h2:PSs X rest u):PSs X (st::rest) (tSeq t u):=by
 intro pins s σ H D I h
 refine wpAny_execs_cons (thn (h1 pins s σ H { D with nx:=u D } I h) fun f s1 q=>?_)
 cases f with
 | next =>
  obtain ⟨σ',H',I',q⟩:=q
  exact h2 pins s1 σ' H' D I' q
 | ret v=>exact q
 | brk=>exact q
 | cont=>exact q
theorem pss_one (h1:PS X st t):PSs X [st] t:=by
 intro pins s σ H D I h
 refine wpAny_execs_cons (thn (h1 pins s σ H D I h) fun f s1 q=>?_)
 cases f with
 | next=>exact wpAny_execs_nil q
 | ret v=>exact q
 | brk=>exact q
 | cont=>exact q
theorem Inv.quiet {pins:List (Addr × Obj)} {σ:St} {H:Hp} {s:Shared} (I:Inv X pins σ H s):interactive X.env=false:=by simp [interactive,I.ok.kind]
noncomputable def tDrop (te:TE):TS:=fun D σ H=>te σ H fun _ H1=>D.nx σ H1
theorem ps_expr (he:PE X e te) (hs:swapsWith e none pos.line X.env=pure false:=by rfl):PS X (.Expr e pos) (tDrop te):=by
 intro pins s σ H D I h
 exact wpAny_Expr_any (thn (he pins s σ H _ I h) fun v s1 ⟨x,H1,I1,r1,q1⟩=>⟨σ,H1,I1,q1⟩) I.quiet hs
noncomputable def tRet (te:TE):TS:=fun D σ H=>te σ H D.rt
theorem ps_ret (he:PE X e te):PS X (.Return (some e) pos) (tRet te):=by
 intro pins s σ H D I h
 exact wpAny_Return_some (thn (he pins s σ H _ I h) fun v s1 ⟨x,H1,I1,r1,q1⟩=>⟨x,σ,H1,I1,r1,q1⟩)
noncomputable def tRetN:TS:=fun D _ H=>D.rt .non H
theorem ps_retN:PS X (.Return none pos) tRetN:=fun _ _ σ H _ I h=>wpAny_Return_none ⟨.non,σ,H,I,rfl,h⟩
noncomputable def tIfS (c:TT) (t u:TS):TS:=fun D σ H=>c σ H fun b H1=>if b=true then t D σ H1 else u D σ H1
theorem ps_if {c:Expr} {a b:List Stmt} {tc:TT} (hc:PT X c tc) (ha:PSs X a t) (hb:PSs X b u):PS X (.If c a b pos) (tIfS tc t u):=by
 intro pins s σ H D I h
 refine wpAny_If (thn (hc pins s σ H _ I h) fun d s1 ⟨H1,I1,q1⟩=>?_)
 cases d with
 | true=>exact ha pins s1 σ H1 D I1 q1
 | false=>exact hb pins s1 σ H1 D I1 q1
end
noncomputable abbrev TG:=V->St->Hp->(St->Hp->Prop)->Prop
noncomputable def PG (X:Cx) (target:Expr) (t:TG):Prop:=
 ∀ (pins:List (Addr × Obj)) (s:Shared) (σ:St) (H:Hp) (v:V) (u:Value) (Q:St->Hp->Prop),Inv X pins σ H s->RelV v u->t v σ H Q →
  wpAny (model X.prog X.w) X.A (assign target X.env u) (fun _ s'=>∃ σ' H',Inv X pins σ' H' s'∧Q σ' H') X.xe s
noncomputable abbrev TSet:=V->V->V->Hp->(Hp->Prop)->Prop
noncomputable def PSet (X:Cx) (t:TSet):Prop:=
 ∀ (pins:List (Addr × Obj)) (s:Shared) (σ:St) (H:Hp) (o i v:V) (ov iv u:Value) (Q:Hp->Prop),Inv X pins σ H s->RelV o ov->RelV i iv->RelV v u->t o i v H Q →
  wpAny (model X.prog X.w) X.A (setItem ov iv u) (fun _ s'=>∃ H',Inv X pins σ H' s'∧Q H') X.xe s
noncomputable abbrev TIp:=V->V->Hp->VK->Prop
noncomputable def PIp (X:Cx) (op:Operator) (t:TIp):Prop:=
 ∀ (pins:List (Addr × Obj)) (s:Shared) (σ:St) (H:Hp) (x y:V) (v u:Value) (Q:VK),Inv X pins σ H s->RelV x v->RelV y u->t x y H Q →
  wpAny (model X.prog X.w) X.A (inplaceOp op v u) (EP X pins σ Q) X.xe s
section
variable {X:Cx} {pos:Pos}
noncomputable def gName (i:Nat):TG:=fun v σ H Q=>Q (σ.set i (some v)) H
theorem pg_name {i:Nat} {x:Str} (hN:X.N.Nodup) (hi:X.N[i]? = some x) (hx:Loc X.env.scope x) (hf:X.fn x=true∨X.env.scope.names.lookup x=some .local:=by first | exact .inl rfl | exact .inr rfl | assumption):PG X (.Name x pos) (gName i):=by
 intro pins s σ H v u Q I r h
 exact wpAny_assign_Name (store_ok I hN hi hx r (fun s' I'=>⟨_,H,I',h⟩) hf)
noncomputable def gSub (to ti:TE) (t:TSet):TG:=fun v σ H Q=>to σ H fun o H1=>ti σ H1 fun i H2=>t o i v H2 fun H3=>Q σ H3
theorem pg_sub {o i:Expr} {to ti:TE} {t:TSet} (ho:PE X o to) (hi:PE X i ti) (hs:PSet X t)
  (ha:∀ v,assign (.Subscript o i pos) X.env v=(do
   let ov ← holding [v] (eval o X.env)
   let iv ← holding [v,ov] (eval i X.env)
   standAt pos
   holding [v,ov,iv] (setItem ov iv v)
   release [v,ov,iv] []):=by intro _;rfl):PG X (.Subscript o i pos) (gSub to ti t):=by
 intro pins s σ H v u Q I r h
 rw [ha]
 refine wpAny_bind (wpAny_holding (thn (ho pins s σ H _ I h) fun ov s1 ⟨x,H1,I1,r1,q1⟩=>?_))
 refine wpAny_bind (wpAny_holding (thn (hi pins s1 σ H1 _ I1 q1) fun iv s2 ⟨y,H2,I2,r2,q2⟩=>?_))
 refine wpAny_bind (wpAny_standAt (wpAny_bind (wpAny_holding (thn (hs pins s2 σ H2 x y v ov iv u _ I2 r1 r2 r q2) fun _ s3 ⟨H3,I3,q3⟩=>?_))))
 exact wpAny_release ⟨σ,H3,I3,q3⟩
noncomputable def tAsg (te:TE) (g:TG):TS:=fun D σ H=>te σ H fun x H1=>g x σ H1 D.nx
theorem ps_asg {tg e:Expr} {te:TE} {g:TG} (he:PE X e te) (hg:PG X tg g) (hs:swapsWithSole [tg] e pos.line X.env=pure false:=by rfl) (hw:swappedStores [tg] e X.env=pure none:=by rfl)
  (h1:(assignEach [tg] X.env).map (·.2)=[assign tg X.env]:=by rfl):PS X (.Assign [tg] e pos) (tAsg te g):=by
 intro pins s σ H D I h
 refine wpAny_Assign_stores (thn (he pins s σ H _ I h) fun v s1 ⟨x,H1,I1,r1,q1⟩=>?_) hs hw
 rw [h1]
 exact thn (hg pins s1 σ H1 x v _ I1 r1 q1) fun _ s2 q=>q
theorem ps_set {i:Nat} {x:Str} {e:Expr} {te:TE} {pos':Pos} (hN:X.N.Nodup) (hi:X.N[i]? = some x) (hx:Loc X.env.scope x) (he:PE X e te) (hs:swapsWith e (some (.Name x pos')) pos.line X.env=pure false:=by rfl) (hf:X.fn x=true∨X.env.scope.names.lookup x=some .local:=by first | exact .inl rfl | exact .inr rfl | assumption) :
  PS X (.Assign [.Name x pos'] e pos) (tAsg te (gName i)):=by
 intro pins s σ H D I h
 refine wpAny_Assign_Name (thn (he pins s σ H _ I h) fun v s1 ⟨y,H1,I1,r1,q1⟩=>?_) hs
 exact store_ok I1 hN hi hx r1 (fun s2 I2=>⟨_,H1,I2,q1⟩) hf
noncomputable def tAug (i:Nat) (te:TE) (ti:TIp):TS:=fun D σ H=>∃ x,σ[i]? = some (some x)∧te σ H fun y H1=>ti x y H1 fun z H2=>D.nx (σ.set i (some z)) H2
theorem ps_aug {i:Nat} {x:Str} {e:Expr} {te:TE} {op:Operator} {ti:TIp} {pos':Pos} (hN:X.N.Nodup) (hi:X.N[i]? = some x) (hx:Loc X.env.scope x) (he:PE X e te) (ho:PIp X op ti) (hf:X.fn x=true∨X.env.scope.names.lookup x=some .local:=by first | exact .inl rfl | exact .inr rfl | assumption) :
  PS X (.AugAssign (.Name x pos') op e pos) (tAug i te ti):=by
 intro pins s σ H D I h
 obtain ⟨v,e1,h⟩:=h
 obtain ⟨m,hn,hl⟩:=I.loc
 have vis:Vis X.env.scope x:=by rcases hx with k | k;exact .inl k;exact .inr (.inl k)
 obtain ⟨u,r,l⟩:=hl i x v hi e1 vis
 refine wpAny_AugAssign_Name ?_
 have go:wpAny (model X.prog X.w) X.A (eval e X.env) (fun w s₂=>wpAny (model X.prog X.w) X.A (inplaceOp op u w) (fun r s₃=>wpAny (model X.prog X.w) X.A (storeName X.env x r) (fun _=>SP X pins D .next) X.xe s₃) X.xe s₂) X.xe s:=by
  refine thn (he pins s σ H _ I h) fun w s1 ⟨y,H1,I1,r1,q1⟩=>?_
  refine thn (ho pins s1 σ H1 v y u w _ I1 r r1 q1) fun z s2 ⟨zv,H2,I2,r2,q2⟩=>?_
  exact store_ok I2 hN hi hx r2 (fun s3 I3=>⟨_,H2,I3,q2⟩) hf
 rcases l with ⟨hk,hm⟩ | ⟨hk,c,hc,hcell⟩
 ·exact wpAny_loadName_local I.ok.kind hk hn hm go
 ·rcases hk with hk | hk
  ·exact wpAny_loadName_cell I.ok.kind hk hc hcell go
  ·rcases hx with k | k
   ·have:X.env.scope.names.lookup x=some .free:=hk
    rw [k] at this;cases this
   ·have:X.env.scope.names.lookup x=some .free:=hk
    rw [k] at this;cases this
noncomputable def ipI (f:Int->Int->Int):TIp:=fun x y H Q=>∃ i j,x = .int i∧y = .int j∧Q (.int (f i j)) H
theorem ip_sub:PIp X .Sub (ipI fun i j=>i - j):=by
 intro pins s σ H x y v u Q I r1 r2 h
 obtain ⟨i,j,e1,e2,q⟩:=h
 subst e1;subst e2
 obtain ⟨t,rfl⟩:=r1
 obtain ⟨t',rfl⟩:=r2
 exact isub_int ⟨.int _,H,I.tok _,⟨_,rfl⟩,q⟩
end
section
variable {X:Cx} {pos:Pos}
noncomputable def tWhile (c:TT) (tb:TS):TS:=fun D σ H=>∃ W:Nat->St->Hp->Prop,(∃ m,W m σ H)∧∀ m σ H,W m σ H →
 c σ H fun b H1=>if b=true then ∃ N:St->Hp->Prop,(∀ σ' H',N σ' H'->∃ m',m' < m∧W m' σ' H')∧tb { D with nx:=N,ct:=N,bk:=D.nx } σ H1 else D.nx σ H1
theorem ps_while {c:Expr} {body:List Stmt} {tc:TT} {tb:TS} (hp:PassesOwn (model X.prog X.w) X.A X.env X.xe) (hc:PT X c tc) (hb:PSs X body tb):PS X (.While c body [] pos) (tWhile tc tb):=by
 intro pins s σ H D I h
 obtain ⟨W,⟨m0,w0⟩,turn⟩:=h
 refine wpAny_While (codeAny_whileLoop (fun n s'=>∃ σ' H',Inv X pins σ' H' s'∧W n σ' H') ?_ m0 ⟨σ,H,I,w0⟩)
 rintro n s1 ⟨σ1,H1,I1,w1⟩
 refine wpAny_passesOwn hp (thn (hc pins s1 σ1 H1 _ I1 (turn n σ1 H1 w1)) fun b s2 ⟨H2,I2,q2⟩=>?_)
 cases b with
 | true =>
  obtain ⟨N,hN,q2⟩:=q2
  rw [if_pos rfl]
  refine wpAny_passesOwn hp (thn (hb pins s2 σ1 H2 _ I2 q2) fun f s3 q3=>?_)
  cases f with
  | next =>
   obtain ⟨σ3,H3,I3,n3⟩:=q3
   obtain ⟨m',hm,w3⟩:=hN σ3 H3 n3
   exact ⟨m',hm,σ3,H3,I3,w3⟩
  | cont =>
   obtain ⟨σ3,H3,I3,n3⟩:=q3
   obtain ⟨m',hm,w3⟩:=hN σ3 H3 n3
   exact ⟨m',hm,σ3,H3,I3,w3⟩
  | brk=>exact q3
  | ret v=>exact q3
 | false =>
  rw [if_neg Bool.false_ne_true]
  exact wpAny_execs_nil ⟨σ1,H2,I2,q2⟩
end
structure It where
 go:Nat->Hp->Prop
 yld:Nat->Hp->V->Hp->Prop
 stop:Nat->Hp->Prop
noncomputable def FpOk (X:Cx) (pins:List (Addr × Obj)) (H:Hp) (b:Addr):Prop:=
 H b=none∧b ≠ X.env.locals∧b ∉ X.fs∧(b ∈ X.ex∨X.s_0.heap.objs.size≤b)∧(∀ x c,X.env.cells.lookup x=some c->c ≠ b)∧∀ p ∈ X.pn++pins,p.1 ≠ b
theorem Inv.fpOk {X:Cx} {pins:List (Addr × Obj)} {σ:St} {H H':Hp} {s:Shared} {b:Addr} (I:Inv X pins σ H s) (hb:s.heap.objs.size≤b) (hn:H' b=none):FpOk X pins H' b:=by
 refine ⟨hn,Nat.ne_of_gt (Nat.lt_of_lt_of_le I.lt hb),I.nofs hb,.inr (Nat.le_trans I.sz hb),fun x c e z=>?_,fun p hp z=>?_⟩
 ·obtain ⟨v,q⟩:=I.cell x c e
  exact absurd (Nat.lt_of_lt_of_le q.lt (by rw [z];exact hb)) (Nat.lt_irrefl _)
 ·exact absurd (Nat.lt_of_lt_of_le (Heap.lt_size (I.pin p hp).1) (by rw [z];exact hb)) (Nat.lt_irrefl _)
structure Turn (P:Program) (w:World) (K:PySem.W.Frag) (tg:Expr) (J:It) (fp:List Addr) (it:Addr) (tn:Nat->Heap->Prop):Prop where
 mem:it ∈ fp
 obj:∀ i h,tn i h->∀ b ∈ fp,∃ o,h.get? b=some o∧∀ v,o.data ≠ .cell v
 keep:∀ i h h',tn i h->(∀ b ∈ fp,∀ o,h.get? b=some o->h'.get? b=some o)->tn i h'
 item:∀ (X:Cx),X.prog=P->X.w=w->X.K=K->X.calm=true->∀ (i:Nat) (pins:List (Addr × Obj)) (s:Shared) (σ:St) (H:Hp) (E:Value->Shared->Prop),Inv X pins σ H s->(∀ b ∈ fp,FpOk X pins H b)->tn i s.heap->J.go i H →
  wpAny (model P w) X.A (pyNext (.ref it)) (fun r s1=>∃ u,r=some u ∧
   wpAny (model P w) X.A (letOwnedTupleGo tg (.ref it) u) (fun _ s2=>∃ x H',Inv X pins σ H' s2∧RelV x u∧J.yld i H x H'∧tn (i + 1) s2.heap∧∀ b ∈ fp,H' b=none) E s1) E s
 done:∀ (X:Cx),X.prog=P->X.w=w->X.K=K->X.calm=true->∀ (i:Nat) (pins:List (Addr × Obj)) (s:Shared) (σ:St) (H:Hp) (E:Value->Shared->Prop),Inv X pins σ H s->(∀ b ∈ fp,FpOk X pins H b)->tn i s.heap->J.stop i H →
  wpAny (model P w) X.A (pyNext (.ref it)) (fun r s1=>r=none∧Inv X pins σ H s1) E s
 self:∀ (A:Around) (i:Nat) (s:Shared) (Q:Value->Shared->Prop) (E:Value->Shared->Prop),tn i s.heap->Q (.ref it) s->wpAny (model P w) A (pyIter (.ref it)) Q E s
noncomputable abbrev TI:=St->Hp->(It->Hp->Prop)->Prop
noncomputable def PIE (X:Cx) (pins:List (Addr × Obj)) (σ:St) (tg:Expr) (R:It->Hp->Prop) (itv:Value) (s2:Shared):Prop:=
 ∃ (it:Addr) (fp:List Addr) (tn:Nat->Heap->Prop) (J:It) (H':Hp),itv = .ref it∧Inv X pins σ H' s2∧Turn X.prog X.w X.K tg J fp it tn∧tn 0 s2.heap∧(∀ b ∈ fp,FpOk X pins H' b)∧R J H'
noncomputable def PI (X:Cx) (tg iter:Expr) (wi:TI):Prop:=
 ∀ (pins:List (Addr × Obj)) (s:Shared) (σ:St) (H:Hp) (R:It->Hp->Prop),Inv X pins σ H s->wi σ H R →
  wpAny (model X.prog X.w) X.A (eval iter X.env) (fun v s1=>wpAny (model X.prog X.w) X.A (pyIter v) (PIE X pins σ tg R) X.xe s1) X.xe s
theorem go_of {M:Model} {A:Around} {E:Value->Shared->Prop} {s:Shared} {tg:Expr} {it:Addr} {u:Value} {o:Obj} {n:String} {vs:Array Value} {Q:Unit->Shared->Prop} (ho:s.heap.get? it=some o) (hc:o.cls = .type n) (hd:o.data = .fields vs)
  (hn:["enumerate","zip","dict_itemiterator","dict_reverseitemiterator","odict_iterator","itertools.zip_longest","itertools.pairwise"].contains n=false) (hQ:Q () s):wpAny M A (letOwnedTupleGo tg (.ref it) u) Q E s:=by
 unfold letOwnedTupleGo
 cases tg <;> first
  | exact wpAny_pure hQ
  | (cases u <;> first
    | exact wpAny_pure hQ
    | (refine wpAny_bind (wpAny_load ho ?_);rw [hc,hd];show wpAny M A (if (["enumerate","zip","dict_itemiterator","dict_reverseitemiterator","odict_iterator","itertools.zip_longest","itertools.pairwise"].contains n && vs[0]? == some (rawInt _))=true then _ else _) Q E s;rw [if_neg (by intro h;rw [hn,Bool.false_and] at h;cases h)];exact wpAny_pure hQ))
noncomputable def Itl (K:PySem.W.Frag) (a:Addr):It:=
 ⟨fun i H=>∃ xs x,SqL K H a xs∧xs[i]? = some x,fun i H x H'=>H'=H∧∀ xs,SqL K H a xs->xs[i]? = some x,fun i H=>∃ xs,SqL K H a xs∧xs.length≤i⟩
noncomputable def Itr (lo:Int) (n:Nat):It:=⟨fun i _=>i < n,fun i H x H'=>H'=H∧x = .int (lo + i),fun i _=>n≤i⟩
theorem turn_list {P:Program} {w:World} {K:PySem.W.Frag} {tg:Expr} (a it:Addr):Turn P w K tg (Itl K a) [it] it (fun i h=>h.IsListIter it a i) where
 mem:=by simp
 obj:=fun i h st b hb=>by
  have e:b=it:=by simpa using hb
  subst e
  obtain ⟨o,e,c,d⟩:=st
  exact ⟨o,e,fun v z=>by rw [d] at z;cases z⟩
 keep:=fun i h h' st k=>st.at fun o e=>k it (by simp) o e
 item:=by
  intro X hP hw hK hc i pins s σ H E I hf st hg
  subst hP hw hK
  obtain ⟨xs,x,hq,hx⟩:=hg
  obtain ⟨its,rv,p,hz⟩:=I.list hq
  obtain ⟨u,hu,ru⟩:=rv.get hx
  obtain ⟨f0,f1,f2,f3,f4,f5⟩:=hf it (by simp)
  refine wpAny_pyNext_list_item st p.isList (x:=u) (by simpa using hu) fun h' st' sb=>?_
  have I1:Inv X pins σ H { s with heap:=h' }:=I.turned (t':=s.toks) (fun b o hb e=>(sb.2 b hb).trans e) f0 f1 f3 f4 f5
  obtain ⟨o,e,c,d⟩:=id st'
  exact ⟨u,rfl,go_of (s:={ s with heap:=h' }) e c d (by decide) ⟨x,H,I1,ru,⟨rfl,fun ys hy=>by rw [I.list_inj hy hq];exact hx⟩,st',fun b hb=>(hf b hb).1⟩⟩
 done:=by
  intro X hP hw hK hc i pins s σ H E I hf st hg
  subst hP hw hK
  obtain ⟨xs,hq,hx⟩:=hg
  obtain ⟨its,rv,p,hz⟩:=I.list hq
  obtain ⟨f0,f1,f2,f3,f4,f5⟩:=hf it (by simp)
  have hl:=rv.length
  exact wpAny_pyNext_list_end (I.ok.hd hc) st p.isList (by simp;omega) fun h' eb=>⟨rfl,I.turned (t':=s.toks) (fun b o hb e=>eb b o hb e) f0 f1 f3 f4 f5⟩
 self:=fun _ _ _ _ _ st h=>wpAny_pyIter_listiter st h
theorem turn_range {P:Program} {w:World} {K:PySem.W.Frag} {tg:Expr} (it:Addr) (lo:Int) (n:Nat):Turn P w K tg (Itr lo n) [it] it (fun i h=>IsRangeIter h it (lo + (i:Nat) * 1) ((n:Int) - (i:Nat)) 1) where
 mem:=by simp
 obj:=fun i h st b hb=>by
  have e:b=it:=by simpa using hb
  subst e
  exact ⟨_,st,fun v z=>by
   have z':Data.fields _=Data.cell v:=z
   cases z'⟩
 keep:=fun i h h' st k=>k it (by simp) _ st
 item:=by
  intro X hP hw hK hc i pins s σ H E I hf st hg
  subst hP hw hK
  obtain ⟨f0,f1,f2,f3,f4,f5⟩:=hf it (by simp)
  have W:=Walks.range (prog:=X.prog) (w:=X.w) (I.ok.hd hc) it lo 1 n
  refine W.item i s _ _ hg st fun v h' tk hv st' kk=>?_
  obtain ⟨t,rfl⟩:=hv
  have I1:Inv X pins σ H { s with heap:=h',toks:=tk }:=I.turned (fun b o hb e=>kk b o (by simpa using hb) e) f0 f1 f3 f4 f5
  refine ⟨_,rfl,go_of (s:={ s with heap:=h',toks:=tk }) (n := "range_iterator") st' rfl rfl (by decide) ⟨.int (lo + i),H,I1,⟨t,?_⟩,⟨rfl,rfl⟩,st',fun b hb=>(hf b hb).1⟩⟩
  rw [Int.mul_one]
 done:=by
  intro X hP hw hK hc i pins s σ H E I hf st hg
  subst hP hw hK
  obtain ⟨f0,f1,f2,f3,f4,f5⟩:=hf it (by simp)
  exact wpAny_pyNext_range_end (I.ok.hd hc) st (by have:n≤i:=hg;omega) fun h' eb=>⟨rfl,I.turned (t':=s.toks) (fun b o hb e=>eb b o hb e) f0 f1 f3 f4 f5⟩
 self:=fun _ _ _ _ _ st h=>wpAny_pyIter_rangeiter st h
end L2
namespace L2
open PySem PySem.Spec PyProof.Rows
section
variable {X:Cx} {tg:Expr}
noncomputable def iList (K:PySem.W.Frag) (tl:TE):TI:=fun σ H R=>tl σ H fun x H1=>∃ a,x = .ref a∧(∃ xs,SqL K H1 a xs)∧R (Itl K a) H1
theorem pi_list {l:Expr} {tl:TE} (hl:PE X l tl):PI X tg l (iList X.K tl):=by
 intro pins s σ H R I h
 refine thn (hl pins s σ H _ I h) fun v s1 ⟨x,H1,I1,r1,q1⟩=>?_
 obtain ⟨a,e,⟨xs,hq⟩,q⟩:=q1
 subst e
 cases r1
 obtain ⟨its,rv,p,hz⟩:=I1.list hq
 refine wpAny_pyIter_list p.isList ?_
 refine ⟨s1.heap.objs.size,[s1.heap.objs.size],_,_,H1,rfl,I1.kept (t':=s1.toks) fun b o e=>Heap.get?_push_of_some _ e,turn_list a _,⟨_,Heap.get?_push_size _ rfl,rfl,rfl⟩,fun b hb=>?_,q⟩
 have e:b=s1.heap.objs.size:=by simpa using hb
 subst e
 exact I1.fpOk (Nat.le_refl _) (I1.hok.fresh (Nat.le_refl _))
theorem range_it {pins:List (Addr × Obj)} {σ:St} {H:Hp} {s:Shared} {R:It->Hp->Prop} {E:Value->Shared->Prop} {lo hi:Int} {t u v:Tok} {tk:Nat} (I:Inv X pins σ H s) (h1 : -(2 ^ 62)≤lo) (h2:lo < 2 ^ 62) (h3 : -(2 ^ 62)≤hi) (h4:hi < 2 ^ 62)
  (q:R (Itr lo (hi - lo).toNat) H):wpAny (model X.prog X.w) X.A (pyIter (.ref s.heap.objs.size)) (PIE X pins σ tg R) E { s with heap:=s.heap.push { cls:=.type "range",data:=.fields #[.int lo t,.int hi u,.int 1 v] },toks:=tk }:=by
 refine wpAny_pyIter_range (IsRange.new ..) (small_one h1 h2 h3 h4) ?_
 have I1:Inv X pins σ H { s with heap:=s.heap.push { cls:=.type "range",data:=.fields #[.int lo t,.int hi u,.int 1 v] },toks:=tk }:=I.kept fun b o e=>Heap.get?_push_of_some _ e
 refine ⟨(s.heap.push { cls:=.type "range",data:=.fields #[.int lo t,.int hi u,.int 1 v] }).objs.size,[(s.heap.push { cls:=.type "range",data:=.fields #[.int lo t,.int hi u,.int 1 v] }).objs.size],_,_,H,rfl,
  I1.kept (t':=tk) fun b o e=>Heap.get?_push_of_some _ e,turn_range _ lo (hi - lo).toNat,?_,fun b hb=>?_,q⟩
 ·have e1:lo + ((0:Nat):Int) * 1=lo:=by simp
  have e2:(((hi - lo).toNat:Nat):Int) - ((0:Nat):Int)=Builtin.Range.rangeSize lo hi 1:=by rw [rangeSize_one];split <;> omega
  show IsRangeIter _ _ (lo + ((0:Nat):Int) * 1) ((((hi - lo).toNat:Nat):Int) - ((0:Nat):Int)) 1
  rw [e1,e2]
  exact Heap.get?_push_size _ rfl
 ·have e:b=(s.heap.push { cls:=.type "range",data:=.fields #[.int lo t,.int hi u,.int 1 v] }).objs.size:=by simpa using hb
  subst e
  exact I1.fpOk (Nat.le_refl _) (I1.hok.fresh (Nat.le_refl _))
noncomputable def iRng1 (ta:TA):TI:=fun σ H R=>ta σ H fun vs H1=>∃ j:Int,vs=[.int j] ∧ -(2 ^ 62)≤j∧j < 2 ^ 62∧R (Itr 0 j.toNat) H1
theorem pi_range1 {a:Expr} {ta:TA} {p pos:Pos} (hg:Gl X "range") (hm:X.mg "range" = none) (ha:PA X [a] ta) (hs:starEach [a] X.env=[(false,eval a X.env)]:=by rfl):PI X tg (.Call (.Name "range" p) [a] [] pos) (iRng1 ta):=by
 intro pins s σ H R I h
 refine Call_ (ld_blt I hg hm boot_range (PyProof.Rows.callWith_type1 (thn (ha pos pins s σ H _ I h) fun us s1 ⟨vs,H1,I1,r1,q1⟩=>?_) hs rfl))
 obtain ⟨j,e,q1,q2,q⟩:=q1
 subst e
 cases r1 with
 | cons r rr =>
  cases rr
  obtain ⟨t,rfl⟩:=r
  exact call_range_1 (range_it I1 (by omega) (by omega) q1 q2 (by simpa using q))
noncomputable def tFor (wi:TI) (g:TG) (tb:TS):TS:=fun D σ H=>wi σ H fun J H1=>∃ W:Nat->Nat->St->Hp->Prop,(∃ m,W 0 m σ H1)∧∀ i m σ H,W i m σ H →
 (J.stop i H∧D.nx σ H)∨(J.go i H∧∃ N:St->Hp->Prop,(∀ σ' H',N σ' H'->∃ m',m' < m∧W (i + 1) m' σ' H')∧∀ x H',J.yld i H x H'->g x σ H' fun σ2 H2=>tb { D with nx:=N,ct:=N,bk:=D.nx } σ2 H2)
noncomputable def pinsAt (fp:List Addr) (h:Heap):List (Addr × Obj):=fp.filterMap fun b=>(h.get? b).map fun o=>(b,o)
theorem mem_pinsAt {fp:List Addr} {h:Heap} {b:Addr} {o:Obj} (hb:b ∈ fp) (e:h.get? b=some o):(b,o) ∈ pinsAt fp h:=List.mem_filterMap.mpr ⟨b,hb,by rw [e];rfl⟩
theorem of_pinsAt {fp:List Addr} {h:Heap} {p:Addr × Obj} (hp:p ∈ pinsAt fp h):p.1 ∈ fp∧h.get? p.1=some p.2:=by
 obtain ⟨b,hb,e⟩:=List.mem_filterMap.mp hp
 cases q:h.get? b with
 | none=>rw [q] at e;cases e
 | some o =>
  rw [q] at e
  have e':(b,o)=p:=Option.some.inj e
  subst e'
  exact ⟨hb,q⟩
theorem Inv.pinned {pins:List (Addr × Obj)} {σ:St} {H:Hp} {s:Shared} {fp:List Addr} (I:Inv X pins σ H s) (hf:∀ b ∈ fp,FpOk X pins H b) (ho:∀ b ∈ fp,∃ o,s.heap.get? b=some o∧∀ v,o.data ≠ .cell v):Inv X (pins++pinsAt fp s.heap) σ H s:=
 I.pins_of fun p hp=>(List.mem_append.mp hp).elim (fun z=>I.pin p (List.mem_append_right _ z)) fun z=>by
  obtain ⟨hb,e⟩:=of_pinsAt z
  obtain ⟨f0,f1,f2,_⟩:=hf p.1 hb
  obtain ⟨o,e',d⟩:=ho p.1 hb
  rw [e] at e';cases e'
  exact ⟨e,f0,f1,f2,d⟩
theorem Inv.unpinned {pins pl:List (Addr × Obj)} {σ:St} {H:Hp} {s:Shared} (I:Inv X (pins++pl) σ H s):Inv X pins σ H s:=I.pins_of fun p hp=>I.pin p (List.mem_append_right _ (List.mem_append_left _ hp))
theorem ps_for {iter:Expr} {body:List Stmt} {wi:TI} {g:TG} {tb:TS} {pos:Pos} (hp:PassesOwn (model X.prog X.w) X.A X.env X.xe) (hc:X.calm=true) (hi:PI X tg iter wi) (hg:PG X tg g) (hb:PSs X body tb)
  (hs:∀ x,foldedSetIterable iter X.env x=pure x:=by intro _;rfl):PS X (.For tg iter body [] pos) (tFor wi g tb):=by
 intro pins s σ H D I h
 refine wpAny_For (thn (hi pins s σ H _ I h) fun v s1 h1=>thn h1 fun itv s2 h2=>?_) hs
 obtain ⟨it,fp,tn,J,H2,e,I2,T,st2,f2,W,⟨m0,w0⟩,turn⟩:=h2
 subst e
 -- what stays true of the iterator's objects through the loop
 have stat:∀ {H':Hp},(∀ b ∈ fp,H' b=none)->∀ b ∈ fp,FpOk X pins H' b:=fun hn b hb=>⟨hn b hb,(f2 b hb).2⟩
 refine codeAny_forLoop_any (fun n s'=>∃ i σ' H',Inv X pins σ' H' s'∧tn i s'.heap∧(∀ b ∈ fp,H' b=none)∧W i n σ' H') ?_ m0 ⟨0,σ,H2,I2,st2,fun b hb=>(f2 b hb).1,w0⟩
 rintro n s3 ⟨i,σ3,H3,I3,st3,fr3,w3⟩
 rcases turn i n σ3 H3 w3 with ⟨stop,qn⟩ | ⟨go,N,hN,step⟩
 ·refine wpAny_passesOwn hp (thn (T.done X rfl rfl rfl hc i pins s3 σ3 H3 X.xe I3 (stat fr3) st3 stop) fun r s4 ⟨hr,I4⟩=>?_)
  subst hr
  exact wpAny_execs_nil ⟨σ3,H3,I4,qn⟩
 ·refine wpAny_passesOwn hp (thn (T.item X rfl rfl rfl hc i pins s3 σ3 H3 X.xe I3 (stat fr3) st3 go) fun r s4 ⟨u,hr,h4⟩=>?_)
  subst hr
  refine wpAny_passesOwn hp (thn h4 fun _ s5 ⟨x,H5,I5,r5,y5,st5,fr5⟩=>?_)
  have I5':=I5.pinned (stat fr5) (T.obj _ _ st5)
  refine wpAny_passesOwn hp (thn (hg _ s5 σ3 H5 x u _ I5' r5 (step x H5 y5)) fun _ s6 ⟨σ6,H6,I6,q6⟩=>?_)
  refine wpAny_passesOwn hp (thn (hb _ s6 σ6 H6 _ I6 q6) fun f s7 q7=>?_)
  have again:∀ {σ7:St} {H7:Hp},Inv X (pins++pinsAt fp s5.heap) σ7 H7 s7->N σ7 H7->∃ m,m < n∧∃ i σ' H',Inv X pins σ' H' s7∧tn i s7.heap∧(∀ b ∈ fp,H' b=none)∧W i m σ' H':=fun {σ7 H7} I7 n7=>by
   obtain ⟨m',hm,w7⟩:=hN σ7 H7 n7
   refine ⟨m',hm,i + 1,σ7,H7,I7.unpinned,T.keep _ _ _ st5 fun b hb o e=>(I7.pin (b,o) (List.mem_append_right _ (List.mem_append_right _ (mem_pinsAt hb e)))).1,fun b hb=>?_,w7⟩
   obtain ⟨o,e,d⟩:=T.obj _ _ st5 b hb
   exact (I7.pin (b,o) (List.mem_append_right _ (List.mem_append_right _ (mem_pinsAt hb e)))).2.1
  cases f with
  | next=>obtain ⟨σ7,H7,I7,n7⟩:=q7;exact again I7 n7
  | cont=>obtain ⟨σ7,H7,I7,n7⟩:=q7;exact again I7 n7
  | brk=>obtain ⟨σ7,H7,I7,q7⟩:=q7;exact ⟨σ7,H7,I7.unpinned,q7⟩
  | ret v=>obtain ⟨x7,σ7,H7,I7,r7,q7⟩:=q7;exact ⟨x7,σ7,H7,I7.unpinned,r7,q7⟩
end
theorem for_list {K:PySem.W.Frag} {a:Addr} {xs:List V} {g:TG} {tb:TS} {D:Ends} {σ:St} {H:Hp} (Pv:Nat->St->Hp->Prop) (h0:Pv 0 σ H) (hl:∀ i σ H,i≤xs.length->Pv i σ H->SqL K H a xs)
  (hs:∀ i x σ H,xs[i]? = some x->Pv i σ H->g x σ H fun σ2 H2=>tb { D with nx:=Pv (i + 1),ct:=Pv (i + 1),bk:=D.nx } σ2 H2) (hd:∀ σ H,Pv xs.length σ H->D.nx σ H) :
  ∃ W:Nat->Nat->St->Hp->Prop,(∃ m,W 0 m σ H)∧∀ i m σ H,W i m σ H →
   ((Itl K a).stop i H∧D.nx σ H)∨((Itl K a).go i H∧∃ N:St->Hp->Prop,(∀ σ' H',N σ' H'->∃ m',m' < m∧W (i + 1) m' σ' H')∧∀ x H',(Itl K a).yld i H x H'->g x σ H' fun σ2 H2=>tb { D with nx:=N,ct:=N,bk:=D.nx } σ2 H2):=by
 refine ⟨fun i m σ H=>m=xs.length - i∧i≤xs.length∧Pv i σ H,⟨xs.length,by simp,Nat.zero_le _,h0⟩,?_⟩
 rintro i m σ H ⟨rfl,hi,p⟩
 have q:=hl i σ H hi p
 by_cases hlt:i < xs.length
 ·refine .inr ⟨⟨xs,xs[i],q,by simp [hlt]⟩,Pv (i + 1),fun σ' H' p'=>⟨xs.length - (i + 1),by omega,rfl,hlt,p'⟩,fun x H' y=>?_⟩
  obtain ⟨e,y⟩:=y
  subst e
  exact hs i x σ _ (y xs q) p
 ·have e:i=xs.length:=by omega
  subst e
  exact .inl ⟨⟨xs,q,Nat.le_refl _⟩,hd σ H p⟩
end L2
namespace L2
open PySem PySem.Spec PyProof.Rows
noncomputable abbrev R2:=V->V->Hp->VK->Prop
noncomputable def OpR (X:Cx) (f:Value->Value->Sem Value) (r:R2):Prop:=
 ∀ (pins:List (Addr × Obj)) (s:Shared) (σ:St) (H:Hp) (x y:V) (v u:Value) (Q:VK),Inv X pins σ H s->RelV x v->RelV y u->r x y H Q →
  wpAny (model X.prog X.w) X.A (f v u) (EP X pins σ Q) X.xe s
noncomputable def UnR (X:Cx) (f:Value->Sem Value) (r:V->Hp->VK->Prop):Prop:=
 ∀ (pins:List (Addr × Obj)) (s:Shared) (σ:St) (H:Hp) (x:V) (v:Value) (Q:VK),Inv X pins σ H s->RelV x v->r x H Q →
  wpAny (model X.prog X.w) X.A (f v) (EP X pins σ Q) X.xe s
noncomputable def CallR (X:Cx) (f:Value) (r:List V->Hp->VK->Prop):Prop:=
 ∀ (pins:List (Addr × Obj)) (s:Shared) (σ:St) (H:Hp) (xs:List V) (us:List Value) (Q:VK),Inv X pins σ H s->Vals xs us->r xs H Q →
  wpAny (model X.prog X.w) X.A (call f us) (EP X pins σ Q) X.xe s
noncomputable def tOp (r:R2) (ta tb:TE):TE:=fun σ H Q=>ta σ H fun x H1=>tb σ H1 fun y H2=>r x y H2 Q
noncomputable def tUn (r:V->Hp->VK->Prop) (ta:TE):TE:=fun σ H Q=>ta σ H fun x H1=>r x H1 Q
noncomputable def rI0 (g:Int->Int->V):R2:=fun x y H Q=>∃ i j,x = .int i∧y = .int j∧Q (g i j) H
noncomputable def rU (g:Int->V):V->Hp->VK->Prop:=fun x H Q=>∃ i,x = .int i∧Q (g i) H
section
variable {X:Cx} {a b c:Expr} {ta tb tc:TE} {pos:Pos}
theorem binT (ha:PE X a ta) (hb:PE X b tb) {pins:List (Addr × Obj)} {s:Shared} {σ:St} {H:Hp} {R:V->V->Hp->Prop} (I:Inv X pins σ H s)
  (h:ta σ H fun x H1=>tb σ H1 fun y H2=>R x y H2) {Q:Value->Shared->Prop} {f:Value->Value->Sem Value}
  (hf:∀ v u s2 x y H2,Inv X pins σ H2 s2->RelV x v->RelV y u->R x y H2->wpAny (model X.prog X.w) X.A (f v u) Q X.xe s2) :
  wpAny (model X.prog X.w) X.A (eval a X.env) (fun v s₁=>wpAny (model X.prog X.w) X.A (eval b X.env) (fun u s₂=>wpAny (model X.prog X.w) X.A (f v u) Q X.xe s₂) X.xe s₁) X.xe s:=by
 refine thn (ha pins s σ H _ I h) fun v s1 ⟨x,H1,I1,r1,q1⟩=>?_
 refine thn (hb pins s1 σ H1 _ I1 q1) fun u s2 ⟨y,H2,I2,r2,q2⟩=>?_
 exact hf v u s2 x y H2 I2 r1 r2 q2
theorem pe_op {op:Operator} {r:R2} (ho:OpR X (binaryOp op) r) (ha:PE X a ta) (hb:PE X b tb):PE X (.BinOp a op b pos) (tOp r ta tb):=by
 intro pins s σ H Q I h
 exact wpAny_BinOp (binT ha hb I h fun v u s2 x y H2 I2 rx ry q=>ho pins s2 σ H2 x y v u Q I2 rx ry q)
theorem pe_un {op:UnaryOp} {r:V->Hp->VK->Prop} (ho:UnR X (unaryOp op) r) (ha:PE X a ta):PE X (.UnaryOp op a pos) (tUn r ta):=by
 intro pins s σ H Q I h
 exact UnaryOp_ (thn (ha pins s σ H _ I h) fun v s1 ⟨x,H1,I1,r1,q1⟩=>ho pins s1 σ H1 x v Q I1 r1 q1)
theorem opI0 {f:Value->Value->Sem Value} {g:Int->Int->Int}
  (rule:∀ (i j:Int) (t u:Tok) (s:Shared) (Q:Value->Shared->Prop) (E:Value->Shared->Prop),Q (.int (g i j) s.toks) { s with toks:=s.toks + 1 }->wpAny (model X.prog X.w) X.A (f (.int i t) (.int j u)) Q E s) :
  OpR X f (rI0 fun i j=>.int (g i j)):=by
 intro pins s σ H x y v u Q I rx ry h
 obtain ⟨i,j,rfl,rfl,q⟩:=h
 obtain ⟨t,rfl⟩:=rx
 obtain ⟨t',rfl⟩:=ry
 exact rule i j t t' s _ _ ⟨.int (g i j),H,I.tok _,⟨_,rfl⟩,q⟩
theorem opB0 {f:Value->Value->Sem Value} {g:Int->Int->Bool}
  (rule:∀ (i j:Int) (t u:Tok) (s:Shared) (Q:Value->Shared->Prop) (E:Value->Shared->Prop),Q (.bool (g i j)) s->wpAny (model X.prog X.w) X.A (f (.int i t) (.int j u)) Q E s) :
  OpR X f (rI0 fun i j=>.bl (g i j)):=by
 intro pins s σ H x y v u Q I rx ry h
 obtain ⟨i,j,rfl,rfl,q⟩:=h
 obtain ⟨t,rfl⟩:=rx
 obtain ⟨t',rfl⟩:=ry
 exact rule i j t t' s _ _ ⟨.bl (g i j),H,I,rfl,q⟩
theorem op_add:OpR X (binaryOp .Add) (rI0 fun i j=>.int (i + j)):=opI0 fun _ _ _ _ _ _ _ q=>add_int q
theorem op_sub:OpR X (binaryOp .Sub) (rI0 fun i j=>.int (i - j)):=opI0 fun _ _ _ _ _ _ _ q=>sub_int q
theorem unI {f:Value->Sem Value} {g:Int->Int}
  (rule:∀ (i:Int) (t:Tok) (s:Shared) (Q:Value->Shared->Prop) (E:Value->Shared->Prop),Q (.int (g i) s.toks) { s with toks:=s.toks + 1 }->wpAny (model X.prog X.w) X.A (f (.int i t)) Q E s) :
  UnR X f (rU fun i=>.int (g i)):=by
 intro pins s σ H x v Q I rx h
 obtain ⟨i,rfl,q⟩:=h
 obtain ⟨t,rfl⟩:=rx
 exact rule i t s _ _ ⟨.int (g i),H,I.tok _,⟨_,rfl⟩,q⟩
theorem un_neg:UnR X (unaryOp .USub) (rU fun i=>.int (-i)):=unI fun _ _ _ _ _ q=>neg_int q
end
noncomputable def scal:V->V->Bool
 | .non,.non=>true | .non,.int _=>true | .int _,.non=>true | .non,.bl _=>true | .bl _,.non=>true | .non,.str _=>true | .str _,.non=>true
 | .int _,.int _=>true | .bl _,.bl _=>true | .str _,.str _=>true | .byt _,.byt _=>true
 | .int _,.str _=>true | .str _,.int _=>true | .bl _,.str _=>true | .str _,.bl _=>true
 | _,_=>false
noncomputable def rEq:R2:=fun x y H Q=>scal x y=true∧Q (.bl (decide (x=y))) H
noncomputable def rNe:R2:=fun x y H Q=>scal x y=true∧Q (.bl (!decide (x=y))) H
theorem dec_int {i j:Int}:decide (V.int i=V.int j)=(i == j):=by
 rw [Bool.eq_iff_iff]
 simp
theorem dec_bl {i j:Bool}:decide (V.bl i=V.bl j)=(i == j):=by
 rw [Bool.eq_iff_iff]
 simp
theorem dec_str {i j:Str}:decide (V.str i=V.str j)=(i == j):=by
 rw [Bool.eq_iff_iff]
 simp
theorem dec_byt {i j:Array UInt8}:decide (V.byt i=V.byt j)=(i.toList == j.toList):=by
 rw [Bool.eq_iff_iff]
 cases i
 cases j
 simp
section
variable {X:Cx} {a b c:Expr} {ta tb tc:TE} {pos:Pos}
theorem fin_bl {pins:List (Addr × Obj)} {σ:St} {H:Hp} {s:Shared} {Q:VK} {k k':Bool} (I:Inv X pins σ H s) (q:Q (.bl k) H) (e:k=k'):EP X pins σ Q (.bool k') s:=by
 subst e
 exact ⟨.bl k,H,I,rfl,q⟩
theorem op_eq:OpR X (compareOp .Eq) rEq:=by
 intro pins s σ H x y v u Q I rx ry h
 obtain ⟨hs,q⟩:=h
 cases x with
 | non =>
  cases rx
  cases y with
  | non=>cases ry;exact PySem.EqNone.eq_none_none (fin_bl I q (by simp))
  | bl j=>cases ry;exact PySem.EqNone.eq_none_bool (fin_bl I q (by simp))
  | int j=>obtain ⟨t',rfl⟩:=ry;exact PySem.EqNone.eq_none_int (fin_bl I q (by simp))
  | str j=>obtain ⟨t',rfl⟩:=ry;exact PySem.EqNone.eq_none_str (fin_bl I q (by simp))
  | _=>exact absurd (show false=true from hs) Bool.false_ne_true
 | bl i =>
  cases rx
  cases y with
  | non=>cases ry;exact PySem.EqNone.eq_bool_none (fin_bl I q (by simp))
  | bl j=>cases ry;exact eq_bool (fin_bl I q dec_bl)
  | str j=>obtain ⟨t',rfl⟩:=ry;exact PySem.EqMixed.eq_bool_str (fin_bl I q (by simp))
  | _=>exact absurd (show false=true from hs) Bool.false_ne_true
 | int i =>
  obtain ⟨t,rfl⟩:=rx
  cases y with
  | non=>cases ry;exact PySem.EqNone.eq_int_none (fin_bl I q (by simp))
  | int j=>obtain ⟨t',rfl⟩:=ry;exact eq_int (fin_bl I q dec_int)
  | str j=>obtain ⟨t',rfl⟩:=ry;exact PySem.EqMixed.eq_int_str (fin_bl I q (by simp))
  | _=>exact absurd (show false=true from hs) Bool.false_ne_true
 | str i =>
  obtain ⟨t,rfl⟩:=rx
  cases y with
  | non=>cases ry;exact PySem.EqNone.eq_str_none (fin_bl I q (by simp))
  | bl j=>cases ry;exact PySem.EqMixed.eq_str_bool (fin_bl I q (by simp))
  | int j=>obtain ⟨t',rfl⟩:=ry;exact PySem.EqMixed.eq_str_int (fin_bl I q (by simp))
  | str j=>obtain ⟨t',rfl⟩:=ry;exact eq_str (fin_bl I q dec_str)
  | _=>exact absurd (show false=true from hs) Bool.false_ne_true
 | byt i =>
  obtain ⟨t,rfl⟩:=rx
  cases y with
  | byt j=>obtain ⟨t',rfl⟩:=ry;exact PySem.W.eq_bytes (fin_bl I q dec_byt)
  | _=>exact absurd (show false=true from hs) Bool.false_ne_true
 | _=>cases y <;> exact absurd (show false=true from hs) Bool.false_ne_true
theorem op_ne:OpR X (compareOp .NotEq) rNe:=by
 intro pins s σ H x y v u Q I rx ry h
 obtain ⟨hs,q⟩:=h
 cases x with
 | non =>
  cases rx
  cases y with
  | non=>cases ry;exact PySem.EqNone.ne_none_none (fin_bl I q (by simp))
  | bl j=>cases ry;exact PySem.EqNone.ne_none_bool (fin_bl I q (by simp))
  | int j=>obtain ⟨t',rfl⟩:=ry;exact PySem.EqNone.ne_none_int (fin_bl I q (by simp))
  | str j=>obtain ⟨t',rfl⟩:=ry;exact PySem.EqNone.ne_none_str (fin_bl I q (by simp))
  | _=>exact absurd (show false=true from hs) Bool.false_ne_true
 | bl i =>
  cases rx
  cases y with
  | non=>cases ry;exact PySem.EqNone.ne_bool_none (fin_bl I q (by simp))
  | bl j=>cases ry;exact ne_bool (fin_bl I q (congrArg not dec_bl))
  | str j=>obtain ⟨t',rfl⟩:=ry;exact PySem.EqMixed.ne_bool_str (fin_bl I q (by simp))
  | _=>exact absurd (show false=true from hs) Bool.false_ne_true
 | int i =>
  obtain ⟨t,rfl⟩:=rx
  cases y with
  | non=>cases ry;exact PySem.EqNone.ne_int_none (fin_bl I q (by simp))
  | int j=>obtain ⟨t',rfl⟩:=ry;exact ne_int (fin_bl I q (congrArg not dec_int))
  | str j=>obtain ⟨t',rfl⟩:=ry;exact PySem.EqMixed.ne_int_str (fin_bl I q (by simp))
  | _=>exact absurd (show false=true from hs) Bool.false_ne_true
 | str i =>
  obtain ⟨t,rfl⟩:=rx
  cases y with
  | non=>cases ry;exact PySem.EqNone.ne_str_none (fin_bl I q (by simp))
  | bl j=>cases ry;exact PySem.EqMixed.ne_str_bool (fin_bl I q (by simp))
  | int j=>obtain ⟨t',rfl⟩:=ry;exact PySem.EqMixed.ne_str_int (fin_bl I q (by simp))
  | str j=>obtain ⟨t',rfl⟩:=ry;exact ne_str (fin_bl I q (congrArg not dec_str))
  | _=>exact absurd (show false=true from hs) Bool.false_ne_true
 | byt i =>
  obtain ⟨t,rfl⟩:=rx
  cases y with
  | byt j=>obtain ⟨t',rfl⟩:=ry;exact PySem.W.ne_bytes (fin_bl I q (congrArg not dec_byt))
  | _=>exact absurd (show false=true from hs) Bool.false_ne_true
 | _=>cases y <;> exact absurd (show false=true from hs) Bool.false_ne_true
theorem op_lt:OpR X (compareOp .Lt) (rI0 fun i j=>.bl (decide (i < j))):=opB0 fun _ _ _ _ _ _ _ q=>lt_int q
theorem op_le:OpR X (compareOp .LtE) (rI0 fun i j=>.bl (decide (i≤j))):=opB0 fun _ _ _ _ _ _ _ q=>le_int q
theorem op_gt:OpR X (compareOp .Gt) (rI0 fun i j=>.bl (decide (j < i))):=opB0 fun _ _ _ _ _ _ _ q=>gt_int q
theorem op_ge:OpR X (compareOp .GtE) (rI0 fun i j=>.bl (decide (j≤i))):=opB0 fun _ _ _ _ _ _ _ q=>ge_int q
theorem nomark (b:Expr) {op:CmpOp} (h:op ≠ .In:=by decide) (h2:op ≠ .NotIn:=by decide):behindInMarks op b=false:=by
 have e1:(op == CmpOp.In)=false:=by cases op <;> first | rfl | exact absurd rfl h
 have e2:(op == CmpOp.NotIn)=false:=by cases op <;> first | rfl | exact absurd rfl h2
 cases b <;> simp [behindInMarks,e1,e2]
theorem pe_cmpR {op:CmpOp} {r:R2} (ho:OpR X (compareOp op) r) (ha:PE X a ta) (hb:PE X b tb) (hm:behindInMarks op b=false):PE X (.Compare a [op] [b] pos) (tOp r ta tb):=by
 intro pins s σ H Q I h
 exact wpAny_Compare1 (binT ha hb I h fun v u s2 x y H2 I2 rx ry q=>ho pins s2 σ H2 x y v u Q I2 rx ry q) hm
noncomputable def tTest (t:TE):TT:=fun σ H Q=>t σ H fun x H'=>∃ k,x = .bl k∧Q k H'
theorem pt_cmpR {op:CmpOp} {r:R2} (ho:OpR X (compareOp op) r) (ha:PE X a ta) (hb:PE X b tb) (hm:behindInMarks op b=false):PT X (.Compare a [op] [b] pos) (tTest (tOp r ta tb)):=by
 intro pins s σ H Q I h
 refine wpAny_isTrue_Compare1 (thn (ha pins s σ H _ I h) fun v s1 ⟨x,H1,I1,r1,q1⟩=>thn (hb pins s1 σ H1 _ I1 q1) fun u s2 ⟨y,H2,I2,r2,q2⟩ =>
  thn (ho pins s2 σ H2 x y v u _ I2 r1 r2 q2) fun c s3 ⟨z,H3,I3,r3,k,e,q3⟩=>?_) hm
 subst e
 cases r3
 exact wpAny_truthy_bool ⟨H3,I3,q3⟩
noncomputable def tChain (r r':R2) (ta tb tc:TE):TE:=fun σ H Q=>ta σ H fun x H1=>tb σ H1 fun y H2=>r x y H2 fun z H3=>∃ k,z = .bl k ∧
 (if k=true then tc σ H3 fun w' H4=>r' y w' H4 Q else Q (.bl false) H3)
theorem pe_chain {op op':CmpOp} {r r':R2} (ho:OpR X (compareOp op) r) (ho':OpR X (compareOp op') r') (ha:PE X a ta) (hb:PE X b tb) (hc:PE X c tc)
  (hm:lastMarks [op,op'] [b,c]=false:=by with_unfolding_all rfl):PE X (.Compare a [op,op'] [b,c] pos) (tChain r r' ta tb tc):=by
 intro pins s σ H Q I h
 refine Compare_chain (thn (ha pins s σ H _ I h) fun v s1 ⟨x,H1,I1,r1,q1⟩=>chain_link (thn (hb pins s1 σ H1 _ I1 q1) fun u s2 ⟨y,H2,I2,r2,q2⟩ =>
  thn (ho pins s2 σ H2 x y v u _ I2 r1 r2 q2) fun d s3 ⟨z,H3,I3,r3,k,e,q3⟩=>?_)) hm
 subst e
 cases r3
 refine wpAny_truthy_bool ?_
 cases k with
 | false=>exact ite_ff ⟨.bl false,H3,I3,rfl,q3⟩
 | true=>exact ite_tt (chain_last (thn (hc pins s3 σ H3 _ I3 q3) fun w' s4 ⟨z',H4,I4,r4,q4⟩=>ho' pins s4 σ H4 y z' u w' Q I4 r2 r4 q4))
theorem line63:(sizeLine:Nat) < 2 ^ 63:=by rw [sizeLine_eq];decide
theorem op_add_str:OpR X (binaryOp .Add) (fun x y H Q=>∃ i j,x = .str i∧y = .str j∧i.length + j.length≤sizeLine∧Q (.str (i++j)) H):=by
 intro pins s σ H x y v u Q I rx ry h
 obtain ⟨i,j,rfl,rfl,hz,q⟩:=h
 obtain ⟨t,rfl⟩:=rx
 obtain ⟨t',rfl⟩:=ry
 exact add_str (fun t' tk=>⟨.str (i++j),H,I.tok _,⟨_,rfl⟩,q⟩) hz
theorem vals1 {x:V} {us:List Value} (r:Vals [x] us):∃ u,us=[u]∧RelV x u:=by
 cases r with
 | cons r1 r2=>cases r2;exact ⟨_,rfl,r1⟩
theorem vals2 {x y:V} {us:List Value} (r:Vals [x,y] us):∃ u w',us=[u,w']∧RelV x u∧RelV y w':=by
 cases r with
 | cons r1 r2 =>
  cases r2 with
  | cons r3 r4=>cases r4;exact ⟨_,_,rfl,r1,r3⟩
theorem call_max2 (hc:X.calm=true):CallR X (.builtin "max") (fun xs H Q=>∃ i j,xs=[.int i,.int j]∧Q (.int (if j > i then j else i)) H):=by
 intro pins s σ H xs us Q I r h
 obtain ⟨i,j,rfl,q⟩:=h
 obtain ⟨u,w',rfl,⟨t,rfl⟩,⟨t',rfl⟩⟩:=vals2 r
 refine max_two_ints (I.ok.hd hc) fun h' tk k=>⟨_,H,I.kept k,?_,q⟩
 by_cases hj:j > i
 ·rw [if_pos hj,if_pos hj];exact ⟨_,rfl⟩
 ·rw [if_neg hj,if_neg hj];exact ⟨_,rfl⟩
theorem call_min2 (hc:X.calm=true):CallR X (.builtin "min") (fun xs H Q=>∃ i j,xs=[.int i,.int j]∧Q (.int (if j < i then j else i)) H):=by
 intro pins s σ H xs us Q I r h
 obtain ⟨i,j,rfl,q⟩:=h
 obtain ⟨u,w',rfl,⟨t,rfl⟩,⟨t',rfl⟩⟩:=vals2 r
 refine min_two_ints (I.ok.hd hc) fun h' tk k=>⟨_,H,I.kept k,?_,q⟩
 by_cases hj:j < i
 ·rw [if_pos hj,if_pos hj];exact ⟨_,rfl⟩
 ·rw [if_neg hj,if_neg hj];exact ⟨_,rfl⟩
theorem call_int1:CallR X (.type "int") (fun xs H Q=>(∃ i,xs=[.int i]∧Q (.int i) H)∨∃ k,xs=[.bl k]∧Q (.int (if k then 1 else 0)) H):=by
 intro pins s σ H xs us Q I r h
 rcases h with ⟨i,rfl,q⟩ | ⟨k,rfl,q⟩
 ·obtain ⟨u,rfl,t,rfl⟩:=vals1 r
  exact call_int_int ⟨.int i,H,I,⟨_,rfl⟩,q⟩
 ·obtain ⟨u,rfl,r1⟩:=vals1 r
  cases r1
  exact call_int_bool ⟨.int (if k then 1 else 0),H,I.tok _,⟨_,rfl⟩,q⟩
theorem call_str_int:CallR X (.type "str") (fun xs H Q=>∃ i,xs=[.int i]∧i.natAbs.log2 < 1920∧Q (.str (toString i)) H):=by
 intro pins s σ H xs us Q I r h
 obtain ⟨i,rfl,hz,q⟩:=h
 obtain ⟨u,rfl,t,rfl⟩:=vals1 r
 exact PySem.P.str_of_int hz ⟨.str _,H,I.tok _,⟨_,rfl⟩,q⟩
theorem call_ord:CallR X (.builtin "ord") (fun xs H Q=>∃ x,xs=[.str x]∧x.length=1∧Q (.int (x.cps.getD 0 0:Nat)) H):=by
 intro pins s σ H xs us Q I r h
 obtain ⟨x,rfl,hz,q⟩:=h
 obtain ⟨u,rfl,t,rfl⟩:=vals1 r
 exact ord_of_one hz ⟨.int _,H,I.tok _,⟨_,rfl⟩,q⟩
end
end L2
namespace L2
open PySem PySem.Spec PyProof.Rows
structure ObjM (h:Heap) (x dx C:Addr) (mA:Str->Option Value):Prop where
 obj:h.get? x=some (PySem.W.instObj C dx)
 ns:h.Ns1 dx mA
 ne:dx ≠ x
theorem lookIn_ns {h:Heap} {dx:Addr} {mA:Str->Option Value} (n:h.Ns1 dx mA):∃ od,h.get? dx=some od∧∀ name,PySem.W.lookIn name od=some (mA name):=by
 obtain ⟨o,es,ep,ho,hd,hk,_,hm⟩:=n
 refine ⟨o,ho,fun name=>?_⟩
 have e:=hm name
 unfold nsFind findBy at e
 rw [← Array.find?_toList] at e
 unfold PySem.W.lookIn
 rw [hd]
 dsimp only
 split
 ·rename_i y q
  rw [q] at e
  exact congrArg some e
 ·rename_i q
  rw [q] at e
  have a:es.toList.any (·.refKey)=false:=by
   rw [List.any_eq_false]
   intro y hy
   obtain ⟨z,t,hkey⟩:=hk y (Array.mem_toList_iff.mp hy)
   simp [DictEntry.refKey,hkey]
  have a':¬ es.toList.any (·.refKey)=true:=by rw [a];exact Bool.false_ne_true
  rw [if_neg a']
  exact congrArg some e
theorem ObjM.look {h:Heap} {x dx C:Addr} {mA:Str->Option Value} (I:ObjM h x dx C mA):∃ od,PySem.W.InstAt h x (PySem.W.instObj C dx) C (some od)∧∀ name,PySem.W.lookIn name od=some (mA name):=
 let ⟨od,ho,hl⟩:=lookIn_ns I.ns
 ⟨od,⟨I.obj,rfl,rfl,ho⟩,hl⟩
section
variable {prog:Program} {w:World} {A:Around} {E:Value->Shared->Prop} {s:Shared} {K:PySem.W.Frag} {x dx C f:Addr} {mA:Str->Option Value} {name:Str} {v:Value}
theorem get_map {expr:Bool} {Q:Value->Shared->Prop} (X:K.In s.heap) (I:ObjM s.heap x dx C mA) (hg:PySem.W.plainGet K C name=true) (hh:PySem.W.hasDictIn K C=true)
  (ha:PySem.W.findIn K (.ref C) name=some none) (hv:mA name=some v) (hv':PySem.W.handedIn v=true) (h:Q v { s with toks:=s.toks + 1 }) :
  wpAny (model prog w) A (getAttr (.ref x) name expr) Q E s:=by
 obtain ⟨od,J,hl⟩:=I.look
 exact PySem.W.get_value X J (PySem.W.plainGet_of hg).1 (PySem.W.findObj_own hh ha rfl (by rw [hl,hv])) hv' h
theorem get_meth {pl:Sem Bool} {Q:Value × List Value->Shared->Prop} (X:K.In s.heap) (I:ObjM s.heap x dx C mA) (hg:PySem.W.plainGet K C name=true)
  (hf:PySem.W.findIn K (.ref C) name=some (some (.ref f))) (ht:PySem.W.isFn K (.ref f)=true) (hv:mA name=none) (h:Q (.ref f,[.ref x]) s) :
  wpAny (model prog w) A (getMethod (.ref x) name pl) Q E s:=by
 obtain ⟨od,J,hl⟩:=I.look
 exact PySem.W.method_fn X J (PySem.W.plainGet_of hg).1 (PySem.W.plainGet_of hg).2 hf (beq_iff_eq.mp ht) (by show (PySem.W.lookIn name od).map (·.isSome)=some false;rw [hl,hv];rfl) h
theorem set_map {ns:List Str} {Q:Unit->Shared->Prop} (X:K.In s.heap) (I:ObjM s.heap x dx C mA)
  (hs:PySem.W.findIn K (.ref C) "__setattr__" = some (some (.builtin "object.__setattr__"))) (hp:PySem.W.plainOver K C=true) (ht:PySem.W.takerIn K C name=some none) (hh:PySem.W.hasDictIn K C=true)
  (hw:PySem.Within mA ns) (hsz:ns.length≤sizeLine)
  (h:∀ h',ObjM h' x dx C (fun y=>if y=name then some v else mA y)->Heap.SameBut dx s.heap h'->Q () { s with heap:=h',toks:=s.toks + 2 }) :
  wpAny (model prog w) A (setAttr (.ref x) name v) Q E s:=by
 obtain ⟨od,J,hl⟩:=I.look
 refine PySem.W.set_plain X J hs (PySem.W.osa_open (s:={ s with toks:=s.toks + 1 }) (r:=none) X J hp ht fun b=>?_)
 obtain ⟨cd,hc,hd'⟩:=PySem.W.any_some hh
 have hx:s.heap.get? x=some ⟨.ref C,some dx,.plain,#[]⟩:=I.obj
 refine wpAny_bind (wpAny_pure (wpAny_bind (wpAny_bind (wpAny_loadPart hx (wpAny_bind (PySem.W.Looks.here (s:={ s with toks:=s.toks + 1 }) (PySem.W.looks_clsIn X hc) ?_))))))
 rw [hd']
 refine wpAny_pure (a:=some dx) (wpAny_bind (wpAny_pure (wpAny_bind ?_)))
 refine wpAny_nsSet1 (s:={ s with toks:=s.toks + 1 }) I.ns fun h' hn2 hs2=>?_
 obtain ⟨oD,esD,epD,hoD,hdD,hcD⟩:=hn2.count (PySem.Within.cons name v hw)
 refine wpAny_bind (wpAny_lookBehind hoD (by rw [hdD];exact pastItsLine_dict (Nat.le_trans hcD (by rw [List.length_cons];omega))) ?_)
 exact wpAny_pure (h _ ⟨(hs2.2 _ (Ne.symm I.ne)).trans I.obj,hn2,I.ne⟩ hs2)
theorem make_map {R:Result->Shared->Prop} {vs:List Value} {kw:List (Str × Value)} (X:K.In s.heap) (hm:PySem.W.makesIn K C=true)
  (hi:PySem.W.findIn K (.ref C) "__init__" = some (some (.ref f))) (hf:PySem.W.typeIn K (.ref f)=some (.type "function"))
  (h:codeAny (model prog w) (A.under (.builtin "type.__call__" ⟨.ref C::vs,kw⟩)) (.call (.ref f) ⟨.ref (s.heap.objs.size + 1)::vs,kw⟩) (PySem.W.InitBack (s.heap.objs.size + 1) R)
   { s with heap:=(s.heap.push PySem.W.emptyDict).push (PySem.W.instObj C s.heap.objs.size) }) :
  codeAny (model prog w) A (.call (.ref C) ⟨vs,kw⟩) R s:=by
 obtain ⟨hh,g,d,t,os⟩:=s
 exact PySem.W.make_core (PySem.W.makes_of X hm) (PySem.W.looks_findIn X hi) (fun self=>PySem.W.bind_fn X self hf) (.inl rfl) h
end
noncomputable def putF (f:Str) (v:V):List (Str × V)->List (Str × V)
 | []=>[(f,v)]
 | (g,x)::r=>if g=f then (g,v)::r else (g,x)::putF f v r
theorem lookup_putF (f g:Str) (v:V):∀ fs:List (Str × V),(putF f v fs).lookup g=if g=f then some v else fs.lookup g
 | []=>by
  show List.lookup g [(f,v)]=_
  by_cases h:g=f
  ·have hb:(g == f)=true:=beq_iff_eq.mpr h
   simp only [List.lookup,hb,if_pos h]
  ·have hb:(g == f)=false:=beq_eq_false_iff_ne.mpr h
   simp only [List.lookup,hb,if_neg h]
 | (k,x)::r=>by
  have ih:=lookup_putF f g v r
  rw [show putF f v ((k,x)::r)=(if k=f then (k,v)::r else (k,x)::putF f v r) from rfl]
  by_cases hk:k=f
  ·rw [if_pos hk]
   by_cases h:g=k
   ·have hb:(g == k)=true:=beq_iff_eq.mpr h
    simp only [List.lookup,hb,if_pos (h.trans hk)]
   ·have hb:(g == k)=false:=beq_eq_false_iff_ne.mpr h
    simp only [List.lookup,hb,if_neg (fun e:g=f=>h (e.trans hk.symm))]
  ·rw [if_neg hk]
   by_cases h:g=k
   ·have hb:(g == k)=true:=beq_iff_eq.mpr h
    simp only [List.lookup,hb,if_neg (fun e:g=f=>hk (h.symm.trans e))]
   ·have hb:(g == k)=false:=beq_eq_false_iff_ne.mpr h
    simp only [List.lookup,hb]
    exact ih
theorem keys_putF (f:Str) (v:V):∀ fs:List (Str × V),f ∈ (putF f v fs).map (·.1)∧∀ g,g ∈ fs.map (·.1)->g ∈ (putF f v fs).map (·.1)
 | []=>⟨by simp [putF],fun g h=>by simp at h⟩
 | (k,x)::r=>by
  obtain ⟨i1,i2⟩:=keys_putF f v r
  rw [show putF f v ((k,x)::r)=(if k=f then (k,v)::r else (k,x)::putF f v r) from rfl]
  by_cases hk:k=f
  ·rw [if_pos hk]
   subst hk
   exact ⟨by simp,fun g h=>by simpa using h⟩
  ·rw [if_neg hk]
   refine ⟨?_,fun g h=>?_⟩
   ·rw [List.map_cons]
    exact List.mem_cons_of_mem _ i1
   ·rw [List.map_cons] at h ⊢
    rcases List.mem_cons.mp h with e | e
    ·exact List.mem_cons.mpr (.inl e)
    ·exact List.mem_cons_of_mem _ (i2 g e)
theorem length_putF (f:Str) (v:V):∀ fs:List (Str × V),(putF f v fs).length≤fs.length + 1
 | []=>by simp [putF]
 | (k,x)::r=>by
  have ih:=length_putF f v r
  rw [show putF f v ((k,x)::r)=(if k=f then (k,v)::r else (k,x)::putF f v r) from rfl]
  by_cases hk:k=f
  ·rw [if_pos hk,List.length_cons,List.length_cons];omega
  ·rw [if_neg hk,List.length_cons,List.length_cons];omega
theorem RelO.some_of {v:V} {o:Option Value} (r:RelO (some v) o):∃ u,o=some u∧RelV v u:=by
 cases o with
 | none=>exact (show False from r).elim
 | some u=>exact ⟨u,rfl,r⟩
theorem RelO.none_of {o:Option Value} (r:RelO none o):o=none:=by
 cases o with
 | none=>rfl
 | some u=>exact (show False from r).elim
theorem handed_of {v:V} {u:Value} (r:RelV v u):PySem.W.handedIn u=true:=by
 cases v with
 | non=>cases (show u=Value.none from r);rfl
 | bl b=>cases (show u=Value.bool b from r);rfl
 | int i=>obtain ⟨t,e⟩:=(show ∃ t,u=Value.int i t from r);cases e;rfl
 | str x=>obtain ⟨t,e⟩:=(show ∃ t,u=Value.str x t from r);cases e;rfl
 | byt b=>obtain ⟨t,e⟩:=(show ∃ t,u=Value.bytes b t from r);cases e;rfl
 | flt b=>obtain ⟨t,e⟩:=(show ∃ t,u=Value.float b t from r);cases e;rfl
 | ref a=>cases (show u=Value.ref a from r);rfl
 | ty n=>cases (show u=Value.type n from r);rfl
section
variable {P:Program} {w:World} {H H':Hp} {h h':Heap} {a C dx:Addr} {fs fs':List (Str × V)}
theorem ins_get (hok:HOk P w H h) (e:H a=some (.ins C dx fs)):∃ mA,ObjM h a dx C mA∧(∀ f,RelO (fs.lookup f) (mA f))∧PySem.Within mA (fs.map (·.1))∧fs.length≤1000∧H dx=some (.own a):=by
 obtain ⟨d,z,ne,ob,mA,n,r,q⟩:=(show ObjOk P w H h a (.ins C dx fs) from hok a _ e)
 exact ⟨mA,⟨ob,n,ne⟩,r,q,z,d⟩
end
structure Cls (K:PySem.W.Frag) (C:Addr):Prop where
 pg:PySem.W.plainGet K C Str.empty=true
 hd:PySem.W.hasDictIn K C=true
 po:PySem.W.plainOver K C=true
 sa:PySem.W.findIn K (.ref C) "__setattr__" = some (some (.builtin "object.__setattr__"))
theorem Cls.get {K:PySem.W.Frag} {C:Addr} (c:Cls K C) (f:Str):PySem.W.plainGet K C f=true:=c.pg
noncomputable def NoAttr (K:PySem.W.Frag) (C:Addr) (f:Str):Prop:=PySem.W.findIn K (.ref C) f=some none
theorem NoAttr.taker {K:PySem.W.Frag} {C:Addr} {f:Str} (n:NoAttr K C f):PySem.W.takerIn K C f=some none:=by
 unfold PySem.W.takerIn
 rw [show PySem.W.findIn K (.ref C) f=some none from n]
 rfl
structure Meth (K:PySem.W.Frag) (C:Addr) (m:Str) (f:Addr):Prop where
 at_:PySem.W.findIn K (.ref C) m=some (some (.ref f))
 fn:PySem.W.isFn K (.ref f)=true
 kp:PySem.W.keepIn K (.ref f)=true
section
variable {X:Cx} {pins:List (Addr × Obj)} {σ:St} {H:Hp} {s:Shared} {a C dx:Addr} {fs:List (Str × V)} {f:Str} {v:V} {A:Around} {E:Value->Shared->Prop}
theorem getattr_ok {b:Bool} {Q:Value->Shared->Prop} (I:Inv X pins σ H s) (e:H a=some (.ins C dx fs)) (c:Cls X.K C) (n:NoAttr X.K C f) (l:fs.lookup f=some v)
  (h:∀ u s',Inv X pins σ H s'->RelV v u->Q u s'):wpAny (model X.prog X.w) A (getAttr (.ref a) f b) Q E s:=by
 obtain ⟨mA,O,r,_,_,_⟩:=ins_get I.hok e
 obtain ⟨u,hu,ru⟩:=RelO.some_of (v:=v) (o:=mA f) (by rw [← l];exact r f)
 exact get_map I.kIn O (c.get f) c.hd n hu (handed_of ru) (h u _ (I.tok _) ru)
theorem getmeth_ok {m:Str} {g:Addr} {pl:Sem Bool} {Q:Value × List Value->Shared->Prop} (I:Inv X pins σ H s) (e:H a=some (.ins C dx fs)) (c:Cls X.K C) (k:Meth X.K C m g) (l:fs.lookup m=none)
  (h:Q (.ref g,[.ref a]) s):wpAny (model X.prog X.w) A (getMethod (.ref a) m pl) Q E s:=by
 obtain ⟨mA,O,r,_,_,_⟩:=ins_get I.hok e
 have hn:mA m=none:=RelO.none_of (by rw [← l];exact r m)
 exact get_meth I.kIn O (c.get m) k.at_ k.fn hn h
theorem setattr_ok {y:V} {u:Value} {Q:Unit->Shared->Prop} (I:Inv X pins σ H s) (e:H a=some (.ins C dx fs)) (c:Cls X.K C) (n:NoAttr X.K C f) (hl:fs.length < 1000) (ry:RelV y u)
  (h:∀ s',Inv X pins σ (upd H a (.ins C dx (putF f y fs))) s'->Q () s'):wpAny (model X.prog X.w) A (setAttr (.ref a) f u) Q E s:=by
 obtain ⟨mA,O,r,wi,_,ho⟩:=ins_get I.hok e
 have hz:(fs.map (·.1)).length≤sizeLine:=by rw [List.length_map,sizeLine_eq];omega
 refine set_map I.kIn O c.sa c.po n.taker c.hd wi hz fun h' O' sb=>h _ ?_
 have hd:∃ o,h'.get? dx=some o:=let ⟨o,_,_,e',_⟩:=O'.ns;⟨o,e'⟩
 refine I.write (x:=a) (e:=dx) (by rw [e];exact True.intro) (.inr ho) (fun b q hb z=>(sb.2 b hb).trans z) hd ?_
 refine ⟨by rw [upd_ne O.ne];exact ho,?_,O.ne,O'.obj,_,O'.ns,fun g=>?_,fun g hg=>?_⟩
 ·have:=length_putF f y fs;omega
 ·show RelO ((putF f y fs).lookup g) (if g=f then some u else mA g)
  rw [lookup_putF]
  by_cases q:g=f
  ·rw [if_pos q,if_pos q];exact ry
  ·rw [if_neg q,if_neg q];exact r g
 ·by_cases q:g=f
  ·rw [q];exact (keys_putF f y fs).1
  ·refine (keys_putF f y fs).2 g (wi g fun z=>hg ?_)
   show (if g=f then some u else mA g)=none
   rw [if_neg q];exact z
theorem Inv.made (I:Inv X pins σ H s):Inv X pins σ (upd (upd H s.heap.objs.size (.own (s.heap.objs.size + 1))) (s.heap.objs.size + 1) (.ins C s.heap.objs.size []))
  { s with heap:=(s.heap.push PySem.W.emptyDict).push (PySem.W.instObj C s.heap.objs.size) }:=by
 have e1:(s.heap.push PySem.W.emptyDict).get? s.heap.objs.size=some PySem.W.emptyDict:=Heap.get?_push_size s.heap rfl
 have e2:((s.heap.push PySem.W.emptyDict).push (PySem.W.instObj C s.heap.objs.size)).get? (s.heap.objs.size + 1)=some (PySem.W.instObj C s.heap.objs.size):=by
  have:=Heap.get?_push_size (s.heap.push PySem.W.emptyDict) (o:=PySem.W.instObj C s.heap.objs.size) rfl
  rwa [Heap.size_push] at this
 have e3:(s.heap.push PySem.W.emptyDict).Ns s.heap.objs.size (fun _=>none):=⟨PySem.W.emptyDict,#[],_,e1,rfl,(fun e he=>absurd he (by simp)),fun _=>rfl⟩
 have I1:=I.laid (a:=s.heap.objs.size) (o:=.own (s.heap.objs.size + 1)) (h':=s.heap.push PySem.W.emptyDict) (t':=s.toks) (fun b u q=>Heap.get?_push_of_some _ q) (Nat.le_refl _) ⟨_,e1⟩
 refine I1.laid (a:=s.heap.objs.size + 1) (o:=.ins C s.heap.objs.size []) (t':=s.toks) (fun b u q=>Heap.get?_push_of_some _ q) (Nat.le_of_eq (Heap.size_push _ _)) ?_
 have ne:s.heap.objs.size ≠ s.heap.objs.size + 1:=Nat.ne_of_lt (Nat.lt_succ_self _)
 refine ⟨by rw [upd_ne ne,upd_same],Nat.zero_le _,ne,e2,fun _=>none,(Heap.Ns1.of_empty e3).at fun o q=>Heap.get?_push_of_some _ q,fun _=>True.intro,fun y hy=>absurd rfl hy⟩
theorem attr_of {prog:Program} {w:World} {env:Env} {e:Expr} {f:Str} {pos:Pos} {s:Shared} {Q:Value->Shared->Prop} (hb:attributeBase e f env (eval e env)=eval e env)
  (h:wpAny (model prog w) A (eval e env) (fun o s₁=>wpAny (model prog w) A (getAttr o f true) Q E s₁) E s):wpAny (model prog w) A (eval (.Attribute e f pos) env) Q E s:=
 Attribute_any_ h (by rw [arm_eval_Attribute,hb])
end
noncomputable def tFld (K:PySem.W.Frag) (ta:TE) (f:Str):TE:=fun σ H Q=>ta σ H fun x H1=>∃ a C dx fs v,x = .ref a∧H1 a=some (.ins C dx fs)∧Cls K C∧NoAttr K C f∧fs.lookup f=some v∧Q v H1
noncomputable def sFld (K:PySem.W.Frag) (ta tv:TE) (f:Str):TS:=fun D σ H=>tv σ H fun y H1=>ta σ H1 fun x H2=>∃ a C dx fs,x = .ref a∧H2 a=some (.ins C dx fs)∧Cls K C∧NoAttr K C f∧fs.length < 1000 ∧
 D.nx σ (upd H2 a (.ins C dx (putF f y fs)))
noncomputable def InOp (X:Cx) (op:Operator) (rd:V->V->Hp->VK->Prop):Prop:=
 ∀ (pins:List (Addr × Obj)) (s:Shared) (σ:St) (H:Hp) (x y:V) (u v:Value) (Q:VK),Inv X pins σ H s->RelV x u->RelV y v->rd x y H Q->wpAny (model X.prog X.w) X.A (inplaceOp op u v) (EP X pins σ Q) X.xe s
noncomputable def sFldAug (K:PySem.W.Frag) (ta tv:TE) (rd:V->V->Hp->VK->Prop) (f:Str):TS:=fun D σ H=>ta σ H fun x H1=>∃ a C dx fs v,x = .ref a∧H1 a=some (.ins C dx fs)∧Cls K C∧NoAttr K C f∧fs.lookup f=some v ∧
 tv σ H1 fun y H2=>rd v y H2 fun z H3=>∃ dx' fs',H3 a=some (.ins C dx' fs')∧fs'.length < 1000∧D.nx σ (upd H3 a (.ins C dx' (putF f z fs')))
section
variable {X:Cx} {o e value:Expr} {f:Str} {pos pos' tpos:Pos} {ta tv:TE}
theorem pe_fld (he:PE X e ta) (hb:attributeBase e f X.env (eval e X.env)=eval e X.env):PE X (.Attribute e f pos) (tFld X.K ta f):=by
 intro pins s σ H Q I h
 refine attr_of hb (thn (he pins s σ H _ I h) fun u s1 ⟨x,H1,I1,rx,a,C,dx,fs,v,ex,ea,c,n,l,q⟩=>?_)
 subst ex
 obtain rfl:u=Value.ref a:=rx
 exact getattr_ok I1 ea c n l fun u' s2 I2 ru=>⟨v,H1,I2,ru,q⟩
theorem ps_fld (ha:PE X o ta) (hv:PE X value tv) (hs:swapsWith value (some (.Attribute o f pos')) pos.line X.env=pure false):PS X (.Assign [.Attribute o f pos'] value pos) (sFld X.K ta tv f):=by
 intro pins s σ H D I h
 refine plainObj_wpAny_Assign_Attribute (thn (hv pins s σ H _ I h) fun u s1 ⟨y,H1,I1,ry,q⟩=>thn (ha pins s1 σ H1 _ I1 q) fun ov s2 ⟨x,H2,I2,rx,a,C,dx,fs,ex,ea,c,n,l,q2⟩=>?_) hs
 subst ex
 obtain rfl:ov=Value.ref a:=rx
 exact setattr_ok I2 ea c n l ry fun s3 I3=>⟨σ,_,I3,q2⟩
theorem ps_fldaug {op:Operator} {rd:V->V->Hp->VK->Prop} (ha:PE X o ta) (hv:PE X value tv) (hop:InOp X op rd):PS X (.AugAssign (.Attribute o f tpos) op value pos) (sFldAug X.K ta tv rd f):=by
 intro pins s σ H D I h
 refine wpAny_AugAssign_AttributeAny (thn (ha pins s σ H _ I h) fun ov s1 ⟨x,H1,I1,rx,a,C,dx,fs,v,ex,ea,c,n,l,q⟩=>?_)
 subst ex
 obtain rfl:ov=Value.ref a:=rx
 refine getattr_ok I1 ea c n l fun u s2 I2 ru=>thn (hv pins s2 σ H1 _ I2 q) fun w3 s3 ⟨y,H2,I3,ry,q3⟩=>thn (hop pins s3 σ H2 v y u w3 _ I3 ru ry q3) fun w4 s4 ⟨z,H3,I4,rz,dx',fs',ea',l',q4⟩=>?_
 exact setattr_ok I4 ea' c n l' rz fun s5 I5=>⟨σ,_,I5,q4⟩
noncomputable def rAdd:V->V->Hp->VK->Prop:=fun x y H Q=>∃ i j,x = .int i∧y = .int j∧Q (.int (i + j)) H
noncomputable def rSub:V->V->Hp->VK->Prop:=fun x y H Q=>∃ i j,x = .int i∧y = .int j∧Q (.int (i - j)) H
theorem in_add:InOp X .Add rAdd:=by
 rintro pins s σ H x y u v Q I rx ry ⟨i,j,rfl,rfl,q⟩
 obtain ⟨t,rfl⟩:=(show ∃ t,u=Value.int i t from rx)
 obtain ⟨t',rfl⟩:=(show ∃ t',v=Value.int j t' from ry)
 exact PyProof.Rows.iadd_int ⟨.int (i + j),H,I.tok _,⟨_,rfl⟩,q⟩
theorem in_sub:InOp X .Sub rSub:=by
 rintro pins s σ H x y u v Q I rx ry ⟨i,j,rfl,rfl,q⟩
 obtain ⟨t,rfl⟩:=(show ∃ t,u=Value.int i t from rx)
 obtain ⟨t',rfl⟩:=(show ∃ t',v=Value.int j t' from ry)
 exact PyProof.Rows.isub_int ⟨.int (i - j),H,I.tok _,⟨_,rfl⟩,q⟩
end
end L2
namespace L2
open PySem PySem.Spec PyProof.Rows
structure Room (k:Nat) (A:Around):Prop where
 hd:A.handled=none
 dp:A.depth + 3 * k + 5 < recursionLimit
 un:A.units + 16 * k + 200 < cLine
theorem Room.mono {j k:Nat} {A:Around} (r:Room k A) (h:j≤k):Room j A:=⟨r.hd,by have:=r.dp;omega,by have:=r.un;omega⟩
theorem Room.deeper {k:Nat} {A:Around} (r:Room (k + 1) A) (env:Env):Room k (A.deeper env):=
 ⟨r.hd,by have:=r.dp;show A.depth + 1 + 3 * k + 5 < _;omega,by have:=r.un;show A.units + 3 + 16 * k + 200 < _;omega⟩
theorem Room.in1 {k:Nat} {A:Around} (r:Room (k + 1) A):Room k A.in1:=
 ⟨r.hd,by have:=r.dp;show A.depth + 3 * k + 5 < _;omega,by have:=r.un;show A.units + 1 + 16 * k + 200 < _;omega⟩
theorem make_depth {A:Around} {C:Addr} {us:List Value} {kw:List (Str × Value)}:(A.under (.builtin "type.__call__" ⟨.ref C::us,kw⟩)).depth=A.depth + 1:=by
 first | rfl | simp [Around.under,Code.weight,Code.isCreation,Code.isGuard,Code.isCaller,Code.frames,Code.isFrame,guardIds]
theorem make_units {A:Around} {C:Addr} {us:List Value} {kw:List (Str × Value)}:(A.under (.builtin "type.__call__" ⟨.ref C::us,kw⟩)).units=A.units + 1:=by
 first | rfl | simp [Around.under,Code.cUnits,Code.frames,Code.isFrame]
theorem Room.make {k:Nat} {A:Around} (r:Room (k + 1) A) (C:Addr) (us:List Value) (kw:List (Str × Value)):Room k (A.under (.builtin "type.__call__" ⟨.ref C::us,kw⟩)):=
 ⟨r.hd,by have:=r.dp;rw [make_depth];omega,by have:=r.un;rw [make_units];omega⟩
theorem Room.depth {k:Nat} {A:Around} (r:Room k A):A.depth < recursionLimit:=by have:=r.dp;omega
theorem Room.units {k:Nat} {A:Around} (r:Room k A):A.units + 64 < cLine:=by have:=r.un;omega
noncomputable def tNil:TA:=fun _ H Q=>Q [] H
noncomputable def tCons (ta:TE) (tr:TA):TA:=fun σ H Q=>ta σ H fun x H1=>tr σ H1 fun xs H2=>Q (x::xs) H2
section
variable {X:Cx} {e:Expr} {es:List Expr} {te:TE} {t:TA} {pos:Pos}
theorem pa_nil:PA X [] tNil:=fun _ _ _ _ H Q I h=>Calls.spliced_nil ⟨[],H,I,.nil,h⟩
theorem pa_cons (ha:PE X e te) (hr:PA X es t) (hs:starEach (e::es) X.env=(false,eval e X.env)::starEach es X.env:=by rfl):PA X (e::es) (tCons te t):=by
 intro pos pins s σ H Q I h
 rw [hs]
 show wpAny _ _ (spliced ((false,eval e X.env)::backTo pos (starEach es X.env))) _ _ s
 refine Calls.spliced_cons (thn (ha pins s σ H _ I h) fun u s1 ⟨x,H1,I1,r1,q1⟩=>?_)
 exact thn (hr pos pins s1 σ H1 _ I1 q1) fun us s2 ⟨xs,H2,I2,r2,q2⟩=>⟨x::xs,H2,I2,.cons r1 r2,q2⟩
noncomputable def tTup (t:TA):TE:=fun σ H Q=>t σ H fun xs H1=>xs.length≤sizeLine∧∀ p,H1 p=none->Q (.ref p) (upd H1 p (.tup xs))
noncomputable def tLst (t:TA):TE:=fun σ H Q=>t σ H fun xs H1=>xs.length≤sizeLine∧∀ p,H1 p=none->Q (.ref p) (upd H1 p (.lst xs))
theorem pe_tup {x1} (h:PA X es t):PE X (.Tuple es x1 pos) (tTup t):=by
 intro pins s σ H Q I hq
 refine wpAny_Tuple_spliced (thn (h pos pins s σ H _ I hq) fun us s1 ⟨xs,H1,I1,r,z,q⟩=>⟨by rw [← r.length];exact z,?_⟩)
 have hf:H1 s1.heap.objs.size=none:=I1.hok.fresh (Nat.le_refl _)
 refine ⟨.ref s1.heap.objs.size,upd H1 s1.heap.objs.size (.tup xs),I1.laid (t':=s1.toks) (fun b u e=>Heap.get?_push_of_some _ e) (Nat.le_refl _) ?_,rfl,q _ hf⟩
 exact ⟨z,us,r,⟨_,Heap.get?_push_size _ rfl,rfl,_,rfl⟩⟩
theorem pe_lst (h:PA X es t):PE X (.List es pos) (tLst t):=by
 intro pins s σ H Q I hq
 refine wpAny_List_spliced (thn (h pos pins s σ H _ I hq) fun us s1 ⟨xs,H1,I1,r,z,q⟩=>⟨by rw [← r.length];exact z,?_⟩)
 have hf:H1 s1.heap.objs.size=none:=I1.hok.fresh (Nat.le_refl _)
 refine ⟨.ref s1.heap.objs.size,upd H1 s1.heap.objs.size (.lst xs),I1.laid (t':=s1.toks) (fun b u e=>Heap.get?_push_of_some _ e) (Nat.le_refl _) ?_,rfl,q _ hf⟩
 exact ⟨z,us,0,r,Heap.get?_push_size _ rfl⟩
end
noncomputable abbrev Sp:=List V->Hp->VK->XK->Prop
noncomputable abbrev CXT:=List Env->Hp->Shared->XK->Value->Shared->Prop
structure Env0 (P:Program) (w:World) (K:PySem.W.Frag) (mg:Str->Option Value) (base:Heap) (A:Around) (outer:List Env) (s:Shared) (H:Hp):Prop where
 frames:A.frames=some outer
 mod:Mod K mg base
 bs:∀ b o,base.get? b=some o->s.heap.get? b=some o∧H b=none
 bsz:base.objs.size≤s.heap.objs.size
 funs:s.heap.FunFrames base outer
 frf:∀ b ∈ frs outer,H b=none
 hok:HOk P w H s.heap
 bare:AllBare s.gens
noncomputable def CE (outer:List Env) (P:Program) (w:World) (H:Hp) (s:Shared) (Q:VK) (u:Value) (s':Shared):Prop:=
 ∃ v H',s'.os=s.os∧AllBare s'.gens∧Un (frs outer) [] H H' s.heap s'.heap∧HOk P w H' s'.heap∧RelV v u∧Q v H'
noncomputable def CR (CX:CXT) (outer:List Env) (P:Program) (w:World) (H:Hp) (s:Shared) (Q:VK) (E:XK) (r:Result) (s':Shared):Prop:=
 match r with
 | .ok (.ret u)=>CE outer P w H s Q u s'
 | .ok _=>False
 | .error e=>CX outer H s E e s'
structure FnOk (P:Program) (w:World) (K:PySem.W.Frag) (mg:Str->Option Value) (base:Heap) (CX:CXT) (k:Nat) (f:Addr) (fd:FuncData) (ps:List Str) (sp:Sp):Prop where
 len:∀ vs H Q E,sp vs H Q E->vs.length=ps.length
 run:∀ (A:Around) (outer:List Env) (s:Shared) (H:Hp) (args:Args) (us:List Value) (vs:List V) (Q:VK) (E:XK),Room k A->Env0 P w K mg base A outer s H->BindsTo s fd args (ps.zip us)->Vals vs us->sp vs H Q E →
  codeAny (model P w) A (.call (.ref f) args) (CR CX outer P w H s Q E) s
theorem Env0.make {P:Program} {w:World} {K:PySem.W.Frag} {mg:Str->Option Value} {base:Heap} {A:Around} {outer:List Env} {s:Shared} {H:Hp} (e:Env0 P w K mg base A outer s H) (C:Addr) (us:List Value) (kw:List (Str × Value)) :
  Env0 P w K mg base (A.under (.builtin "type.__call__" ⟨.ref C::us,kw⟩)) outer s H:=⟨by first | exact e.frames | (simpa [Around.under,Code.envs,Code.isFrame,pushEnvs] using e.frames),e.mod,e.bs,e.bsz,e.funs,e.frf,e.hok,e.bare⟩
theorem Env0.in1 {P:Program} {w:World} {K:PySem.W.Frag} {mg:Str->Option Value} {base:Heap} {A:Around} {outer:List Env} {s:Shared} {H:Hp} (e:Env0 P w K mg base A outer s H) :
  Env0 P w K mg base A.in1 outer s H:=⟨e.frames,e.mod,e.bs,e.bsz,e.funs,e.frf,e.hok,e.bare⟩
section
variable {X:Cx} {pins:List (Addr × Obj)} {σ:St} {H:Hp} {s s':Shared}
theorem Inv.env0 (I:Inv X pins σ H s):Env0 X.prog X.w X.K X.mg X.base X.A X.stack s H:=
 ⟨I.ok.frames,I.ok.mod,I.bs,Nat.le_trans I.ok.bsz I.sz,I.stack,I.stkFree,I.hok,I.bare⟩
theorem Inv.after {Q:VK} {u:Value} (I:Inv X pins σ H s) (h:CE X.stack X.prog X.w H s Q u s'):EP X pins σ Q u s':=by
 obtain ⟨v,H',os,bare,un,hok,r,q⟩:=h
 obtain ⟨hh,g,d,t,os'⟩:=s'
 obtain rfl:os'=s.os:=os
 exact ⟨v,H',I.call (h':=hh) (g':=g) (d':=d) (t':=t) (ch:=[]) un hok bare (fun b z=>absurd z (by simp)),r,q⟩
end
noncomputable def tCall (sp:Sp) (dvs:List V) (E:XK) (t:TA):TE:=fun σ H Q=>t σ H fun vs H1=>sp (vs++dvs) H1 Q E
noncomputable def tMeth (C:Addr) (m:Str) (sp:Sp) (dvs:List V) (E:XK) (ta:TE) (t:TA):TE:=fun σ H Q=>ta σ H fun x H1=>∃ a dx fs,x = .ref a∧H1 a=some (.ins C dx fs)∧fs.lookup m=none ∧
 t σ H1 fun vs H2=>sp (x::(vs++dvs)) H2 Q E
noncomputable def tMake (C:Addr) (sp:Sp) (dvs:List V) (E:XK) (t:TA):TE:=fun σ H Q=>t σ H fun vs H1=>∀ x dx,H1 x=none->H1 dx=none->dx ≠ x →
 sp (.ref x::(vs++dvs)) (upd (upd H1 dx (.own x)) x (.ins C dx [])) (fun v H2=>v = .non∧Q (.ref x) H2) E
noncomputable def Binds (K:PySem.W.Frag) (fd:FuncData) (ps:List Str) (ds:List Value):Prop:=
 ∀ (s:Shared) (us:List Value),K.In s.heap->(us++ds).length=ps.length->BindsTo s fd ⟨us,[]⟩ (ps.zip (us++ds))
theorem Binds.all {K:PySem.W.Frag} {fd:FuncData} {ps:List Str} (h:∀ us:List Value,us.length=ps.length->bindArgs fd ⟨us,[]⟩=pure (ps.zip us)):Binds K fd ps []:=fun s us _ hl=>by
 rw [List.append_nil] at hl ⊢
 exact .of_eq (h us hl)
noncomputable def Passes (CX:CXT) (X:Cx) (E:XK):Prop:=∀ (pins:List (Addr × Obj)) (σ:St) (H:Hp) (s:Shared) (e:Value) (s':Shared),Inv X pins σ H s->CX X.stack H s E e s'->X.xe e s'
section
variable {X:Cx} {CX:CXT} {k:Nat} {f C:Addr} {fd:FuncData} {ps:List Str} {sp:Sp} {dvs:List V} {ds:List Value} {E:XK} {x m:Str} {p pos apos:Pos} {e o:Expr} {es:List Expr} {ta:TE} {t:TA}
theorem run_fn {pins:List (Addr × Obj)} {σ:St} {H:Hp} {s:Shared} {Q:VK} {us:List Value} {vs:List V} (F:FnOk X.prog X.w X.K X.mg X.base CX k f fd ps sp) (hr:Room k X.A) (hb:Binds X.K fd ps ds) (hd:Vals dvs ds) (hx:Passes CX X E)
  (I:Inv X pins σ H s) (r:Vals vs us) (h:sp (vs++dvs) H Q E):wpAny (model X.prog X.w) X.A (call (.ref f) us) (EP X pins σ Q) X.xe s:=by
 have r2:Vals (vs++dvs) (us++ds):=r.append hd
 have hl:(us++ds).length=ps.length:=by rw [← r2.length];exact F.len _ _ _ _ h
 refine wpAny_call (codeAny_mono (F.run X.A X.stack s H ⟨us,[]⟩ (us++ds) (vs++dvs) Q E hr I.env0 (hb s us I.kIn hl) r2 h) fun r s' hq=>?_)
 cases r with
 | error e=>exact hx pins σ H s e s' I hq
 | ok fl =>
  cases fl with
  | ret u=>exact I.after hq
  | next=>exact False.elim hq
  | brk=>exact False.elim hq
  | cont=>exact False.elim hq
theorem pe_call (F:FnOk X.prog X.w X.K X.mg X.base CX k f fd ps sp) (hr:Room k X.A) (hg:Gl X x) (hm:X.mg x=some (.ref f)) (hk:PySem.W.keepIn X.K (.ref f)=true) (hb:Binds X.K fd ps ds) (hd:Vals dvs ds) (hx:Passes CX X E)
  (ha:PA X (e::es) t) (hdb:(x == ("__debug__" : Str))=false:=by decide) (he:starEach (e::es) X.env=(false,eval e X.env)::starEach es X.env:=by rfl) (hpl:(backTo pos (starEach es X.env)).any (·.1)=false:=by rfl) :
  PE X (.Call (.Name x p) (e::es) [] pos) (tCall sp dvs E t):=by
 intro pins s σ H Q I h
 refine wpAny_Call_Name_kw (ld_glob I hg hm ?_ hdb)
 refine PySem.W.callWith_K (h₀:=X.base) I.ok.mod.kin hk (thn (ha pos pins s σ H _ I h) fun us s1 ⟨vs,H1,I1,r,q⟩=>⟨I1.kIn,?_⟩) he hpl
 exact run_fn F hr hb hd hx I1 r q
theorem pe_call0 (F:FnOk X.prog X.w X.K X.mg X.base CX k f fd ps sp) (hr:Room k X.A) (hg:Gl X x) (hm:X.mg x=some (.ref f)) (hk:PySem.W.keepIn X.K (.ref f)=true) (hb:Binds X.K fd ps ds) (hd:Vals dvs ds) (hx:Passes CX X E)
  (hdb:(x == ("__debug__" : Str))=false:=by decide):PE X (.Call (.Name x p) [] [] pos) (tCall sp dvs E tNil):=by
 intro pins s σ H Q I h
 refine wpAny_Call_Name_kw (ld_glob I hg hm ?_ hdb)
 exact PySem.W.callWith_K0 I.kIn hk (run_fn (us:=[]) F hr hb hd hx I .nil h)
theorem pe_meth {pl:Sem Bool} (he:PE X o ta) (c:Cls X.K C) (hm:Meth X.K C m f) (F:FnOk X.prog X.w X.K X.mg X.base CX k f fd ps sp) (hr:Room k X.A) (hb:Binds X.K fd ps ds) (hd:Vals dvs ds) (hx:Passes CX X E) (ha:PA X (e::es) t)
  (hst:starEach (e::es) X.env=(false,eval e X.env)::starEach es X.env:=by rfl) (hpl:(backTo pos (starEach es X.env)).any (·.1)=false:=by rfl)
  (ht:eval (.Call (.Attribute o m apos) (e::es) [] pos) X.env=(do
   let ov ← eval o X.env
   standAt apos.atName
   let (f,first) ← holding [ov] (getMethod ov m pl)
   callWith pos f first (backTo pos (starEach (e::es) X.env)) (backToKw pos (keywordEach [] X.env))):=by rfl) :
  PE X (.Call (.Attribute o m apos) (e::es) [] pos) (tMeth C m sp dvs E ta t):=by
 intro pins s σ H Q I h
 refine PySem.W.methodCall_KW (pl:=pl) (thn (he pins s σ H _ I h) fun u s1 ⟨x,H1,I1,rx,a,dx,fs,ex,ea,l,q⟩=>?_) ht
 subst ex
 obtain rfl:u=Value.ref a:=rx
 refine getmeth_ok I1 ea c hm l ?_
 refine PySem.W.callWith_K (first:=[.ref a]) (h₀:=X.base) I.ok.mod.kin hm.kp (thn (ha pos pins s1 σ H1 _ I1 q) fun us s2 ⟨vs,H2,I2,r,q2⟩=>⟨I2.kIn,?_⟩) hst hpl
 exact run_fn (us:=.ref a::us) (vs:=.ref a::vs) F hr hb hd hx I2 (.cons rfl r) q2
theorem pe_meth0 {pl:Sem Bool} (he:PE X o ta) (c:Cls X.K C) (hm:Meth X.K C m f) (F:FnOk X.prog X.w X.K X.mg X.base CX k f fd ps sp) (hr:Room k X.A) (hb:Binds X.K fd ps ds) (hd:Vals dvs ds) (hx:Passes CX X E)
  (ht:eval (.Call (.Attribute o m apos) [] [] pos) X.env=(do
   let ov ← eval o X.env
   standAt apos.atName
   let (f,first) ← holding [ov] (getMethod ov m pl)
   callWith pos f first (backTo pos (starEach [] X.env)) (backToKw pos (keywordEach [] X.env))):=by rfl) :
  PE X (.Call (.Attribute o m apos) [] [] pos) (tMeth C m sp dvs E ta tNil):=by
 intro pins s σ H Q I h
 refine PySem.W.methodCall_KW (pl:=pl) (thn (he pins s σ H _ I h) fun u s1 ⟨x,H1,I1,rx,a,dx,fs,ex,ea,l,q⟩=>?_) ht
 subst ex
 obtain rfl:u=Value.ref a:=rx
 refine getmeth_ok I1 ea c hm l ?_
 exact PySem.W.callWith_K0 (first:=[.ref a]) I1.kIn hm.kp (run_fn (us:=[.ref a]) (vs:=[.ref a]) F hr hb hd hx I1 (.cons rfl .nil) q)
structure Mk (K:PySem.W.Frag) (C f:Addr):Prop where
 makes:PySem.W.makesIn K C=true
 init:PySem.W.findIn K (.ref C) "__init__" = some (some (.ref f))
 fn:PySem.W.isFn K (.ref f)=true
 kp:PySem.W.keepIn K (.ref C)=true
theorem run_make {pins:List (Addr × Obj)} {σ:St} {H:Hp} {s:Shared} {Q:VK} {us:List Value} {vs:List V} (M:Mk X.K C f) (F:FnOk X.prog X.w X.K X.mg X.base CX k f fd ps sp) (hr:Room (k + 1) X.A) (hb:Binds X.K fd ps ds) (hd:Vals dvs ds)
  (hx:Passes CX X E) (I:Inv X pins σ H s) (r:Vals vs us)
  (h:∀ x dx,H x=none->H dx=none->dx ≠ x->sp (.ref x::(vs++dvs)) (upd (upd H dx (.own x)) x (.ins C dx [])) (fun v H2=>v = .non∧Q (.ref x) H2) E) :
  wpAny (model X.prog X.w) X.A (call (.ref C) us) (EP X pins σ Q) X.xe s:=by
 have hq:=h (s.heap.objs.size + 1) s.heap.objs.size (I.hok.fresh (Nat.le_succ _)) (I.hok.fresh (Nat.le_refl _)) (Nat.ne_of_lt (Nat.lt_succ_self _))
 have I2:=Inv.made (C:=C) I
 have r2:Vals (V.ref (s.heap.objs.size + 1)::(vs++dvs)) (Value.ref (s.heap.objs.size + 1)::(us++ds)):=.cons rfl (r.append hd)
 have hl:(Value.ref (s.heap.objs.size + 1)::us++ds).length=ps.length:=by
  have e:=r2.length
  rw [F.len _ _ _ _ hq] at e
  exact e.symm
 refine wpAny_call (make_map (f:=f) I.kIn M.makes M.init (beq_iff_eq.mp M.fn) (codeAny_mono (F.run _ X.stack _ _ ⟨Value.ref (s.heap.objs.size + 1)::us,[]⟩ (Value.ref (s.heap.objs.size + 1)::(us++ds)) _ _ E (hr.make C us [])
  (I2.env0.make C us []) (hb _ (Value.ref (s.heap.objs.size + 1)::us) I2.kIn hl) r2 hq) fun r s' hq'=>?_))
 cases r with
 | error e=>exact hx pins σ _ _ e s' I2 hq'
 | ok fl =>
  cases fl with
  | ret u =>
   obtain ⟨v,H',I3,rv,ev,q3⟩:=I2.after hq'
   subst ev
   exact ⟨rv,⟨V.ref (s.heap.objs.size + 1),H',I3,rfl,q3⟩⟩
  | next=>exact False.elim hq'
  | brk=>exact False.elim hq'
  | cont=>exact False.elim hq'
theorem pe_make (M:Mk X.K C f) (F:FnOk X.prog X.w X.K X.mg X.base CX k f fd ps sp) (hr:Room (k + 1) X.A) (hg:Gl X x) (hm:X.mg x=some (.ref C)) (hb:Binds X.K fd ps ds) (hd:Vals dvs ds) (hx:Passes CX X E)
  (ha:PA X (e::es) t) (hdb:(x == ("__debug__" : Str))=false:=by decide) (he:starEach (e::es) X.env=(false,eval e X.env)::starEach es X.env:=by rfl) (hpl:(backTo pos (starEach es X.env)).any (·.1)=false:=by rfl) :
  PE X (.Call (.Name x p) (e::es) [] pos) (tMake C sp dvs E t):=by
 intro pins s σ H Q I h
 refine wpAny_Call_Name_kw (ld_glob I hg hm ?_ hdb)
 refine PySem.W.callWith_K (h₀:=X.base) I.ok.mod.kin M.kp (thn (ha pos pins s σ H _ I h) fun us s1 ⟨vs,H1,I1,r,q⟩=>⟨I1.kIn,?_⟩) he hpl
 exact run_make M F hr hb hd hx I1 r q
theorem pe_make0 (M:Mk X.K C f) (F:FnOk X.prog X.w X.K X.mg X.base CX k f fd ps sp) (hr:Room (k + 1) X.A) (hg:Gl X x) (hm:X.mg x=some (.ref C)) (hb:Binds X.K fd ps ds) (hd:Vals dvs ds) (hx:Passes CX X E)
  (hdb:(x == ("__debug__" : Str))=false:=by decide):PE X (.Call (.Name x p) [] [] pos) (tMake C sp dvs E tNil):=by
 intro pins s σ H Q I h
 refine wpAny_Call_Name_kw (ld_glob I hg hm ?_ hdb)
 exact PySem.W.callWith_K0 I.kIn M.kp (run_make (us:=[]) M F hr hb hd hx I .nil h)
end
structure FnScope (N P:List Str) (sc:Scope):Prop where
 kind:sc.kind = .function
 co:sc.isCoroutine=false
 gen:sc.isGenerator=false
 nd:N.Nodup
 pre:N.take P.length=P
 par:∀ x ∈ P,sc.names.lookup x=some .local∨sc.names.lookup x=some .cell
 nofree:∀ y ∈ sc.names,y.2 ≠ .free
theorem bindL_out {kindOf:Str->Option NameKind} {x:Str}:∀ {binds:List (Str × Value)} {m:Str->Option Value},(∀ v,(x,v) ∉ binds)->bindL kindOf binds m x=m x
 | [],_,_=>rfl
 | (n,v)::r,m,h=>by
  unfold bindL
  rw [bindL_out fun w hw=>h w (List.mem_cons_of_mem _ hw)]
  split
  ·have:x ≠ n:=by rintro rfl;exact h v List.mem_cons_self
   simp [this]
  ·rfl
theorem bindC_out {kindOf:Str->Option NameKind} {x:Str}:∀ {binds:List (Str × Value)} {m:Str->Option Value},(∀ v,(x,v) ∉ binds)->bindC kindOf binds m x=m x
 | [],_,_=>rfl
 | (n,v)::r,m,h=>by
  unfold bindC
  rw [bindC_out fun w hw=>h w (List.mem_cons_of_mem _ hw)]
  split
  ·rfl
  ·have:x ≠ n:=by rintro rfl;exact h v List.mem_cons_self
   simp [this]
theorem bindL_get {kindOf:Str->Option NameKind} {x:Str} {v:Value}:∀ {P:List Str} {vs:List Value} {i:Nat} {m:Str->Option Value},P.Nodup->P[i]? = some x->vs[i]? = some v->kindOf x=some .local →
  bindL kindOf (P.zip vs) m x=some v
 | [],_,_,_,_,h,_,_=>by simp at h
 | _::_,[],_,_,_,_,h,_=>by simp at h
 | p::P,w::vs,0,m,nd,h1,h2,hk=>by
  simp at h1 h2;subst h1;subst h2
  show bindL kindOf ((p,w)::P.zip vs) m p=_
  unfold bindL
  rw [bindL_out fun v hv=>(List.nodup_cons.mp nd).1 (List.of_mem_zip hv).1,if_pos hk]
  simp
 | p::P,w::vs,i + 1,m,nd,h1,h2,hk=>by
  show bindL kindOf ((p,w)::P.zip vs) m x=_
  unfold bindL
  exact bindL_get (i:=i) (List.nodup_cons.mp nd).2 (by simpa using h1) (by simpa using h2) hk
theorem bindC_get {kindOf:Str->Option NameKind} {x:Str} {v:Value}:∀ {P:List Str} {vs:List Value} {i:Nat} {m:Str->Option Value},P.Nodup->P[i]? = some x->vs[i]? = some v->kindOf x ≠ some .local →
  bindC kindOf (P.zip vs) m x=some v
 | [],_,_,_,_,h,_,_=>by simp at h
 | _::_,[],_,_,_,_,h,_=>by simp at h
 | p::P,w::vs,0,m,nd,h1,h2,hk=>by
  simp at h1 h2;subst h1;subst h2
  show bindC kindOf ((p,w)::P.zip vs) m p=_
  unfold bindC
  rw [bindC_out fun v hv=>(List.nodup_cons.mp nd).1 (List.of_mem_zip hv).1,if_neg hk]
  simp
 | p::P,w::vs,i + 1,m,nd,h1,h2,hk=>by
  show bindC kindOf ((p,w)::P.zip vs) m x=_
  unfold bindC
  exact bindC_get (i:=i) (List.nodup_cons.mp nd).2 (by simpa using h1) (by simpa using h2) hk
noncomputable def start (N:List Str) (vs:List V):St:=vs.map some++List.replicate (N.length - vs.length) none
noncomputable def cxOf (CX:CXT) (P:Program) (w:World) (K:PySem.W.Frag) (mg:Str->Option Value) (base:Heap) (N:List Str) (qual:Str) (scope:Scope) (f:Addr) (cd:Value) (A:Around) (outer:List Env) (s:Shared) (H:Hp) (E:XK):Cx where
 prog:=P
 w:=w
 K:=K
 mg:=mg
 base:=base
 A:=A.deeper (envOfC qual scope s.heap.objs.size f cd)
 N:=N
 s_0:=s
 H_0:=H
 env:=envOfC qual scope s.heap.objs.size f cd
 outer:=outer
 stack:=envOfC qual scope s.heap.objs.size f cd::outer
 ex:=[]
 calm:=true
 fn:=fun _=>true
 pn:=[]
 xe:=fun e s'=>wpAny (model P w) (A.deeper (envOfC qual scope s.heap.objs.size f cd)) (leaving (envOfC qual scope s.heap.objs.size f cd) e) (fun _ s''=>CX outer H s E e s'') (fun e' s''=>CX outer H s E e' s'') s'
theorem cell_has {sc:Scope} {n:Nat} {x:Str} (h:sc.names.lookup x=some .cell):∃ c,(cellsFrom n sc.names []).lookup x=some c:=by
 have q:=PySem.W.cellsFrom_some sc.names n [] (.inl h)
 exact Option.isSome_iff_exists.mp q
theorem inv_start {CX:CXT} {P:Program} {w:World} {K:PySem.W.Frag} {mg:Str->Option Value} {base:Heap} {N ps:List Str} {qual:Str} {scope:Scope} {f:Addr} {cd:Value} {A:Around} {outer:List Env} {s s1:Shared} {H:Hp} {E:XK} {us:List Value} {vs:List V}
  (S:FnScope N ps scope) (hd:A.handled=none) (e0:Env0 P w K mg base A outer s H) (hl:vs.length=ps.length) (r:Vals vs us)
  (x:InCallC s s.heap.objs.size (bindL (envOfC qual scope s.heap.objs.size f cd).kindOf (ps.zip us) fun _=>none) (cellsFrom (s.heap.objs.size + 1) scope.names []) (bindC (envOfC qual scope s.heap.objs.size f cd).kindOf (ps.zip us) fun _=>none) s1) :
  Inv (cxOf CX P w K mg base N qual scope f cd A outer s H E) [] (start N vs) H s1:=by
 have hpl:ps.length≤N.length:=by have:=congrArg List.length S.pre;rw [List.length_take] at this;omega
 obtain ⟨h1,tk,rfl,hk⟩:=x.done
 have noA:∀ b:Addr,b ∉ (cxOf CX P w K mg base N qual scope f cd A outer s H E).ex:=fun b z=>absurd (show b ∈ ([]:List Addr) from z) (by simp)
 refine ⟨⟨e0.mod,S.kind,rfl,rfl,Nat.le_refl _,fun y z c h1 h2=>?_,fun y hy=>?_,fun y c _ h=>?_,fun _=>hd,Around.frames_deeper e0.frames,.inr ⟨rfl,rfl⟩,fun b z=>absurd z (noA b),e0.bs,e0.bsz,fun b _ _=>noA b,fun b z=>absurd z (noA b),e0.funs,e0.frf⟩,
  rfl,e0.bare,Un.kept hk,⟨_,x.toInCall.ns,fun i y v h1 h2 h3=>?_⟩,fun y c h=>⟨_,x.cell y c h⟩,e0.hok.fresh (Nat.le_refl _),fun y c h=>?_,fun p hp=>absurd (show p ∈ ([]:List (Addr × Obj)) from hp) (by simp),e0.hok.kept hk,?_⟩
 ·exact name_of_addr x.apart (PySem.mem_of_lookup h1) (PySem.mem_of_lookup h2)
 ·have hy:scope.names.lookup y=some .cell∨scope.names.lookup y=some .free:=hy
  rcases hy with hy | hy
  ·exact cell_has hy
  ·exact absurd rfl (S.nofree _ (PySem.mem_of_lookup hy))
 ·exact Nat.le_of_lt (x.above y c (PySem.mem_of_lookup h))
 ·have hi:i < vs.length:=by
   unfold start at h2
   by_cases hi:i < vs.length
   ·exact hi
   ·rw [List.getElem?_append_right (by simpa using hi)] at h2
    rw [List.getElem?_replicate] at h2
    split at h2 <;> cases h2
  have ha:vs[i]? = some v:=by
   unfold start at h2
   rw [List.getElem?_append_left (by simpa using hi),List.getElem?_map] at h2
   cases e:vs[i]? with
   | none=>rw [e] at h2;cases h2
   | some a=>rw [e] at h2;cases h2;rfl
  obtain ⟨u,hu,rv⟩:=r.get ha
  have hp:ps[i]? = some y:=by
   rw [← S.pre,List.getElem?_take_of_lt (by omega)];exact h1
  have ndP:ps.Nodup:=by rw [← S.pre];exact S.nd.sublist (List.take_sublist _ _)
  refine ⟨u,rv,?_⟩
  rcases S.par y (List.mem_of_getElem? hp) with k | k
  ·exact .inl ⟨k,bindL_get ndP hp hu k⟩
  ·obtain ⟨c,e⟩:=cell_has (n:=s.heap.objs.size + 1) k
   refine .inr ⟨.inl k,c,e,?_⟩
   have q:=x.cell y c e
   rw [bindC_get ndP hp hu (by show scope.names.lookup y ≠ _;rw [k];decide)] at q
   exact q
 ·exact e0.hok.fresh (Nat.le_of_lt (x.above y c (PySem.mem_of_lookup h)))
 ·unfold start
  show _=N.length
  rw [List.length_append,List.length_map,List.length_replicate]
  omega
theorem fn_of {CX:CXT} {P:Program} {w:World} {K:PySem.W.Frag} {mg:Str->Option Value} {base:Heap} {k:Nat} {f:Addr} {name qual:Str} {params:Arguments} {body:List Stmt} {scope:Scope} {dV kV doc pm cdv ct oc:Value} {an od:Option Addr}
  {osl:Array (Option Value)} {N ps:List Str} {sp:Sp} (lk:K.lookup f=some ⟨oc,od,.func (PySem.W.fnOf name qual params body scope dV kV doc pm an cdv ct),osl⟩) (hcd:PySem.W.codeIn K cdv qual=true) (S:FnScope N ps scope)
  (len:∀ vs H Q E,sp vs H Q E->vs.length=ps.length)
  (hbody:∀ (A:Around) (outer:List Env) (s:Shared) (H:Hp) (vs:List V) (Q:VK) (E:XK),Room k (A.deeper (envOfC qual scope s.heap.objs.size f cdv))->sp vs H Q E →
   ∃ t,PSs (cxOf CX P w K mg base N qual scope f cdv A outer s H E) body t∧t { nx:=fun _ H'=>Q .non H',rt:=Q } (start N vs) H) :
  FnOk P w K mg base CX (k + 1) f (PySem.W.fnOf name qual params body scope dV kV doc pm an cdv ct) ps sp:=by
 refine ⟨len,fun A outer s H args us vs Q E hr e0 hb r hsp=>?_⟩
 have hl:=len _ _ _ _ hsp
 have KX:K.In s.heap:=e0.mod.kin.keeps fun b o e=>(e0.bs b o e).1
 have lim:s.heap.NoLimit:=e0.mod.nolimit.keeps fun b o e=>(e0.bs b o e).1
 have hkind:∀ y ∈ ps.zip us,scope.names.lookup y.1=some .local∨(scope.names.lookup y.1=some .cell∧((cellsFrom (s.heap.objs.size + 1) scope.names []).lookup y.1).isSome=true):=fun ⟨n,v⟩ hy=>by
  rcases S.par n (List.of_mem_zip hy).1 with q | q
  ·exact .inl q
  ·exact .inr ⟨q,PySem.W.cellsFrom_some _ _ _ (.inl q)⟩
 refine codeAny_call_function hr.depth (KX _ _ lk) rfl S.co S.gen rfl (PySem.W.codeRec_of KX hcd) (hb _ _ _ _ ?_)
 refine wpAny_newFunctionEnv_cells S.kind hkind fun env he s1 x=>?_
 subst he
 refine ⟨lim.keeps x.toInCall.keep,codeAny_func ?_⟩
 obtain ⟨t,ht,hq⟩:=hbody A outer s H vs Q E (hr.deeper _) hsp
 have I:Inv (cxOf CX P w K mg base N qual scope f cdv A outer s H E) [] (start N vs) H s1:=inv_start S hr.hd e0 hl r x
 refine wpAny_mono (ht [] s1 (start N vs) H _ I hq) (fun fl s' hs=>?_) fun e s' hs=>hs
 have fin:∀ {σ':St} {H':Hp} {v:V} {u:Value},Inv (cxOf CX P w K mg base N qual scope f cdv A outer s H E) [] σ' H' s'->RelV v u->Q v H'->CE outer P w H s Q u s':=
  fun {σ' H' v u} J rv q=>⟨v,H',J.os,J.bare,J.base,J.hok,rv,q⟩
 cases fl with
 | ret u =>
  obtain ⟨v,σ',H',J,rv,q⟩:=hs
  exact fin J rv q
 | next =>
  obtain ⟨σ',H',J,q⟩:=hs
  exact fin (v:=V.non) (u:=Value.none) J rfl q
 | brk =>
  obtain ⟨_,_,_,q⟩:=hs
  exact False.elim q
 | cont =>
  obtain ⟨_,_,_,q⟩:=hs
  exact False.elim q
end L2
namespace L2
open PySem PySem.Spec PyProof.Rows
section
variable {X:Cx} {x:Str} {p pos:Pos} {e:Expr} {es:List Expr} {t:TA} {id T:String} {r:List V->Hp->VK->Prop}
noncomputable def tCB (r:List V->Hp->VK->Prop) (t:TA):TE:=fun σ H Q=>t σ H fun vs H1=>r vs H1 Q
theorem pe_callB (hc:CallR X (.builtin id) r) (hg:Gl X x) (hm:X.mg x=none) (hv:bootBuiltins x=some (.builtin id)) (ha:PA X (e::es) t) (hn:x ≠ "__name__":=by decide) (hdb:(x == ("__debug__" : Str))=false:=by decide)
  (he:starEach (e::es) X.env=(false,eval e X.env)::starEach es X.env:=by rfl) (hpl:(backTo pos (starEach es X.env)).any (·.1)=false:=by rfl):PE X (.Call (.Name x p) (e::es) [] pos) (tCB r t):=by
 intro pins s σ H Q I h
 refine wpAny_Call_Name_kw (ld_blt I hg hm hv ?_ hn hdb)
 exact PyProof.Rows.callWith_builtin1 (thn (ha pos pins s σ H _ I h) fun us s1 ⟨vs,H1,I1,r1,q1⟩=>hc pins s1 σ H1 vs us Q I1 r1 q1) he hpl
theorem pe_callTy (hc:CallR X (.type T) r) (hg:Gl X x) (hm:X.mg x=none) (hv:bootBuiltins x=some (.type T)) (ha:PA X (e::es) t) (hn:x ≠ "__name__":=by decide) (hdb:(x == ("__debug__" : Str))=false:=by decide)
  (he:starEach (e::es) X.env=(false,eval e X.env)::starEach es X.env:=by rfl) (hpl:(backTo pos (starEach es X.env)).any (·.1)=false:=by rfl):PE X (.Call (.Name x p) (e::es) [] pos) (tCB r t):=by
 intro pins s σ H Q I h
 refine wpAny_Call_Name_kw (ld_blt I hg hm hv ?_ hn hdb)
 exact PyProof.Rows.callWith_type1 (thn (ha pos pins s σ H _ I h) fun us s1 ⟨vs,H1,I1,r1,q1⟩=>hc pins s1 σ H1 vs us Q I1 r1 q1) he hpl
end
end L2
namespace HT
open PySem PyProof.Rows
section
variable {prog:Program} {w:World} {A:Around} {E:Value->Shared->Prop} {s:Shared}
noncomputable def sIx (n d:Nat):Option Int->Nat
 | none=>d
 | some v=>if v < 0 then (v + (n:Int)).toNat else min v.toNat n
theorem sIx_none (n d:Nat):sIx n d none=d:=rfl
theorem sIx_nat (n d k:Nat):sIx n d (some (k:Int))=min k n:=by
 show (if (k:Int) < 0 then ((k:Int) + (n:Int)).toNat else min (k:Int).toNat n)=min k n
 rw [if_neg (by omega),Int.toNat_natCast]
theorem sIx_le (n d:Nat) (hd:d≤n) (o:Option Int):sIx n d o≤n:=by
 cases o with
 | none=>exact hd
 | some v =>
  show (if v < 0 then (v + (n:Int)).toNat else min v.toNat n)≤n
  by_cases hv:v < 0
  ·rw [if_pos hv];omega
  ·rw [if_neg hv];exact Nat.min_le_right _ _
theorem clip_eq (v:Int) (n d:Nat):(if v < 0 then max (v + (n:Int)) 0 else min v (n:Int))=((sIx n d (some v):Nat):Int):=by
 show (if v < 0 then max (v + (n:Int)) 0 else min v (n:Int))=(((if v < 0 then (v + (n:Int)).toNat else min v.toNat n):Nat):Int)
 by_cases hv:v < 0
 ·simp only [if_pos hv];omega
 ·simp only [if_neg hv];omega
theorem adjust_gen (lo hi:Option Int) (n:Nat):Builtin.Slice.sliceAdjust lo hi 1 (n:Int)=(((sIx n 0 lo:Nat):Int),((sIx n n hi:Nat):Int)):=by
 have h1:¬ ((1:Int) < 0):=by omega
 unfold Builtin.Slice.sliceAdjust
 simp only [h1,if_false]
 refine Prod.ext ?_ ?_
 ·cases lo with
  | none=>rfl
  | some v=>exact clip_eq v n 0
 ·cases hi with
  | none=>rfl
  | some v=>exact clip_eq v n n
theorem places_gen (i j:Nat):Builtin.Slice.slicePlaces (i:Int) (j:Int) 1=j - i:=by
 unfold Builtin.Slice.slicePlaces
 have h1:(1:Int) > 0:=by omega
 simp only [h1,if_true,Int.ediv_one]
 split <;> omega
theorem slicePart_ {v:Value} {o:Option Int} {Q:Option Int->Shared->Prop} (p:IsPart v o) (h:Q o s):wpAny (model prog w) A (Builtin.Slice.slicePartIndex v) Q E s:=by
 cases p with
 | none=>exact slicePart_none h
 | int i t=>exact slicePart_int h
theorem sliceApplied_gen {sl:Addr} {vl vu:Value} {lo hi:Option Int} {n:Nat} {Q:Int × Int × Nat->Shared->Prop} (hs:s.heap.IsSliceOf sl vl vu .none) (pl:IsPart vl lo) (pu:IsPart vu hi)
  (h:Q (((sIx n 0 lo:Nat):Int),1,sIx n n hi - sIx n 0 lo) s):wpAny (model prog w) A (Builtin.Slice.sliceApplied (.ref sl) (pure (n:Int))) Q E s:=by
 obtain ⟨os,hos,hcs,hds⟩:=id hs
 unfold Builtin.Slice.sliceApplied Builtin.Slice.sliceFields
 refine wpAny_bind (wpAny_bind (wpAny_field hos hds (x:=vl) rfl (wpAny_bind (wpAny_field hos hds (x:=vu) rfl (wpAny_bind (wpAny_field hos hds (x:=.none) rfl (wpAny_pure ?_)))))))
 refine wpAny_bind (slicePart_none ?_)
 show wpAny _ _ (if ((1:Int) == 0)=true then _ else _) _ _ s
 rw [if_neg (by decide)]
 refine wpAny_bind (slicePart_ pl (wpAny_bind (slicePart_ pu (wpAny_bind (wpAny_pure ?_)))))
 show wpAny _ _ (match Builtin.Slice.sliceAdjust lo hi 1 (n:Int) with | (lo,hi)=>pure (lo,(1:Int),Builtin.Slice.slicePlaces lo hi 1)) _ _ s
 rw [adjust_gen lo hi n]
 show wpAny _ _ (pure (((sIx n 0 lo:Nat):Int),(1:Int),Builtin.Slice.slicePlaces ((sIx n 0 lo:Nat):Int) ((sIx n n hi:Nat):Int) 1)) _ _ s
 rw [places_gen]
 exact wpAny_pure h
theorem pick_gen (xs:Array Value) (i k:Nat):((List.range k).filterMap fun (m:Nat)=>xs[((i:Int) + (m:Int) * 1).toNat]?).toArray=((xs.toList.drop i).take k).toArray:=by
 have e:(fun (m:Nat)=>xs[((i:Int) + (m:Int) * 1).toNat]?)=fun m=>xs[i + m]?:=by
  funext m
  have:((i:Int) + (m:Int) * 1).toNat=i + m:=by omega
  rw [this]
 rw [e]
 have:=pick_run xs i k
 rw [List.filterMap_map] at this
 have e2:((fun x=>xs[x]?) ∘ fun x=>i + x)=fun m=>xs[i + m]?:=rfl
 rw [e2] at this
 rw [this]
theorem getItem_tuple_cut {t sl:Addr} {items:Array Value} {vl vu:Value} {lo hi:Option Int} {Q:Value->Shared->Prop} (ht:IsTup s.heap t items) (hs:s.heap.IsSliceOf sl vl vu .none) (pl:IsPart vl lo) (pu:IsPart vu hi)
  (hw:¬ (sIx items.size 0 lo=0∧sIx items.size items.size hi=items.size))
  (h:Q (.ref s.heap.objs.size) { s with heap:=s.heap.push { cls:=.type "tuple",data:=.seq ((items.toList.drop (sIx items.size 0 lo)).take (sIx items.size items.size hi - sIx items.size 0 lo)).toArray } })
  (hsz:items.size≤sizeLine):wpAny (model prog w) A (getItem (.ref t) (.ref sl)) Q E s:=by
 have htake:sizeOk (.seq ((items.toList.drop (sIx items.size 0 lo)).take (sIx items.size items.size hi - sIx items.size 0 lo)).toArray):=by
  show ((items.toList.drop (sIx items.size 0 lo)).take (sIx items.size items.size hi - sIx items.size 0 lo)).toArray.size≤sizeLine
  rw [List.size_toArray,List.length_take,List.length_drop,Array.length_toList]
  omega
 have hj:sIx items.size items.size hi≤items.size:=sIx_le _ _ (Nat.le_refl _) hi
 obtain ⟨os,hos,hcs,hds⟩:=id hs
 have hTs:s.TypeIs (.ref sl) "slice":=⟨os,hos,hcs⟩
 unfold getItem
 try with_reducible refine wpAny_holding ?_
 first | refine wpAny_bind (wpAny_pure ?_) | skip
 refine wpAny_bind (wpAny_sequenceKey ht.typeIs (by decide) ?_)
 refine wpAny_bind (wpAny_callSpecial?_slot (name:=Str.ofString "__getitem__") ht.typeIs PyProof.Rows.slot_tuple_getitem
  (wpAny_call_entry PyProof.Rows.slot_tuple_getitem ht.typeIs entry_tuple_getitem ?_ (args_tuple_getitem _ _)))
 show wpAny _ _ (Builtin.Tuple.tupleItemsOf (.ref t) >>= _) _ _ s
 refine wpAny_bind (tupleItemsOf_ ht ?_)
 refine wpAny_bind (wpAny_typeOf hTs ?_)
 rw [if_pos (by decide)]
 refine wpAny_bind (sliceApplied_gen hs pl pu ?_)
 have hno:¬ ((((sIx items.size 0 lo:Nat):Int) == 0 && (1:Int) == 1 && (sIx items.size items.size hi - sIx items.size 0 lo) == items.size)=true):=by
  intro q
  rw [Bool.and_eq_true,Bool.and_eq_true] at q
  have q1:((sIx items.size 0 lo:Nat):Int)=0:=eq_of_beq q.1.1
  have q2:sIx items.size items.size hi - sIx items.size 0 lo=items.size:=eq_of_beq q.2
  exact hw ⟨by omega,by omega⟩
 show wpAny _ _ (if (((sIx items.size 0 lo:Nat):Int) == 0 && (1:Int) == 1 && (sIx items.size items.size hi - sIx items.size 0 lo) == items.size)=true then _ else _) _ _ s
 rw [if_neg hno,pick_gen]
 first
  | exact wpAny_bind (m:=Builtin.Tuple.tupleExact _) (wpAny_newObj_type (wpAny_pure ⟨_,rfl,wpAny_pure h⟩) htake)
  | exact wpAny_bind (m:=Builtin.Tuple.tupleExact _) (wpAny_newObj_type (wpAny_bind (wpAny_pure (wpAny_pure ⟨_,rfl,wpAny_pure h⟩))) htake)
  | exact wpAny_bind (wpAny_bind (m:=Builtin.Tuple.tupleExact _) (wpAny_newObj_type (wpAny_pure (wpAny_pure ⟨_,rfl,wpAny_pure h⟩)) htake))
  | exact wpAny_bind (wpAny_bind (m:=Builtin.Tuple.tupleExact _) (wpAny_newObj_type (wpAny_pure ⟨_,rfl,wpAny_pure h⟩) htake))
end
end HT
namespace L2
open PySem PySem.Spec PyProof.Rows
noncomputable abbrev TO:=St->Hp->(Option Int->Hp->Prop)->Prop
noncomputable def PO (X:Cx) (e:Option Expr) (t:TO):Prop:=
 ∀ (pins:List (Addr × Obj)) (s:Shared) (σ:St) (H:Hp) (Q:Option Int->Hp->Prop),Inv X pins σ H s->t σ H Q →
  wpAny (model X.prog X.w) X.A (evalPart e X.env) (fun u s'=>∃ o H',Inv X pins σ H' s'∧IsPart u o∧Q o H') X.xe s
noncomputable def tNoPart:TO:=fun _ H Q=>Q none H
noncomputable def tPart (t:TE):TO:=fun σ H Q=>t σ H fun x H1=>∃ i,x = .int i∧Q (some i) H1
section
variable {X:Cx} {e:Expr} {te:TE} {lo hi:Option Expr} {tl th:TO} {pos p2:Pos}
theorem po_none:PO X none tNoPart:=by
 intro pins s σ H Q I h
 rw [evalPart_none]
 exact wpAny_pure ⟨none,H,I,.none,h⟩
theorem po_some (h:PE X e te):PO X (some e) (tPart te):=by
 intro pins s σ H Q I hw
 rw [evalPart_some]
 refine thn (h pins s σ H _ I hw) fun u s1 ⟨x,H1,I1,r1,q1⟩=>?_
 obtain ⟨i,rfl,q⟩:=q1
 obtain ⟨t,rfl⟩:=r1
 exact ⟨some i,H1,I1,.int i t,q⟩
noncomputable def SlR (X:Cx) (r:V->Option Int->Option Int->Hp->VK->Prop):Prop:=
 ∀ (pins:List (Addr × Obj)) (s:Shared) (σ:St) (H:Hp) (x:V) (v vl vu:Value) (lo hi:Option Int) (sl:Addr) (Q:VK),Inv X pins σ H s->RelV x v->s.heap.IsSliceOf sl vl vu .none->IsPart vl lo->IsPart vu hi->r x lo hi H Q →
  ∃ T id,typeLookup (.type T) "__getitem__" = pure (some (.builtin id))∧s.TypeIs v T∧wpAny (model X.prog X.w) X.A (getItem v (.ref sl)) (EP X pins σ Q) X.xe s
noncomputable def tSl (r:V->Option Int->Option Int->Hp->VK->Prop) (te:TE) (tl th:TO):TE:=fun σ H Q=>te σ H fun x H1=>tl σ H1 fun l H2=>th σ H2 fun u H3=>r x l u H3 Q
theorem pe_slice {r:V->Option Int->Option Int->Hp->VK->Prop} (hr:SlR X r) (he:PE X e te) (hl:PO X lo tl) (hu:PO X hi th):PE X (.Subscript e (.Slice lo hi none p2) pos) (tSl r te tl th):=by
 intro pins s σ H Q I h
 refine Subscript_ (thn (he pins s σ H _ I h) fun v s1 ⟨x,H1,I1,r1,q1⟩=>?_)
 refine wpAny_Slice (thn (hl pins s1 σ H1 _ I1 q1) fun vl s2 ⟨l,H2,I2,pl,q2⟩=>thn (hu pins s2 σ H2 _ I2 q2) fun vu s3 ⟨u,H3,I3,pu,q3⟩=>?_)
 rw [evalPart_none]
 refine wpAny_pure ?_
 have I4:Inv X pins σ H3 { s3 with heap:=s3.heap.push { cls:=.type "slice",data:=.fields #[vl,vu,.none] } }:=I3.kept (t':=s3.toks) fun b ob q=>Heap.get?_push_of_some _ q
 obtain ⟨T,id,hT,ht,hg⟩:=hr pins { s3 with heap:=s3.heap.push { cls:=.type "slice",data:=.fields #[vl,vu,.none] } } σ H3 x v vl vu l u s3.heap.objs.size Q I4 r1 (Heap.IsSliceOf.new ..) pl pu q3
 show wpAny (model X.prog X.w) X.A (subscriptTail e (.Slice lo hi none p2) v (.ref s3.heap.objs.size)) (EP X pins σ Q) X.xe { s3 with heap:=s3.heap.push { cls:=.type "slice",data:=.fields #[vl,vu,.none] } }
 exact tail_any (ops:=[.ref s3.heap.objs.size,v]) ht hT hg (by with_unfolding_all rfl)
noncomputable def cutV (xs:List V) (lo hi:Option Int):List V:=(xs.drop (HT.sIx xs.length 0 lo)).take (HT.sIx xs.length xs.length hi - HT.sIx xs.length 0 lo)
theorem cutV_length (xs:List V) (lo hi:Option Int):(cutV xs lo hi).length≤xs.length:=by
 unfold cutV
 rw [List.length_take,List.length_drop]
 omega
noncomputable def rSlT (K:PySem.W.Frag):V->Option Int->Option Int->Hp->VK->Prop:=fun x lo hi H Q=>∃ a xs,x = .ref a∧SqT K H a xs ∧
 ¬ (HT.sIx xs.length 0 lo=0∧HT.sIx xs.length xs.length hi=xs.length)∧∀ p,H p=none->Q (.ref p) (upd H p (.tup (cutV xs lo hi)))
theorem sl_tup:SlR X (rSlT X.K):=by
 intro pins s σ H x v vl vu lo hi sl Q I rx hs pl pu h
 obtain ⟨a,xs,rfl,hx,hw,q⟩:=h
 cases rx
 obtain ⟨its,r,ht,hz⟩:=I.tuple hx
 have hlen:its.toArray.size=xs.length:=by rw [List.size_toArray];exact r.length.symm
 refine ⟨"tuple",_,PyProof.Rows.slot_tuple_getitem.lookup,ht.typeIs,?_⟩
 refine HT.getItem_tuple_cut ht hs pl pu (by rw [hlen];exact hw) ?_ (by rw [hlen];exact hz)
 rw [hlen]
 refine ⟨.ref s.heap.objs.size,_,I.laid (t':=s.toks) (o:=.tup (cutV xs lo hi)) (fun b ob q=>Heap.get?_push_of_some _ q) (Nat.le_refl _) ?_,rfl,q _ (I.hok.fresh (Nat.le_refl _))⟩
 exact ⟨Nat.le_trans (cutV_length xs lo hi) hz,_,(r.drop (HT.sIx xs.length 0 lo)).take (HT.sIx xs.length xs.length hi - HT.sIx xs.length 0 lo),IsTup.new _ _⟩
end
end L2
namespace L2
open PySem PySem.Spec PyProof.Rows
noncomputable def ixN (n:Nat) (i:Int):Option Nat:=if 0≤i then (if i < n then some i.toNat else none) else if -(n:Int)≤i then some (i + n).toNat else none
noncomputable def atI {α:Type} (xs:List α) (i:Int):Option α:=(ixN xs.length i).bind fun j=>xs[j]?
theorem ixN_seq {n:Nat} {i:Int} {j:Nat} (h:ixN n i=some j):seqIndex? i n=some j∧j < n ∧ -(n:Int)≤i∧i < n:=by
 unfold ixN at h
 by_cases h0:0≤i
 ·rw [if_pos h0] at h
  by_cases h1:i < n
  ·rw [if_pos h1] at h
   have e:i.toNat=j:=Option.some.inj h
   exact ⟨by rw [seqIndex_of h0 h1,e],by omega,by omega,h1⟩
  ·rw [if_neg h1] at h;cases h
 ·rw [if_neg h0] at h
  by_cases h1 : -(n:Int)≤i
  ·rw [if_pos h1] at h
   have e:(i + n).toNat=j:=Option.some.inj h
   exact ⟨by rw [seqIndex_neg (by omega) h1,e],by omega,h1,by omega⟩
  ·rw [if_neg h1] at h;cases h
theorem atI_get {α:Type} {xs:List α} {i:Int} {v:α} (h:atI xs i=some v):∃ j,seqIndex? i xs.length=some j∧xs[j]? = some v∧j < xs.length ∧ -(xs.length:Int)≤i∧i < xs.length:=by
 unfold atI at h
 cases e:ixN xs.length i with
 | none=>rw [e] at h;cases h
 | some j =>
  rw [e] at h
  obtain ⟨h1,h2,h3,h4⟩:=ixN_seq e
  exact ⟨j,h1,h,h2,h3,h4⟩
theorem atI_nat {α:Type} {xs:List α} {j:Nat} {v:α} (h:xs[j]? = some v):atI xs (j:Int)=some v:=by
 have hj:j < xs.length:=(List.getElem?_eq_some_iff.mp h).1
 have e:ixN xs.length (j:Int)=some j:=by
  unfold ixN
  rw [if_pos (by omega),if_pos (by omega)];simp
 unfold atI;rw [e];exact h
theorem atI_last {α:Type} (xs:List α) (v:α):atI (xs++[v]) (-1)=some v:=by
 have hl:(xs++[v]).length=xs.length + 1:=by simp
 have e:ixN (xs++[v]).length (-1)=some xs.length:=by
  unfold ixN
  rw [hl,if_neg (by decide),if_pos (by omega)]
  congr 1
  omega
 unfold atI
 rw [e]
 show (xs++[v])[xs.length]? = some v
 simp
noncomputable def PlainIx (b:Expr):Prop:=∀ o i,subscripted b false o i=operate [o,i] (getItem o i)
noncomputable def IxR (X:Cx) (r:R2):Prop:=
 ∀ (value slice:Expr) (pins:List (Addr × Obj)) (s:Shared) (σ:St) (H:Hp) (x y:V) (v u:Value) (Q:VK),Inv X pins σ H s->RelV x v->RelV y u->r x y H Q →
  subscripted slice false v u=operate [v,u] (getItem v u)->wpAny (model X.prog X.w) X.A (subscriptTail value slice v u) (EP X pins σ Q) X.xe s
noncomputable def MtR (X:Cx) (id:String) (r:V->List V->Hp->VK->Prop):Prop:=
 ∀ (pins:List (Addr × Obj)) (s:Shared) (σ:St) (H:Hp) (x:V) (xs:List V) (v:Value) (us:List Value) (Q:VK),Inv X pins σ H s->RelV x v->Vals xs us->r x xs H Q →
  wpAny (model X.prog X.w) X.A (call (.builtin id) (v::us)) (EP X pins σ Q) X.xe s
section
variable {X:Cx} {a b:Expr} {ta tb:TE} {pos:Pos}
theorem pe_ix {r:R2} (hr:IxR X r) (ha:PE X a ta) (hb:PE X b tb) (hs:PlainIx b):PE X (.Subscript a b pos) (tOp r ta tb):=by
 intro pins s σ H Q I h
 exact Subscript_ (binT ha hb I h fun v u s2 x y H2 I2 rx ry q=>hr a b pins s2 σ H2 x y v u Q I2 rx ry q (hs _ _))
noncomputable def rIxL (K:PySem.W.Frag):R2:=fun x y H Q=>∃ p xs i v,x = .ref p∧y = .int i∧SqL K H p xs∧atI xs i=some v∧Q v H
noncomputable def rIxT (K:PySem.W.Frag):R2:=fun x y H Q=>∃ p xs i v,x = .ref p∧y = .int i∧SqT K H p xs∧atI xs i=some v∧Q v H
theorem ix_list:IxR X (rIxL X.K):=by
 intro value slice pins s σ H x y v u Q I rx ry h hs
 obtain ⟨p,xs,i,z,rfl,rfl,hq,he,q⟩:=h
 cases rx
 obtain ⟨t,rfl⟩:=ry
 obtain ⟨its,r,pl,hz⟩:=I.list hq
 obtain ⟨j,h1,h2,h3,h4,h5⟩:=atI_get he
 obtain ⟨w,ew,rw'⟩:=r.get h2
 have hl:=r.length
 have hn:=line63
 have fin:EP X pins σ Q w s:=⟨z,H,I,rw',q⟩
 by_cases h0:0≤i
 ·have hj:i.toNat=j:=by
   rw [seqIndex_of h0 h5] at h1
   exact Option.some.inj h1
  exact item_listR pl.isList h0 (by omega) (by rw [hj];simpa using ew) fin hs
 ·have hj:(i + (its.toArray.size:Int)).toNat=j:=by
   rw [seqIndex_neg (by omega) h4] at h1
   rw [List.size_toArray,← hl]
   exact Option.some.inj h1
  exact subscriptTail_builtinR (x:=w) pl.isList.typeIs slot_list_getitem.lookup
   (wpAny_getItem_list_neg (Q:=fun r s'=>r=w∧EP X pins σ Q r s') pl.isList (by omega) (by rw [List.size_toArray] <;> omega) (by omega) (by rw [hj];simpa using ew) ⟨rfl,fin⟩) hs
theorem ix_tup:IxR X (rIxT X.K):=by
 intro value slice pins s σ H x y v u Q I rx ry h hs
 obtain ⟨p,xs,i,z,rfl,rfl,hq,he,q⟩:=h
 cases rx
 obtain ⟨t,rfl⟩:=ry
 obtain ⟨its,r,pl,hz⟩:=I.tuple hq
 obtain ⟨j,h1,h2,h3,h4,h5⟩:=atI_get he
 obtain ⟨w,ew,rw'⟩:=r.get h2
 have hl:=r.length
 have hn:=line63
 have fin:EP X pins σ Q w s:=⟨z,H,I,rw',q⟩
 exact subscriptTail_builtinR (x:=w) pl.typeIs slot_tuple_getitem.lookup
  (getItem_tuple (j:=j) (Q:=fun r s'=>r=w∧EP X pins σ Q r s') pl (by omega) (by omega) (by rw [List.size_toArray,← hl];exact h1) (by simpa using ew) ⟨rfl,fin⟩) hs
theorem mapSeq_set (its:List Value) (n j:Nat) (u:Value):Obj.mapSeq (·.setIfInBounds j u) { cls:=.type "list",data:=.seq its.toArray n }={ cls:=.type "list",data:=.seq (its.set j u).toArray n }:=by
 simp [Obj.mapSeq]
theorem Inv.lst {pins:List (Addr × Obj)} {σ:St} {H:Hp} {s:Shared} {p:Addr} {xs:List V} (I:Inv X pins σ H s) (h:H p=some (.lst xs)) :
  ∃ (its:List Value) (n:Nat),Vals xs its∧s.heap.get? p=some { cls:=.type "list",data:=.seq its.toArray n }∧xs.length≤sizeLine:=by
 obtain ⟨z,its,n,r,e⟩:=I.hok p _ h
 exact ⟨its,n,r,e,z⟩
theorem Inv.lstUpd {pins:List (Addr × Obj)} {σ:St} {H:Hp} {s:Shared} {p:Addr} {xs ys:List V} {its its':List Value} {n n':Nat} {f:Obj->Obj} (I:Inv X pins σ H s) (h:H p=some (.lst xs))
  (ho:s.heap.get? p=some { cls:=.type "list",data:=.seq its.toArray n }) (hf:f { cls:=.type "list",data:=.seq its.toArray n }={ cls:=.type "list",data:=.seq its'.toArray n' }) (r:Vals ys its') (hz:ys.length≤sizeLine) (t:Nat) :
  Inv X pins σ (upd H p (.lst ys)) { s with heap:=s.heap.update p f,toks:=t }:=by
 have e:(s.heap.update p f).get? p=some { cls:=.type "list",data:=.seq its'.toArray n' }:=by
  rw [Heap.get?_update_self f ho (by rw [hf] <;> rfl),hf]
 refine I.write (x:=p) (e:=p) (by rw [h];trivial) (.inl rfl) (fun b u hb q=>(Heap.get?_update_other _ _ (Ne.symm hb)).trans q) ⟨_,e⟩ ?_
 exact ⟨hz,its',n',r,e⟩
noncomputable def rSetL:V->V->V->Hp->(Hp->Prop)->Prop:=fun o i v H Q=>∃ p xs k j,o = .ref p∧i = .int k∧H p=some (.lst xs)∧ixN xs.length k=some j∧Q (upd H p (.lst (xs.set j v)))
theorem set_list:PSet X rSetL:=by
 intro pins s σ H o i v ov iv u Q I ro ri rv h
 obtain ⟨p,xs,k,j,rfl,rfl,hp,hj,q⟩:=h
 cases ro
 obtain ⟨t,rfl⟩:=ri
 obtain ⟨its,n,r,ho,hz⟩:=I.lst hp
 obtain ⟨h1,h2,h3,h4⟩:=ixN_seq hj
 have hl:=r.length
 have hn:=line63
 have I':Inv X pins σ (upd H p (.lst (xs.set j v))) { s with heap:=s.heap.update p (Obj.mapSeq (·.setIfInBounds j u)) }:=
  I.lstUpd hp ho (mapSeq_set its n j u) (r.set rv j) (by rw [List.length_set];exact hz) s.toks
 by_cases h0:0≤k
 ·have hk:k.toNat=j:=by
   rw [seqIndex_of h0 h4] at h1
   exact Option.some.inj h1
  exact PySem.W.ki_setAt ho h0 (by omega) (by rw [List.size_toArray,← hl];exact h4) (by rw [hk];exact ⟨_,I',q⟩)
 ·have hk:(k + (its.toArray.size:Int)).toNat=j:=by
   rw [seqIndex_neg (by omega) h3] at h1
   rw [List.size_toArray,← hl]
   exact Option.some.inj h1
  exact PySem.W.ki_setBack ho (by omega) (by rw [List.size_toArray,← hl];exact h3) (by omega) (by rw [hk];exact ⟨_,I',q⟩)
theorem slice_bounds (lo hi:Option Int) (n:Nat):(sliceBounds lo hi none n).1=((HT.sIx n 0 lo:Nat):Int)∧(sliceBounds lo hi none n).2.1=((HT.sIx n n hi:Nat):Int)∧(sliceBounds lo hi none n).2.2=1:=by
 refine ⟨?_,?_,rfl⟩
 ·cases lo with
  | none=>simp [sliceBounds,HT.sIx]
  | some i =>
   simp only [sliceBounds,HT.sIx,Option.getD_none,show (1:Int) > 0 by decide,if_true]
   by_cases h:i < 0
   ·simp only [h,if_true] <;> omega
   ·simp only [h,if_false] <;> omega
 ·cases hi with
  | none=>simp [sliceBounds,HT.sIx]
  | some i =>
   simp only [sliceBounds,HT.sIx,Option.getD_none,show (1:Int) > 0 by decide,if_true]
   by_cases h:i < 0
   ·simp only [h,if_true] <;> omega
   ·simp only [h,if_false] <;> omega
theorem slicePick_cut (its:List Value) (lo hi:Option Int):slicePick its.toArray lo hi none=((its.drop (HT.sIx its.length 0 lo)).take (HT.sIx its.length its.length hi - HT.sIx its.length 0 lo)).toArray:=by
 obtain ⟨h1,h2,h3⟩:=slice_bounds lo hi its.toArray.size
 unfold slicePick
 rw [h1,h2,h3]
 simp only [sliceRange_one,pick_run,List.size_toArray] <;> rfl
noncomputable def rSlL (K:PySem.W.Frag):V->Option Int->Option Int->Hp->VK->Prop:=fun x lo hi H Q=>∃ a xs,x = .ref a∧SqL K H a xs∧∀ p,H p=none->Q (.ref p) (upd H p (.lst (cutV xs lo hi)))
theorem sl_list:SlR X (rSlL X.K):=by
 intro pins s σ H x v vl vu lo hi sl Q I rx hs pl pu h
 obtain ⟨a,xs,rfl,hx,q⟩:=h
 cases rx
 obtain ⟨its,r,ht,hz⟩:=I.list hx
 have hlen:=r.length
 refine ⟨"list",_,slot_list_getitem.lookup,ht.isList.typeIs,?_⟩
 refine wpAny_getItem_list_slice ht.isList hs pl pu .none (by simp) ?_ (by rw [List.size_toArray] <;> omega)
 rw [slicePick_cut,← hlen]
 refine ⟨.ref s.heap.objs.size,_,I.laid (t':=s.toks) (o:=.lst (cutV xs lo hi)) (fun b ob q=>Heap.get?_push_of_some _ q) (Nat.le_refl _) ?_,rfl,q _ (I.hok.fresh (Nat.le_refl _))⟩
 exact ⟨Nat.le_trans (cutV_length xs lo hi) hz,_,0,(r.drop (HT.sIx xs.length 0 lo)).take (HT.sIx xs.length xs.length hi - HT.sIx xs.length 0 lo),Heap.get?_push_size _ rfl⟩
noncomputable def flatV:V->Bool
 | .non=>true
 | .bl _=>true
 | .int _=>true
 | .str _=>true
 | _=>false
noncomputable def eqV:V->V->Bool
 | .non,.non=>true
 | .bl a,.bl b=>a == b
 | .bl a,.int b=>(if a then 1 else 0) == b
 | .int a,.bl b=>a == (if b then 1 else 0)
 | .int a,.int b=>a == b
 | .str a,.str b=>a == b
 | _,_=>false
theorem eqAt_V {A:Around} {s:Shared} {y x:V} {u v:Value} (ry:RelV y u) (rx:RelV x v) (fy:flatV y=true) (fx:flatV x=true):SeqAt.EqAt A s u v (eqV y x):=by
 cases y with
 | non =>
  cases ry
  cases x with
  | non=>cases rx;exact SeqAt.EqAt.same _
  | bl b=>cases rx;exact SeqAt.EqAt.none_bool b
  | int b=>obtain ⟨t,rfl⟩:=rx;exact SeqAt.EqAt.none_int b t
  | str b=>obtain ⟨t,rfl⟩:=rx;exact SeqAt.EqAt.none_str b t
  | _=>exact absurd (show false=true from fx) Bool.false_ne_true
 | bl a =>
  cases ry
  cases x with
  | non=>cases rx;exact SeqAt.EqAt.bool_none a
  | bl b=>cases rx;exact SeqAt.EqAt.bool_bool a b
  | int b=>obtain ⟨t,rfl⟩:=rx;exact SeqAt.EqAt.bool_int a b t
  | str b=>obtain ⟨t,rfl⟩:=rx;exact SeqAt.EqAt.bool_str a b t
  | _=>exact absurd (show false=true from fx) Bool.false_ne_true
 | int a =>
  obtain ⟨t',rfl⟩:=ry
  cases x with
  | non=>cases rx;exact SeqAt.EqAt.int_none a t'
  | bl b=>cases rx;exact SeqAt.EqAt.int_bool a t' b
  | int b=>obtain ⟨t,rfl⟩:=rx;exact SeqAt.EqAt.int_int a t' b t
  | str b=>obtain ⟨t,rfl⟩:=rx;exact SeqAt.EqAt.int_str a t' b t
  | _=>exact absurd (show false=true from fx) Bool.false_ne_true
 | str a =>
  obtain ⟨t',rfl⟩:=ry
  cases x with
  | non=>cases rx;exact SeqAt.EqAt.str_none a t'
  | bl b=>cases rx;exact SeqAt.EqAt.str_bool a t' b
  | int b=>obtain ⟨t,rfl⟩:=rx;exact SeqAt.EqAt.str_int a t' b t
  | str b=>obtain ⟨t,rfl⟩:=rx;exact SeqAt.EqAt.str_str a t' b t
  | _=>exact absurd (show false=true from fx) Bool.false_ne_true
 | _=>exact absurd (show false=true from fy) Bool.false_ne_true
noncomputable def eqU (x:V) (u:Value):Bool:=match u with
 | .none=>eqV .non x
 | .bool b=>eqV (.bl b) x
 | .int i _=>eqV (.int i) x
 | .str z _=>eqV (.str z) x
 | _=>false
theorem eqU_of {x y:V} {u:Value} (r:RelV y u) (f:flatV y=true):eqU x u=eqV y x:=by
 cases y with
 | non=>cases r;rfl
 | bl b=>cases r;rfl
 | int i=>obtain ⟨t,rfl⟩:=r;rfl
 | str z=>obtain ⟨t,rfl⟩:=r;rfl
 | _=>exact absurd (show false=true from f) Bool.false_ne_true
theorem any_eqU {x:V}:∀ {xs:List V} {us:List Value},Vals xs us->xs.all flatV=true->us.any (eqU x)=xs.any fun y=>eqV y x
 | _,_,.nil,_=>rfl
 | y::xs,u::us,.cons r t,f=>by
  rw [List.all_cons,Bool.and_eq_true] at f
  rw [List.any_cons,List.any_cons,eqU_of r f.1,any_eqU t f.2]
theorem mem_eqAt {A:Around} {s:Shared} {x:V} {v:Value} (rx:RelV x v) (fx:flatV x=true):∀ {xs:List V} {us:List Value},Vals xs us->xs.all flatV=true->∀ u ∈ us,SeqAt.EqAt A s u v (eqU x u)
 | _,_,.nil,_=>fun u hu=>by cases hu
 | y::xs,u::us,.cons r t,f=>fun u' hu=>by
  rw [List.all_cons,Bool.and_eq_true] at f
  rcases List.mem_cons.mp hu with rfl | hu
  ·rw [eqU_of r f.1];exact eqAt_V r rx f.1 fx
  ·exact mem_eqAt rx fx t f.2 u' hu
noncomputable def inV (x:V) (xs:List V):Bool:=xs.any fun y=>eqV y x
noncomputable def rIn (K:PySem.W.Frag) (neg:Bool):R2:=fun x y H Q=>∃ p xs,y = .ref p∧(SqL K H p xs∨SqT K H p xs)∧flatV x=true∧xs.all flatV=true∧Q (.bl (if neg then !inV x xs else inV x xs)) H
theorem op_in_seq:OpR X (compareOp .In) (rIn X.K false):=by
 intro pins s σ H x y v u Q I rx ry h
 obtain ⟨p,xs,rfl,hq,fx,fs,q⟩:=h
 cases ry
 rcases hq with hq | hq
 ·obtain ⟨its,r,pl,hz⟩:=I.list hq
  refine SeqAt.in_listAt (eqU x) pl.isList (fun w hw=>mem_eqAt rx fx r fs w (by simpa using hw)) ⟨.bl _,H,I,rfl,?_⟩
  rw [show its.toArray.any (eqU x)=its.any (eqU x) by simp,any_eqU r fs]
  exact q
 ·obtain ⟨its,r,pl,hz⟩:=I.tuple hq
  refine SeqAt.in_tupleAt (eqU x) pl (fun w hw=>mem_eqAt rx fx r fs w (by simpa using hw)) ⟨.bl _,H,I,rfl,?_⟩
  rw [show its.toArray.any (eqU x)=its.any (eqU x) by simp,any_eqU r fs]
  exact q
theorem op_notIn_seq:OpR X (compareOp .NotIn) (rIn X.K true):=by
 intro pins s σ H x y v u Q I rx ry h
 obtain ⟨p,xs,rfl,hq,fx,fs,q⟩:=h
 cases ry
 rcases hq with hq | hq
 ·obtain ⟨its,r,pl,hz⟩:=I.list hq
  refine SeqAt.notIn_listAt (eqU x) pl.isList (fun w hw=>mem_eqAt rx fx r fs w (by simpa using hw)) ⟨.bl _,H,I,rfl,?_⟩
  rw [show its.toArray.any (eqU x)=its.any (eqU x) by simp,any_eqU r fs]
  exact q
 ·obtain ⟨its,r,pl,hz⟩:=I.tuple hq
  refine SeqAt.notIn_tupleAt (eqU x) pl (fun w hw=>mem_eqAt rx fx r fs w (by simpa using hw)) ⟨.bl _,H,I,rfl,?_⟩
  rw [show its.toArray.any (eqU x)=its.any (eqU x) by simp,any_eqU r fs]
  exact q
theorem call_len_seq:CallR X (.builtin "len") (fun xs H Q=>∃ p ys,xs=[.ref p]∧(SqL X.K H p ys∨SqT X.K H p ys)∧Q (.int ys.length) H):=by
 intro pins s σ H xs us Q I r h
 obtain ⟨p,ys,rfl,hq,q⟩:=h
 obtain ⟨u,rfl,rx⟩:=vals1 r
 cases rx
 have hn:=line63
 rcases hq with hq | hq
 ·obtain ⟨its,r',pl,hz⟩:=I.list hq
  have hlen:=r'.length
  exact Calls.call_len_list pl.isList (by simp only [List.size_toArray] <;> omega) ⟨.int ys.length,H,I.tok _,⟨s.toks + 1,by rw [List.size_toArray,hlen]⟩,q⟩
 ·obtain ⟨its,r',pl,hz⟩:=I.tuple hq
  have hlen:=r'.length
  exact len_tuple pl (by simp only [List.size_toArray] <;> omega) ⟨.int ys.length,H,I.tok _,⟨s.toks + 1,by rw [List.size_toArray,hlen]⟩,q⟩
theorem call_list_of:CallR X (.type "list") (fun xs H Q=>∃ p ys,xs=[.ref p]∧(SqL X.K H p ys∨SqT X.K H p ys)∧∀ l,H l=none->Q (.ref l) (upd H l (.lst ys))):=by
 intro pins s σ H xs us Q I r h
 obtain ⟨p,ys,rfl,hq,q⟩:=h
 obtain ⟨u,rfl,rx⟩:=vals1 r
 cases rx
 have fin:∀ (its:List Value),Vals ys its->ys.length≤sizeLine->∀ (h':Heap) (c':Nat),(∀ b o',s.heap.get? b=some o'->h'.get? b=some o') →
   h'.get? s.heap.objs.size=some { cls:=.type "list",dict:=none,data:=.seq its.toArray c',slots:=#[] }->EP X pins σ Q (.ref s.heap.objs.size) { s with heap:=h' }:=fun its r' hz h' c' kp e =>
  ⟨.ref s.heap.objs.size,_,I.laid (t':=s.toks) kp (Nat.le_refl _) (show ObjOk X.prog X.w _ h' _ (.lst ys) from ⟨hz,its,c',r',e⟩),rfl,q _ (I.hok.fresh (Nat.le_refl _))⟩
 rcases hq with hq | hq
 ·obtain ⟨its,r',pl,hz⟩:=I.list hq
  have hlen:=r'.length
  obtain ⟨o,ho,hc,n,hd⟩:=pl.isList
  exact call_list_seq p (.inl rfl) ho hc hd (fun h' c' kp e=>fin its r' hz h' c' kp e) (by simp only [List.size_toArray] <;> omega)
 ·obtain ⟨its,r',pl,hz⟩:=I.tuple hq
  have hlen:=r'.length
  obtain ⟨o,ho,hc,n,hd⟩:=pl
  exact call_list_seq p (.inr rfl) ho hc hd (fun h' c' kp e=>fin its r' hz h' c' kp e) (by simp only [List.size_toArray] <;> omega)
noncomputable def tyV (K:PySem.W.Frag) (T:String) (x:V) (H:Hp):Prop:=match x with
 | .str _=>T = "str"
 | .int _=>T = "int"
 | .ref p=>(T = "list" ∧ ∃ xs,SqL K H p xs)∨(T = "tuple" ∧ ∃ o,K.lookup p=some o∧o.cls = .type "tuple" ∧ o.dict=none) ∨
   (T = "dict" ∧ ((∃ kvs,H p=some (.dK kvs))∨∃ kvs,H p=some (.dT kvs)))∨(T = "set" ∧ ∃ S n,H p=some (.set S n))
 | _=>False
theorem tyV_is {pins:List (Addr × Obj)} {σ:St} {H:Hp} {s:Shared} {T:String} {x:V} {v:Value} (I:Inv X pins σ H s) (r:RelV x v) (ty:tyV X.K T x H) :
  s.TypeIs v T∧∀ a,v = .ref a->∃ ob,s.heap.get? a=some ob∧ob.dict=none:=by
 cases x with
 | str z =>
  obtain ⟨t,rfl⟩:=r
  cases (show T = "str" from ty)
  exact ⟨typeIs_str s z t,fun _ e=>nomatch e⟩
 | int i =>
  obtain ⟨t,rfl⟩:=r
  cases (show T = "int" from ty)
  exact ⟨typeIs_int s i t,fun _ e=>nomatch e⟩
 | ref p =>
  cases r
  rcases ty with ⟨rfl,xs,hq⟩ | ⟨rfl,o,hk,hc,hd⟩ | ⟨rfl,hk⟩ | ⟨rfl,S,n,hk⟩
  ·obtain ⟨its,_,pl,_⟩:=I.list hq
   refine ⟨pl.isList.typeIs,fun a e=>?_⟩
   cases e
   obtain ⟨o,n,e,c,hd,_⟩:=pl
   exact ⟨o,e,hd⟩
  ·refine ⟨⟨o,I.kIn p o hk,hc⟩,fun a e=>?_⟩
   cases e
   exact ⟨o,I.kIn _ o hk,hd⟩
  ·have z:∃ o,s.heap.get? p=some o∧o.ExactDict:=by
    rcases hk with ⟨kvs,hk⟩ | ⟨kvs,hk⟩
    ·obtain ⟨_,_,_,_,o,_,_,e,ex,_⟩:=I.hok p _ hk
     exact ⟨o,e,ex⟩
    ·obtain ⟨_,_,_,_,o,_,_,e,ex,_⟩:=I.hok p _ hk
     exact ⟨o,e,ex⟩
   obtain ⟨o,e,ex⟩:=z
   refine ⟨⟨o,e,ex.1⟩,fun a e2=>?_⟩
   cases e2
   exact ⟨o,e,ex.2.1⟩
  ·obtain ⟨o,_,_,_,e,ex,_⟩:=I.hok p _ hk
   refine ⟨⟨o,e,ex.1⟩,fun a e2=>?_⟩
   cases e2
   exact ⟨o,e,ex.2.1⟩
 | _=>exact False.elim ty
noncomputable def tBM (K:PySem.W.Frag) (T:String) (r:V->List V->Hp->VK->Prop) (to:TE) (t:TA):TE:=fun σ H Q=>to σ H fun x H1=>tyV K T x H1∧t σ H1 fun xs H2=>r x xs H2 Q
variable {o e:Expr} {es:List Expr} {to:TE} {t:TA} {name:Str} {apos cpos:Pos} {T id:String} {r:V->List V->Hp->VK->Prop}
theorem pe_bm (pa:PlainAttrs T) (slot:Slot T name id) (hty:typeOf (.builtin id)=pure (.type "method_descriptor")) (hm:MtR X id r) (ho:PE X o to) (ha:PA X (e::es) t)
  (hbase:attributeBase o name X.env (eval o X.env)=eval o X.env:=by rfl)
  (hfew:((backTo cpos (starEach (e::es) X.env)).all (fun x => !x.1) && (backToKw cpos (keywordEach [] X.env)).all (fun x=>x.1.isSome)
   && decide ((e::es).length + ([]:List Keyword).length + (if ([]:List Keyword).isEmpty then 0 else 1) < 30))=true:=by rfl)
  (hline:(apos.endLine == cpos.line)=true:=by rfl) (hs:starEach (e::es) X.env=(false,eval e X.env)::starEach es X.env:=by rfl) (hplain:(backTo cpos (starEach es X.env)).any (·.1)=false:=by rfl) :
  PE X (.Call (.Attribute o name apos) (e::es) [] cpos) (tBM X.K T r to t):=by
 intro pins s σ H Q I h
 refine wpAny_Call_method_late hbase hfew hline rfl (thn (ho pins s σ H _ I h) fun v s1 ⟨x,H1,I1,r1,ty,q1⟩=>?_)
 obtain ⟨h1,h2⟩:=tyV_is I1 r1 ty
 refine ⟨T,id,pa,slot,hty,h1,h2,?_⟩
 have hA:=ha cpos pins s1 σ H1 _ I1 q1
 rw [hs] at hA ⊢
 refine Calls.callWith_builtin (by show (false || (backTo cpos (starEach es X.env)).any (·.1))=false;rw [hplain] <;> rfl) (Calls.evalArgs_plain ?_)
 exact thn hA fun us s2 ⟨vs,H2,I2,r2,q2⟩=>hm pins s2 σ H2 x vs v us Q I2 r1 r2 q2
end
end L2
namespace L2
open PySem PySem.Spec PyProof.Rows
noncomputable def MtM (X:Cx) (id:String) (r:V->List V->Hp->VK->Prop):Prop:=
 ∀ (pins:List (Addr × Obj)) (s:Shared) (σ:St) (H:Hp) (x:V) (xs:List V) (v:Value) (us:List Value) (Q:VK),Inv X pins σ H s->RelV x v->Vals xs us->r x xs H Q →
  wpAny (model X.prog X.w) X.A (call (.builtin id) (v::us)) (EP X pins σ Q) X.xe s
theorem Vals.one:∀ {x:V} {us:List Value},Vals [x] us->∃ u,us=[u]∧RelV x u
 | _,_,.cons r .nil=>⟨_,rfl,r⟩
section
variable {X:Cx} {pins:List (Addr × Obj)} {σ:St} {H:Hp} {s:Shared} {l b:Addr} {xs ys zs:List V}
theorem Inv.lset {its its':List Value} {n:Nat} {f:Array Value->Array Value} {t':Nat} (I:Inv X pins σ H s) (hH:H l=some (.lst xs))
  (e:s.heap.get? l=some { cls:=.type "list",data:=.seq its.toArray n }) (hf:f its.toArray=its'.toArray) (hv:Vals ys its') (hz:ys.length≤sizeLine) :
  Inv X pins σ (upd H l (.lst ys)) { s with heap:=s.heap.update l (Obj.mapSeq f),toks:=t' }:=by
 have q:=PySem.IsL.update e f
 rw [hf] at q
 refine I.write (x:=l) (e:=l) (by rw [hH];exact trivial) (.inl rfl) (fun b' u hb hu=>(Heap.get?_update_other s.heap (Obj.mapSeq f) (Ne.symm hb)).trans hu) ⟨_,q⟩ ?_
 exact ⟨hz,its',_,hv,q⟩
theorem Inv.lnew {its:List Value} {t':Nat} (I:Inv X pins σ H s) (hv:Vals ys its) (hz:ys.length≤sizeLine) :
  Inv X pins σ (upd H s.heap.objs.size (.lst ys)) { s with heap:=s.heap.push { cls:=.type "list",data:=.seq its.toArray },toks:=t' }:=
 I.laid (fun _ _ q=>Heap.get?_push_of_some _ q) (Nat.le_refl _) ⟨hz,its,0,hv,Heap.get?_push_size _ rfl⟩
theorem Inv.fresh (I:Inv X pins σ H s):H s.heap.objs.size=none:=I.hok.fresh (Nat.le_refl _)
theorem Inv.lstM (I:Inv X pins σ H s) (hH:H l=some (.lst xs)):xs.length≤sizeLine∧∃ (its:List Value) (n:Nat),Vals xs its∧xs.length=its.length∧s.heap.get? l=some { cls:=.type "list",data:=.seq its.toArray n }:=by
 obtain ⟨z,its,n,r,e⟩:=I.hok l _ hH
 exact ⟨z,its,n,r,r.length,e⟩
theorem notLongL {n:Nat} (h:n≤sizeLine):Builtin.List.listTooLong n=false:=by
 unfold Builtin.List.listTooLong
 exact decide_eq_false (by omega)
end
section
variable {X:Cx}
noncomputable def rAppend:V->List V->Hp->VK->Prop:=fun x vs H Q=>∃ l xs y,x = .ref l∧vs=[y]∧H l=some (.lst xs)∧xs.length < sizeLine∧Q .non (upd H l (.lst (xs++[y])))
theorem mt_append:MtM X "list.append" rAppend:=by
 intro pins s σ H x vs v us Q I rx rv h
 obtain ⟨l,xs,y,rfl,rfl,hH,hz,q⟩:=h
 cases rx
 obtain ⟨u,rfl,ru⟩:=rv.one
 obtain ⟨z,its,n,r,hl,e⟩:=I.lstM hH
 refine call_meets F.slot_list_append ⟨_,e,rfl⟩ F.entry_list_append (F.args_list_append_2 _ _) (PySem.list_append l its.toArray n u (by rw [List.size_toArray];omega)) ⟨e,?_⟩
 refine ⟨.non,_,I.lset (its':=its++[u]) hH e (by simp) (r.append (.cons ru .nil)) ?_,rfl,q⟩
 rw [List.length_append,List.length_singleton]
 omega
noncomputable def rExtend:V->List V->Hp->VK->Prop:=fun x vs H Q=>∃ l b xs zs,x = .ref l∧vs=[.ref b]∧H l=some (.lst xs)∧H b=some (.lst zs)∧xs.length + zs.length≤sizeLine∧Q .non (upd H l (.lst (xs++zs)))
theorem mt_extend:MtM X "list.extend" rExtend:=by
 intro pins s σ H x vs v us Q I rx rv h
 obtain ⟨l,b,xs,zs,rfl,rfl,hH,hB,hz,q⟩:=h
 cases rx
 obtain ⟨u,rfl,ru⟩:=rv.one
 cases ru
 obtain ⟨z,its,n,r,hl,e⟩:=I.lstM hH
 obtain ⟨z2,its2,n2,r2,hl2,e2⟩:=I.lstM hB
 have hsz:its.toArray.size + its2.toArray.size≤sizeLine:=by rw [List.size_toArray,List.size_toArray];omega
 have hlong:¬ (!its.toArray.isEmpty && Builtin.List.listTooLong (its.toArray.size + its2.toArray.size))=true:=by
  rw [notLongL hsz,Bool.and_false]
  exact Bool.false_ne_true
 refine call_meets F.slot_list_extend ⟨_,e,rfl⟩ F.entry_list_extend (F.args_list_extend_2 _ _)
  (AutoSeq1.list_extend_list_list_0 l its.toArray n b its2.toArray n2 hlong (by rw [List.size_toArray];omega) (by omega)) ⟨e,e2,?_⟩
 refine ⟨.non,_,I.lset (its':=its++its2) hH e (by simp) (r.append r2) ?_,rfl,q⟩
 rw [List.length_append]
 omega
noncomputable def rCat:R2:=fun x y H Q=>∃ l b xs zs,x = .ref l∧y = .ref b∧H l=some (.lst xs)∧H b=some (.lst zs)∧xs.length + zs.length≤sizeLine∧∀ p,H p=none->Q (.ref p) (upd H p (.lst (xs++zs)))
theorem op_cat:OpR X (binaryOp .Add) rCat:=by
 intro pins s σ H x y v u Q I rx ry h
 obtain ⟨l,b,xs,zs,rfl,rfl,hH,hB,hz,q⟩:=h
 cases rx
 cases ry
 obtain ⟨z,its,n,r,hl,e⟩:=I.lstM hH
 obtain ⟨z2,its2,n2,r2,hl2,e2⟩:=I.lstM hB
 refine PySem.P.add_list e e2 ?_ (by rw [List.size_toArray,List.size_toArray];omega)
 have ea:its.toArray++its2.toArray=(its++its2).toArray:=by simp
 rw [ea]
 exact ⟨.ref _,_,I.lnew (t':=s.toks) (r.append r2) (by rw [List.length_append];omega),rfl,q _ I.fresh⟩
end
end L2
namespace L2
open PySem PySem.Spec PyProof.Rows
theorem Vals.ints:∀ {ns:List Int} {us:List Value},Vals (ns.map V.int) us->IntsAre us ns
 | [],us,h=>by
  rw [List.map_nil] at h
  cases h
  exact IntsAre.nil
 | n::ns,us,h=>by
  rw [List.map_cons] at h
  cases h with
  | cons r t =>
   obtain ⟨k,rfl⟩:=r
   exact IntsAre.cons n k (Vals.ints t)
theorem Vals.bls:∀ {bs:List Bool} {us:List Value},Vals (bs.map V.bl) us->us=bs.map Value.bool
 | [],us,h=>by
  rw [List.map_nil] at h
  cases h
  rfl
 | b::bs,us,h=>by
  rw [List.map_cons] at h
  cases h with
  | cons r t =>
   cases r
   rw [Vals.bls t,List.map_cons]
theorem Vals.ref1 {a:Addr} {us:List Value} (r:Vals [V.ref a] us):us=[Value.ref a]:=by
 cases r with
 | cons r t =>
  cases t
  cases r
  rfl
theorem iter_any {prog:Program} {w:World} {A:Around} {E:Value->Shared->Prop} {s:Shared} {l:Addr} {items:Array Value} {Q:Value->Shared->Prop} (hl:s.heap.IsList l items)
  (h:∀ s₂:Shared,s₂={ s with heap:=s.heap.push { cls:=.type "list_iterator",data:=.fields #[.ref l,.int 0 0] } } →
   (s₂.heap.IsListIter s.heap.objs.size l 0∧s₂.heap.IsList l items)->l ≠ s.heap.objs.size->Q (.ref s.heap.objs.size) s₂):wpAny (model prog w) A (pyIter (.ref l)) Q E s:=by
 have hlt:l < s.heap.objs.size:=by obtain ⟨_,e,_⟩:=hl;exact Heap.lt_size e
 exact wpAny_pyIter_list hl (h _ rfl ⟨⟨_,Heap.get?_push_size _ rfl,rfl,rfl⟩,hl.push _⟩ (Nat.ne_of_lt hlt))
theorem truth_bools {prog:Program} {w:World} {A:Around} {bs:List Bool} {its:List Value} (e:its=bs.map Value.bool) :
  TruthOf prog w A (fun i v=>its.toArray[i]? = some v) (fun i=>bs.getD i false):=fun i v s Q E hv hq=>by
 have hv':its[i]? = some v:=by simpa using hv
 rw [e,List.getElem?_map] at hv'
 obtain ⟨b,hb,rfl⟩:=Option.map_eq_some_iff.mp hv'
 have hg:bs.getD i false=b:=by rw [List.getD_eq_getElem?_getD,hb] <;> rfl
 have hq':Q (bs.getD i false) s:=hq
 rw [hg] at hq'
 exact wpAny_truthy_bool hq'
theorem all_range:∀ bs:List Bool,(List.range bs.length).all (fun i=>bs.getD i false)=bs.all id
 | []=>rfl
 | b::bs=>by
  rw [List.length_cons,List.range_succ_eq_map,List.all_cons,List.all_map,List.all_cons,← all_range bs]
  all_goals rfl
section
variable {X:Cx}
noncomputable def rAll (K:PySem.W.Frag):List V->Hp->VK->Prop:=fun vs H Q=>∃ (a:Addr) (bs:List Bool),vs=[V.ref a]∧SqL K H a (bs.map V.bl)∧Q (.bl (bs.all id)) H
theorem cr_all (hc:X.calm=true):CallR X (.builtin "all") (rAll X.K):=by
 intro pins s σ H vs us Q I r h
 obtain ⟨a,bs,rfl,hs,q⟩:=h
 obtain ⟨its,rv,hl,_⟩:=I.list hs
 rw [Vals.ref1 r]
 have hb:=rv.bls
 refine call_all_walk (iter_any hl.isList fun s₂ e2 st hne=>?_)
 subst e2
 refine ⟨_,_,_,_,_,_,_,rfl,Walks.list (A:=X.A.in1) (I.ok.hd hc) _ a hne its.toArray,st,truth_bools hb,fun h' tk hk=>?_⟩
 refine ⟨.bl _,H,I.kept fun b o eo=>hk b o (fun hmem=>?_) (Heap.get?_push_of_some _ eo),?_,q⟩
 ·rcases List.mem_cons.mp hmem with e1 | hmem
  ·exact absurd (e1 ▸ Heap.lt_size eo) (Nat.lt_irrefl _)
  ·cases hmem
 ·show Value.bool _=Value.bool _
  rw [← all_range,hb,List.size_toArray,List.length_map]
end
end L2
namespace L2
open PySem PySem.Spec PyProof.Rows
noncomputable abbrev CellAt (h:Heap) (c:Addr) (v:Option Value):Prop:=h.IsCell c v
noncomputable def relS (scope sc:Scope):Scope:=
 { scope with names:=scope.names.map fun (n,k)=>if (k == .free && sc.kind == .function && sc.names.lookup n == some .cell) then (n,.cell) else (n,k) }
noncomputable def cloFrom (cells:List (Str × Addr)):List (Str × NameKind)->List (Str × Addr)->List (Str × Addr)
 | [],acc=>acc
 | (n,k)::r,acc=>if k == .free then cloFrom cells r ((n,(cells.lookup n).getD 0)::acc) else cloFrom cells r acc
theorem closure_loop (env:Env) (f:Str × NameKind->List (Str × Addr)->Sem (ForInStep (List (Str × Addr))))
  (hf:∀ n k c,f (n,k) c=if k == .free then (do let a ← cellOf env n;pure (.yield ((n,a)::c))) else pure (.yield c)) :
  ∀ (names:List (Str × NameKind)) (acc:List (Str × Addr)),(∀ y ∈ names,y.2 = .free->∃ c,env.cells.lookup y.1=some c)->forIn names acc f=pure (cloFrom env.cells names acc)
 | [],acc,_=>by rw [List.forIn_nil];rfl
 | (n,k)::r,acc,h=>by
  rw [List.forIn_cons,hf]
  have ih:=fun acc=>closure_loop env f hf r acc fun y hy=>h y (List.mem_cons_of_mem _ hy)
  unfold cloFrom
  by_cases hk:(k == NameKind.free)=true
  ·rw [if_pos hk,if_pos hk]
   obtain ⟨c,hc⟩:=h (n,k) List.mem_cons_self (by simpa using hk)
   have e:cellOf env n=pure c:=by unfold cellOf;rw [hc]
   rw [e]
   have e2:(env.cells.lookup n).getD 0=c:=by rw [hc];rfl
   rw [e2]
   exact ih _
  ·rw [if_neg hk,if_neg hk]
   exact ih _
theorem closure_ok {scope:Scope} {env:Env} (h:∀ y ∈ scope.names,y.2 = .free->∃ c,env.cells.lookup y.1=some c):closureFor scope env=pure (cloFrom env.cells scope.names []):=by
 simp only [closureFor]
 rw [closure_loop env _ (fun n k c=>rfl) scope.names [] h]
 rfl
theorem mem_lookup {α:Type}:∀ {l:List (Str × α)} {n:Str} {c:α},(n,c) ∈ l->∃ c',l.lookup n=some c'
 | (k,v)::r,n,c,h=>by
  rw [List.lookup_cons]
  cases hb:n == k with
  | true=>exact ⟨_,rfl⟩
  | false =>
   rcases List.mem_cons.mp h with e | h
   ·cases e;simp at hb
   ·exact mem_lookup h
theorem cloFrom_mem {cells:List (Str × Addr)}:∀ {names:List (Str × NameKind)} {acc:List (Str × Addr)} {n:Str} {c:Addr},(n,c) ∈ cloFrom cells names acc->(n,c) ∈ acc∨((n,.free) ∈ names∧c=(cells.lookup n).getD 0)
 | [],_,_,_,h=>.inl h
 | (m,k)::r,acc,n,c,h=>by
  unfold cloFrom at h
  split at h
  ·rename_i hk
   have hk:k = .free:=by simpa using hk
   rcases cloFrom_mem h with h | ⟨h1,h2⟩
   ·rcases List.mem_cons.mp h with e | h
    ·cases e;exact .inr ⟨hk ▸ List.mem_cons_self,rfl⟩
    ·exact .inl h
   ·exact .inr ⟨List.mem_cons_of_mem _ h1,h2⟩
  ·rcases cloFrom_mem h with h | ⟨h1,h2⟩
   ·exact .inl h
   ·exact .inr ⟨List.mem_cons_of_mem _ h1,h2⟩
theorem cloFrom_acc {cells:List (Str × Addr)}:∀ {names:List (Str × NameKind)} {acc:List (Str × Addr)} {p:Str × Addr},p ∈ acc->p ∈ cloFrom cells names acc
 | [],_,_,h=>h
 | (m,k)::r,acc,p,h=>by
  unfold cloFrom
  split
  ·exact cloFrom_acc (List.mem_cons_of_mem _ h)
  ·exact cloFrom_acc h
theorem cloFrom_has {cells:List (Str × Addr)}:∀ {names:List (Str × NameKind)} {acc:List (Str × Addr)} {n:Str},(n,.free) ∈ names->(n,(cells.lookup n).getD 0) ∈ cloFrom cells names acc
 | (m,k)::r,acc,n,h=>by
  unfold cloFrom
  rcases List.mem_cons.mp h with e | h
  ·cases e
   exact cloFrom_acc List.mem_cons_self
  ·split
   ·exact cloFrom_has h
   ·exact cloFrom_has h
theorem cells_mem:∀ {names:List (Str × NameKind)} {h:Heap} {acc:List (Str × Addr)} {x:Str} {c:Addr},(x,c) ∈ cellsFrom h.objs.size names acc →
  (x,c) ∈ acc∨((x,.cell) ∈ names∧h.objs.size≤c∧CellAt (pushCells h names) c none)
 | [],_,_,_,_,h=>.inl h
 | (n,k)::r,h,acc,x,c,hm=>by
  unfold cellsFrom at hm
  unfold pushCells
  split at hm
  ·rename_i hk
   rw [if_pos hk]
   have hk:k = .cell:=by simpa using hk
   rw [← Heap.size_push h { cls:=.type "cell",data:=.cell none }] at hm
   rcases cells_mem hm with hm | ⟨h1,h2,h3⟩
   ·rcases List.mem_cons.mp hm with e | hm
    ·cases e
     exact .inr ⟨hk ▸ List.mem_cons_self,Nat.le_refl _,_,pushCells_keeps r _ _ _ (Heap.get?_push_size _ rfl),rfl⟩
    ·exact .inl hm
   ·rw [Heap.size_push] at h2
    exact .inr ⟨List.mem_cons_of_mem _ h1,Nat.le_of_succ_le h2,h3⟩
  ·rename_i hk
   rw [if_neg hk]
   rcases cells_mem hm with hm | ⟨h1,h2,h3⟩
   ·exact .inl hm
   ·exact .inr ⟨List.mem_cons_of_mem _ h1,h2,h3⟩
theorem cells_acc:∀ {names:List (Str × NameKind)} {n:Nat} {acc:List (Str × Addr)} {p:Str × Addr},p ∈ acc->p ∈ cellsFrom n names acc
 | [],_,_,_,h=>h
 | (m,k)::r,n,acc,p,h=>by
  unfold cellsFrom
  split
  ·exact cells_acc (List.mem_cons_of_mem _ h)
  ·exact cells_acc h
theorem cells_has:∀ {names:List (Str × NameKind)} {n:Nat} {acc:List (Str × Addr)} {x:Str},(x,.cell) ∈ names->∃ c,(x,c) ∈ cellsFrom n names acc
 | (m,k)::r,n,acc,x,h=>by
  unfold cellsFrom
  rcases List.mem_cons.mp h with e | h
  ·cases e
   exact ⟨n,cells_acc List.mem_cons_self⟩
  ·split
   ·exact cells_has h
   ·exact cells_has h
theorem cells_inj:∀ {names:List (Str × NameKind)} {h:Heap} {acc:List (Str × Addr)} {x y:Str} {c:Addr},(∀ p ∈ acc,p.2 < h.objs.size)->(∀ x y c,(x,c) ∈ acc->(y,c) ∈ acc->x=y) →
  (x,c) ∈ cellsFrom h.objs.size names acc->(y,c) ∈ cellsFrom h.objs.size names acc->x=y
 | [],_,_,_,_,_,_,hi,h1,h2=>hi _ _ _ h1 h2
 | (n,k)::r,h,acc,x,y,c,hl,hi,h1,h2=>by
  unfold cellsFrom at h1 h2
  split at h1
  ·rename_i hk
   rw [if_pos hk] at h2
   rw [← Heap.size_push h { cls:=.type "cell",data:=.cell none }] at h1 h2
   refine cells_inj (h:=h.push _) (fun p hp=>?_) (fun x y c a b=>?_) h1 h2
   ·rw [Heap.size_push]
    rcases List.mem_cons.mp hp with rfl | hp
    ·exact Nat.lt_succ_self _
    ·exact Nat.lt_succ_of_lt (hl p hp)
   ·rcases List.mem_cons.mp a with e | a <;> rcases List.mem_cons.mp b with e' | b
    ·cases e;cases e';rfl
    ·cases e;exact absurd (hl _ b) (Nat.lt_irrefl _)
    ·cases e';exact absurd (hl _ a) (Nat.lt_irrefl _)
    ·exact hi _ _ _ a b
  ·rename_i hk
   rw [if_neg hk] at h2
   exact cells_inj hl hi h1 h2
theorem newEnv_comp {M:Model} {A:Around} {E:Value->Shared->Prop} {s:Shared} {scope:Scope} {globals:Addr} {closure:List (Str × Addr)} {qual:Str} {func:Option Addr} {code:Value} {around:Env} {builtins:Addr} {Q:Env->Shared->Prop}
  (h:Q (newEnv scope s.heap.objs.size globals (cellsFrom (s.heap.objs.size + 1) scope.names closure) qual func code (some around) builtins)
   { s with heap:=pushCells (s.heap.push { cls:=.type "dict",data:=.dict #[] }) scope.names }) :
  wpAny M A (newFunctionEnv scope globals closure [] qual func code (some around) builtins) Q E s:=by
 simp only [newFunctionEnv,Option.isSome_some,if_true]
 refine wpAny_bind (wpAny_alloc ?_)
 refine wpAny_bind (wpAny_layCells _ (fun n k c=>rfl) scope.names closure _ _ ?_)
 rw [show ({ s with heap:=s.heap.push { cls:=.type "dict",data:=.dict #[] } }:Shared).heap.objs.size=s.heap.objs.size + 1 from Heap.size_push ..]
 rw [List.forIn_nil]
 exact wpAny_bind (wpAny_pure (wpAny_pure h))
theorem lookup_relS {sc:Scope}:∀ {names:List (Str × NameKind)} {x:Str} {k:NameKind},
  (names.map fun (n,k)=>if (k == NameKind.free && sc.kind == .function && sc.names.lookup n == some .cell) then (n,NameKind.cell) else (n,k)).lookup x=some k →
  ∃ k',names.lookup x=some k'∧(k=k'∨(k' = .free∧k = .cell))
 | [],_,_,h=>by simp at h
 | (n,k₀)::r,x,k,h=>by
  have ih:=@lookup_relS sc r x k
  have h':List.lookup x ((if (k₀ == NameKind.free && sc.kind == .function && sc.names.lookup n == some .cell)=true then (n,NameKind.cell) else (n,k₀))::(r.map _))=some k:=h
  cases hx:x == n with
  | true =>
   simp only [List.lookup_cons,hx]
   by_cases hc:(k₀ == NameKind.free && sc.kind == .function && sc.names.lookup n == some .cell)=true
   ·rw [if_pos hc] at h'
    simp only [List.lookup_cons,hx] at h'
    cases h'
    simp only [Bool.and_eq_true,beq_iff_eq] at hc
    exact ⟨k₀,rfl,.inr ⟨hc.1.1,rfl⟩⟩
   ·rw [if_neg hc] at h'
    simp only [List.lookup_cons,hx] at h'
    cases h'
    exact ⟨_,rfl,.inl rfl⟩
  | false =>
   simp only [List.lookup_cons,hx]
   by_cases hc:(k₀ == NameKind.free && sc.kind == .function && sc.names.lookup n == some .cell)=true
   ·rw [if_pos hc] at h'
    simp only [List.lookup_cons,hx] at h'
    exact ih h'
   ·rw [if_neg hc] at h'
    simp only [List.lookup_cons,hx] at h'
    exact ih h'
structure BlkOk (N:List Str) (sc scope:Scope) (own:List (Str × Nat)):Prop where
 kind:scope.kind = .function
 uniq:∀ y ∈ scope.names,scope.names.lookup y.1=some y.2
 ix:∀ p ∈ own,N[p.2]? = some p.1
 free:∀ y ∈ scope.names,y.2 = .free->sc.names.lookup y.1=some .cell∨sc.names.lookup y.1=some .free
 own:∀ y ∈ scope.names,y.2 = .local∨y.2 = .cell->y.1 ∈ own.map (·.1)∨y.1 ∉ N
noncomputable def wipe (σ:St):List Nat->St
 | []=>σ
 | v::vs=>(wipe σ vs).set v none
theorem wipe_length (σ:St):∀ vs:List Nat,(wipe σ vs).length=σ.length
 | []=>rfl
 | v::vs=>by unfold wipe;rw [List.length_set,wipe_length σ vs]
theorem wipe_some {σ:St} {i:Nat} {x:V}:∀ {vs:List Nat},(wipe σ vs)[i]? = some (some x)->σ[i]? = some (some x)∧i ∉ vs
 | [],h=>⟨h,by simp⟩
 | v::vs,h=>by
  unfold wipe at h
  by_cases hi:v=i
  ·subst hi
   by_cases hv:v < (wipe σ vs).length
   ·rw [List.getElem?_set_self hv] at h;cases h
   ·rw [List.getElem?_eq_none (by simpa using hv)] at h;cases h
  ·rw [List.getElem?_set_ne hi] at h
   obtain ⟨h1,h2⟩:=wipe_some h
   exact ⟨h1,by simp only [List.mem_cons,not_or];exact ⟨fun e=>hi e.symm,h2⟩⟩
noncomputable abbrev Cx.blk (X:Cx) (s:Shared) (H:Hp) (scope:Scope) (cenv:Env) (fp:List Addr):Cx:={ X with s_0:=s,H_0:=H,env:=cenv,outer:=X.stack,ex:=fp,fn:=fun x=>scope.names.lookup x == some .cell,pn:=[],xe:=fun _ _=>False }
section
variable {X:Cx} {pins:List (Addr × Obj)} {σ:St} {H:Hp} {s:Shared}
theorem block_start {scope:Scope} {own:List (Str × Nat)} {fp:List Addr} (I:Inv X pins σ H s) (ok:BlkOk X.N X.env.scope scope own) (hN:X.N.Nodup) (hfp:∀ b ∈ fp,FpOk X pins H b∧b < s.heap.objs.size) :
  Inv (X.blk s H scope (compEnvC scope (cellsFrom (s.heap.objs.size + 1) scope.names (cloFrom X.env.cells scope.names [])) s.heap.objs.size X.env) fp) [] (wipe σ (own.map (·.2))) H { s with heap:=pushCells (s.heap.push { cls:=.type "dict",data:=.dict #[] }) scope.names }:=by
 have hfree:∀ y ∈ scope.names,y.2 = .free->∃ c,X.env.cells.lookup y.1=some c:=fun y hy e=>by
  rcases ok.free y hy e with k | k
  ·exact I.ok.has _ (.inl k)
  ·exact I.ok.has _ (.inr k)
 generalize hcenv:compEnvC scope (cellsFrom (s.heap.objs.size + 1) scope.names (cloFrom X.env.cells scope.names [])) s.heap.objs.size X.env=cenv
 have kp:∀ b o,s.heap.get? b=some o->(pushCells (s.heap.push { cls:=.type "dict",data:=.dict #[] }) scope.names).get? b=some o:=fun b o e=>pushCells_keeps _ _ _ _ (Heap.get?_push_of_some _ e)
 have hL:cenv.locals=s.heap.objs.size:=by rw [← hcenv];rfl
 have hcl:cenv.cells=cellsFrom (s.heap.objs.size + 1) scope.names (cloFrom X.env.cells scope.names []):=by rw [← hcenv];rfl
 have hsc:cenv.scope=relS scope X.env.scope:=by rw [← hcenv];rfl
 rw [← Heap.size_push s.heap { cls:=.type "dict",data:=.dict #[] }] at hcl
 have cm:∀ {y c},(y,c) ∈ cloFrom X.env.cells scope.names []->X.env.cells.lookup y=some c∧c < s.heap.objs.size:=fun {y c} hm=>by
  rcases cloFrom_mem hm with hm | ⟨h1,rfl⟩
  ·cases hm
  ·obtain ⟨c,hc⟩:=hfree _ h1 rfl
   rw [hc]
   obtain ⟨w,z⟩:=I.cell _ _ hc
   exact ⟨rfl,z.lt⟩
 have mem:∀ {y c},cenv.cells.lookup y=some c->(X.env.cells.lookup y=some c∧c < s.heap.objs.size)∨(s.heap.objs.size + 1≤c∧CellAt (pushCells (s.heap.push { cls:=.type "dict",data:=.dict #[] }) scope.names) c none):=fun {y c} e=>by
  rw [hcl] at e
  rcases cells_mem (PySem.mem_of_lookup e) with hm | ⟨_,h2,h3⟩
  ·exact .inl (cm hm)
  ·rw [Heap.size_push] at h2;exact .inr ⟨h2,h3⟩
 have look:∀ {y},scope.names.lookup y=some .free->∃ c,cenv.cells.lookup y=some c∧X.env.cells.lookup y=some c:=fun {y} hl=>by
  have hy:(y,NameKind.free) ∈ scope.names:=PySem.mem_of_lookup hl
  obtain ⟨c',e'⟩:=mem_lookup (cells_acc (names:=scope.names) (n:=(s.heap.push { cls:=.type "dict",data:=.dict #[] }).objs.size) (cloFrom_has (cells:=X.env.cells) (acc:=[]) hy))
  rw [← hcl] at e'
  refine ⟨c',e',?_⟩
  rw [hcl] at e'
  rcases cells_mem (PySem.mem_of_lookup e') with hm | ⟨h1,_,_⟩
  ·exact (cm hm).1
  ·have:=ok.uniq _ h1
   rw [hl] at this;cases this
 have okB:(X.blk s H scope cenv fp).Ok:=by
  refine ⟨I.ok.mod,by show cenv.scope.kind=_;rw [hsc];exact ok.kind,by show cenv.globals=_;rw [← hcenv];exact I.ok.glob,by show cenv.builtins=_;rw [← hcenv];exact I.ok.blt,by show s.heap.objs.size≤cenv.locals;rw [hL];exact Nat.le_refl _,
   fun y z c e1 e2=>?_,fun y hy=>?_,fun y c z e=>?_,I.ok.hd,I.ok.frames,.inl rfl,fun b hb=>⟨?_,fun y c e z=>?_⟩,I.bs,Nat.le_trans I.ok.bsz I.sz,fun b o e hb=>?_,fun b hb z=>?_,I.stack,I.stkFree⟩
  ·have e1:cenv.cells.lookup y=some c:=e1
   have e2:cenv.cells.lookup z=some c:=e2
   rw [hcl] at e1 e2
   refine cells_inj (fun p hp=>?_) (fun y z c a b=>I.ok.inj y z c (cm a).1 (cm b).1) (PySem.mem_of_lookup e1) (PySem.mem_of_lookup e2)
   rw [Heap.size_push]
   exact Nat.lt_succ_of_lt (cm (y:=p.1) (c:=p.2) hp).2
  ·show ∃ c,cenv.cells.lookup y=some c
   have key:∀ k,cenv.kindOf y=some k->(k = .cell∨k = .free)->∃ c,cenv.cells.lookup y=some c:=fun k hk hk'=>by
    unfold Env.kindOf at hk
    rw [hsc] at hk
    obtain ⟨k',e,r⟩:=lookup_relS hk
    have:k' = .cell∨k' = .free:=by
     rcases r with rfl | ⟨rfl,_⟩
     ·exact hk'
     ·exact .inr rfl
    rcases this with rfl | rfl
    ·obtain ⟨c,hm⟩:=cells_has (n:=(s.heap.push { cls:=.type "dict",data:=.dict #[] }).objs.size) (acc:=cloFrom X.env.cells scope.names []) (PySem.mem_of_lookup e)
     obtain ⟨c',e'⟩:=mem_lookup hm
     exact ⟨c',by rw [hcl];exact e'⟩
    ·obtain ⟨c,h1,_⟩:=look e
     exact ⟨c,h1⟩
   rcases hy with hy | hy
   ·exact key _ hy (.inl rfl)
   ·exact key _ hy (.inr rfl)
  ·have z:(scope.names.lookup y == some NameKind.cell)=true:=z
   have z:scope.names.lookup y=some .cell:=by simpa using z
   have e:cenv.cells.lookup y=some c:=e
   rw [hcl] at e
   rcases cells_mem (PySem.mem_of_lookup e) with hm | ⟨_,h2,_⟩
   ·rcases cloFrom_mem hm with hm | ⟨h1,_⟩
    ·cases hm
    ·have q:=ok.uniq _ h1
     rw [z] at q;cases q
   ·rw [Heap.size_push] at h2
    exact Nat.le_of_succ_le h2
  ·show b ≠ cenv.locals
   rw [hL];exact Nat.ne_of_lt (hfp b hb).2
  ·have e:cenv.cells.lookup y=some c:=e
   rcases mem e with ⟨h1,_⟩ | ⟨h1,_⟩
   ·exact (hfp b hb).1.2.2.2.2.1 y c h1 z
   ·have h2:s.heap.objs.size + 1≤b:=by rw [← z];exact h1
    exact absurd (Nat.lt_of_lt_of_le (hfp b hb).2 (Nat.le_of_succ_le h2)) (Nat.lt_irrefl _)
  ·rcases (hfp b hb).1.2.2.2.1 with z | z
   ·exact I.ok.noex b o e z
   ·exact absurd (Nat.lt_of_lt_of_le (Heap.lt_size e) (Nat.le_trans I.ok.bsz z)) (Nat.lt_irrefl _)
  ·rcases List.mem_cons.mp (I.stkSub b z) with z | z
   ·exact (hfp b hb).1.2.1 z
   ·exact (hfp b hb).1.2.2.1 z
 refine ⟨okB,rfl,I.bare,Un.kept kp,⟨fun _=>none,?_,fun i y av e1 e2 e3=>?_⟩,fun y c e=>?_,?_,fun y c e=>?_,fun p hp=>?_,I.hok.kept kp,by rw [wipe_length];exact I.len⟩
 ·show Heap.Ns _ cenv.locals _
  rw [hL]
  exact Heap.Ns.keeps (Heap.Ns.new ..) fun b o e=>pushCells_keeps _ _ _ _ e
 ·obtain ⟨e2,hne⟩:=wipe_some e2
  have hfr:scope.names.lookup y=some .free∧(cenv.kindOf y=some .cell∨cenv.kindOf y=some .free):=by
   have key:∀ k,cenv.scope.names.lookup y=some k->k = .local∨k = .cell∨k = .free->scope.names.lookup y=some .free∧(cenv.kindOf y=some .cell∨cenv.kindOf y=some .free):=fun k hk hk'=>by
    have hk0:=hk
    rw [hsc] at hk
    obtain ⟨k',e,r⟩:=lookup_relS hk
    have no:¬ (k' = .local∨k' = .cell):=fun hh=>by
     rcases ok.own _ (PySem.mem_of_lookup e) hh with e' | e'
     ·obtain ⟨p,hp,hpy⟩:=List.mem_map.mp e'
      have e3:=ok.ix p hp
      have:p.1=y:=hpy
      rw [this] at e3
      exact hne (List.mem_map.mpr ⟨p,hp,nodup_ix hN e3 e1⟩)
     ·exact e' (List.mem_of_getElem? e1)
    rcases r with rfl | ⟨rfl,rfl⟩
    ·rcases hk' with rfl | rfl | rfl
     ·exact absurd (.inl rfl) no
     ·exact absurd (.inr rfl) no
     ·exact ⟨e,.inr hk0⟩
    ·exact ⟨e,.inl hk0⟩
   have e3:Vis cenv.scope y:=e3
   rcases e3 with e3 | e3 | e3
   ·exact key _ e3 (.inl rfl)
   ·exact key _ e3 (.inr (.inl rfl))
   ·exact key _ e3 (.inr (.inr rfl))
  obtain ⟨m,hn,hl⟩:=I.loc
  have hvis:Vis X.env.scope y:=(ok.free _ (PySem.mem_of_lookup hfr.1) rfl).elim (fun k=>.inr (.inl k)) (fun k=>.inr (.inr k))
  obtain ⟨w,r,q⟩:=hl i y av e1 e2 hvis
  refine ⟨w,r,.inr ⟨hfr.2,?_⟩⟩
  obtain ⟨c,h1,h2⟩:=look hfr.1
  rcases q with ⟨k,_⟩ | ⟨_,c',e',z⟩
  ·have k:X.env.scope.names.lookup y=some .local:=k
   rcases ok.free _ (PySem.mem_of_lookup hfr.1) rfl with k' | k' <;> rw [show X.env.scope.names.lookup y=_ from k'] at k <;> cases k
  ·rw [h2] at e';cases e'
   exact ⟨c,h1,z.keeps kp⟩
 ·have e:cenv.cells.lookup y=some c:=e
  rcases mem e with ⟨h1,_⟩ | ⟨_,z⟩
  ·obtain ⟨w,z⟩:=I.cell y c h1
   exact ⟨w,z.keeps kp⟩
  ·exact ⟨_,z⟩
 ·show H cenv.locals=none
  rw [hL];exact I.hok.fresh (Nat.le_refl _)
 ·have e:cenv.cells.lookup y=some c:=e
  rcases mem e with ⟨h1,_⟩ | ⟨h1,_⟩
  ·exact I.freeC y c h1
  ·exact I.hok.fresh (Nat.le_of_succ_le h1)
 ·exact absurd (show p ∈ ([]:List (Addr × Obj))++[] from hp) (by simp)
theorem app_ok {E:Value->Shared->Prop} {D:Addr} {xs:List V} {y:V} {v:Value} {Q:Value->Shared->Prop} (I:Inv X pins σ H s) (hD:H D=some (.lst xs)) (hz:xs.length < sizeLine) (r:RelV y v)
  (h:∀ s',Inv X pins σ (upd H D (.lst (xs++[y]))) s'->Q .none s'):wpAny (model X.prog X.w) X.A (call (.builtin "list.append") [.ref D,v]) Q E s:=by
 obtain ⟨hz',its,n,ri,e⟩:=I.hok D _ hD
 have hl:=ri.length
 refine append_at (hsz:=by rw [List.size_toArray];omega) e fun h' sb ho'=>?_
 refine h { s with heap:=h' } (I.write (t':=s.toks) (by rw [hD];trivial) (.inl rfl) (fun b u hb q=>(sb.2 b hb).trans q) ⟨_,ho'⟩ ⟨by rw [List.length_append];exact hz,its++[v],n + 1,ri.append (.cons r .nil),?_⟩)
 rw [ho']
 simp
noncomputable def PTs (X:Cx) (ifs:List Expr) (t:TT):Prop:=
 ∀ (pins:List (Addr × Obj)) (s:Shared) (σ:St) (H:Hp) (Q:Bool->Hp->Prop),Inv X pins σ H s->t σ H Q →
  wpAny (model X.prog X.w) X.A (forIn ifs true fun c r=>if r=true then do let ok ← isTrue c X.env (eval c X.env);pure (ForInStep.yield ok) else pure (ForInStep.yield r)) (TP X pins σ Q) X.xe s
noncomputable def tYes:TT:=fun _ H Q=>Q true H
theorem pts_nil:PTs X [] tYes:=fun _ _ _ H _ I h=>wpAny_tests_nil ⟨H,I,h⟩
theorem pts_one {c:Expr} {t:TT} (h:PT X c t):PTs X [c] t:=fun pins s σ H Q I hw=>wpAny_tests_one (h pins s σ H Q I hw)
end
theorem thnF {α:Type} {t:Sem α} {Q Q':α->Shared->Prop} {M:Model} {A:Around} {E:Value->Shared->Prop} {s:Shared} (h:wpAny M A t Q (fun _ _=>False) s) (hQ:∀ a s,Q a s->Q' a s):wpAny M A t Q' E s:=wpAny_mono h hQ fun _ _ z=>False.elim z
theorem compLoop_any {prog:Program} {w:World} {A:Around} {R:Result->Shared->Prop} {s:Shared} {elt target iter:Expr} {ifs:List Expr} {scope:Scope} {pos:Pos} {it acc:Value} {env:Env} (I:Nat->Shared->Prop)
  (turn:∀ n s,I n s->wpAny (model prog w) A (pyNext it) (fun r s₁=>match r with
   | none=>R (.ok .next) s₁
   | some v=>wpAny (model prog w) A (letOwnedTupleGo target it v) (fun _ s₁'=>wpAny (model prog w) A (assign target env v) (fun _ s₂ =>
     wpAny (model prog w) A (forIn ifs true fun c r=>if r=true then do let ok ← isTrue c env (eval c env);pure (ForInStep.yield ok) else pure (ForInStep.yield r)) (fun ok s₃ =>
      if ok=true then wpAny (model prog w) A (eval elt env) (fun x s₄ =>
       wpAny (model prog w) A (call (.builtin "list.append") [acc,x]) (fun _ s₅=>∃ m,m < n∧I m s₅) (notedBy (model prog w) A env fun e s'=>R (.error e) s') s₄) (notedBy (model prog w) A env fun e s'=>R (.error e) s') s₃
      else ∃ m,m < n∧I m s₃) (notedBy (model prog w) A env fun e s'=>R (.error e) s') s₂) (notedBy (model prog w) A env fun e s'=>R (.error e) s') s₁') (notedBy (model prog w) A env fun e s'=>R (.error e) s') s₁) (notedBy (model prog w) A env fun e s'=>R (.error e) s') s)
  (n:Nat) (h:I n s) :
  codeAny (model prog w) A (.compLoop (.ListComp elt [⟨target,iter,ifs,0⟩] scope pos) 0 it acc env) R s:=by
 refine codeAny_loop rfl I (fun n s hI=>?_) n h
 show wpAny _ A ((compTurn (.ListComp elt [⟨target,iter,ifs,0⟩] scope pos) 0 it acc env).onRaise (fun x=>do noteFrame x env;theTreesLotGoes x)) _ _ s
 refine wpAny_noted ?_
 rw [compTurn_list]
 refine wpAny_bind (wpAny_standAt (wpAny_bind (wpAny_mono (turn n s hI) (fun r s₁ h₁=>?_) fun _ _ h'=>h')))
 cases r with
 | none=>exact wpAny_pure h₁
 | some v =>
  refine wpAny_bind (wpAny_mono h₁ (fun _ s₁' h₁'=>?_) fun _ _ h'=>h')
  refine wpAny_bind (wpAny_mono h₁' (fun _ s₂ h₂=>wpAny_bind (wpAny_mono h₂ (fun ok s₃ h₃=>?_) fun _ _ h'=>h')) fun _ _ h'=>h')
  cases ok with
  | false=>exact wpAny_pure ⟨rfl,h₃⟩
  | true =>
   exact wpAny_bind (wpAny_bind (wpAny_mono h₃ (fun x s₄ h₄=>wpAny_bind (wpAny_mono h₄ (fun _ s₅ h₅=>wpAny_pure (wpAny_pure ⟨rfl,h₅⟩)) fun _ _ h'=>h')) fun _ _ h'=>h'))
section
variable {X:Cx}
noncomputable def tLc (wi:TI) (g:TG) (tt:TT) (te:TE) (vs:List Nat):TE:=fun σ H Q=>wi σ H fun J H1=>∀ D,H1 D=none->∃ W:Nat->Nat->Hp->Prop,(∃ m,W 0 m (upd H1 D (.lst [])))∧∀ i m H,W i m H →
 (J.stop i H∧Q (.ref D) H)∨(J.go i H∧∃ Nx:Hp->Prop,(∀ H',Nx H'->∃ m',m' < m∧W (i + 1) m' H')∧∀ x H',J.yld i H x H'->g x (wipe σ vs) H' fun σ2 H2=>wipe σ2 vs=wipe σ vs∧tt σ2 H2 fun b H3 =>
  if b=true then te σ2 H3 fun y H4=>∃ acc,H4 D=some (.lst acc)∧acc.length < sizeLine∧Nx (upd H4 D (.lst (acc++[y]))) else Nx H3)
theorem lc_core {pins:List (Addr × Obj)} {s:Shared} {σ:St} {H:Hp} {Q:VK} {elt tg iter:Expr} {ifs:List Expr} {scope:Scope} {own:List (Str × Nat)} {pos pos':Pos} {wi:TI} {g:TG} {tt:TT} {te:TE} {use:Option (Value->Sem Unit)} {Qf:Value->Shared->Prop}
  (hc:X.calm=true) (hN:X.N.Nodup) (I:Inv X pins σ H s) (hi:PI X tg iter wi) (ok:BlkOk X.N X.env.scope scope own)
  (hg:∀ (s:Shared) (H:Hp) (C:Addr) (cl:List (Str × Addr)) (fp:List Addr),PG (X.blk s H scope (compEnvC scope cl C X.env) fp) tg g) (ht:∀ (s:Shared) (H:Hp) (C:Addr) (cl:List (Str × Addr)) (fp:List Addr),PTs (X.blk s H scope (compEnvC scope cl C X.env) fp) ifs tt)
  (he:∀ (s:Shared) (H:Hp) (C:Addr) (cl:List (Str × Addr)) (fp:List Addr),PE (X.blk s H scope (compEnvC scope cl C X.env) fp) elt te) (hs:∀ x,foldedSetIterable iter X.env x=pure x)
  (h:tLc wi g tt te (own.map (·.2)) σ H Q)
  (hRR:∀ D C s' m H',Inv X pins σ H' s'->Q (.ref D) H'->s'.heap.Ns C m->FpOk X pins H' C->compPost (model X.prog X.w) X.A X.xe use Qf (.ref D) C (.ok .next) s') :
  wpAny (model X.prog X.w) X.A (comprehension (.ListComp elt [⟨tg,iter,ifs,0⟩] scope pos) scope X.env pos' (newList []) false (eval iter X.env) use) Qf X.xe s:=by
 have hfree:∀ y ∈ scope.names,y.2 = .free->∃ c,X.env.cells.lookup y.1=some c:=fun y hy e=>by
  rcases ok.free y hy e with k | k
  ·exact I.ok.has _ (.inl k)
  ·exact I.ok.has _ (.inr k)
 refine wpAny_comprehension_free (use:=use) rfl hs (closure_ok hfree) ok.kind (fun y hy e=>by rw [ok.uniq y hy,e])
  (thn (hi pins s σ H _ I h) fun xv s1 hx=>thn hx fun itv s2 h2=>?_)
 obtain ⟨it,fp,tn,J,H2,e,I2,T,st2,f2,q⟩:=h2
 subst e
 refine wpAny_newObj_type (newEnv_comp ?_) (by show 0≤sizeLine;decide)
 generalize hD:s2.heap.objs.size=D
 have hDn:H2 D=none:=I2.hok.fresh (Nat.le_of_eq hD)
 obtain ⟨W,⟨m0,w0⟩,turn⟩:=q D hDn
 -- the new list
 generalize hs3:({ s2 with heap:=s2.heap.push { cls:=.type "list",data:=.seq ([]:List Value).toArray } }:Shared)=s3
 have I3:Inv X pins σ (upd H2 D (.lst [])) s3:=by
  rw [← hs3]
  refine I2.laid (t':=s2.toks) (fun b o e=>Heap.get?_push_of_some _ e) (Nat.le_of_eq hD) ⟨Nat.zero_le _,[],0,.nil,?_⟩
  rw [← hD]
  exact Heap.get?_push_size _ rfl
 have h3:s3.heap=s2.heap.push { cls:=.type "list",data:=.seq ([]:List Value).toArray }:=by rw [← hs3]
 have sz:∀ b ∈ fp,b < s2.heap.objs.size:=fun b hb=>by
  obtain ⟨o,e,_⟩:=T.obj _ _ st2 b hb
  exact Heap.lt_size e
 have f3:∀ b ∈ fp,FpOk X pins (upd H2 D (.lst [])) b∧b < s3.heap.objs.size:=fun b hb=>by
  have hlt:=sz b hb
  refine ⟨⟨?_,(f2 b hb).2⟩,by rw [h3,Heap.size_push];exact Nat.lt_succ_of_lt hlt⟩
  rw [upd_ne (by rw [← hD];exact Nat.ne_of_lt hlt)]
  exact (f2 b hb).1
 have st3:tn 0 s3.heap:=T.keep _ _ _ st2 fun b _ o e=>by rw [h3];exact Heap.get?_push_of_some _ e
 have I4:=block_start I3 ok hN f3
 have pg:=hg s3 (upd H2 D (.lst [])) s3.heap.objs.size (cellsFrom (s3.heap.objs.size + 1) scope.names (cloFrom X.env.cells scope.names [])) fp
 have pt:=ht s3 (upd H2 D (.lst [])) s3.heap.objs.size (cellsFrom (s3.heap.objs.size + 1) scope.names (cloFrom X.env.cells scope.names [])) fp
 have pe:=he s3 (upd H2 D (.lst [])) s3.heap.objs.size (cellsFrom (s3.heap.objs.size + 1) scope.names (cloFrom X.env.cells scope.names [])) fp
 show codeAny _ _ (.compStart (.ListComp elt [⟨tg,iter,ifs,0⟩] scope pos) 0 (.ref it) (.ref D) (compEnvC scope (cellsFrom (s3.heap.objs.size + 1) scope.names (cloFrom X.env.cells scope.names [])) s3.heap.objs.size X.env)) (compPost (model X.prog X.w) X.A X.xe use Qf (.ref D) s3.heap.objs.size) { s3 with heap:=pushCells (s3.heap.push { cls:=.type "dict",data:=.dict #[] }) scope.names }
 have nfp:∀ b ∈ fp,(upd H2 D (.lst [])) b=none:=fun b hb=>(f3 b hb).1.1
 generalize hce:compEnvC scope (cellsFrom (s3.heap.objs.size + 1) scope.names (cloFrom X.env.cells scope.names [])) s3.heap.objs.size X.env=ce at I4 pg pt pe ⊢
 have cL:ce.locals=s3.heap.objs.size:=by subst hce;rfl
 generalize hH3:upd H2 D (.lst [])=H3 at I3 I4 pg pt pe w0 nfp f3
 generalize hs4:({ s3 with heap:=pushCells (s3.heap.push { cls:=.type "dict",data:=.dict #[] }) scope.names }:Shared)=s4 at I4 ⊢
 have st4:tn 0 s4.heap:=T.keep _ _ _ st3 fun b _ o e=>by rw [← hs4];exact pushCells_keeps _ _ _ _ (Heap.get?_push_of_some _ e)
 have stat:∀ {σ':St} {H':Hp} {s':Shared},Inv (X.blk s3 H3 scope ce fp) [] σ' H' s'->(∀ b ∈ fp,H' b=none)->∀ b ∈ fp,FpOk (X.blk s3 H3 scope ce fp) [] H' b:=fun {σ' H' s'} I' hn b hb =>
  ⟨hn b hb,(I'.ok.exf b hb).1,I'.ok.exfs b hb,.inl hb,fun x c e=>(I'.ok.exf b hb).2 x c e,fun p hp=>absurd (show p ∈ ([]:List (Addr × Obj))++[] from hp) (by simp)⟩
 have loop:codeAny (model X.prog X.w) X.A (.compLoop (.ListComp elt [⟨tg,iter,ifs,0⟩] scope pos) 0 (.ref it) (.ref D) ce) (compPost (model X.prog X.w) X.A X.xe use Qf (.ref D) s3.heap.objs.size) s4:=by
  refine compLoop_any (fun n s'=>∃ i H',Inv (X.blk s3 H3 scope ce fp) [] (wipe σ (own.map (·.2))) H' s'∧tn i s'.heap∧(∀ b ∈ fp,H' b=none)∧W i n H') ?_ m0 ⟨0,H3,I4,st4,nfp,w0⟩
  rintro n s5 ⟨i,H5,I5,st5,n5,w5⟩
  rcases turn i n H5 w5 with ⟨stop,qq⟩ | ⟨go,Nx,hNx,step⟩
  ·have td:=T.done (X.blk s3 H3 scope ce fp) rfl rfl rfl hc i [] s5 _ H5 (fun _ _=>False) I5 (stat I5 n5) st5 stop
   refine thnF td fun r s6 ⟨hr,I6⟩=>?_
   subst hr
   -- back in the def's context
   have I7:Inv X pins σ H5 s6:=I3.call' (ch:=fp) I6.os I6.base I6.hok I6.bare fun b hb=>⟨(f3 b hb).1.2.2.2.1,(f3 b hb).1.2.1,(f3 b hb).1.2.2.2.2.1,(f3 b hb).1.2.2.2.2.2⟩
   have nC:H5 s3.heap.objs.size=none:=by
    have z:H5 ce.locals=none:=I6.free
    rw [cL] at z
    exact z
   obtain ⟨m,hn,_⟩:=I6.loc
   have hn:s6.heap.Ns ce.locals m:=hn
   rw [cL] at hn
   exact hRR D s3.heap.objs.size s6 m H5 I7 qq hn (I3.fpOk (Nat.le_refl _) nC)
  ·have ti:=T.item (X.blk s3 H3 scope ce fp) rfl rfl rfl hc i [] s5 _ H5 (fun _ _=>False) I5 (stat I5 n5) st5 go
   refine thnF ti fun r s6 ⟨u,hr,h6⟩=>?_
   subst hr
   refine thnF h6 fun _ s7 ⟨x,H7,I7,r7,y7,st7,n7⟩=>?_
   have I7':=I7.pinned (stat I7 n7) (T.obj _ _ st7)
   refine thnF (pg _ s7 _ H7 x u _ I7' r7 (step x H7 y7)) fun _ s8 ⟨σ8,H8,I8,hw8,q8⟩=>?_
   refine thnF (pt _ s8 σ8 H8 _ I8 q8) fun b s9 ⟨H9,I9,q9⟩=>?_
   -- the turn's end
   have fin:∀ {s':Shared} {H':Hp},Inv (X.blk s3 H3 scope ce fp) ([]++pinsAt fp s7.heap) σ8 H' s'->Nx H'->∃ m,m < n∧∃ i H',Inv (X.blk s3 H3 scope ce fp) [] (wipe σ (own.map (·.2))) H' s'∧tn i s'.heap∧(∀ b ∈ fp,H' b=none)∧W i m H':=fun {s' H'} I' nx=>by
    obtain ⟨m',hm,w'⟩:=hNx H' nx
    have pin':∀ b ∈ fp,∀ o,s7.heap.get? b=some o->s'.heap.get? b=some o∧H' b=none:=fun b hb o e =>
     let z:=I'.pin (b,o) (List.mem_append_right _ (List.mem_append_right _ (mem_pinsAt hb e)))
     ⟨z.1,z.2.1⟩
    have hl:(wipe σ (own.map (·.2))).length=σ8.length:=by rw [← hw8,wipe_length]
    refine ⟨m',hm,i + 1,H',(I'.unpinned (pins:=[])).weak hl (fun j v e=>?_),T.keep _ _ _ st7 fun b hb o e=>(pin' b hb o e).1,fun b hb=>?_,w'⟩
    ·rw [← hw8] at e
     exact (wipe_some e).1
    ·obtain ⟨o,e,_⟩:=T.obj _ _ st7 b hb
     exact (pin' b hb o e).2
   cases b with
   | false =>
    simp only [Bool.false_eq_true,if_false] at q9 ⊢
    exact fin I9 q9
   | true =>
    simp only [if_true] at q9 ⊢
    refine thnF (pe _ s9 σ8 H9 _ I9 q9) fun z s10 ⟨yv,H10,I10,r10,acc,hD10,hz10,nx⟩=>?_
    exact app_ok (X:=X.blk s3 H3 scope ce fp) I10 hD10 hz10 r10 fun s11 I11=>fin I11 nx
 exact codeAny_compStart_list loop (T.self X.A 0 _ _ _ st4 loop)
theorem pe_lc {elt tg iter:Expr} {ifs:List Expr} {scope:Scope} {own:List (Str × Nat)} {pos:Pos} {wi:TI} {g:TG} {tt:TT} {te:TE} (hc:X.calm=true) (hN:X.N.Nodup) (hi:PI X tg iter wi) (ok:BlkOk X.N X.env.scope scope own)
  (hg:∀ (s:Shared) (H:Hp) (C:Addr) (cl:List (Str × Addr)) (fp:List Addr),PG (X.blk s H scope (compEnvC scope cl C X.env) fp) tg g) (ht:∀ (s:Shared) (H:Hp) (C:Addr) (cl:List (Str × Addr)) (fp:List Addr),PTs (X.blk s H scope (compEnvC scope cl C X.env) fp) ifs tt)
  (he:∀ (s:Shared) (H:Hp) (C:Addr) (cl:List (Str × Addr)) (fp:List Addr),PE (X.blk s H scope (compEnvC scope cl C X.env) fp) elt te) (hs:∀ x,foldedSetIterable iter X.env x=pure x:=by intro _;rfl) :
  PE X (.ListComp elt [⟨tg,iter,ifs,0⟩] scope pos) (tLc wi g tt te (own.map (·.2))):=by
 intro pins s σ H Q I h
 rw [eval_ListComp]
 refine lc_core hc hN I hi ok hg ht he hs h fun D C s' m H' I' q hn f=>⟨m,hn,fun h'' sb=>?_⟩
 obtain ⟨f0,f1,f2,f3,f4,f5⟩:=f
 exact ⟨.ref D,H',I'.turned (t':=s'.toks) (fun b o hb e=>(sb.2 b hb).trans e) f0 f1 f3 f4 f5,rfl,q⟩
theorem ps_setLc {i:Nat} {y:Str} {py:Pos} {elt tg iter:Expr} {ifs:List Expr} {scope:Scope} {own:List (Str × Nat)} {pos spos:Pos} {wi:TI} {g:TG} {tt:TT} {te:TE} (hc:X.calm=true) (hN:X.N.Nodup) (hy:X.N[i]? = some y) (hyl:X.env.scope.names.lookup y=some .local)
  (hsw:swapsWith (.ListComp elt [⟨tg,iter,ifs,0⟩] scope pos) (some (.Name y py)) spos.line X.env=pure true) (hi:PI X tg iter wi) (ok:BlkOk X.N X.env.scope scope own)
  (hg:∀ (s:Shared) (H:Hp) (C:Addr) (cl:List (Str × Addr)) (fp:List Addr),PG (X.blk s H scope (compEnvC scope cl C X.env) fp) tg g) (ht:∀ (s:Shared) (H:Hp) (C:Addr) (cl:List (Str × Addr)) (fp:List Addr),PTs (X.blk s H scope (compEnvC scope cl C X.env) fp) ifs tt)
  (he:∀ (s:Shared) (H:Hp) (C:Addr) (cl:List (Str × Addr)) (fp:List Addr),PE (X.blk s H scope (compEnvC scope cl C X.env) fp) elt te) (hs:∀ x,foldedSetIterable iter X.env x=pure x:=by intro _;rfl) :
  PS X (.Assign [.Name y py] (.ListComp elt [⟨tg,iter,ifs,0⟩] scope pos) spos) (tAsg (tLc wi g tt te (own.map (·.2))) (gName i)):=by
 intro pins s σ H D I h
 rw [exec_Assign_Name_used _ _ _ _ hsw]
 refine wpAny_bind (wpAny_standAt (wpAny_bind ?_))
 show wpAny _ X.A (do let _ ← comprehension (.ListComp elt [⟨tg,iter,ifs,0⟩] scope pos) scope X.env (firstIterPos [⟨tg,iter,ifs,0⟩] pos) (newList []) false (eval iter X.env) (some (assign (.Name y py) X.env))) _ _ s
 have h:tLc wi g tt te (own.map (·.2)) σ H (fun x H1=>gName i x σ H1 D.nx):=h
 refine wpAny_bind (thn (lc_core (Qf:=fun _ s'=>SP X pins D .next s') hc hN I hi ok hg ht he hs h fun L C s' m H' I' q hn f=>?_) fun _ s' hq=>wpAny_pure (wpAny_pure hq))
 show wpAny _ _ (assign (.Name y py) X.env (.ref L)) _ _ _
 refine wpAny_assign_Name (store_ok2 (v:=V.ref L) I' hN hy (.inl hyl) rfl (fun s2 I2 ⟨a,sb,ha⟩=>?_) (.inr hyl))
 obtain ⟨f0,f1,f2,f3,f4,f5⟩:=f
 have haC:C ≠ a:=by
  rcases ha with z | z
  ·rw [z];exact f1
  ·exact fun e=>f4 y a z e.symm
 refine ⟨m,hn.sameBut sb haC,fun h3 sb3=>?_⟩
 exact ⟨_,H',I2.turned (t':=s2.toks) (fun b o hb e=>(sb3.2 b hb).trans e) f0 f1 f3 f4 f5,q⟩
theorem sw_true {elt:Expr} {gs:List Comprehension} {scope:Scope} {pos py:Pos} {y:Str} {l:Nat} {env:Env} (hk:env.scope.kind = .function) (hy:env.scope.names.lookup y=some .local) (hl:(py.line == pos.line)=true)
  (ha:(scope.names.any fun (n,k)=>n == y && (k == .local || k == .cell))=false):swapsWith (.ListComp elt gs scope pos) (some (.Name y py)) l env=pure true:=by
 have ky:env.kindOf y=some .local:=hy
 have hb:env.blockKind = .function:=by unfold Env.blockKind;rw [hk];rfl
 unfold swapsWith
 simp only [hb,ky,ha,show (Expr.ListComp elt gs scope pos).pos=pos from rfl,hl]
 rfl
end
theorem lc_range {lo:Int} {n:Nat} {g:TG} {tt:TT} {te:TE} {vs:List Nat} {σ:St} {H1:Hp} {D:Addr} {Qd:Hp->Prop} (Pv:Nat->Hp->Prop) (h0:Pv 0 (upd H1 D (.lst [])))
  (hs:∀ i H,i < n->Pv i H->g (.int (lo + i)) (wipe σ vs) H fun σ2 H2=>wipe σ2 vs=wipe σ vs∧tt σ2 H2 fun b H3 =>
   if b=true then te σ2 H3 fun y H4=>∃ acc,H4 D=some (.lst acc)∧acc.length < sizeLine∧Pv (i + 1) (upd H4 D (.lst (acc++[y]))) else Pv (i + 1) H3) (hd:∀ H,Pv n H->Qd H) :
  ∃ W:Nat->Nat->Hp->Prop,(∃ m,W 0 m (upd H1 D (.lst [])))∧∀ i m H,W i m H →
   ((Itr lo n).stop i H∧Qd H)∨((Itr lo n).go i H∧∃ Nx:Hp->Prop,(∀ H',Nx H'->∃ m',m' < m∧W (i + 1) m' H')∧∀ x H',(Itr lo n).yld i H x H'->g x (wipe σ vs) H' fun σ2 H2=>wipe σ2 vs=wipe σ vs∧tt σ2 H2 fun b H3 =>
    if b=true then te σ2 H3 fun y H4=>∃ acc,H4 D=some (.lst acc)∧acc.length < sizeLine∧Nx (upd H4 D (.lst (acc++[y]))) else Nx H3):=by
 refine ⟨fun i m H=>m=n - i∧i≤n∧Pv i H,⟨n,by simp,Nat.zero_le _,h0⟩,?_⟩
 rintro i m H ⟨rfl,hi,p⟩
 by_cases hlt:i < n
 ·refine .inr ⟨hlt,Pv (i + 1),fun H' p'=>⟨n - (i + 1),by omega,rfl,hlt,p'⟩,fun x H' y=>?_⟩
  obtain ⟨e,y⟩:=y
  subst e y
  exact hs i _ hlt p
 ·have e:i=n:=by omega
  subst e
  exact .inl ⟨Nat.le_refl _,hd H p⟩
theorem lc_list {K:PySem.W.Frag} {a:Addr} {xs:List V} {g:TG} {tt:TT} {te:TE} {vs:List Nat} {σ:St} {H1:Hp} {D:Addr} {Qd:Hp->Prop} (Pv:Nat->Hp->Prop) (h0:Pv 0 (upd H1 D (.lst []))) (hl:∀ i H,i≤xs.length->Pv i H->SqL K H a xs)
  (hs:∀ i x H,xs[i]? = some x->Pv i H->g x (wipe σ vs) H fun σ2 H2=>wipe σ2 vs=wipe σ vs∧tt σ2 H2 fun b H3 =>
   if b=true then te σ2 H3 fun y H4=>∃ acc,H4 D=some (.lst acc)∧acc.length < sizeLine∧Pv (i + 1) (upd H4 D (.lst (acc++[y]))) else Pv (i + 1) H3) (hd:∀ H,Pv xs.length H->Qd H) :
  ∃ W:Nat->Nat->Hp->Prop,(∃ m,W 0 m (upd H1 D (.lst [])))∧∀ i m H,W i m H →
   ((Itl K a).stop i H∧Qd H)∨((Itl K a).go i H∧∃ Nx:Hp->Prop,(∀ H',Nx H'->∃ m',m' < m∧W (i + 1) m' H')∧∀ x H',(Itl K a).yld i H x H'->g x (wipe σ vs) H' fun σ2 H2=>wipe σ2 vs=wipe σ vs∧tt σ2 H2 fun b H3 =>
    if b=true then te σ2 H3 fun y H4=>∃ acc,H4 D=some (.lst acc)∧acc.length < sizeLine∧Nx (upd H4 D (.lst (acc++[y]))) else Nx H3):=by
 refine ⟨fun i m H=>m=xs.length - i∧i≤xs.length∧Pv i H,⟨xs.length,by simp,Nat.zero_le _,h0⟩,?_⟩
 rintro i m H ⟨rfl,hi,p⟩
 have q:=hl i H hi p
 by_cases hlt:i < xs.length
 ·refine .inr ⟨⟨xs,xs[i],q,by simp [hlt]⟩,Pv (i + 1),fun H' p'=>⟨xs.length - (i + 1),by omega,rfl,hlt,p'⟩,fun x H' y=>?_⟩
  obtain ⟨e,y⟩:=y
  subst e
  exact hs i x _ (y xs q) p
 ·have e:i=xs.length:=by omega
  subst e
  exact .inl ⟨⟨xs,q,Nat.le_refl _⟩,hd H p⟩
noncomputable def blkC (N:List Str) (sc scope:Scope) (own:List (Str × Nat)):Bool:=
 (match scope.kind with | .function=>true | _=>false) && (scope.names.all fun y=>decide (scope.names.lookup y.1=some y.2)) && (own.all fun p=>decide (N[p.2]? = some p.1)) &&
  (scope.names.all fun y=>match y.2 with
   | .free=>(match sc.names.lookup y.1 with | some .cell=>true | some .free=>true | _=>false)
   | .local=>decide (y.1 ∈ own.map (·.1)) || decide (y.1 ∉ N)
   | .cell=>decide (y.1 ∈ own.map (·.1)) || decide (y.1 ∉ N)
   | _=>true)
theorem blkOk_by {N:List Str} {sc scope:Scope} {own:List (Str × Nat)} (h:blkC N sc scope own=true):BlkOk N sc scope own:=by
 unfold blkC at h
 simp only [Bool.and_eq_true,List.all_eq_true,decide_eq_true_eq] at h
 obtain ⟨⟨⟨h1,h2⟩,h3⟩,h4⟩:=h
 refine ⟨?_,h2,h3,fun y hy e=>?_,fun y hy e=>?_⟩
 ·split at h1
  ·assumption
  ·cases h1
 ·have q:=h4 y hy
  simp only [e] at q
  split at q <;> first | exact .inl (by assumption) | exact .inr (by assumption) | cases q
 ·have q:=h4 y hy
  rcases e with e | e <;> (simp only [e,Bool.or_eq_true,decide_eq_true_eq] at q;exact q)
end L2
namespace L2
open PySem PySem.Spec PyProof.Rows
section
variable {κ:Type} [DecidableEq κ]
noncomputable def valV (kvs:List (κ × V)) (k:κ):Option V:=(kvs.find? fun kv=>decide (kv.1=k)).map (·.2)
noncomputable def putK (kvs:List (κ × V)) (k:κ) (v:V):List (κ × V):=
 if (kvs.any fun kv=>decide (kv.1=k))=true then kvs.map (fun kv=>if kv.1=k then (kv.1,v) else kv) else kvs++[(k,v)]
noncomputable def dropK (kvs:List (κ × V)) (k:κ):List (κ × V):=kvs.filter fun kv=>decide (kv.1 ≠ k)
theorem valV_pos {p:κ × V} {r:List (κ × V)} {k:κ} (e:p.1=k):valV (p::r) k=some p.2:=by simp [valV,List.find?_cons,e]
theorem valV_neg {p:κ × V} {r:List (κ × V)} {k:κ} (e:¬ p.1=k):valV (p::r) k=valV r k:=by simp [valV,List.find?_cons,e]
theorem valV_any (k:κ):∀ kvs:List (κ × V),(kvs.any fun kv=>decide (kv.1=k))=(valV kvs k).isSome
 | []=>rfl
 | p::r=>by
  rw [List.any_cons]
  by_cases e:p.1=k
  ·simp only [valV_pos e,decide_eq_true e,Bool.true_or,Option.isSome_some]
  ·rw [valV_neg e,decide_eq_false e,Bool.false_or];exact valV_any k r
theorem length_putK (kvs:List (κ × V)) (k:κ) (v:V):(putK kvs k v).length≤kvs.length + 1:=by
 unfold putK
 split
 ·rw [List.length_map];omega
 ·rw [List.length_append,List.length_cons,List.length_nil];omega
theorem putK_new {kvs:List (κ × V)} {k:κ} (v:V) (h:valV kvs k=none):putK kvs k v=kvs++[(k,v)]:=by
 unfold putK
 rw [valV_any,h]
 exact if_neg (by decide)
theorem RelO.isSome_eq {o:Option V} {u:Option Value} (r:RelO o u):o.isSome=u.isSome:=by
 cases o with
 | none=>cases u with
  | none=>rfl
  | some _=>exact (show False from r).elim
 | some _=>cases u with
  | none=>exact (show False from r).elim
  | some _=>rfl
theorem RelO.getD {o:Option V} {u:Option Value} {d:V} {d':Value} (r:RelO o u) (rd:RelV d d'):RelV (o.getD d) (u.getD d'):=by
 cases o with
 | none=>cases u with
  | none=>exact rd
  | some _=>exact (show False from r).elim
 | some _=>cases u with
  | none=>exact (show False from r).elim
  | some _=>exact r
theorem KV.val {kvs:List (κ × V)} {vs:List (κ × Value)} (r:KV kvs vs) (k:κ):RelO (valV kvs k) (valueAt vs k):=by
 unfold KV at r
 induction r with
 | nil=>exact True.intro
 | @cons p q ps qs h t ih =>
  obtain ⟨h1,h2⟩:=h
  by_cases e:p.1=k
  ·have e':q.1=k:=h1.symm.trans e
   have b:valueAt (q::qs) k=some q.2:=by simp [valueAt,List.find?_cons,e']
   rw [valV_pos e,b];exact h2
  ·have e':¬ q.1=k:=fun z=>e (h1.trans z)
   have b:valueAt (q::qs) k=valueAt qs k:=by simp [valueAt,List.find?_cons,e']
   rw [valV_neg e,b];exact ih
theorem KV.any {kvs:List (κ × V)} {vs:List (κ × Value)} (r:KV kvs vs) (k:κ):(kvs.any fun kv=>decide (kv.1=k))=vs.any fun kv=>decide (kv.1=k):=by
 unfold KV at r
 induction r with
 | nil=>rfl
 | cons h t ih=>rw [List.any_cons,List.any_cons,ih,h.1]
theorem KV.repl {kvs:List (κ × V)} {vs:List (κ × Value)} (r:KV kvs vs) (k:κ) {y:V} {u:Value} (ry:RelV y u) :
  KV (kvs.map fun kv=>if kv.1=k then (kv.1,y) else kv) (vs.map fun kv=>if kv.1=k then (kv.1,u) else kv):=by
 unfold KV at r ⊢
 induction r with
 | nil=>exact .nil
 | @cons p q ps qs h t ih =>
  rw [List.map_cons,List.map_cons]
  refine .cons ?_ ih
  obtain ⟨h1,h2⟩:=h
  by_cases e:p.1=k
  ·rw [if_pos e,if_pos (h1.symm.trans e)];exact ⟨h1,ry⟩
  ·rw [if_neg e,if_neg (fun z=>e (h1.trans z))];exact ⟨h1,h2⟩
theorem KV.put {kvs:List (κ × V)} {vs:List (κ × Value)} (r:KV kvs vs) (k:κ) {y:V} {u:Value} (ry:RelV y u):KV (putK kvs k y) (stored vs k u):=by
 unfold putK stored
 rw [r.any k]
 by_cases e:(vs.any fun kv=>decide (kv.1=k))=true
 ·rw [if_pos e,if_pos e];exact r.repl k ry
 ·rw [if_neg e,if_neg e];exact Paired.snoc r ⟨rfl,ry⟩
theorem KV.drop {kvs:List (κ × V)} {vs:List (κ × Value)} (r:KV kvs vs) (k:κ):KV (dropK kvs k) (without vs k):=by
 unfold KV at r ⊢
 unfold dropK without
 induction r with
 | nil=>exact .nil
 | @cons p q ps qs h t ih =>
  obtain ⟨h1,h2⟩:=h
  rw [List.filter_cons,List.filter_cons]
  by_cases e:p.1=k
  ·have a:¬ decide (p.1 ≠ k)=true:=by simp [e]
   have b:¬ decide (q.1 ≠ k)=true:=by simp [h1.symm.trans e]
   rw [if_neg a,if_neg b];exact ih
  ·have e':¬ q.1=k:=fun z=>e (h1.trans z)
   have a:decide (p.1 ≠ k)=true:=by simp [e]
   have b:decide (q.1 ≠ k)=true:=by simp [e']
   rw [if_pos a,if_pos b];exact .cons ⟨h1,h2⟩ ih
theorem KV.length {kvs:List (κ × V)} {vs:List (κ × Value)} (r:KV kvs vs):kvs.length=vs.length:=Paired.length r
theorem dropK_le (kvs:List (κ × V)) (k:κ):(dropK kvs k).length≤kvs.length:=List.length_filter_le _ _
end
theorem kV_is {P:Program} {w:World} {k:Key} {u:Value} (r:RelV (kV k) u):(mixKind P w).is k u=true:=by
 cases k with
 | inl i=>obtain ⟨t,e⟩:=(show ∃ t,u=Value.int i t from r);subst e;exact mixKind_int P w i t
 | inr x=>obtain ⟨t,e⟩:=(show ∃ t,u=Value.str x t from r);subst e;exact mixKind_str P w x t
theorem items_are {P:Program} {w:World}:∀ {ks:List Key} {us:List Value},Vals (ks.map kV) us->ItemsAre (mixKind P w) ks us
 | [],_,r=>by rw [List.map_nil] at r;cases r;exact .nil
 | k::ks,_,r=>by
  rw [List.map_cons] at r
  cases r with
  | cons h t=>exact .cons (kV_is h) (items_are t)
noncomputable abbrev KT (H:Hp):List (List Key × V)->List (List Key × Addr × Value)->Prop:=Paired fun p q=>p.1=q.1∧H q.2.1=some (.tup (p.1.map kV))∧RelV p.2 q.2.2
theorem KT.val {H:Hp} {kvs:List (List Key × V)} {xs:List (List Key × Addr × Value)} (r:KT H kvs xs) (k:List Key):RelO (valV kvs k) ((atKey xs k).map (·.2)):=by
 induction r with
 | nil=>exact True.intro
 | @cons p q ps qs h t ih =>
  obtain ⟨h1,_,h2⟩:=h
  by_cases e:p.1=k
  ·have e':q.1=k:=h1.symm.trans e
   have b:atKey (q::qs) k=some q.2:=by simp [atKey,List.find?_cons,e']
   rw [valV_pos e,b];exact h2
  ·have e':¬ q.1=k:=fun z=>e (h1.trans z)
   have b:atKey (q::qs) k=atKey qs k:=by simp [atKey,List.find?_cons,e']
   rw [valV_neg e,b];exact ih
theorem KT.repl {H:Hp} {kvs:List (List Key × V)} {xs:List (List Key × Addr × Value)} (r:KT H kvs xs) (k:List Key) {y:V} {u:Value} (ry:RelV y u) :
  KT H (kvs.map fun kv=>if kv.1=k then (kv.1,y) else kv) (xs.map (putAt k u)):=by
 induction r with
 | nil=>exact .nil
 | @cons p q ps qs h t ih =>
  rw [List.map_cons,List.map_cons]
  refine .cons ?_ ih
  obtain ⟨h1,h2,h3⟩:=h
  unfold putAt
  by_cases e:p.1=k
  ·rw [if_pos e,if_pos (h1.symm.trans e)];exact ⟨h1,h2,ry⟩
  ·rw [if_neg e,if_neg (fun z=>e (h1.trans z))];exact ⟨h1,h2,h3⟩
theorem KT.put {H:Hp} {kvs:List (List Key × V)} {xs:List (List Key × Addr × Value)} (r:KT H kvs xs) (k:List Key) {b:Addr} {y:V} {u:Value} (hb:H b=some (.tup (k.map kV))) (ry:RelV y u) :
  KT H (putK kvs k y) (storedH xs k b u):=by
 have e:(kvs.any fun kv=>decide (kv.1=k))=(atKey xs k).isSome:=by
  rw [valV_any,(r.val k).isSome_eq,Option.isSome_map]
 unfold putK storedH
 rw [e]
 by_cases q:(atKey xs k).isSome=true
 ·rw [if_pos q,if_pos q];exact r.repl k ry
 ·rw [if_neg q,if_neg q];exact Paired.snoc r ⟨rfl,hb,ry⟩
theorem KT.keeps {H H':Hp} {kvs:List (List Key × V)} {xs:List (List Key × Addr × Value)} (r:KT H kvs xs) (ht:∀ b ys,H b=some (.tup ys)->H' b=some (.tup ys)):KT H' kvs xs:=
 Paired.mapP r fun _ _ z=>⟨z.1,ht _ _ z.2.1,z.2.2⟩
section
variable {P:Program} {w:World} {H:Hp} {h:Heap} {a:Addr}
theorem rd_of {u:HO} (ok:HOk P w H h) (e:Rd H a u):ObjOk P w H h a u:=e.ok ok
theorem dk_rd {kvs:List (Key × V)} (ok:HOk P w H h) (e:Rd H a (.dK kvs)):kvs.length≤sizeLine∧(a == sysModules)=false∧∃ vs,KV kvs vs∧h.DictOf (mixKind P w) a vs:=
 show ObjOk P w H h a (.dK kvs) from rd_of ok e
theorem dk_of {kvs:List (Key × V)} (ok:HOk P w H h) (e:H a=some (.dK kvs)):kvs.length≤sizeLine∧(a == sysModules)=false∧∃ vs,KV kvs vs∧h.DictOf (mixKind P w) a vs:=dk_rd ok (.inl e)
theorem key_of {ks:List Key} (ok:HOk P w H h) (e:H a=some (.tup (ks.map kV))):(tupleKind (mixKind P w)).is h ks a:=by
 obtain ⟨_,its,r,o,h1,h2,n,h3⟩:=(show ObjOk P w H h a (.tup (ks.map kV)) from ok a _ e)
 exact ⟨o,its.toArray,n,h1,h2,h3,by simpa using items_are r⟩
theorem dt_rd {kvs:List (List Key × V)} (ok:HOk P w H h) (e:Rd H a (.dT kvs)):kvs.length≤sizeLine∧(a == sysModules)=false ∧
  ∃ xs,KT H kvs xs∧h.DictOfH (tupleKind (mixKind P w)) a xs:=by
 obtain ⟨z,y,xs,r,o,es,ep,h1,h2,h3,h4,h5⟩:=(show ObjOk P w H h a (.dT kvs) from rd_of ok e)
 refine ⟨z,y,xs,r,o,es,ep,h1,h2,h3,h4,fun x hx=>?_,h5⟩
 have all:∀ {l:List (List Key × V)} {m:List (List Key × Addr × Value)},KT H l m->∀ x ∈ m,(tupleKind (mixKind P w)).is h x.1 x.2.1:=by
  intro l m q
  induction q with
  | nil=>intro x hx;exact nomatch hx
  | @cons p q ps qs hq t ih =>
   intro x hx
   rcases List.mem_cons.mp hx with e | hx
   ·subst e
    exact key_of ok (by rw [← hq.1];exact hq.2.1)
   ·exact ih x hx
 exact all r x hx
theorem dt_of {kvs:List (List Key × V)} (ok:HOk P w H h) (e:H a=some (.dT kvs)):kvs.length≤sizeLine∧(a == sysModules)=false ∧
  ∃ xs,KT H kvs xs∧h.DictOfH (tupleKind (mixKind P w)) a xs:=dt_rd ok (.inl e)
end
noncomputable def DGet (H:Hp) (a:Addr) (y:V) (r:Option V):Prop:=
 (∃ kvs k,Rd H a (.dK kvs)∧y=kV k∧r=valV kvs k)∨∃ kvs k b,Rd H a (.dT kvs)∧y = .ref b∧H b=some (.tup (k.map kV))∧r=valV kvs k
noncomputable def DPut (H:Hp) (a:Addr) (y v:V) (H':Hp):Prop:=
 (∃ kvs k,H a=some (.dK kvs)∧y=kV k∧kvs.length < sizeLine∧H'=upd H a (.dK (putK kvs k v))) ∨
 ∃ kvs k b,H a=some (.dT kvs)∧y = .ref b∧H b=some (.tup (k.map kV))∧kvs.length < sizeLine∧H'=upd H a (.dT (putK kvs k v))
theorem DGet.k {H:Hp} {a:Addr} {kvs:List (Key × V)} {k:Key} (e:H a=some (.dK kvs)):DGet H a (kV k) (valV kvs k):=.inl ⟨kvs,k,.inl e,rfl,rfl⟩
theorem DPut.k {H:Hp} {a:Addr} {kvs:List (Key × V)} {k:Key} {v:V} (e:H a=some (.dK kvs)) (hl:kvs.length < sizeLine):DPut H a (kV k) v (upd H a (.dK (putK kvs k v))):=.inl ⟨kvs,k,e,rfl,hl,rfl⟩
section
variable {X:Cx} {pins:List (Addr × Obj)} {σ:St} {H:Hp} {s:Shared} {a:Addr} {y v:V} {u r:Value} {o:Option V} {A:Around} {E:Value->Shared->Prop}
theorem Inv.big (I:Inv X pins σ H s):sysModules < s.heap.objs.size:=by
 have h:mainGlobals < s.heap.objs.size:=(I.mod.glob.keeps I.bk).lt
 exact Nat.lt_trans (by decide) h
theorem d_getItem {Q:Value->Shared->Prop} (hu:A.units + 1 < cLine) (I:Inv X pins σ H s) (g:DGet H a y (some v)) (ry:RelV y u) (h:∀ w' s',Inv X pins σ H s'->RelV v w'->Q w' s') :
  wpAny (model X.prog X.w) A (getItem (.ref a) u) Q E s:=by
 rcases g with ⟨kvs,k,e,ey,l⟩ | ⟨kvs,k,b,e,ey,eb,l⟩
 ·subst ey
  obtain ⟨z,hd,vs,rel,dd⟩:=dk_rd I.hok e
  obtain ⟨w',hw,rw'⟩:=RelO.some_of (v:=v) (o:=valueAt vs k) (by rw [l];exact rel.val k)
  exact wpAny_getItem_of (kV_is ry) dd.mapOf hw (h w' _ (I.tok _) rw')
 ·subst ey
  cases (show u=Value.ref b from ry)
  obtain ⟨z,hd,xs,rel,dd⟩:=dt_rd I.hok e
  obtain ⟨w',hw,rw'⟩:=RelO.some_of (v:=v) (o:=(atKey xs k).map (·.2)) (by rw [l];exact rel.val k)
  obtain ⟨p,hp,hp2⟩:=Option.map_eq_some_iff.mp hw
  refine wpAny_getItem_heap (tupleKind_room_in1 hu) (key_of I.hok eb) dd hp ?_
  rw [hp2]
  exact h w' _ (I.tok _) rw'
theorem d_notIn {Q:Value->Shared->Prop} (hu:A.units + 1 < cLine) (I:Inv X pins σ H s) (g:DGet H a y o) (ry:RelV y u) (h:∀ s',Inv X pins σ H s'->Q (.bool (!o.isSome)) s') :
  wpAny (model X.prog X.w) A (compareOp .NotIn u (.ref a)) Q E s:=by
 rcases g with ⟨kvs,k,e,ey,l⟩ | ⟨kvs,k,b,e,ey,eb,l⟩
 ·subst ey
  obtain ⟨z,hd,vs,rel,dd⟩:=dk_rd I.hok e
  refine wpAny_notIn_of (kV_is ry) hd dd.mapOf ?_
  rw [← (rel.val k).isSome_eq,← l]
  exact h _ (I.tok _)
 ·subst ey
  cases (show u=Value.ref b from ry)
  obtain ⟨z,hd,xs,rel,dd⟩:=dt_rd I.hok e
  refine wpAny_notIn_heap (tupleKind_room_in1 hu) (key_of I.hok eb) hd dd ?_
  have q:=(rel.val k).isSome_eq
  rw [Option.isSome_map] at q
  rw [← q,← l]
  exact h _ (I.tok _)
theorem d_write {h':Heap} {t':Nat} {ob:HO} (I:Inv X pins σ H s) (mu:Mut (H a)) (hs:Heap.SameBut a s.heap h') (he:∃ q,h'.get? a=some q) (new:ObjOk X.prog X.w (upd H a ob) h' a ob) :
  Inv X pins σ (upd H a ob) { s with heap:=h',toks:=t' }:=
 I.write (x:=a) (e:=a) mu (.inl rfl) (fun b q hb z=>(hs.2 b hb).trans z) he new
theorem dk_new {P:Program} {w:World} {H':Hp} {h':Heap} {kvs:List (Key × V)} {vs:List (Key × Value)} (z:kvs.length≤sizeLine) (hd:(a == sysModules)=false) (rel:KV kvs vs) (dd:h'.DictOf (mixKind P w) a vs) :
  ObjOk P w H' h' a (.dK kvs):=⟨z,hd,vs,rel,dd⟩
theorem d_setItem {H':Hp} {Q:Unit->Shared->Prop} (hu:A.units + 1 < cLine) (I:Inv X pins σ H s) (g:DPut H a y v H') (ry:RelV y u) (rv:RelV v r) (h:∀ s',Inv X pins σ H' s'->Q () s') :
  wpAny (model X.prog X.w) A (setItem (.ref a) u r) Q E s:=by
 rcases g with ⟨kvs,k,e,ey,l,eH⟩ | ⟨kvs,k,b,e,ey,eb,l,eH⟩
 ·subst ey eH
  obtain ⟨z,hd,vs,rel,dd⟩:=dk_of I.hok e
  have hz:vs.length≤sizeLine:=by rw [← rel.length];exact z
  have hl:(putK kvs k v).length≤sizeLine:=by have:=length_putK kvs k v;omega
  refine wpAny_setItem_pairs (hsz:=hz) (kV_is ry) dd fun h' dd' hs=>h _ ?_
  have he:∃ q,h'.get? a=some q:=let ⟨q,_,_,hq,_⟩:=dd';⟨q,hq⟩
  exact d_write I (by rw [e];exact True.intro) hs he (dk_new hl hd (rel.put k rv) dd')
 ·subst ey eH
  cases (show u=Value.ref b from ry)
  obtain ⟨z,hd,xs,rel,dd⟩:=dt_of I.hok e
  have hz:xs.length≤sizeLine:=by rw [← Paired.length rel];exact z
  have hl:(putK kvs k v).length≤sizeLine:=by have:=length_putK kvs k v;omega
  refine wpAny_setItem_heap (hsz:=hz) (tupleKind_room_in1 hu) (key_of I.hok eb) dd fun h' dd' hs=>h _ ?_
  obtain ⟨q,es,ep,hq,h2,h3,h4,_,h5⟩:=dd'
  refine d_write I (by rw [e];exact True.intro) hs ⟨q,hq⟩ ⟨hl,hd,_,(rel.put k eb rv).keeps fun c ys ec=>?_,q,es,ep,hq,h2,h3,h4,h5⟩
  rw [upd_ne (ne_of ec e (fun z=>nomatch z))]
  exact ec
end
section
variable {X:Cx} {pins:List (Addr × Obj)} {σ:St} {H:Hp} {s:Shared} {a:Addr} {kvs:List (Key × V)} {k:Key} {u:Value} {A:Around} {E:Value->Shared->Prop}
theorem d_pop {v:V} {more:List Value} {Q:Value->Shared->Prop} (I:Inv X pins σ H s) (e:H a=some (.dK kvs)) (ry:RelV (kV k) u) (l:valV kvs k=some v) (hm:more=[]∨∃ x,more=[x])
  (h:∀ w' s',Inv X pins σ (upd H a (.dK (dropK kvs k))) s'->RelV v w'->Q w' s'):wpAny (model X.prog X.w) A (call (.builtin "dict.pop") (.ref a::u::more)) Q E s:=by
 obtain ⟨z,hd,vs,rel,dd⟩:=dk_of I.hok e
 obtain ⟨w',hw,rw'⟩:=RelO.some_of (v:=v) (o:=valueAt vs k) (by rw [← l];exact rel.val k)
 have hp:(keyPart u).isSome=true:=by
  cases k with
  | inl i=>obtain ⟨t,q⟩:=(show ∃ t,u=Value.int i t from ry);subst q;rfl
  | inr x=>obtain ⟨t,q⟩:=(show ∃ t,u=Value.str x t from ry);subst q;rfl
 have ha:argsOk "dict.pop" ⟨.ref a::u::more,[]⟩:=by
  rcases hm with q | ⟨x,q⟩
  ·subst q;exact PySem.F.args_dict_pop_2 _ _
  ·subst q;exact PySem.F.args_dict_pop_3 _ _ _
 refine call_meetsIn PySem.F.slot_dict_pop dd.typeIs PySem.F.entry_dict_pop ha (meets_dict_pop_there (mixKind X.prog X.w) a (kV_is ry) more hm hp)
  ⟨vs,w',dd,by rw [← rel.length];exact z,hw,fun h' dd' hs=>h w' _ ?_ rw'⟩
 have he:∃ q,h'.get? a=some q:=let ⟨q,_,_,hq,_⟩:=dd';⟨q,hq⟩
 exact d_write I (by rw [e];exact True.intro) hs he (dk_new (Nat.le_trans (dropK_le kvs k) z) hd (rel.drop k) dd')
theorem d_len {Q:Value->Shared->Prop} (I:Inv X pins σ H s) (e:Rd H a (.dK kvs)) (h:∀ t s',Inv X pins σ H s'->Q (.int kvs.length t) s'):wpAny (model X.prog X.w) A (call (.builtin "len") [.ref a]) Q E s:=by
 obtain ⟨z,hd,vs,rel,dd⟩:=dk_rd I.hok e
 refine call_len_dict hd dd (by rw [← rel.length];rw [sizeLine_eq] at z;omega) ?_
 rw [← rel.length]
 exact h _ _ (I.tok _)
end
noncomputable def NoSl (i:Expr):Prop:=∀ ov iv,subscripted i false ov iv=operate [ov,iv] (getItem ov iv)
theorem subD_of {prog:Program} {w:World} {A:Around} {E:Value->Shared->Prop} {s:Shared} {env:Env} {value slice:Expr} {pos:Pos} {T id:String} {Q:Value->Shared->Prop}
  (hl:typeLookup (.type T) "__getitem__" = pure (some (.builtin id))) (hs:NoSl slice)
  (h:wpAny (model prog w) A (eval value env) (fun o s₁=>wpAny (model prog w) A (eval slice env) (fun i s₂=>s₂.TypeIs o T∧wpAny (model prog w) A (getItem o i) Q E s₂) E s₁) E s) :
  wpAny (model prog w) A (eval (.Subscript value slice pos) env) Q E s:=by
 refine Subscript_ (wpAny_mono h (fun o s₁ h₁=>wpAny_mono h₁ (fun i s₂ h₂=>?_) fun _ _ x=>x) fun _ _ x=>x)
 obtain ⟨hT,h₂⟩:=h₂
 unfold subscriptTail
 refine wpAny_bind ?_
 rw [getitemInPython_of_ne hT.not_modules]
 refine wpAny_bind (wpAny_specialOf hT hl ?_)
 have fin:wpAny (model prog w) A (subscripted slice false o i) (fun r s₃=>wpAny (model prog w) A (letTemporaryGo value o r >>= fun _=>pure r) Q E s₃) E s₂:=by
  rw [hs o i]
  exact wpAny_operating (wpAny_mono h₂ (fun r s₃ h₃=>wpAny_bind (wpAny_letTemporaryGo (wpAny_pure h₃))) fun _ _ x=>x)
 first
  | exact wpAny_pure (wpAny_bind fin)
  | exact wpAny_bind (wpAny_pure (wpAny_bind fin))
  | exact wpAny_bind fin
theorem dict_typeIs {X:Cx} {pins:List (Addr × Obj)} {σ:St} {H:Hp} {s:Shared} {a:Addr} {y:V} {o:Option V} (I:Inv X pins σ H s) (g:DGet H a y o):s.TypeIs (.ref a) "dict":=by
 rcases g with ⟨kvs,k,e,_,_⟩ | ⟨kvs,k,b,e,_,_,_⟩
 ·obtain ⟨_,_,vs,_,dd⟩:=dk_rd I.hok e
  exact dd.typeIs
 ·obtain ⟨_,_,xs,_,dd⟩:=dt_rd I.hok e
  exact dd.typeIs
noncomputable def tDGet (td ty:TE):TE:=fun σ H Q=>td σ H fun x H1=>ty σ H1 fun y H2=>∃ a v,x = .ref a∧DGet H2 a y (some v)∧Q v H2
noncomputable def tDNotIn (ty td:TE):TE:=fun σ H Q=>ty σ H fun y H1=>td σ H1 fun x H2=>∃ a o,x = .ref a∧DGet H2 a y o∧Q (.bl (!o.isSome)) H2
noncomputable def sDPut (td ty tv:TE):TS:=fun D σ H=>tv σ H fun v H1=>td σ H1 fun x H2=>ty σ H2 fun y H3=>∃ a H4,x = .ref a∧DPut H3 a y v H4∧D.nx σ H4
section
variable {X:Cx} {o i e value:Expr} {pos pos' tpos:Pos} {td ty tv:TE}
theorem pe_dget (hu:X.A.units + 1 < cLine) (ho:PE X o td) (hi:PE X i ty) (hs:NoSl i):PE X (.Subscript o i pos) (tDGet td ty):=by
 intro pins s σ H Q I h
 refine subD_of PySem.F.slot_dict_getitem.lookup hs (thn (ho pins s σ H _ I h) fun u s1 ⟨x,H1,I1,rx,q1⟩=>thn (hi pins s1 σ H1 _ I1 q1) fun iv s2 ⟨y,H2,I2,ry,a,v,ex,g,q2⟩=>?_)
 subst ex
 obtain rfl:u=Value.ref a:=rx
 exact ⟨dict_typeIs I2 g,d_getItem hu I2 g ry fun w' s3 I3 rw'=>⟨v,H2,I3,rw',q2⟩⟩
theorem pc_dnotin (hu:X.A.units + 1 < cLine) (hi:PE X i ty) (ho:PE X o td):PC X .NotIn i o (tDNotIn ty td):=by
 intro pins s σ H Q I h
 refine thn (hi pins s σ H _ I h) fun iv s1 ⟨y,H1,I1,ry,q1⟩=>thn (ho pins s1 σ H1 _ I1 q1) fun u s2 ⟨x,H2,I2,rx,a,ov,ex,g,q2⟩=>?_
 subst ex
 obtain rfl:u=Value.ref a:=rx
 exact d_notIn hu I2 g ry fun s3 I3=>⟨.bl (!ov.isSome),H2,I3,rfl,q2⟩
theorem ps_dput (hu:X.A.units + 1 < cLine) (ho:PE X o td) (hi:PE X i ty) (hv:PE X value tv) (hs:swapsWith value (some (.Subscript o i pos')) pos.line X.env=pure false) :
  PS X (.Assign [.Subscript o i pos'] value pos) (sDPut td ty tv):=by
 intro pins s σ H D I h
 refine wpAny_Assign_Subscript (thn (hv pins s σ H _ I h) fun r s1 ⟨v,H1,I1,rv,q1⟩=>thn (ho pins s1 σ H1 _ I1 q1) fun u s2 ⟨x,H2,I2,rx,q2⟩=>thn (hi pins s2 σ H2 _ I2 q2) fun iv s3 ⟨y,H3,I3,ry,a,H4,ex,g,q3⟩=>?_) hs
 subst ex
 obtain rfl:u=Value.ref a:=rx
 exact d_setItem hu I3 g ry rv fun s4 I4=>⟨σ,H4,I4,q3⟩
end
theorem dk_empty {P:Program} {w:World} {H:Hp} (h:Heap) (hb:sysModules < h.objs.size):ObjOk P w H (h.push { cls:=.type "dict",data:=.dict #[] }) h.objs.size (.dK []):=
 ⟨Nat.zero_le _,beq_eq_false_iff_ne.mpr (Ne.symm (Nat.ne_of_lt hb)),[],.nil,Heap.DictOf.new h⟩
noncomputable def tDNewK:TE:=fun _ H Q=>∀ p,H p=none->Q (.ref p) (upd H p (.dK []))
section
variable {X:Cx} {pos:Pos}
theorem pe_dnewK:PE X (.Dict [] [] pos) tDNewK:=fun pins s σ H Q I h =>
 wpAny_Dict_empty ⟨.ref s.heap.objs.size,_,I.laid (a:=s.heap.objs.size) (o:=.dK []) (t':=s.toks) (fun _ _ q=>Heap.get?_push_of_some _ q) (Nat.le_refl _) (dk_empty s.heap I.big),rfl,h _ (I.hok.fresh (Nat.le_refl _))⟩
end
structure M1 (X:Cx) (o:Expr) (m:Str) (apos:Pos) (e:Expr) (cpos:Pos):Prop where
 base:attributeBase o m X.env (eval o X.env)=eval o X.env
 few:((backTo cpos (starEach [e] X.env)).all (fun x => !x.1) && (backToKw cpos (keywordEach [] X.env)).all (fun x=>x.1.isSome)
  && decide (([e]:List Expr).length + ([]:List Keyword).length + (if ([]:List Keyword).isEmpty then 0 else 1) < 30))=true
 line:(apos.endLine == cpos.line)=true
 trees:backTo cpos (starEach [e] X.env)=[(false,eval e X.env)]
structure M2 (X:Cx) (o:Expr) (m:Str) (apos:Pos) (e f:Expr) (cpos:Pos):Prop where
 base:attributeBase o m X.env (eval o X.env)=eval o X.env
 few:((backTo cpos (starEach [e,f] X.env)).all (fun x => !x.1) && (backToKw cpos (keywordEach [] X.env)).all (fun x=>x.1.isSome)
  && decide (([e,f]:List Expr).length + ([]:List Keyword).length + (if ([]:List Keyword).isEmpty then 0 else 1) < 30))=true
 line:(apos.endLine == cpos.line)=true
 trees:backTo cpos (starEach [e,f] X.env)=[(false,eval e X.env),(false,eval f X.env)]
noncomputable def IsD (H:Hp) (a:Addr):Prop:=(∃ kvs,Rd H a (.dK kvs))∨∃ kvs,Rd H a (.dT kvs)
theorem isD_at {X:Cx} {pins:List (Addr × Obj)} {σ:St} {H:Hp} {s:Shared} {a:Addr} (I:Inv X pins σ H s) (d:IsD H a) :
  s.TypeIs (.ref a) "dict" ∧ (∀ b,Value.ref a = .ref b->∃ ob,s.heap.get? b=some ob∧ob.dict=none)∧(a == sysModules)=false:=by
 rcases d with ⟨kvs,e⟩ | ⟨kvs,e⟩
 ·obtain ⟨_,hd,vs,_,dd⟩:=dk_rd I.hok e
  refine ⟨dd.typeIs,fun b q=>?_,hd⟩
  cases q
  obtain ⟨ob,_,_,h1,h2,_⟩:=dd
  exact ⟨ob,h1,h2.2.1⟩
 ·obtain ⟨_,hd,xs,_,dd⟩:=dt_rd I.hok e
  refine ⟨dd.typeIs,fun b q=>?_,hd⟩
  cases q
  obtain ⟨ob,_,_,h1,h2,_⟩:=dd
  exact ⟨ob,h1,h2.2.1⟩
noncomputable def tDPop1 (td ty:TE):TE:=fun σ H Q=>td σ H fun x H1=>∃ a,x = .ref a∧IsD H1 a∧ty σ H1 fun y H2=>∃ kvs k v,H2 a=some (.dK kvs)∧y=kV k∧valV kvs k=some v∧Q v (upd H2 a (.dK (dropK kvs k)))
section
variable {X:Cx} {o e f:Expr} {apos cpos:Pos} {td ty tx:TE}
theorem pe_dpop1 (ho:PE X o td) (he:PE X e ty) (m:M1 X o "pop" apos e cpos):PE X (.Call (.Attribute o "pop" apos) [e] [] cpos) (tDPop1 td ty):=by
 intro pins s σ H Q I h
 refine wpAny_Call_method m.base m.few m.line PySem.F.plainAttrs_dict PySem.F.slot_dict_pop PySem.F.type_dict_pop (thn (ho pins s σ H _ I h) fun u s1 ⟨x,H1,I1,rx,a,ex,d,q1⟩=>?_)
 subst ex
 obtain rfl:u=Value.ref a:=rx
 obtain ⟨t1,t2,_⟩:=isD_at I1 d
 refine ⟨t1,t2,?_⟩
 rw [m.trees]
 refine Calls.callWith_builtin rfl (Calls.evalArgs_plain (Calls.spliced_cons (thn (he pins s1 σ H1 _ I1 q1) fun iv s2 ⟨y,H2,I2,ry,kvs,k,v,ea,ey,l,q2⟩=>Calls.spliced_nil ?_)))
 subst ey
 exact d_pop I2 ea ry l (.inl rfl) fun w' s3 I3 rw'=>⟨v,_,I3,rw',q2⟩
end
end L2
namespace L2
open PySem PySem.Spec PyProof.Rows
section
variable {X:Cx} {pins:List (Addr × Obj)} {σ:St} {H:Hp} {s:Shared} {h':Heap}
theorem Inv.lock {d:Addr} {u:HO} (I:Inv X pins σ H s) (h:H d=some u) (mu:Mut (some u)):∃ od,Inv X pins σ (upd H d (.frz od u)) s:=by
 have x:=I.hok d u h
 have ex:∃ od,s.heap.get? d=some od:=by
  cases u with
  | lst xs=>obtain ⟨_,_,_,_,e⟩:=x;exact ⟨_,e⟩
  | dK kvs=>obtain ⟨_,_,_,_,o,_,_,e,_⟩:=x;exact ⟨o,e⟩
  | dT kvs=>obtain ⟨_,_,_,_,o,_,_,e,_⟩:=x;exact ⟨o,e⟩
  | set S n=>obtain ⟨o,_,_,_,e,_⟩:=x;exact ⟨o,e⟩
  | ins C dx fs=>obtain ⟨_,_,_,e,_⟩:=x;exact ⟨_,e⟩
  | ext φ=>obtain ⟨_,⟨_,e⟩,_⟩:=x;exact ⟨_,e⟩
  | _=>exact False.elim mu
 obtain ⟨od,e⟩:=ex
 have new:ObjOk X.prog X.w (upd H d (.frz od u)) s.heap d (.frz od u):=by
  refine ⟨e,x.stay (fun b v _ q=>q) (fun b q=>?_) fun b xs q=>?_⟩
  ·rw [upd_ne (fun z=>by rw [z,h] at q;cases q;exact mu)];exact q
  ·rw [upd_ne (fun z=>by rw [z,h] at q;cases q;exact mu)];exact q
 exact ⟨od,I.write (x:=d) (e:=d) (t':=s.toks) (h':=s.heap) (by rw [h];exact mu) (.inl rfl) (fun b v _ q=>q) ⟨od,e⟩ new⟩
theorem Inv.nofrz {d:Addr} {u:HO} (I:Inv X pins σ H s) (h:H d=some u) (mu:Mut (some u)):∀ o' u',X.H_0 d ≠ some (.frz o' u'):=fun o' u' e=>by
 have q:=I.base.frzs d o' u' e
 rw [h] at q
 cases q
 exact mu
theorem Inv.unlock {d:Addr} {od:Obj} {u:HO} (I:Inv X pins σ H s) (h:H d=some (.frz od u)) (hn:∀ o' u',X.H_0 d ≠ some (.frz o' u')):Inv X pins σ (upd H d u) s:=by
 have neH:∀ b o,H b=some o->(∀ o' u',o ≠ .frz o' u')->b ≠ d:=fun b o e hne z=>by
  rw [z,h] at e
  cases e
  exact hne _ _ rfl
 have neN:∀ b,H b=none->b ≠ d:=fun b e z=>by rw [z,h] at e;cases e
 refine ⟨I.ok,I.os,I.bare,⟨I.base.keep,I.base.slot,fun b o e n hx=>?_,I.base.there,fun b xs e=>?_,fun b o x e=>?_,fun b ps e=>?_⟩,I.loc,I.cell,?_,fun x c e=>?_,fun p hp=>?_,fun b o e=>?_,I.len⟩
 ·rw [upd_ne (neN b (I.base.free b o e n hx))];exact I.base.free b o e n hx
 ·have q:=I.base.tups b xs e
  rw [upd_ne (neH b _ q (fun _ _ z=>nomatch z))];exact q
 ·have q:=I.base.frzs b o x e
  rw [upd_ne (fun z=>by rw [z] at e;exact hn _ _ e)];exact q
 ·obtain ⟨m,q⟩:=I.base.tbls b ps e
  exact ⟨m,by rw [upd_ne (neH b _ q (fun _ _ z=>nomatch z))];exact q⟩
 ·rw [upd_ne (neN _ I.free)];exact I.free
 ·rw [upd_ne (neN c (I.freeC x c e))];exact I.freeC x c e
 ·obtain ⟨e,n,r⟩:=I.pin p hp
  exact ⟨e,by rw [upd_ne (neN _ n)];exact n,r⟩
 ·by_cases hb:b=d
  ·rw [hb,upd_same] at e
   cases e
   rw [hb]
   obtain ⟨_,x⟩:=I.hok d _ h
   exact x.stay (fun c v _ q=>q) (fun c q=>by rw [upd_ne (neH c _ q (fun _ _ z=>nomatch z))];exact q) fun c xs q=>by rw [upd_ne (neH c _ q (fun _ _ z=>nomatch z))];exact q
  ·rw [upd_ne hb] at e
   exact (I.hok b o e).stay (fun c v _ q=>q) (fun c q=>by rw [upd_ne (neH c _ q (fun _ _ z=>nomatch z))];exact q) fun c xs q=>by rw [upd_ne (neH c _ q (fun _ _ z=>nomatch z))];exact q
end
noncomputable def tLock (t:TS):TS:=fun D σ H=>∃ d u,H d=some u∧Mut (some u)∧∀ od,t ⟨fun σ' H'=>H' d=some (.frz od u)∧D.nx σ' (upd H' d u),fun v H'=>H' d=some (.frz od u)∧D.rt v (upd H' d u),fun σ' H'=>H' d=some (.frz od u)∧D.bk σ' (upd H' d u),fun σ' H'=>H' d=some (.frz od u)∧D.ct σ' (upd H' d u)⟩ σ (upd H d (.frz od u))
section
variable {X:Cx}
theorem ps_lock {st:Stmt} {t:TS} (h:PS X st t):PS X st (tLock t):=by
 intro pins s σ H D I hw
 obtain ⟨d,u,hd,mu,hw⟩:=hw
 obtain ⟨od,I1⟩:=I.lock hd mu
 refine thn (h pins s σ _ _ I1 (hw od)) fun f s1 q=>?_
 cases f with
 | next=>obtain ⟨σ',H',I2,e,q⟩:=q;exact ⟨σ',_,I2.unlock e (I.nofrz hd mu),q⟩
 | brk=>obtain ⟨σ',H',I2,e,q⟩:=q;exact ⟨σ',_,I2.unlock e (I.nofrz hd mu),q⟩
 | cont=>obtain ⟨σ',H',I2,e,q⟩:=q;exact ⟨σ',_,I2.unlock e (I.nofrz hd mu),q⟩
 | ret v=>obtain ⟨x,σ',H',I2,r,e,q⟩:=q;exact ⟨x,σ',_,I2.unlock e (I.nofrz hd mu),r,q⟩
theorem pi_one {tg:Expr} {pins:List (Addr × Obj)} {σ:St} {H:Hp} {s:Shared} {R:It->Hp->Prop} {J:It} {tn:Nat->Heap->Prop} {tk:Nat} (I:Inv X pins σ H s) (o:Obj)
  (T:Turn X.prog X.w X.K tg J [s.heap.objs.size] s.heap.objs.size tn) (st:tn 0 (s.heap.push o)) (q:R J H):PIE X pins σ tg R (.ref s.heap.objs.size) { s with heap:=s.heap.push o,toks:=tk }:=by
 refine ⟨s.heap.objs.size,[s.heap.objs.size],tn,J,H,rfl,I.kept fun b ob e=>Heap.get?_push_of_some _ e,T,st,fun b hb=>?_,q⟩
 have e:b=s.heap.objs.size:=by simpa using hb
 subst e
 exact I.fpOk (Nat.le_refl _) (I.hok.fresh (Nat.le_refl _))
end
noncomputable def Its (x:Str):It:=⟨fun i _=>i < x.cps.size,fun i H v H'=>H'=H∧∃ c,x.cps[i]? = some c∧v = .str ⟨#[c]⟩,fun i _=>x.cps.size≤i⟩
theorem turn_str {P:Program} {w:World} {K:PySem.W.Frag} {tg:Expr} (it:Addr) (x:Str) (t:Tok) (ty:String) (hty:ty = "str_ascii_iterator" ∨ ty = "str_iterator") :
  Turn P w K tg (Its x) [it] it (fun i h=>h.IsStrIter it ty x t i) where
 mem:=by simp
 obj:=fun i h st b hb=>by
  have e:b=it:=by simpa using hb
  subst e
  obtain ⟨o,e,c,d⟩:=st
  exact ⟨o,e,fun v z=>by rw [d] at z;cases z⟩
 keep:=fun i h h' st k=>let ⟨o,ho,r⟩:=st;⟨o,k it (by simp) o ho,r⟩
 item:=by
  intro X hP hw hK hc i pins s σ H E I hf st hg
  subst hP hw hK
  obtain ⟨f0,f1,f2,f3,f4,f5⟩:=hf it (by simp)
  have W:Walks X.prog X.w X.A it [it] [it] x.cps.size (SignAt x) (fun i h=>h.IsStrIter it ty x t i):=by
   rcases hty with e | e
   ·rw [e];exact Walks.strAscii (I.ok.hd hc) it x t
   ·rw [e];exact Walks.strWide (I.ok.hd hc) it x t
  have hno:["enumerate","zip","dict_itemiterator","dict_reverseitemiterator","odict_iterator","itertools.zip_longest","itertools.pairwise"].contains ty=false:=by
   rcases hty with e | e
   ·rw [e];decide
   ·rw [e];decide
  refine W.item i s _ _ hg st fun v h' tk hv st' kk=>?_
  obtain ⟨c,u,hcx,rfl⟩:=hv
  have I1:Inv X pins σ H { s with heap:=h',toks:=tk }:=I.turned (fun b o hb e=>kk b o (by simpa using hb) e) f0 f1 f3 f4 f5
  obtain ⟨oi,e,cc,dd⟩:=id st'
  exact ⟨_,rfl,go_of (s:={ s with heap:=h',toks:=tk }) e cc dd hno ⟨.str ⟨#[c]⟩,H,I1,⟨u,rfl⟩,⟨rfl,c,hcx,rfl⟩,st',fun b hb=>(hf b hb).1⟩⟩
 done:=by
  intro X hP hw hK hc i pins s σ H E I hf st hg
  subst hP hw hK
  obtain ⟨f0,f1,f2,f3,f4,f5⟩:=hf it (by simp)
  have hx:x.cps[i]? = none:=Array.getElem?_eq_none hg
  rcases hty with e | e
  ·rw [e] at st
   exact wpAny_pyNext_ascii_end (I.ok.hd hc) st hx fun h' eb=>⟨rfl,I.turned (t':=s.toks) (fun b o hb e=>eb b o hb e) f0 f1 f3 f4 f5⟩
  ·rw [e] at st
   exact wpAny_pyNext_wide_end (I.ok.hd hc) st hx fun h' eb=>⟨rfl,I.turned (t':=s.toks) (fun b o hb e=>eb b o hb e) f0 f1 f3 f4 f5⟩
 self:=fun A i s Q E st h=>by
  rcases hty with e | e
  ·rw [e] at st;exact wpAny_pyIter_striter_ascii st h
  ·rw [e] at st;exact wpAny_pyIter_striter_wide st h
noncomputable def iStr (te:TE):TI:=fun σ H R=>te σ H fun v H1=>∃ x,v = .str x∧R (Its x) H1
theorem pi_str {X:Cx} {tg e:Expr} {te:TE} (he:PE X e te):PI X tg e (iStr te):=by
 intro pins s σ H R I h
 refine thn (he pins s σ H _ I h) fun v s1 ⟨y,H1,I1,r1,x,ex,q⟩=>?_
 subst ex
 obtain ⟨t,rfl⟩:=r1
 cases ha:x.cps.all (· < 128)
 ·exact wpAny_pyIter_wide ha (pi_one (tk:=s1.toks) I1 _ (turn_str _ x t "str_iterator" (.inr rfl)) ⟨_,Heap.get?_push_size _ rfl,rfl,rfl⟩ q)
 ·exact wpAny_pyIter_ascii ha (pi_one (tk:=s1.toks) I1 _ (turn_str _ x t "str_ascii_iterator" (.inl rfl)) ⟨_,Heap.get?_push_size _ rfl,rfl,rfl⟩ q)
theorem kv_get {κ:Type} {kvs:List (κ × V)} {vs:List (κ × Value)} (h:KV kvs vs):∀ {i:Nat} {k:κ} {v:V},kvs[i]? = some (k,v)->∃ u,vs[i]? = some (k,u)∧RelV v u:=by
 unfold KV at h
 induction h with
 | nil=>intro i k v e;simp at e
 | @cons a b l₁ l₂ r t ih =>
  intro i k v e
  cases i with
  | zero =>
   simp only [List.getElem?_cons_zero,Option.some.injEq] at e
   subst e
   refine ⟨b.2,?_,r.2⟩
   simp only [List.getElem?_cons_zero]
   exact congrArg some (Prod.ext r.1.symm rfl)
  | succ j =>
   simp only [List.getElem?_cons_succ] at e ⊢
   exact ih e
section
variable {X:Cx} {pins:List (Addr × Obj)} {σ:St} {H:Hp} {s:Shared} {d:Addr} {o:Obj}
theorem Inv.frzK {kvs:List (Key × V)} (I:Inv X pins σ H s) (h:H d=some (.frz o (.dK kvs))) :
  (d == sysModules)=false∧s.heap.get? d=some o∧o.ExactDict∧∃ (es:Array DictEntry) (ep:Nat) (vs:List (Key × Value)),o.data = .dict es ep∧es.size=kvs.length∧KV kvs vs∧s.heap.DictAt (mixKind X.prog X.w) d vs ep:=by
 obtain ⟨hd,z,hs,vs,kv,o',es,ep,ho,hx,hdt,r⟩:=I.hok d _ h
 rw [hd] at ho
 cases ho
 refine ⟨hs,hd,hx,es,ep,vs,hdt,?_,kv,o,es,hd,hx,hdt,r⟩
 have l1:=r.2.1.length
 have l2:kvs.length=vs.length:=Paired.length kv
 rw [Array.length_toList] at l1
 omega
end
noncomputable def Itd (d:Addr) (o:Obj) (kvs:List (Key × V)):It:=
 ⟨fun i H=>H d=some (.frz o (.dK kvs))∧i < kvs.length,fun i H x H'=>H'=H∧∃ k,kvs[i]? = some (k,x),fun i H=>H d=some (.frz o (.dK kvs))∧kvs.length≤i⟩
theorem dict_ep {o:Obj} {es es':Array DictEntry} {ep ep':Nat} (h:o.data = .dict es ep) (h':o.data = .dict es' ep'):es'=es∧ep'=ep:=by
 rw [h] at h'
 cases h'
 exact ⟨rfl,rfl⟩
section
variable {P:Program} {w:World} {K:PySem.W.Frag} {tg:Expr} {d:Addr} {o:Obj} {es:Array DictEntry} {ep:Nat}
theorem turn_vals {kvs:List (Key × V)} (it:Addr) (hod:o.data = .dict es ep):Turn P w K tg (Itd d o kvs) [it] it (fun i h=>h.IsValIter it d i kvs.length ep) where
 mem:=by simp
 obj:=fun i h st b hb=>by
  have e:b=it:=by simpa using hb
  subst e
  obtain ⟨oi,e,c,dd⟩:=st
  exact ⟨oi,e,fun v z=>by rw [dd] at z;cases z⟩
 keep:=fun i h h' st k=>st.at fun oi e=>k it (by simp) oi e
 item:=by
  intro X hP hw hK hc i pins s σ H E I hf st hg
  subst hP hw hK
  obtain ⟨hd,hi⟩:=hg
  obtain ⟨f0,f1,f2,f3,f4,f5⟩:=hf it (by simp)
  obtain ⟨hs,hgd,hx,es',ep',vs,hdt,hsz,kv,hm⟩:=I.frzK hd
  obtain ⟨rfl,rfl⟩:=dict_ep hod hdt
  obtain ⟨⟨k,v⟩,hkv⟩:∃ p,kvs[i]? = some p:=⟨kvs[i],List.getElem?_eq_getElem hi⟩
  obtain ⟨u,hu,ru⟩:=kv_get kv hkv
  have hl:kvs.length=vs.length:=Paired.length kv
  rw [hl] at st
  refine wpAny_pyNext_values_item st hm hu fun h' st' sb=>?_
  have I1:Inv X pins σ H { s with heap:=h' }:=I.turned (t':=s.toks) (fun b ob hb e=>(sb.2 b hb).trans e) f0 f1 f3 f4 f5
  obtain ⟨oi,e,c,dd⟩:=id st'
  refine ⟨u,rfl,go_of (s:={ s with heap:=h' }) e c dd (by decide) ⟨v,H,I1,ru,⟨rfl,k,hkv⟩,?_,fun b hb=>(hf b hb).1⟩⟩
  show h'.IsValIter it d (i + 1) kvs.length _
  rw [hl]
  exact st'
 done:=by
  intro X hP hw hK hc i pins s σ H E I hf st hg
  subst hP hw hK
  obtain ⟨hd,hi⟩:=hg
  obtain ⟨f0,f1,f2,f3,f4,f5⟩:=hf it (by simp)
  obtain ⟨hs,hgd,hx,es',ep',vs,hdt,hsz,kv,hm⟩:=I.frzK hd
  obtain ⟨rfl,rfl⟩:=dict_ep hod hdt
  have hl:kvs.length=vs.length:=Paired.length kv
  rw [hl] at st
  exact wpAny_pyNext_values_end (I.ok.hd hc) st hm (List.getElem?_eq_none (by omega)) fun h' eb=>⟨rfl,I.turned (t':=s.toks) (fun b ob hb e=>eb b ob hb e) f0 f1 f3 f4 f5⟩
 self:=fun A i s Q E st h=>wpAny_pyIter_valiter st h
end
noncomputable def iVals (td:TE):TI:=fun σ H R=>td σ H fun x H1=>∃ d o kvs,x = .ref d∧H1 d=some (.frz o (.dK kvs))∧R (Itd d o kvs) H1
section
variable {X:Cx} {tg e:Expr} {td:TE} {apos cpos:Pos}
theorem pi_values (he:PE X e td) (hbase:attributeBase e "values" X.env (eval e X.env)=eval e X.env:=by rfl) (hline:(apos.endLine == cpos.line)=true:=by rfl):PI X tg (.Call (.Attribute e "values" apos) [] [] cpos) (iVals td):=by
 intro pins s σ H R I h
 refine wpAny_Call_method (T := "dict") (id := "dict.values") hbase rfl hline F.plainAttrs_dict F.slot_dict_values F.type_dict_values (thn (he pins s σ H _ I h) fun u s1 ⟨x,H1,I1,rx,d,o,kvs,ex,hd,q⟩=>?_)
 subst ex
 obtain rfl:u=Value.ref d:=rx
 obtain ⟨hs,hgd,hx,es,ep,vs,hdt,hsz,kv,hm⟩:=I1.frzK hd
 have hl:kvs.length=vs.length:=Paired.length kv
 refine ⟨hm.dictOf.typeIs,hm.dictOf.mapOf.noDict,?_⟩
 have I2:Inv X pins σ H1 { s1 with heap:=s1.heap.push { cls:=.type "dict_values",data:=.fields #[.ref d] } }:=I1.kept (t':=s1.toks) fun b ob q=>Heap.get?_push_of_some _ q
 have fin:wpAny (model X.prog X.w) X.A (pyIter (.ref s1.heap.objs.size)) (PIE X pins σ tg R) X.xe { s1 with heap:=s1.heap.push { cls:=.type "dict_values",data:=.fields #[.ref d] } }:=by
  refine wpAny_pyIter_values (d:=d) (knd:=mixKind X.prog X.w) ⟨_,Heap.get?_push_size _ rfl,rfl,rfl⟩ (hm.push _) (pi_one (tk:=s1.toks) I2 _ (turn_vals _ hdt) ⟨_,Heap.get?_push_size _ rfl,rfl,?_⟩ q)
  rw [hl] <;> rfl
 show wpAny _ _ (callWith cpos (.builtin "dict.values") [.ref d] [] []) _ X.xe s1
 exact method_meetsIn F.slot_dict_values F.entry_dict_values rfl (PySem.evalArgs_none ⟨rfl,hm.dictOf.typeIs,F.args_dict_values_1 _,_,meets_dict_values (mixKind X.prog X.w) d hs,⟨vs,hm.dictOf⟩,fin⟩)
end
end L2
section
namespace TL
open PySem PySem.Builtin PySem.Builtin.Str PySem.StrLaws
noncomputable abbrev tl (x:Str):List Nat:=x.cps.toList
theorem len_tl (x:Str):x.length=(tl x).length:=by simp [tl,Str.length]
theorem tl_append (x y:Str):tl (x++y)=tl x++tl y:=by
 show (x++y).cps.toList=_
 rw [Str.cps_append,Array.toList_append]
theorem tl_ofString (s:String):tl (Str.ofString s)=s.toList.map Char.toNat:=PyProof.Rows.signs_ofString s
theorem len1 {y:Str} (hy:tl y ≠ []):1≤y.length:=by
 have e2:0 < (tl y).length:=List.length_pos_iff.mpr hy
 rw [len_tl y]
 exact e2
noncomputable def numL (n:Nat):List Nat:=(Nat.toDigits 10 n).map Char.toNat
theorem tl_num (n:Nat):tl (Str.ofString (toString ((n:Nat):Int)))=numL n:=PySem.W.KIN.signs_num n
theorem digitChar_nat:∀ d:Nat,d < 10->(Nat.digitChar d).toNat=48 + d:=by decide
theorem numL_lt {n:Nat} (h:n < 10):numL n=[48 + n]:=by
 unfold numL
 rw [Nat.toDigits_of_lt_base h]
 show [(Nat.digitChar n).toNat]=_
 rw [digitChar_nat n h]
theorem numL_step {n:Nat} (h:10≤n):numL n=numL (n / 10)++[48 + n % 10]:=by
 have hm:n % 10 < 10:=Nat.mod_lt n (by decide)
 have t:Nat.toDigits 10 (n / 10)++Nat.toDigits 10 (n % 10)=Nat.toDigits 10 (10 * (n / 10) + n % 10):=Nat.toDigits_append_toDigits (by decide) (by omega) hm
 rw [Nat.div_add_mod] at t
 show (Nat.toDigits 10 n).map Char.toNat=_
 rw [← t,List.map_append,Nat.toDigits_of_lt_base hm]
 show (Nat.toDigits 10 (n / 10)).map Char.toNat++[(Nat.digitChar (n % 10)).toNat]=_
 rw [digitChar_nat _ hm] <;> rfl
theorem numL_digits (n:Nat):NumText.AllDigits (numL n):=by
 induction n using Nat.strongRecOn with
 | _ n ih =>
  by_cases h:n < 10
  ·rw [numL_lt h]
   intro c hc
   rw [List.mem_singleton.mp hc]
   omega
  ·rw [numL_step (by omega)]
   intro c hc
   rcases List.mem_append.mp hc with hc | hc
   ·exact ih (n / 10) (by omega) c hc
   ·have hm:n % 10 < 10:=Nat.mod_lt n (by decide)
    rw [List.mem_singleton.mp hc]
    omega
end TL
end
namespace L2
open PySem PySem.Spec PyProof.Rows
noncomputable def inClass (s:Stmt) (j:Nat):Stmt:=match s with
 | .ClassDef _ _ _ body _ _ _ _ _ _ _=>body.getD j (.Pass ⟨0,0,0,0⟩)
 | _=>.Pass ⟨0,0,0,0⟩
noncomputable def defArgs (s:Stmt):Arguments:=match s with
 | .FunctionDef _ a _ _ _ _ _ _ _ _=>a
 | _=>{ posonlyargs:=[],args:=[],vararg:=none,kwonlyargs:=[],kw_defaults:=[],kwarg:=none,defaults:=[] }
noncomputable def defBody (s:Stmt):List Stmt:=match s with
 | .FunctionDef _ _ b _ _ _ _ _ _ _=>b
 | _=>[]
noncomputable def defScope (s:Stmt):Scope:=match s with
 | .FunctionDef _ _ _ _ _ _ sc _ _ _=>sc
 | _=>{ kind:=.function,names:=[],isGenerator:=false,isCoroutine:=false }
noncomputable abbrev CX0:CXT:=fun _ _ _ _ _ _=>False
noncomputable abbrev E0:XK:=fun _ _ _=>False
theorem pass0 {X:Cx}:Passes CX0 X E0:=fun _ _ _ _ _ _ _ h=>h.elim
structure Fun (K:PySem.W.Frag) (x qual:Str) (st:Stmt) (f:Addr) (fd:FuncData):Prop where
 ex:∃ (oc:Value) (od:Option Addr) (kV doc pm:Value) (an:Option Addr) (cdv ct:Value) (osl:Array (Option Value)),
  fd=PySem.W.fnOf x qual (defArgs st) (defBody st) (defScope st) .none kV doc pm an cdv ct∧K.lookup f=some ⟨oc,od,.func fd,osl⟩∧PySem.W.codeIn K cdv qual=true
 kp:PySem.W.keepIn K (.ref f)=true
section
variable {P:Program} {w:World} {K:PySem.W.Frag} {mg:Str->Option Value} {base:Heap}
theorem Fun.ok {x qual:Str} {st:Stmt} {f:Addr} {fd:FuncData} {N ps:List Str} {k:Nat} {sp:Sp} (F:Fun K x qual st f fd) (S:FnScope N ps (defScope st)) (len:∀ vs H Q E,sp vs H Q E->vs.length=ps.length)
  (hbody:∀ (cdv:Value) (A:Around) (outer:List Env) (s:Shared) (H:Hp) (vs:List V) (Q:VK) (E:XK),Room k (A.deeper (envOfC qual (defScope st) s.heap.objs.size f cdv))->sp vs H Q E →
   ∃ t,PSs (cxOf CX0 P w K mg base N qual (defScope st) f cdv A outer s H E).nox (defBody st) t∧t { nx:=fun _ H'=>Q .non H',rt:=Q } (start N vs) H):FnOk P w K mg base CX0 (k + 1) f fd ps sp:=by
 obtain ⟨oc,od,kV,doc,pm,an,cdv,ct,osl,rfl,lk,hcd⟩:=F.ex
 refine fn_of lk hcd S len fun A outer s H vs Q E hr hsp=>?_
 obtain ⟨t,h,q⟩:=hbody cdv A outer s H vs Q E hr hsp
 exact ⟨t,h.nox,q⟩
theorem Fun.binds {x qual:Str} {st:Stmt} {f:Addr} {fd:FuncData} {ps:List Str} (F:Fun K x qual st f fd)
  (h:∀ (kV doc pm:Value) (an:Option Addr) (cdv ct:Value) (us:List Value),us.length=ps.length->bindArgs (PySem.W.fnOf x qual (defArgs st) (defBody st) (defScope st) .none kV doc pm an cdv ct) ⟨us,[]⟩=pure (ps.zip us)):Binds K fd ps []:=by
 obtain ⟨oc,od,kV,doc,pm,an,cdv,ct,osl,rfl,lk,hcd⟩:=F.ex
 exact .all (h kV doc pm an cdv ct)
theorem fun_mk {x qual:Str} {st:Stmt} {f:Addr} {oc:Value} {od an:Option Addr} {osl:Array (Option Value)} {kV doc pm cdv ct:Value} (l:K.lookup f=some ⟨oc,od,.func (PySem.W.fnOf x qual (defArgs st) (defBody st) (defScope st) .none kV doc pm an cdv ct),osl⟩)
  (c:PySem.W.codeIn K cdv qual=true) (k:PySem.W.keepIn K (.ref f)=true):Fun K x qual st f (PySem.W.fnOf x qual (defArgs st) (defBody st) (defScope st) .none kV doc pm an cdv ct):=⟨⟨oc,od,kV,doc,pm,an,cdv,ct,osl,rfl,l,c⟩,k⟩
end
theorem hu_of {A:Around} {k:Nat} (hr:Room k A):A.units + 1 < cLine:=Nat.lt_of_le_of_lt (Nat.add_le_add_left (by decide:1≤64) _) hr.units
section
variable {X:Cx}
theorem pv (i:Nat) {x:Str} {pos:Pos} (hN:X.N[i]? = some x:=by rfl) (hv:Vis X.env.scope x:=by first | exact Or.inl rfl | exact Or.inr (Or.inl rfl) | exact Or.inr (Or.inr rfl)) (hd:(x == ("__debug__" : Str))=false:=by decide)
  (hcd:(x == ("__classdict__" : Str))=false:=by decide):PE X (.Name x pos) (tVar i):=pe_var hN hv hd hcd
theorem call_lenD:CallR X (.builtin "len") (fun xs H Q=>∃ a kvs,xs=[V.ref a]∧H a=some (.dK kvs)∧Q (.int kvs.length) H):=by
 intro pins s σ H xs us Q I r h
 obtain ⟨a,kvs,rfl,ha,q⟩:=h
 obtain ⟨u,rfl,ru⟩:=vals1 r
 cases ru
 exact d_len I (.inl ha) fun t s' I'=>⟨.int kvs.length,H,I',⟨t,rfl⟩,q⟩
end
noncomputable def Same (H H':Hp):Prop:=∀ b o,H b=some o->H' b=some o
theorem Same.trans {H H1 H2:Hp} (a:Same H H1) (b:Same H1 H2):Same H H2:=fun c o h=>b c o (a c o h)
theorem Same.free {H H':Hp} (e:Same H H') {l:Addr} (h:H' l=Option.none):H l=Option.none:=by
 cases q:H l with
 | none=>rfl
 | some o =>
  rw [e l o q] at h
  cases h
theorem Same.seq {K:PySem.W.Frag} {H H':Hp} {a:Addr} {xs:List V} (e:Same H H') (h:SqL K H a xs):SqL K H' a xs:=by
 rcases h with (h | ⟨o,h⟩) | h
 ·exact .inl (.inl (e _ _ h))
 ·exact .inl (.inr ⟨o,e _ _ h⟩)
 ·exact .inr h
theorem at_of {xs:List V} {z:Int} {j:Nat} {v:V} (e:z=(j:Int)) (h:xs[j]? = some v):atI xs z=some v:=by
 rw [e]
 exact atI_nat h
end L2
end
section
set_option Elab.async false
set_option linter.all false
set_option maxRecDepth 100000
set_option maxHeartbeats 2000000
namespace L2
open PySem PySem.Spec PyProof.Rows
open PySem.W (WData Codec OpenSpec Well WellAll ReadsW ReadsAllW)
mutual
inductive Dw (K:PySem.W.Frag) (H:Hp):V->WData->Prop
 | non:Dw K H .non .none
 | bl (b:Bool):Dw K H (.bl b) (.bool b)
 | int (i:Int):Dw K H (.int i) (.int i)
 | str (x:Str):Dw K H (.str x) (.str x)
 | byt (b:Array UInt8):Dw K H (.byt b) (.bytes b.toList)
 | lst {a:Addr} {xs:List V} {ds:List WData}:SqL K H a xs->DwAll K H xs ds->Dw K H (.ref a) (.list ds)
 | tup {a:Addr} {xs:List V} {ds:List WData}:SqT K H a xs->DwAll K H xs ds->Dw K H (.ref a) (.tuple ds)
inductive DwAll (K:PySem.W.Frag) (H:Hp):List V->List WData->Prop
 | nil:DwAll K H [] []
 | cons {v:V} {vs:List V} {d:WData} {ds:List WData}:Dw K H v d->DwAll K H vs ds->DwAll K H (v::vs) (d::ds)
end
theorem dw_ints {K:PySem.W.Frag} {H:Hp}:∀ ns:List Int,DwAll K H (ns.map V.int) (ns.map WData.int)
 | []=>.nil
 | n::r=>.cons (.int n) (dw_ints r)
theorem ints_dw {K:PySem.W.Frag} {H:Hp}:∀ (ns:List Int) (xs:List V),DwAll K H xs (ns.map WData.int)->xs=ns.map V.int
 | [],xs,h=>by
  cases h
  rfl
 | n::r,xs,h=>by
  cases h with
  | cons h1 h2 =>
   cases h1
   rw [ints_dw r _ h2] <;> rfl
section
variable {P:Program} {w:World} {K:PySem.W.Frag} {H:Hp} {h:Heap} {R:PySem.W.WRecords} {cl:Str->Option Addr}
theorem sqL_at {a:Addr} {xs:List V} (hok:HOk P w H h) (KX:K.In h) (q:SqL K H a xs):∃ (its:List Value) (o:Obj) (n:Nat),Vals xs its∧h.get? a=some o∧o.cls = .type "list" ∧ o.data = .seq its.toArray n:=by
 rcases q with q | ⟨o,its,n,e,hc,_,hd,_,hv⟩
 ·obtain ⟨_,its,n,hv,e⟩:=(show ObjOk P w H h a (.lst xs) from q.ok hok)
  exact ⟨its,_,n,hv,e,rfl,rfl⟩
 ·exact ⟨its.toList,o,n,hv,KX _ _ e,hc,by simp [hd]⟩
theorem sqT_at {a:Addr} {xs:List V} (hok:HOk P w H h) (KX:K.In h) (q:SqT K H a xs):∃ (its:List Value) (o:Obj) (n:Nat),Vals xs its∧h.get? a=some o∧o.cls = .type "tuple" ∧ o.data = .seq its.toArray n:=by
 rcases q with q | ⟨o,its,n,e,hc,hd,_,hv⟩
 ·obtain ⟨_,its,hv,o,e,hc,n,hd⟩:=(show ObjOk P w H h a (.tup xs) from q.ok hok)
  exact ⟨its,o,n,hv,e,hc,hd⟩
 ·exact ⟨its.toList,o,n,hv,KX _ _ e,hc,by simp [hd]⟩
mutual
theorem Dw.reads (hok:HOk P w H h) (KX:K.In h):∀ (d:WData) (v:V) (u:Value),Dw K H v d->RelV v u->∃ as,ReadsW R cl h u d as
 | .none,_,_,x,r=>by
  cases x
  cases r
  exact ⟨_,ReadsW.none⟩
 | .bool b,_,_,x,r=>by
  cases x
  cases r
  exact ⟨_,ReadsW.bool b⟩
 | .int i,_,_,x,r=>by
  cases x
  obtain ⟨t,rfl⟩:=r
  exact ⟨_,ReadsW.int i t⟩
 | .str s,_,_,x,r=>by
  cases x
  obtain ⟨t,rfl⟩:=r
  exact ⟨_,ReadsW.str s t⟩
 | .bytes b,_,_,x,r=>by
  cases x
  obtain ⟨t,rfl⟩:=r
  exact ⟨_,ReadsW.bytes _ t⟩
 | .list ds,_,_,x,r=>by
  cases x with
  | lst hs ha =>
   cases r
   obtain ⟨its,o,n,rv,ho,hc,hd⟩:=sqL_at hok KX hs
   obtain ⟨as,hr⟩:=Dw.readsAll hok KX ds _ its ha rv
   exact ⟨_,ReadsW.list ho hc hd hr⟩
 | .tuple ds,_,_,x,r=>by
  cases x with
  | tup hs ha =>
   cases r
   obtain ⟨its,o,n,rv,ho,hc,hd⟩:=sqT_at hok KX hs
   obtain ⟨as,hr⟩:=Dw.readsAll hok KX ds _ its ha rv
   exact ⟨_,ReadsW.tuple ho hc hd hr⟩
 | .float _,_,_,x,_=>by cases x
 | .dict _,_,_,x,_=>by cases x
 | .bytearray _,_,_,x,_=>by cases x
 | .set _,_,_,x,_=>by cases x
 | .frozenset _,_,_,x,_=>by cases x
 | .obj _ _,_,_,x,_=>by cases x
theorem Dw.readsAll (hok:HOk P w H h) (KX:K.In h):∀ (ds:List WData) (vs:List V) (us:List Value),DwAll K H vs ds->Vals vs us->∃ as,ReadsAllW R cl h us ds as
 | [],_,_,x,r=>by
  cases x
  cases r
  exact ⟨_,ReadsAllW.nil⟩
 | d::ds,_,_,x,r=>by
  cases x with
  | cons h1 h2 =>
   cases r with
   | cons r1 r2 =>
    obtain ⟨as,q1⟩:=Dw.reads hok KX d _ _ h1 r1
    obtain ⟨bs,q2⟩:=Dw.readsAll hok KX ds _ _ h2 r2
    exact ⟨_,ReadsAllW.cons q1 q2⟩
end
end
mutual
noncomputable def plW:WData->Bool
 | .none=>true
 | .bool _=>true
 | .int _=>true
 | .str _=>true
 | .bytes _=>true
 | .list xs=>plWs xs
 | .tuple xs=>plWs xs
 | _=>false
noncomputable def plWs:List WData->Bool
 | []=>true
 | x::r=>plW x && plWs r
end
theorem plWs_map {α:Type} {f:α->WData} (h:∀ a,plW (f a)=true):∀ l:List α,plWs (l.map f)=true
 | []=>rfl
 | x::r=>by
  show (plW (f x) && plWs (r.map f))=true
  rw [h x,plWs_map h r] <;> rfl
theorem pl_enc:∀ (c:Codec) (a:c.denote),plW (c.enc a)=true
 | .unit,_=>rfl
 | .bool,_=>rfl
 | .int _ _,_=>rfl
 | .nat _ _,_=>rfl
 | .u8,_=>rfl
 | .bytes _ _,_=>rfl
 | .text _ _ _ _,_=>rfl
 | .list _ _ c,a=>plWs_map (fun x=>pl_enc c x) a
 | .pair c d,a=>by
  show (plW (c.enc a.1) && (plW (d.enc a.2) && true))=true
  rw [pl_enc c a.1,pl_enc d a.2] <;> rfl
 | .triple c d e,a=>by
  show (plW (c.enc a.1) && (plW (d.enc a.2.1) && (plW (e.enc a.2.2) && true)))=true
  rw [pl_enc c a.1,pl_enc d a.2.1,pl_enc e a.2.2] <;> rfl
 | .option c,none=>rfl
 | .option c,some x=>pl_enc c x
theorem pl_encAll:∀ (cs:List Codec) (a:Codec.denoteAll cs),plWs (Codec.encAll cs a)=true
 | [],_=>rfl
 | c::cs,a=>by
  show (plW (c.enc a.1) && plWs (Codec.encAll cs a.2))=true
  rw [pl_enc c a.1,pl_encAll cs a.2] <;> rfl
theorem weight_mem:∀ {xs:List WData} {d:WData},d ∈ xs->d.weight≤WData.weightAll xs
 | [],d,h=>absurd h (by simp)
 | x::r,d,h=>by
  show d.weight≤x.weight + 1 + WData.weightAll r
  rcases List.mem_cons.mp h with e | m
  ·rw [e]
   omega
  ·have z:=weight_mem m
   omega
noncomputable def toV:Value->V
 | .none=>.non
 | .bool b=>.bl b
 | .int i _=>.int i
 | .str x _=>.str x
 | .bytes b _=>.byt b
 | .ref a=>.ref a
 | _=>.non
noncomputable def OkU (A:List Addr):Value->Prop
 | .none=>True
 | .bool _=>True
 | .int _ _=>True
 | .str _ _=>True
 | .bytes _ _=>True
 | .ref a=>a ∈ A
 | _=>False
theorem OkU.mono {A B:List Addr} (h:∀ a ∈ A,a ∈ B):∀ {u:Value},OkU A u->OkU B u:=fun {u} x=>by
 cases u with
 | ref a=>exact h a x
 | none=>trivial
 | bool b=>trivial
 | int i t=>trivial
 | str s t=>trivial
 | bytes b t=>trivial
 | _=>exact False.elim x
theorem relV_toV {A:List Addr} {u:Value} (x:OkU A u):RelV (toV u) u:=by
 cases u with
 | ref a=>rfl
 | none=>rfl
 | bool b=>rfl
 | int i t=>exact ⟨t,rfl⟩
 | str s t=>exact ⟨t,rfl⟩
 | bytes b t=>exact ⟨t,rfl⟩
 | _=>exact False.elim x
theorem vals_toV {A:List Addr}:∀ {vs:List Value},(∀ u ∈ vs,OkU A u)->Vals (vs.map toV) vs
 | [],_=>.nil
 | u::r,h=>.cons (relV_toV (h u (List.mem_cons_self ..))) (vals_toV fun x hx=>h x (List.mem_cons_of_mem _ hx))
noncomputable def ArgOb (h:Heap) (A:List Addr) (a:Addr):Prop:=∃ vs:List Value,vs.length≤sizeLine∧(∀ u ∈ vs,OkU A u) ∧
 (h.get? a=some { cls:=.type "list",data:=.seq vs.toArray }∨h.get? a=some { cls:=.type "tuple",data:=.seq vs.toArray })
theorem ArgOb.mono {h:Heap} {A B:List Addr} {a:Addr} (k:∀ a ∈ A,a ∈ B) (x:ArgOb h A a):ArgOb h B a:=by
 obtain ⟨vs,h1,h2,h3⟩:=x
 exact ⟨vs,h1,fun u hu=>(h2 u hu).mono k,h3⟩
theorem wellAll_len {P:Params} {h:Heap}:∀ {vs:List Value} {ds:List WData},WellAll P h vs ds->vs.length=ds.length
 | _,_,.nil=>rfl
 | _,_,.cons _ b=>by
  show _ + 1=_ + 1
  rw [wellAll_len b]
theorem well_list {P:Params} {h:Heap} {v:Value} {ds:List WData} (x:Well P h v (.list ds)):∃ (a:Addr) (vs:List Value),v = .ref a∧h.get? a=some { cls:=.type "list",data:=.seq vs.toArray }∧WellAll P h vs ds:=by
 cases x with
 | list ho hall=>exact ⟨_,_,rfl,ho,hall⟩
theorem well_tuple {P:Params} {h:Heap} {v:Value} {ds:List WData} (x:Well P h v (.tuple ds)):∃ (a:Addr) (vs:List Value),v = .ref a∧h.get? a=some { cls:=.type "tuple",data:=.seq vs.toArray }∧WellAll P h vs ds:=by
 cases x with
 | tuple ho hall=>exact ⟨_,_,rfl,ho,hall⟩
theorem well_cons {P:Params} {h:Heap} {us:List Value} {d:WData} {ds:List WData} (x:WellAll P h us (d::ds)):∃ (v:Value) (vs:List Value),us=v::vs∧Well P h v d∧WellAll P h vs ds:=by
 cases x with
 | cons a b=>exact ⟨_,_,rfl,a,b⟩
theorem line_of {n:Nat} (h:n≤1048576):n≤sizeLine:=Nat.le_trans h (by decide)
section
variable {P:Params} {h:Heap}
mutual
theorem area_one:∀ (d:WData) (v:Value),Well P h v d->plW d=true->d.weight≤1048576->∃ A:List Addr,OkU A v∧∀ a ∈ A,ArgOb h A a
 | .none,_,x,_,_=>by
  cases x
  exact ⟨[],trivial,fun a m=>absurd m (by simp)⟩
 | .bool b,_,x,_,_=>by
  cases x
  exact ⟨[],trivial,fun a m=>absurd m (by simp)⟩
 | .int i,_,x,_,_=>by
  cases x
  exact ⟨[],trivial,fun a m=>absurd m (by simp)⟩
 | .str s,_,x,_,_=>by
  cases x
  exact ⟨[],trivial,fun a m=>absurd m (by simp)⟩
 | .bytes b,_,x,_,_=>by
  cases x
  exact ⟨[],trivial,fun a m=>absurd m (by simp)⟩
 | .list ds,_,x,p,z=>by
  obtain ⟨a,vs,rfl,ho,hall⟩:=well_list x
  have z2:WData.weightAll ds≤1048576:=z
  obtain ⟨A,h1,h2⟩:=area_all ds _ hall p fun d hd=>Nat.le_trans (weight_mem hd) z2
  have k:∀ b ∈ A,b ∈ a::A:=fun b hb=>List.mem_cons_of_mem _ hb
  refine ⟨a::A,List.mem_cons_self ..,fun b hb=>?_⟩
  rcases List.mem_cons.mp hb with e | m
  ·rw [e]
   exact ⟨vs,line_of (by rw [wellAll_len hall];exact Nat.le_trans (PySem.W.length_le_weightAllW ds) z2),fun u hu=>(h1 u hu).mono k,.inl ho⟩
  ·exact (h2 b m).mono k
 | .tuple ds,_,x,p,z=>by
  obtain ⟨a,vs,rfl,ho,hall⟩:=well_tuple x
  have z2:WData.weightAll ds≤1048576:=z
  obtain ⟨A,h1,h2⟩:=area_all ds _ hall p fun d hd=>Nat.le_trans (weight_mem hd) z2
  have k:∀ b ∈ A,b ∈ a::A:=fun b hb=>List.mem_cons_of_mem _ hb
  refine ⟨a::A,List.mem_cons_self ..,fun b hb=>?_⟩
  rcases List.mem_cons.mp hb with e | m
  ·rw [e]
   exact ⟨vs,line_of (by rw [wellAll_len hall];exact Nat.le_trans (PySem.W.length_le_weightAllW ds) z2),fun u hu=>(h1 u hu).mono k,.inr ho⟩
  ·exact (h2 b m).mono k
 | .float _,_,_,p,_=>Bool.noConfusion (show false=true from p)
 | .dict _,_,_,p,_=>Bool.noConfusion (show false=true from p)
 | .bytearray _,_,_,p,_=>Bool.noConfusion (show false=true from p)
 | .set _,_,_,p,_=>Bool.noConfusion (show false=true from p)
 | .frozenset _,_,_,p,_=>Bool.noConfusion (show false=true from p)
 | .obj _ _,_,_,p,_=>Bool.noConfusion (show false=true from p)
theorem area_all:∀ (ds:List WData) (vs:List Value),WellAll P h vs ds->plWs ds=true->(∀ d ∈ ds,d.weight≤1048576)->∃ A:List Addr,(∀ u ∈ vs,OkU A u)∧∀ a ∈ A,ArgOb h A a
 | [],_,x,_,_=>by
  cases x
  exact ⟨[],fun u m=>absurd m (by simp),fun a m=>absurd m (by simp)⟩
 | d::ds,_,x,p,z=>by
  obtain ⟨v,vs,rfl,x1,x2⟩:=well_cons x
  have q:plW d=true∧plWs ds=true:=Bool.and_eq_true_iff.mp p
  obtain ⟨A,a1,a2⟩:=area_one d v x1 q.1 (z d (List.mem_cons_self ..))
  obtain ⟨B,b1,b2⟩:=area_all ds vs x2 q.2 fun e he=>z e (List.mem_cons_of_mem _ he)
  have kA:∀ b ∈ A,b ∈ A++B:=fun b hb=>List.mem_append.mpr (.inl hb)
  have kB:∀ b ∈ B,b ∈ A++B:=fun b hb=>List.mem_append.mpr (.inr hb)
  refine ⟨A++B,fun u hu=>?_,fun b hb=>?_⟩
  ·rcases List.mem_cons.mp hu with e | m
   ·rw [e]
    exact a1.mono kA
   ·exact (b1 u m).mono kB
  ·rcases List.mem_append.mp hb with m | m
   ·exact (a2 b m).mono kA
   ·exact (b2 b m).mono kB
end
end
noncomputable def hoOf (o:Obj):Option HO:=match o.data with
 | .seq vs _=>if (o.cls == Value.type "list")=true then some (.frz o (.lst (vs.toList.map toV))) else some (.frz o (.tup (vs.toList.map toV)))
 | _=>none
noncomputable def argH (K:PySem.W.Frag) (h:Heap) (A:List Addr):Hp:=fun b=>if b ∈ A then (if (K.lookup b).isNone=true then (h.get? b).bind hoOf else none) else none
noncomputable def OnlyF (H:Hp):Prop:=∀ b,H b=none∨∃ o u,H b=some (.frz o u)
theorem hoOf_lst (vs:List Value):hoOf { cls:=.type "list",data:=.seq vs.toArray }=some (.frz { cls:=.type "list",data:=.seq vs.toArray } (.lst (vs.map toV))):=by
 show (if (Value.type "list" == Value.type "list")=true then some (HO.frz { cls:=.type "list",data:=.seq vs.toArray } (.lst (vs.toArray.toList.map toV))) else some (HO.frz { cls:=.type "list",data:=.seq vs.toArray } (.tup (vs.toArray.toList.map toV))))=_
 rw [if_pos (beq_self_eq_true _)]
theorem hoOf_tup (vs:List Value):hoOf { cls:=.type "tuple",data:=.seq vs.toArray }=some (.frz { cls:=.type "tuple",data:=.seq vs.toArray } (.tup (vs.map toV))):=by
 show (if (Value.type "tuple" == Value.type "list")=true then some (HO.frz { cls:=.type "tuple",data:=.seq vs.toArray } (.lst (vs.toArray.toList.map toV))) else some (HO.frz { cls:=.type "tuple",data:=.seq vs.toArray } (.tup (vs.toArray.toList.map toV))))=_
 rw [if_neg (by decide)]
section
variable {P:Program} {w:World} {K:PySem.W.Frag} {h:Heap} {A:List Addr}
theorem argH_at {b:Addr} {o:Obj} (hb:b ∈ A) (hk:K.lookup b=none) (e:h.get? b=some o):argH K h A b=hoOf o:=by
 unfold argH
 rw [if_pos hb,hk,if_pos (show (none:Option Obj).isNone=true from rfl),e] <;> rfl
theorem of_argH {b:Addr} {u:HO} (q:argH K h A b=some u):b ∈ A∧K.lookup b=none:=by
 unfold argH at q
 by_cases hb:b ∈ A
 ·rw [if_pos hb] at q
  cases hk:K.lookup b with
  | none=>exact ⟨hb,rfl⟩
  | some o =>
   rw [hk,if_neg (by simp)] at q
   cases q
 ·rw [if_neg hb] at q
  cases q
theorem argH_is (ar:∀ a ∈ A,ArgOb h A a) {b:Addr} {u:HO} (q:argH K h A b=some u):K.lookup b=none∧∃ vs:List Value,vs.length≤sizeLine∧(∀ u ∈ vs,OkU A u) ∧
  ((h.get? b=some { cls:=.type "list",data:=.seq vs.toArray }∧u = .frz { cls:=.type "list",data:=.seq vs.toArray } (.lst (vs.map toV))) ∨
   (h.get? b=some { cls:=.type "tuple",data:=.seq vs.toArray }∧u = .frz { cls:=.type "tuple",data:=.seq vs.toArray } (.tup (vs.map toV)))):=by
 obtain ⟨hb,hk⟩:=of_argH q
 obtain ⟨vs,h1,h2,h3⟩:=ar b hb
 refine ⟨hk,vs,h1,h2,?_⟩
 rcases h3 with e | e
 ·rw [argH_at hb hk e,hoOf_lst] at q
  exact .inl ⟨e,(Option.some.inj q).symm⟩
 ·rw [argH_at hb hk e,hoOf_tup] at q
  exact .inr ⟨e,(Option.some.inj q).symm⟩
theorem argH_only (ar:∀ a ∈ A,ArgOb h A a):OnlyF (argH K h A):=fun b=>by
 cases q:argH K h A b with
 | none=>exact .inl rfl
 | some u =>
  obtain ⟨_,vs,_,_,⟨_,e⟩ | ⟨_,e⟩⟩:=argH_is ar q
  ·exact .inr ⟨_,_,by rw [e]⟩
  ·exact .inr ⟨_,_,by rw [e]⟩
theorem argH_ok (ar:∀ a ∈ A,ArgOb h A a):HOk P w (argH K h A) h:=fun b u q=>by
 obtain ⟨_,vs,h1,h2,⟨e,rfl⟩ | ⟨e,rfl⟩⟩:=argH_is ar q
 ·exact ⟨e,by rw [List.length_map];exact h1,vs,_,vals_toV h2,e⟩
 ·exact ⟨e,by rw [List.length_map];exact h1,vs,vals_toV h2,_,e,rfl,_,rfl⟩
theorem seq_inj {c c':Value} {vs us:List Value} (e:(some { cls:=c,data:=.seq vs.toArray }:Option Obj)=some { cls:=c',data:=.seq us.toArray }):c=c'∧vs=us:=by
 have e1:=Option.some.inj e
 have e2:c=c':=congrArg Obj.cls e1
 have e3:Data.seq vs.toArray=Data.seq us.toArray:=congrArg Obj.data e1
 injection e3 with e4
 refine ⟨e2,?_⟩
 have e5:=congrArg Array.toList e4
 simpa using e5
theorem argL (KX:K.In h) (ar:∀ a ∈ A,ArgOb h A a) {a:Addr} {vs:List Value} (ha:a ∈ A) (e:h.get? a=some { cls:=.type "list",data:=.seq vs.toArray }):(∀ u ∈ vs,OkU A u)∧SqL K (argH K h A) a (vs.map toV):=by
 obtain ⟨us,h1,h2,h3⟩:=ar a ha
 have hu:us=vs:=by
  rcases h3 with q | q
  ·rw [e] at q
   exact (seq_inj q).2.symm
  ·rw [e] at q
   exact absurd (Value.type.inj (seq_inj q).1) (by decide)
 subst hu
 refine ⟨h2,?_⟩
 cases hk:K.lookup a with
 | none=>exact .inl (.inr ⟨_,by rw [argH_at ha hk e,hoOf_lst]⟩)
 | some o =>
  have e2:=KX a o hk
  rw [e] at e2
  obtain rfl:=Option.some.inj e2
  exact .inr ⟨_,us.toArray,_,hk,rfl,rfl,rfl,by rw [List.size_toArray];exact h1,by simpa using vals_toV h2⟩
theorem argT (KX:K.In h) (ar:∀ a ∈ A,ArgOb h A a) {a:Addr} {vs:List Value} (ha:a ∈ A) (e:h.get? a=some { cls:=.type "tuple",data:=.seq vs.toArray }):(∀ u ∈ vs,OkU A u)∧SqT K (argH K h A) a (vs.map toV):=by
 obtain ⟨us,h1,h2,h3⟩:=ar a ha
 have hu:us=vs:=by
  rcases h3 with q | q
  ·rw [e] at q
   exact absurd (Value.type.inj (seq_inj q).1) (by decide)
  ·rw [e] at q
   exact (seq_inj q).2.symm
 subst hu
 refine ⟨h2,?_⟩
 cases hk:K.lookup a with
 | none=>exact .inl (.inr ⟨_,by rw [argH_at ha hk e,hoOf_tup]⟩)
 | some o =>
  have e2:=KX a o hk
  rw [e] at e2
  obtain rfl:=Option.some.inj e2
  exact .inr ⟨_,us.toArray,_,hk,rfl,rfl,by rw [List.size_toArray];exact h1,by simpa using vals_toV h2⟩
mutual
theorem dw_one {Pm:Params} (KX:K.In h) (ar:∀ a ∈ A,ArgOb h A a):∀ (d:WData) (v:Value),Well Pm h v d->plW d=true->OkU A v->Dw K (argH K h A) (toV v) d
 | .none,_,x,_,_=>by
  cases x
  exact .non
 | .bool b,_,x,_,_=>by
  cases x
  exact .bl b
 | .int i,_,x,_,_=>by
  cases x
  exact .int i
 | .str s,_,x,_,_=>by
  cases x
  exact .str s
 | .bytes b,_,x,_,_=>by
  cases x
  have z:=Dw.byt (K:=K) (H:=argH K h A) b.toArray
  exact z
 | .list ds,_,x,p,hu=>by
  obtain ⟨a,vs,rfl,ho,hall⟩:=well_list x
  obtain ⟨h2,hs⟩:=argL KX ar hu ho
  exact .lst hs (dw_all KX ar ds _ hall p h2)
 | .tuple ds,_,x,p,hu=>by
  obtain ⟨a,vs,rfl,ho,hall⟩:=well_tuple x
  obtain ⟨h2,hs⟩:=argT KX ar hu ho
  exact .tup hs (dw_all KX ar ds _ hall p h2)
 | .float _,_,_,p,_=>Bool.noConfusion (show false=true from p)
 | .dict _,_,_,p,_=>Bool.noConfusion (show false=true from p)
 | .bytearray _,_,_,p,_=>Bool.noConfusion (show false=true from p)
 | .set _,_,_,p,_=>Bool.noConfusion (show false=true from p)
 | .frozenset _,_,_,p,_=>Bool.noConfusion (show false=true from p)
 | .obj _ _,_,_,p,_=>Bool.noConfusion (show false=true from p)
theorem dw_all {Pm:Params} (KX:K.In h) (ar:∀ a ∈ A,ArgOb h A a):∀ (ds:List WData) (vs:List Value),WellAll Pm h vs ds->plWs ds=true->(∀ u ∈ vs,OkU A u)->DwAll K (argH K h A) (vs.map toV) ds
 | [],_,x,_,_=>by
  cases x
  exact .nil
 | d::ds,_,x,p,hu=>by
  obtain ⟨v,vs,rfl,x1,x2⟩:=well_cons x
  have q:plW d=true∧plWs ds=true:=Bool.and_eq_true_iff.mp p
  exact .cons (dw_one KX ar d v x1 q.1 (hu _ (List.mem_cons_self ..))) (dw_all KX ar ds vs x2 q.2 fun u m=>hu u (List.mem_cons_of_mem _ m))
end
end
theorem layable_weight {ds:List WData} (h:WData.layableAll ds=true):∀ d ∈ ds,d.weight≤1048576:=fun d hd =>
 (PySem.W.layableW_iff.mp (List.all_eq_true.mp h d hd)).2.2
theorem encAll_len:∀ (cs:List Codec) (a:Codec.denoteAll cs),(Codec.encAll cs a).length=cs.length
 | [],_=>rfl
 | c::cs,a=>by
  show (Codec.encAll cs a.2).length + 1=cs.length + 1
  rw [encAll_len cs a.2]
end L2
end
section
set_option Elab.async false
set_option maxRecDepth 10000
namespace VB
open Vbbhak
noncomputable def vints (b:Bytes):List Int:=b.map fun c=>(c.toNat:Int)
theorem ints_length (b:Bytes):(vints b).length=b.length:=by unfold vints;simp
theorem bytes_of:∀ (l:List Int),l.all (fun (z:Int)=>VbbhakNeutral.natural z 8)=true->∃ b:Bytes,VbbhakNeutral.bytes? l=some b∧l=vints b
 | [],_=>⟨[],rfl,rfl⟩
 | z::r,h=>by
  rw [List.all_cons,Bool.and_eq_true] at h
  obtain ⟨b,e1,e2⟩:=bytes_of r h.2
  have hz:=h.1
  unfold VbbhakNeutral.natural at hz
  simp only [Bool.and_eq_true,decide_eq_true_eq] at hz
  have h0:0≤z:=hz.1
  have h1:z < 256:=hz.2
  refine ⟨UInt8.ofNat z.toNat::b,?_,?_⟩
  ·unfold VbbhakNeutral.bytes? at e1 ⊢
   have eb:VbbhakNeutral.byte? z=some (UInt8.ofNat z.toNat):=by unfold VbbhakNeutral.byte?;rw [if_pos ⟨h0,by omega⟩]
   rw [List.mapM_cons,eb,e1]
   rfl
  ·unfold vints at e2 ⊢
   rw [List.map_cons,← e2]
   have e3:(UInt8.ofNat z.toNat).toNat=z.toNat:=by
    rw [UInt8.toNat_ofNat']
    omega
   rw [e3]
   congr 1
   omega
noncomputable def encF:Call->Int × List Int × List Int
 | .begin x0 x1 x2=>(0,[x0,x1,x2],[])
 | .open_ x0 x1 x2 x3 x4 b=>(1,[x0,x1,x2,x3,x4],vints b)
 | .line x0 x1 b=>(2,[x0,x1],vints b)
 | .close x0=>(3,[x0],[])
 | .purge x0=>(4,[x0],[])
 | .hold x0=>(5,[x0],[])
 | .letgo x0=>(6,[x0],[])
 | .change x0 x1 x2 x3=>(7,[x0,x1,x2,x3],[])
 | .copies x0 x1=>(8,[x0,x1],[])
 | .start x0 x1 x2 x3 r=>(9,[x0,x1,x2,x3],r)
 | .serve x0 x1 x2 r=>(10,[x0,x1,x2],r)
 | .mount x0 x1=>(11,[x0,x1],[])
 | .halt_ x0=>(12,[x0],[])
 | .turn x0=>(13,[x0],[])
 | .note x0=>(14,[x0],[])
 | .back x0 x1=>(15,[x0,x1],[])
 | .interrupt x0=>(16,[x0],[])
 | .power=>(17,[],[])
 | .cut x0=>(18,[x0],[])
 | .pages x0=>(19,[x0],[])
 | .page x0 x1=>(20,[x0,x1],[])
 | .output x0=>(21,[x0],[])
 | .queue x0=>(22,[x0],[])
 | .writer x0=>(23,[x0],[])
 | .paper x0 x1 x2=>(24,[x0,x1,x2],[])
 | .sheet x0 x1=>(25,[x0,x1],[])
 | .clean x0 x1 x2=>(26,[x0,x1,x2],[])
noncomputable def Enc (k:Call) (p:Int) (n r:List Int):Prop:=encF k=(p,n,r)
theorem Enc.c0 (x0 x1 x2:Int):Enc (.begin x0 x1 x2) 0 [x0,x1,x2] []:=rfl
theorem Enc.c1 (x0 x1 x2 x3 x4:Int) (b:Bytes):Enc (.open_ x0 x1 x2 x3 x4 b) 1 [x0,x1,x2,x3,x4] (vints b):=rfl
theorem Enc.c2 (x0 x1:Int) (b:Bytes):Enc (.line x0 x1 b) 2 [x0,x1] (vints b):=rfl
theorem Enc.c3 (x0:Int):Enc (.close x0) 3 [x0] []:=rfl
theorem Enc.c4 (x0:Int):Enc (.purge x0) 4 [x0] []:=rfl
theorem Enc.c5 (x0:Int):Enc (.hold x0) 5 [x0] []:=rfl
theorem Enc.c6 (x0:Int):Enc (.letgo x0) 6 [x0] []:=rfl
theorem Enc.c7 (x0 x1 x2 x3:Int):Enc (.change x0 x1 x2 x3) 7 [x0,x1,x2,x3] []:=rfl
theorem Enc.c8 (x0 x1:Int):Enc (.copies x0 x1) 8 [x0,x1] []:=rfl
theorem Enc.c9 (x0 x1 x2 x3:Int) (r:List Int):Enc (.start x0 x1 x2 x3 r) 9 [x0,x1,x2,x3] r:=rfl
theorem Enc.c10 (x0 x1 x2:Int) (r:List Int):Enc (.serve x0 x1 x2 r) 10 [x0,x1,x2] r:=rfl
theorem Enc.c11 (x0 x1:Int):Enc (.mount x0 x1) 11 [x0,x1] []:=rfl
theorem Enc.c12 (x0:Int):Enc (.halt_ x0) 12 [x0] []:=rfl
theorem Enc.c13 (x0:Int):Enc (.turn x0) 13 [x0] []:=rfl
theorem Enc.c14 (x0:Int):Enc (.note x0) 14 [x0] []:=rfl
theorem Enc.c15 (x0 x1:Int):Enc (.back x0 x1) 15 [x0,x1] []:=rfl
theorem Enc.c16 (x0:Int):Enc (.interrupt x0) 16 [x0] []:=rfl
theorem Enc.c17  : Enc (.power) 17 [] []:=rfl
theorem Enc.c18 (x0:Int):Enc (.cut x0) 18 [x0] []:=rfl
theorem Enc.c19 (x0:Int):Enc (.pages x0) 19 [x0] []:=rfl
theorem Enc.c20 (x0 x1:Int):Enc (.page x0 x1) 20 [x0,x1] []:=rfl
theorem Enc.c21 (x0:Int):Enc (.output x0) 21 [x0] []:=rfl
theorem Enc.c22 (x0:Int):Enc (.queue x0) 22 [x0] []:=rfl
theorem Enc.c23 (x0:Int):Enc (.writer x0) 23 [x0] []:=rfl
theorem Enc.c24 (x0 x1 x2:Int):Enc (.paper x0 x1 x2) 24 [x0,x1,x2] []:=rfl
theorem Enc.c25 (x0 x1:Int):Enc (.sheet x0 x1) 25 [x0,x1] []:=rfl
theorem Enc.c26 (x0 x1 x2:Int):Enc (.clean x0 x1 x2) 26 [x0,x1,x2] []:=rfl
section
variable {k:Call} {n r:List Int}
theorem ci {p:Int} (h:Enc k p n r):p=(k.ctorIdx:Int):=by
 cases k <;> cases h <;> rfl
theorem e0 (h:Enc k 0 n r):∃ x0 x1 x2,k = .begin x0 x1 x2∧n=[x0,x1,x2]:=
 Call.begin.elim (motive:=fun k=>Enc k 0 n r->∃ x0 x1 x2,k = .begin x0 x1 x2∧n=[x0,x1,x2]) k (Int.ofNat.inj (ci h)).symm (fun _ _ _ h=>by cases h;exact ⟨_,_,_,rfl,rfl⟩) h
theorem e1 (h:Enc k 1 n r):∃ x0 x1 x2 x3 x4 b,k = .open_ x0 x1 x2 x3 x4 b∧n=[x0,x1,x2,x3,x4]∧r=vints b:=
 Call.open_.elim (motive:=fun k=>Enc k 1 n r->∃ x0 x1 x2 x3 x4 b,k = .open_ x0 x1 x2 x3 x4 b∧n=[x0,x1,x2,x3,x4]∧r=vints b) k (Int.ofNat.inj (ci h)).symm (fun _ _ _ _ _ _ h=>by cases h;exact ⟨_,_,_,_,_,_,rfl,rfl,rfl⟩) h
theorem e2 (h:Enc k 2 n r):∃ x0 x1 b,k = .line x0 x1 b∧n=[x0,x1]∧r=vints b:=
 Call.line.elim (motive:=fun k=>Enc k 2 n r->∃ x0 x1 b,k = .line x0 x1 b∧n=[x0,x1]∧r=vints b) k (Int.ofNat.inj (ci h)).symm (fun _ _ _ h=>by cases h;exact ⟨_,_,_,rfl,rfl,rfl⟩) h
theorem e3 (h:Enc k 3 n r):∃ x0,k = .close x0∧n=[x0]:=
 Call.close.elim (motive:=fun k=>Enc k 3 n r->∃ x0,k = .close x0∧n=[x0]) k (Int.ofNat.inj (ci h)).symm (fun _ h=>by cases h;exact ⟨_,rfl,rfl⟩) h
theorem e4 (h:Enc k 4 n r):∃ x0,k = .purge x0∧n=[x0]:=
 Call.purge.elim (motive:=fun k=>Enc k 4 n r->∃ x0,k = .purge x0∧n=[x0]) k (Int.ofNat.inj (ci h)).symm (fun _ h=>by cases h;exact ⟨_,rfl,rfl⟩) h
theorem e5 (h:Enc k 5 n r):∃ x0,k = .hold x0∧n=[x0]:=
 Call.hold.elim (motive:=fun k=>Enc k 5 n r->∃ x0,k = .hold x0∧n=[x0]) k (Int.ofNat.inj (ci h)).symm (fun _ h=>by cases h;exact ⟨_,rfl,rfl⟩) h
theorem e6 (h:Enc k 6 n r):∃ x0,k = .letgo x0∧n=[x0]:=
 Call.letgo.elim (motive:=fun k=>Enc k 6 n r->∃ x0,k = .letgo x0∧n=[x0]) k (Int.ofNat.inj (ci h)).symm (fun _ h=>by cases h;exact ⟨_,rfl,rfl⟩) h
theorem e7 (h:Enc k 7 n r):∃ x0 x1 x2 x3,k = .change x0 x1 x2 x3∧n=[x0,x1,x2,x3]:=
 Call.change.elim (motive:=fun k=>Enc k 7 n r->∃ x0 x1 x2 x3,k = .change x0 x1 x2 x3∧n=[x0,x1,x2,x3]) k (Int.ofNat.inj (ci h)).symm (fun _ _ _ _ h=>by cases h;exact ⟨_,_,_,_,rfl,rfl⟩) h
theorem e8 (h:Enc k 8 n r):∃ x0 x1,k = .copies x0 x1∧n=[x0,x1]:=
 Call.copies.elim (motive:=fun k=>Enc k 8 n r->∃ x0 x1,k = .copies x0 x1∧n=[x0,x1]) k (Int.ofNat.inj (ci h)).symm (fun _ _ h=>by cases h;exact ⟨_,_,rfl,rfl⟩) h
theorem e9 (h:Enc k 9 n r):∃ x0 x1 x2 x3,k = .start x0 x1 x2 x3 r∧n=[x0,x1,x2,x3]:=
 Call.start.elim (motive:=fun k=>Enc k 9 n r->∃ x0 x1 x2 x3,k = .start x0 x1 x2 x3 r∧n=[x0,x1,x2,x3]) k (Int.ofNat.inj (ci h)).symm (fun _ _ _ _ _ h=>by cases h;exact ⟨_,_,_,_,rfl,rfl⟩) h
theorem e10 (h:Enc k 10 n r):∃ x0 x1 x2,k = .serve x0 x1 x2 r∧n=[x0,x1,x2]:=
 Call.serve.elim (motive:=fun k=>Enc k 10 n r->∃ x0 x1 x2,k = .serve x0 x1 x2 r∧n=[x0,x1,x2]) k (Int.ofNat.inj (ci h)).symm (fun _ _ _ _ h=>by cases h;exact ⟨_,_,_,rfl,rfl⟩) h
theorem e11 (h:Enc k 11 n r):∃ x0 x1,k = .mount x0 x1∧n=[x0,x1]:=
 Call.mount.elim (motive:=fun k=>Enc k 11 n r->∃ x0 x1,k = .mount x0 x1∧n=[x0,x1]) k (Int.ofNat.inj (ci h)).symm (fun _ _ h=>by cases h;exact ⟨_,_,rfl,rfl⟩) h
theorem e12 (h:Enc k 12 n r):∃ x0,k = .halt_ x0∧n=[x0]:=
 Call.halt_.elim (motive:=fun k=>Enc k 12 n r->∃ x0,k = .halt_ x0∧n=[x0]) k (Int.ofNat.inj (ci h)).symm (fun _ h=>by cases h;exact ⟨_,rfl,rfl⟩) h
theorem e13 (h:Enc k 13 n r):∃ x0,k = .turn x0∧n=[x0]:=
 Call.turn.elim (motive:=fun k=>Enc k 13 n r->∃ x0,k = .turn x0∧n=[x0]) k (Int.ofNat.inj (ci h)).symm (fun _ h=>by cases h;exact ⟨_,rfl,rfl⟩) h
theorem e14 (h:Enc k 14 n r):∃ x0,k = .note x0∧n=[x0]:=
 Call.note.elim (motive:=fun k=>Enc k 14 n r->∃ x0,k = .note x0∧n=[x0]) k (Int.ofNat.inj (ci h)).symm (fun _ h=>by cases h;exact ⟨_,rfl,rfl⟩) h
theorem e15 (h:Enc k 15 n r):∃ x0 x1,k = .back x0 x1∧n=[x0,x1]:=
 Call.back.elim (motive:=fun k=>Enc k 15 n r->∃ x0 x1,k = .back x0 x1∧n=[x0,x1]) k (Int.ofNat.inj (ci h)).symm (fun _ _ h=>by cases h;exact ⟨_,_,rfl,rfl⟩) h
theorem e16 (h:Enc k 16 n r):∃ x0,k = .interrupt x0∧n=[x0]:=
 Call.interrupt.elim (motive:=fun k=>Enc k 16 n r->∃ x0,k = .interrupt x0∧n=[x0]) k (Int.ofNat.inj (ci h)).symm (fun _ h=>by cases h;exact ⟨_,rfl,rfl⟩) h
theorem e17 (h:Enc k 17 n r):k = .power∧n=[]:=
 Call.power.elim (motive:=fun k=>Enc k 17 n r->k = .power∧n=[]) k (Int.ofNat.inj (ci h)).symm (fun h=>by cases h;exact ⟨rfl,rfl⟩) h
theorem e18 (h:Enc k 18 n r):∃ x0,k = .cut x0∧n=[x0]:=
 Call.cut.elim (motive:=fun k=>Enc k 18 n r->∃ x0,k = .cut x0∧n=[x0]) k (Int.ofNat.inj (ci h)).symm (fun _ h=>by cases h;exact ⟨_,rfl,rfl⟩) h
theorem e19 (h:Enc k 19 n r):∃ x0,k = .pages x0∧n=[x0]:=
 Call.pages.elim (motive:=fun k=>Enc k 19 n r->∃ x0,k = .pages x0∧n=[x0]) k (Int.ofNat.inj (ci h)).symm (fun _ h=>by cases h;exact ⟨_,rfl,rfl⟩) h
theorem e20 (h:Enc k 20 n r):∃ x0 x1,k = .page x0 x1∧n=[x0,x1]:=
 Call.page.elim (motive:=fun k=>Enc k 20 n r->∃ x0 x1,k = .page x0 x1∧n=[x0,x1]) k (Int.ofNat.inj (ci h)).symm (fun _ _ h=>by cases h;exact ⟨_,_,rfl,rfl⟩) h
theorem e21 (h:Enc k 21 n r):∃ x0,k = .output x0∧n=[x0]:=
 Call.output.elim (motive:=fun k=>Enc k 21 n r->∃ x0,k = .output x0∧n=[x0]) k (Int.ofNat.inj (ci h)).symm (fun _ h=>by cases h;exact ⟨_,rfl,rfl⟩) h
theorem e22 (h:Enc k 22 n r):∃ x0,k = .queue x0∧n=[x0]:=
 Call.queue.elim (motive:=fun k=>Enc k 22 n r->∃ x0,k = .queue x0∧n=[x0]) k (Int.ofNat.inj (ci h)).symm (fun _ h=>by cases h;exact ⟨_,rfl,rfl⟩) h
theorem e23 (h:Enc k 23 n r):∃ x0,k = .writer x0∧n=[x0]:=
 Call.writer.elim (motive:=fun k=>Enc k 23 n r->∃ x0,k = .writer x0∧n=[x0]) k (Int.ofNat.inj (ci h)).symm (fun _ h=>by cases h;exact ⟨_,rfl,rfl⟩) h
theorem e24 (h:Enc k 24 n r):∃ x0 x1 x2,k = .paper x0 x1 x2∧n=[x0,x1,x2]:=
 Call.paper.elim (motive:=fun k=>Enc k 24 n r->∃ x0 x1 x2,k = .paper x0 x1 x2∧n=[x0,x1,x2]) k (Int.ofNat.inj (ci h)).symm (fun _ _ _ h=>by cases h;exact ⟨_,_,_,rfl,rfl⟩) h
theorem e25 (h:Enc k 25 n r):∃ x0 x1,k = .sheet x0 x1∧n=[x0,x1]:=
 Call.sheet.elim (motive:=fun k=>Enc k 25 n r->∃ x0 x1,k = .sheet x0 x1∧n=[x0,x1]) k (Int.ofNat.inj (ci h)).symm (fun _ _ h=>by cases h;exact ⟨_,_,rfl,rfl⟩) h
theorem e26 (h:Enc k 26 n r):∃ x0 x1 x2,k = .clean x0 x1 x2∧n=[x0,x1,x2]:=
 Call.clean.elim (motive:=fun k=>Enc k 26 n r->∃ x0 x1 x2,k = .clean x0 x1 x2∧n=[x0,x1,x2]) k (Int.ofNat.inj (ci h)).symm (fun _ _ _ h=>by cases h;exact ⟨_,_,_,rfl,rfl⟩) h
theorem e_le {p:Int} (h:Enc k p n r):0≤p∧p≤26:=by
 have c:k.ctorIdx≤26:=by cases k <;> exact of_decide_eq_true rfl
 have:=ci h
 omega
end
noncomputable def hasRow (p:Int):Bool:=p == 1 || p == 2 || p == 9 || p == 10
theorem row_some {r x t:List Int} (h:PyFlat.row r=some (x,t)):r=(x.length:Int)::(x++t):=by
 cases r with
 | nil=>cases h
 | cons n r =>
  unfold PyFlat.row at h
  dsimp only at h
  split at h
  ·rename_i hc
   have h:=Option.some.inj h
   have e1:r.take n.toNat=x:=congrArg Prod.fst h
   have e2:r.drop n.toNat=t:=congrArg Prod.snd h
   have e3:x.length=n.toNat:=by rw [← e1,List.length_take];omega
   rw [← e1,← e2,List.take_append_drop,e1,e3]
   congr 1
   omega
  ·cases h
theorem rows0 {r t:List Int} {xs:List (List Int)} (h:PyFlat.rows 0 r=some (xs,t)):xs=[]∧t=r:=by
 have h:=Option.some.inj h
 exact ⟨(congrArg Prod.fst h).symm,(congrArg Prod.snd h).symm⟩
theorem rows1 {r t:List Int} {xs:List (List Int)} (h:PyFlat.rows 1 r=some (xs,t)):∃ x,xs=[x]∧r=(x.length:Int)::(x++t):=by
 unfold PyFlat.rows at h
 cases e:PyFlat.row r with
 | none=>rw [e] at h;cases h
 | some q =>
  obtain ⟨x,u⟩:=q
  rw [e] at h
  have h:PyFlat.rows 0 u=some (([]:List (List Int)),u)∧xs=[x]∧t=u:=by
   have h:=Option.some.inj h
   exact ⟨rfl,(congrArg Prod.fst h).symm,(congrArg Prod.snd h).symm⟩
  obtain ⟨_,rfl,rfl⟩:=h
  exact ⟨x,rfl,row_some e⟩
theorem call_form {p:Int} {r t:List Int} {c:List (List Int)} (h:PyFlat.call PyVbbhak.shape (p::r)=some (c,t)) :
  ∃ n k xs,PyVbbhak.shape p=some (n,k)∧n≤r.length∧PyFlat.rows k (r.drop n)=some (xs,t)∧c=(p::r.take n)::xs:=by
 unfold PyFlat.call at h
 dsimp only at h
 cases e:PyVbbhak.shape p with
 | none=>rw [e] at h;cases h
 | some q =>
  obtain ⟨n,k⟩:=q
  rw [e] at h
  dsimp only at h
  split at h
  ·cases h
  ·rename_i hn
   cases e2:PyFlat.rows k (r.drop n) with
   | none=>rw [e2] at h;cases h
   | some q2 =>
    obtain ⟨xs,u⟩:=q2
    rw [e2] at h
    have h:=Option.some.inj h
    have h1:(p::r.take n)::xs=c:=congrArg Prod.fst h
    have h2:u=t:=congrArg Prod.snd h
    exact ⟨n,k,xs,rfl,by omega,by rw [← h2];exact e2,h1.symm⟩
theorem take_form:∀ (n:Nat) (r:List Int),n≤r.length->∃ a b,r=a++b∧a.length=n∧r.take n=a∧r.drop n=b:=fun n r h =>
 ⟨r.take n,r.drop n,(List.take_append_drop n r).symm,by rw [List.length_take];omega,rfl,rfl⟩
theorem len0 {a:List Int} (h:a.length=0):a=[]:=List.length_eq_zero_iff.mp h
theorem lenS {α:Type} {n:Nat}:∀ {us:List α},us.length=n + 1->∃ a t,us=a::t∧t.length=n
 | a::t,h=>⟨a,t,rfl,Nat.succ.inj h⟩
theorem len1 {us:List Int} (h:us.length=1):∃ x0,us=[x0]:=by
 obtain ⟨a,t,rfl,g⟩:=lenS h
 obtain rfl:=List.eq_nil_of_length_eq_zero g
 exact ⟨a,rfl⟩
theorem len2 {us:List Int} (h:us.length=2):∃ x0 x1,us=[x0,x1]:=by
 obtain ⟨a,t,rfl,g⟩:=lenS h
 obtain ⟨x1,rfl⟩:=len1 g
 exact ⟨a,x1,rfl⟩
theorem len3 {us:List Int} (h:us.length=3):∃ x0 x1 x2,us=[x0,x1,x2]:=by
 obtain ⟨a,t,rfl,g⟩:=lenS h
 obtain ⟨x1,x2,rfl⟩:=len2 g
 exact ⟨a,x1,x2,rfl⟩
theorem len4 {us:List Int} (h:us.length=4):∃ x0 x1 x2 x3,us=[x0,x1,x2,x3]:=by
 obtain ⟨a,t,rfl,g⟩:=lenS h
 obtain ⟨x1,x2,x3,rfl⟩:=len3 g
 exact ⟨a,x1,x2,x3,rfl⟩
theorem len5 {us:List Int} (h:us.length=5):∃ x0 x1 x2 x3 x4,us=[x0,x1,x2,x3,x4]:=by
 obtain ⟨a,t,rfl,g⟩:=lenS h
 obtain ⟨x1,x2,x3,x4,rfl⟩:=len4 g
 exact ⟨a,x1,x2,x3,x4,rfl⟩
structure Told1 (p:Int) (r t:List Int) (c:List (List Int)) (k:Call) (nums row:List Int):Prop where
 enc:Enc k p nums row
 of:VbbhakNeutral.callOf c=some k
 sh:PyVbbhak.shape p=some (nums.length,if hasRow p=true then 1 else 0)
 row:r=nums++(if hasRow p=true then (row.length:Int)::(row++t) else t)
 big:VbbhakNeutral.asked1 c=true
theorem told_no {p:Int} {n:Nat} {r t:List Int} {c:List (List Int)} (e:PyVbbhak.shape p=some (n,0)) (h:PyFlat.call PyVbbhak.shape (p::r)=some (c,t)):∃ a,a.length=n∧r=a++t∧c=[p::a]:=by
 obtain ⟨m,k,xs,hs,hn,hr,rfl⟩:=call_form h
 cases Option.some.inj (e.symm.trans hs)
 obtain ⟨a,b,rfl,la,ta,da⟩:=take_form n r hn
 rw [da] at hr
 obtain ⟨rfl,rfl⟩:=rows0 hr
 exact ⟨a,la,rfl,by rw [ta]⟩
theorem told_row {p:Int} {n:Nat} {r t:List Int} {c:List (List Int)} (e:PyVbbhak.shape p=some (n,1)) (h:PyFlat.call PyVbbhak.shape (p::r)=some (c,t)):∃ a x,a.length=n∧r=a++(x.length:Int)::(x++t)∧c=[p::a,x]:=by
 obtain ⟨m,k,xs,hs,hn,hr,rfl⟩:=call_form h
 cases Option.some.inj (e.symm.trans hs)
 obtain ⟨a,b,rfl,la,ta,da⟩:=take_form n r hn
 rw [da] at hr
 obtain ⟨x,rfl,rfl⟩:=rows1 hr
 exact ⟨a,x,la,rfl,by rw [ta]⟩
noncomputable def VArgs:Nat->(List Int->Prop)->Prop
 | 0,P=>P []
 | n + 1,P=>∀ x,VArgs n fun l=>P (x::l)
theorem vargs:∀ {n:Nat} {P:List Int->Prop} {a:List Int},a.length=n->VArgs n P->P a
 | 0,_,_,h,k=>by cases len0 h;exact k
 | n + 1,P,_,h,k=>by
  obtain ⟨x,l,rfl,g⟩:=lenS h
  exact vargs (P:=fun l=>P (x::l)) g (k x)
noncomputable def VAt (P:Int->List Int->List Int->List (List Int)->Prop) (i:Int) (n:Nat):Nat->Prop
 | 0=>∀ t,VArgs n fun a=>P i (a++t) t [i::a]
 | _=>∀ t x,VArgs n fun a=>P i (a++(x.length:Int)::(x++t)) t [i::a,x]
theorem vat0 {P:Int->List Int->List Int->List (List Int)->Prop} {p:Int} {r t:List Int} {c:List (List Int)} (h:PyFlat.call PyVbbhak.shape (p::r)=some (c,t)) {i:Int} {n:Nat} (e:PyVbbhak.shape i=some (n,0)) (k:VAt P i n 0) (q:¬ p=i->P p r t c):P p r t c:=by
 by_cases d:p=i
 ·subst d
  obtain ⟨a,la,rfl,rfl⟩:=told_no e h
  exact vargs (P:=fun a=>P p (a++t) t [p::a]) la (k t)
 ·exact q d
theorem vat1 {P:Int->List Int->List Int->List (List Int)->Prop} {p:Int} {r t:List Int} {c:List (List Int)} (h:PyFlat.call PyVbbhak.shape (p::r)=some (c,t)) {i:Int} {n:Nat} (e:PyVbbhak.shape i=some (n,1)) (k:VAt P i n 1) (q:¬ p=i->P p r t c):P p r t c:=by
 by_cases d:p=i
 ·subst d
  obtain ⟨a,x,la,rfl,rfl⟩:=told_row e h
  exact vargs (P:=fun a=>P p (a++(x.length:Int)::(x++t)) t [p::a,x]) la (k t x)
 ·exact q d
theorem by_call {P:Int->List Int->List Int->List (List Int)->Prop} {p:Int} {r t:List Int} {c:List (List Int)} (h:PyFlat.call PyVbbhak.shape (p::r)=some (c,t)) (k0:VAt P 0 3 0) (k1:VAt P 1 5 1) (k2:VAt P 2 2 1) (k3:VAt P 3 1 0) (k4:VAt P 4 1 0) (k5:VAt P 5 1 0) (k6:VAt P 6 1 0) (k7:VAt P 7 4 0) (k8:VAt P 8 2 0) (k9:VAt P 9 4 1) (k10:VAt P 10 3 1) (k11:VAt P 11 2 0) (k12:VAt P 12 1 0) (k13:VAt P 13 1 0) (k14:VAt P 14 1 0) (k15:VAt P 15 2 0) (k16:VAt P 16 1 0) (k17:VAt P 17 0 0) (k18:VAt P 18 1 0) (k19:VAt P 19 1 0) (k20:VAt P 20 2 0) (k21:VAt P 21 1 0) (k22:VAt P 22 1 0) (k23:VAt P 23 1 0) (k24:VAt P 24 3 0) (k25:VAt P 25 2 0) (k26:VAt P 26 3 0):P p r t c:=by
 refine vat0 h rfl k0 fun e0=>?_
 refine vat1 h rfl k1 fun e1=>?_
 refine vat1 h rfl k2 fun e2=>?_
 refine vat0 h rfl k3 fun e3=>?_
 refine vat0 h rfl k4 fun e4=>?_
 refine vat0 h rfl k5 fun e5=>?_
 refine vat0 h rfl k6 fun e6=>?_
 refine vat0 h rfl k7 fun e7=>?_
 refine vat0 h rfl k8 fun e8=>?_
 refine vat1 h rfl k9 fun e9=>?_
 refine vat1 h rfl k10 fun e10=>?_
 refine vat0 h rfl k11 fun e11=>?_
 refine vat0 h rfl k12 fun e12=>?_
 refine vat0 h rfl k13 fun e13=>?_
 refine vat0 h rfl k14 fun e14=>?_
 refine vat0 h rfl k15 fun e15=>?_
 refine vat0 h rfl k16 fun e16=>?_
 refine vat0 h rfl k17 fun e17=>?_
 refine vat0 h rfl k18 fun e18=>?_
 refine vat0 h rfl k19 fun e19=>?_
 refine vat0 h rfl k20 fun e20=>?_
 refine vat0 h rfl k21 fun e21=>?_
 refine vat0 h rfl k22 fun e22=>?_
 refine vat0 h rfl k23 fun e23=>?_
 refine vat0 h rfl k24 fun e24=>?_
 refine vat0 h rfl k25 fun e25=>?_
 refine vat0 h rfl k26 fun e26=>?_
 obtain ⟨n,k,xs,hs,_⟩:=call_form h
 exfalso
 unfold PyVbbhak.shape at hs
 simp [*] at hs
theorem told_mk {p:Int} {r t:List Int} {c:List (List Int)} {k:Call} {nums row:List Int} (a:Enc k p nums row) (b:VbbhakNeutral.callOf c=some k) (d:PyVbbhak.shape p=some (nums.length,if hasRow p=true then 1 else 0)) (e:r=nums++(if hasRow p=true then (row.length:Int)::(row++t) else t)) (f:VbbhakNeutral.asked1 c=true):∃ k nums row,Told1 p r t c k nums row:=⟨_,_,_,a,b,d,e,f⟩
noncomputable def Told (p:Int) (r t:List Int) (c:List (List Int)):Prop:=VbbhakNeutral.asked1 c=true->∃ k nums row,Told1 p r t c k nums row
theorem told1:VAt Told 1 5 1:=by
 intro t x x0 x1 x2 x3 x4 ha
 have hb:x.all (fun (z:Int)=>VbbhakNeutral.natural z 8)=true:=by
  have ha:(VbbhakNeutral.whole64 x0 && VbbhakNeutral.whole64 x1 && VbbhakNeutral.whole64 x2 && VbbhakNeutral.whole64 x3 && VbbhakNeutral.whole64 x4 && (x.all (fun (z:Int)=>VbbhakNeutral.natural z 8) && decide (x.length≤20000)))=true:=ha
  simp only [Bool.and_eq_true] at ha
  exact ha.2.1
 obtain ⟨bb,e1,rfl⟩:=bytes_of x hb
 refine told_mk (.c1 x0 x1 x2 x3 x4 bb) ?_ rfl rfl ha
 show (VbbhakNeutral.bytes? (vints bb)).map _=_
 rw [e1]
 rfl
theorem told2:VAt Told 2 2 1:=by
 intro t x x0 x1 ha
 have hb:x.all (fun (z:Int)=>VbbhakNeutral.natural z 8)=true:=by
  have ha:(VbbhakNeutral.whole64 x0 && VbbhakNeutral.whole64 x1 && (x.all (fun (z:Int)=>VbbhakNeutral.natural z 8) && decide (x.length≤20000)))=true:=ha
  simp only [Bool.and_eq_true] at ha
  exact ha.2.1
 obtain ⟨bb,e1,rfl⟩:=bytes_of x hb
 refine told_mk (.c2 x0 x1 bb) ?_ rfl rfl ha
 show (VbbhakNeutral.bytes? (vints bb)).map _=_
 rw [e1]
 rfl
theorem told_any {p:Int} {r t:List Int} {c:List (List Int)} (h:PyFlat.call PyVbbhak.shape (p::r)=some (c,t)):VbbhakNeutral.asked1 c=true->∃ k nums row,Told1 p r t c k nums row:=
 by_call (P:=Told) h (fun _ x0 x1 x2 ha=>told_mk (.c0 x0 x1 x2) rfl rfl rfl ha) told1 told2 (fun _ x0 ha=>told_mk (.c3 x0) rfl rfl rfl ha) (fun _ x0 ha=>told_mk (.c4 x0) rfl rfl rfl ha) (fun _ x0 ha=>told_mk (.c5 x0) rfl rfl rfl ha) (fun _ x0 ha=>told_mk (.c6 x0) rfl rfl rfl ha) (fun _ x0 x1 x2 x3 ha=>told_mk (.c7 x0 x1 x2 x3) rfl rfl rfl ha) (fun _ x0 x1 ha=>told_mk (.c8 x0 x1) rfl rfl rfl ha) (fun _ x x0 x1 x2 x3 ha=>told_mk (.c9 x0 x1 x2 x3 x) rfl rfl rfl ha) (fun _ x x0 x1 x2 ha=>told_mk (.c10 x0 x1 x2 x) rfl rfl rfl ha) (fun _ x0 x1 ha=>told_mk (.c11 x0 x1) rfl rfl rfl ha) (fun _ x0 ha=>told_mk (.c12 x0) rfl rfl rfl ha) (fun _ x0 ha=>told_mk (.c13 x0) rfl rfl rfl ha) (fun _ x0 ha=>told_mk (.c14 x0) rfl rfl rfl ha) (fun _ x0 x1 ha=>told_mk (.c15 x0 x1) rfl rfl rfl ha) (fun _ x0 ha=>told_mk (.c16 x0) rfl rfl rfl ha) (fun _ ha=>told_mk (.c17) rfl rfl rfl ha) (fun _ x0 ha=>told_mk (.c18 x0) rfl rfl rfl ha) (fun _ x0 ha=>told_mk (.c19 x0) rfl rfl rfl ha) (fun _ x0 x1 ha=>told_mk (.c20 x0 x1) rfl rfl rfl ha) (fun _ x0 ha=>told_mk (.c21 x0) rfl rfl rfl ha) (fun _ x0 ha=>told_mk (.c22 x0) rfl rfl rfl ha) (fun _ x0 ha=>told_mk (.c23 x0) rfl rfl rfl ha) (fun _ x0 x1 x2 ha=>told_mk (.c24 x0 x1 x2) rfl rfl rfl ha) (fun _ x0 x1 ha=>told_mk (.c25 x0 x1) rfl rfl rfl ha) (fun _ x0 x1 x2 ha=>told_mk (.c26 x0 x1 x2) rfl rfl rfl ha)
inductive Dec:List Int->List (List (List Int))->Prop
 | nil:Dec [] []
 | cons {p:Int} {r t:List Int} {c:List (List Int)} {cs:List (List (List Int))}:PyFlat.call PyVbbhak.shape (p::r)=some (c,t)->Dec t cs->Dec (p::r) (c::cs)
theorem dec_of:∀ (f:Nat) (l:List Int) (cs:List (List (List Int))),PyFlat.calls PyVbbhak.shape f l=some cs->Dec l cs
 | _,[],cs,h=>by
  have e:cs=[]:=by
   unfold PyFlat.calls at h
   exact (Option.some.inj h).symm
  rw [e];exact .nil
 | 0,_::_,cs,h=>by unfold PyFlat.calls at h;cases h
 | f + 1,p::r,cs,h=>by
  unfold PyFlat.calls at h
  cases e:PyFlat.call PyVbbhak.shape (p::r) with
  | none=>rw [e] at h;cases h
  | some q =>
   obtain ⟨c,t⟩:=q
   rw [e] at h
   dsimp only at h
   cases e2:PyFlat.calls PyVbbhak.shape f t with
   | none=>rw [e2] at h;cases h
   | some cs' =>
    rw [e2] at h
    rw [← Option.some.inj h]
    exact .cons e (dec_of f t cs' e2)
theorem whole_any {p:Int} {r t:List Int} {c:List (List Int)} (h:PyFlat.call PyVbbhak.shape (p::r)=some (c,t)):PyVbbhak.whole c=c:=
 by_call (P:=fun _ _ _ c=>PyVbbhak.whole c=c) h (fun _ _ _ _=>rfl) (fun _ _ _ _ _ _ _=>rfl) (fun _ _ _ _=>rfl) (fun _ _=>rfl) (fun _ _=>rfl) (fun _ _=>rfl) (fun _ _=>rfl) (fun _ _ _ _ _=>rfl) (fun _ _ _=>rfl) (fun _ _ _ _ _ _=>rfl) (fun _ _ _ _ _=>rfl) (fun _ _ _=>rfl) (fun _ _=>rfl) (fun _ _=>rfl) (fun _ _=>rfl) (fun _ _ _=>rfl) (fun _ _=>rfl) (fun _=>rfl) (fun _ _=>rfl) (fun _ _=>rfl) (fun _ _ _=>rfl) (fun _ _=>rfl) (fun _ _=>rfl) (fun _ _=>rfl) (fun _ _ _ _=>rfl) (fun _ _ _=>rfl) (fun _ _ _ _=>rfl)
theorem whole_all:∀ {l:List Int} {cs:List (List (List Int))},Dec l cs->cs.map PyVbbhak.whole=cs
 | _,_,.nil=>rfl
 | _,_,.cons h d=>by rw [List.map_cons,whole_any h,whole_all d]
noncomputable def answersFrom (s:State) (cs:List (List (List Int))):List Int:=PyFlat.told (PyFlat.played VbbhakNeutral.step s cs)
theorem answersFrom_nil (s:State):answersFrom s []=[]:=rfl
noncomputable def flat (a:Ans):List Int:=a.num::a.rows.flatMap fun r=>(r.length:Int)::r.map Int.ofNat
theorem answersFrom_cons {s:State} {c:List (List Int)} {cs:List (List (List Int))} {k:Call} (h:VbbhakNeutral.callOf c=some k) :
  answersFrom s (c::cs)=((flat (step s k).2).length:Int)::(flat (step s k).2++answersFrom (step s k).1 cs):=by
 have e:VbbhakNeutral.step s c=((step s k).1,flat (step s k).2):=by
  unfold VbbhakNeutral.step
  rw [h]
  rfl
 show PyFlat.told ((VbbhakNeutral.step s c).2::PyFlat.played VbbhakNeutral.step (VbbhakNeutral.step s c).1 cs)=_
 rw [e]
 rfl
theorem asked_form {l:List Int} (h:PyVbbhak.answers_asked l=true):∃ cs,Dec l cs∧(∀ c ∈ cs,VbbhakNeutral.asked1 c=true)∧cs.length≤150∧PyVbbhak.answers l=answersFrom start cs:=by
 unfold PyVbbhak.answers_asked at h
 cases e:PyVbbhak.calls l with
 | none=>rw [e] at h;cases h
 | some cs =>
  rw [e] at h
  dsimp only at h
  have e':∃ cs',PyFlat.calls PyVbbhak.shape l.length l=some cs'∧cs'.map PyVbbhak.whole=cs:=by
   unfold PyVbbhak.calls at e
   cases e2:PyFlat.calls PyVbbhak.shape l.length l with
   | none=>rw [e2] at e;cases e
   | some cs'=>rw [e2] at e;exact ⟨cs',rfl,Option.some.inj e⟩
  obtain ⟨cs',e1,e2⟩:=e'
  have e3:cs'.map PyVbbhak.whole=cs':=whole_all (dec_of _ _ _ e1)
  rw [e3] at e2
  subst e2
  rw [Bool.and_eq_true] at h
  obtain ⟨h1,h2⟩:=h
  unfold VbbhakNeutral.asked at h2
  rw [Bool.and_eq_true] at h2
  unfold PyFlat.atMost at h1
  refine ⟨cs',dec_of _ _ _ e1,List.all_eq_true.mp h2.1,of_decide_eq_true h1,?_⟩
  unfold PyVbbhak.answers
  rw [e]
  rfl
end VB
end
section
set_option Elab.async false
namespace VB
open Vbbhak
theorem put_ne (most:Nat) (cur:List Bytes) (x:Line):(put most cur x).2 ≠ []:=by
 unfold put
 dsimp only
 split
 ·split <;> simp
 ·split
  ·simp
  ·split <;> simp
theorem pagesFrom_ne (most:Nat):∀ (l:List Line) (cur:List Bytes),cur ≠ []->pagesFrom most cur l ≠ []
 | [],cur,h=>by unfold pagesFrom;rw [if_neg h];simp
 | x::r,cur,h=>by
  unfold pagesFrom
  dsimp only
  intro e
  exact pagesFrom_ne most r _ (put_ne most cur x) (List.append_eq_nil_iff.mp e).2
noncomputable def addLine (most:Nat) (ps:List (List Bytes)) (x:Line):List (List Bytes):=
 ps.dropLast++((put most (ps.getLastD []) x).1++[(put most (ps.getLastD []) x).2])
theorem addLine_app (most:Nat) (A B:List (List Bytes)) (x:Line) (h:B ≠ []):addLine most (A++B) x=A++addLine most B x:=by
 unfold addLine
 have e1:(A++B).dropLast=A++B.dropLast:=List.dropLast_append_of_ne_nil h
 have e2:(A++B).getLastD []=B.getLastD []:=by
  rw [List.getLastD_eq_getLast?,List.getLastD_eq_getLast?,List.getLast?_append,List.getLast?_eq_some_getLast h]
  rfl
 rw [e1,e2,List.append_assoc]
theorem pagesFrom_snoc (most:Nat) (x:Line):∀ (l:List Line) (cur:List Bytes),pagesFrom most cur (l++[x])=addLine most (pagesFrom most cur l) x
 | [],cur=>by
  show pagesFrom most cur [x]=_
  unfold pagesFrom
  dsimp only
  unfold pagesFrom
  rw [if_neg (put_ne most cur x)]
  unfold addLine
  by_cases h:cur=[]
  ·rw [if_pos h,h];rfl
  ·rw [if_neg h];rfl
 | z::r,cur=>by
  show (put most cur z).1++pagesFrom most (put most cur z).2 (r++[x])=addLine most ((put most cur z).1++pagesFrom most (put most cur z).2 r) x
  rw [pagesFrom_snoc most x r,addLine_app most _ _ x (pagesFrom_ne most r _ (put_ne most cur z))]
theorem pages_snoc (most:Nat) (l:List Line) (x:Line):pages most (l++[x])=addLine most (pages most l) x:=pagesFrom_snoc most x l []
theorem page_ne (most:Nat):∀ (l:List Line) (cur:List Bytes),∀ p ∈ pagesFrom most cur l,p ≠ []
 | [],cur,p,hp=>by
  unfold pagesFrom at hp
  by_cases h:cur=[]
  ·rw [if_pos h] at hp;cases hp
  ·rw [if_neg h] at hp;rw [List.mem_singleton.mp hp];exact h
 | x::r,cur,p,hp=>by
  have hp':p ∈ (put most cur x).1++pagesFrom most (put most cur x).2 r:=hp
  rcases List.mem_append.mp hp' with h | h
  ·unfold put at h
   dsimp only at h
   split at h
   ·split at h <;> simp at h
   ·rename_i hc
    split at h
    ·simp at h
    ·split at h
     ·rw [List.mem_singleton.mp h];exact hc
     ·simp at h
  ·exact page_ne most r _ p h
theorem addLine_nil (most:Nat) (x:Line):addLine most [] x=[(put most [] x).2]:=by
 unfold addLine
 have e:(put most [] x).1=[]:=by
  unfold put
  dsimp only
  rw [if_pos rfl]
  split <;> rfl
 show []++((put most [] x).1++[(put most [] x).2])=_
 rw [e];rfl
noncomputable def firstRow (most:Nat) (c:UInt8):Nat:=if c=43∨c=49∨most < gap c then 1 else gap c
theorem addLine_first (most:Nat) (x:Line):addLine most [] x=[List.replicate (firstRow most x.code - 1) []++[trimmed x.text]]:=by
 rw [addLine_nil]
 unfold put firstRow
 dsimp only
 rw [if_pos rfl]
 split <;> rfl
theorem addLine_over (most:Nat) (A:List (List Bytes)) (p:List Bytes) (q:Bytes) (x:Line) (h:x.code=43) :
  addLine most (A++[p++[q]]) x=A++[p++[overlaid q (trimmed x.text)]]:=by
 unfold addLine put
 dsimp only
 rw [List.dropLast_concat,show (A++[p++[q]]).getLastD []=p++[q] by rw [List.getLastD_eq_getLast?];simp,if_neg (by simp),if_pos h]
 simp
theorem addLine_page (most:Nat) (A:List (List Bytes)) (p:List Bytes) (x:Line) (hp:p ≠ []) (h:x.code ≠ 43) (h2:x.code=49∨most < p.length + gap x.code) :
  addLine most (A++[p]) x=(A++[p])++[[trimmed x.text]]:=by
 unfold addLine put
 dsimp only
 rw [List.dropLast_concat,show (A++[p]).getLastD []=p by rw [List.getLastD_eq_getLast?];simp,if_neg hp,if_neg h,if_pos h2]
 simp
theorem addLine_down (most:Nat) (A:List (List Bytes)) (p:List Bytes) (x:Line) (hp:p ≠ []) (h:x.code ≠ 43) (h2:¬ (x.code=49∨most < p.length + gap x.code)) :
  addLine most (A++[p]) x=A++[p++(List.replicate (gap x.code - 1) []++[trimmed x.text])]:=by
 unfold addLine put
 dsimp only
 rw [List.dropLast_concat,show (A++[p]).getLastD []=p by rw [List.getLastD_eq_getLast?];simp,if_neg hp,if_neg h,if_neg h2]
 simp
theorem trimmed_blank (b:Bytes):trimmed (b++[32])=trimmed b:=by
 unfold trimmed
 rw [List.reverse_append]
 show (List.dropWhile _ (32::b.reverse)).reverse=_
 rw [List.dropWhile_cons_of_pos rfl]
theorem trimmed_other (b:Bytes) (c:UInt8) (h:c ≠ 32):trimmed (b++[c])=b++[c]:=by
 unfold trimmed
 rw [List.reverse_append]
 show (List.dropWhile _ (c::b.reverse)).reverse=_
 rw [List.dropWhile_cons_of_neg (by simpa using h)]
 simp
theorem take_snoc {α:Type} {l:List α} {i:Nat} {x:α} (h:l[i]? = some x):l.take (i + 1)=l.take i++[x]:=by
 rw [List.take_add_one,h];rfl
theorem trim_stop (b:Bytes) (n:Nat) (hn:n≤b.length) (h:∀ c,n ≠ 0->b[n - 1]? = some c->c ≠ 32):trimmed (b.take n)=b.take n:=by
 cases n with
 | zero=>rfl
 | succ k =>
  have hk:k < b.length:=hn
  have e:b[k]? = some b[k]:=List.getElem?_eq_getElem hk
  rw [take_snoc e]
  exact trimmed_other _ _ (h _ (by omega) e)
theorem trim_step (b:Bytes) (k:Nat) (h:b[k]? = some 32):trimmed (b.take (k + 1))=trimmed (b.take k):=by
 rw [take_snoc h,trimmed_blank]
noncomputable def at32 (b:Bytes) (k:Nat):UInt8:=b.getD k 32
theorem struck_blank (a:UInt8):struck a 32=a:=by
 unfold struck
 split
 ·rename_i h;exact h.symm
 ·rw [if_pos (.inl rfl)]
theorem blank_struck (a:UInt8):struck 32 a=a:=by unfold struck;rw [if_pos rfl]
theorem overlaid_length:∀ a b:Bytes,(overlaid a b).length=max a.length b.length
 | [],b=>by unfold overlaid;simp
 | x::a,[]=>by simp [overlaid]
 | x::a,y::b=>by
  show (struck x y::overlaid a b).length=_
  rw [List.length_cons,overlaid_length a b,List.length_cons,List.length_cons]
  omega
theorem overlaid_get:∀ (a b:Bytes) (k:Nat),k < max a.length b.length->(overlaid a b)[k]? = some (struck (at32 a k) (at32 b k))
 | [],b,k,h=>by
  have hk:k < b.length:=by simpa using h
  unfold overlaid at32
  rw [List.getD_nil,blank_struck,List.getD_eq_getElem?_getD,List.getElem?_eq_getElem hk]
  rfl
 | x::a,[],k,h=>by
  have hk:k < (x::a).length:=by simpa using h
  show (x::a)[k]? = _
  unfold at32
  rw [List.getD_nil,struck_blank,List.getD_eq_getElem?_getD,List.getElem?_eq_getElem hk]
  rfl
 | x::a,y::b,0,h=>rfl
 | x::a,y::b,k + 1,h=>by
  show (overlaid a b)[k]? = _
  rw [overlaid_get a b k (by simp only [List.length_cons] at h;omega)]
  rfl
end VB
end
section
set_option Elab.async false
namespace VB
open Vbbhak
noncomputable def Bf (a b:Out):Prop:=b.prio < a.prio∨(a.prio=b.prio∧a.num < b.num)
theorem before_iff (a b:Out):before a b=true ↔ Bf a b:=by
 unfold before Bf
 simp
theorem Bf.trans {a b c:Out} (h:Bf a b) (h':Bf b c):Bf a c:=by unfold Bf at *;omega
theorem Bf.asymm {a b:Out} (h:Bf a b):¬ Bf b a:=by unfold Bf at *;omega
theorem Bf.total {a b:Out} (h:a.num ≠ b.num):Bf a b∨Bf b a:=by unfold Bf;omega
noncomputable def ord (l:List Out):List Out:=l.foldr insertOut []
theorem ord_cons (o:Out) (l:List Out):ord (o::l)=insertOut o (ord l):=rfl
theorem ins_perm (o:Out):∀ l:List Out,(insertOut o l).Perm (o::l)
 | []=>.refl _
 | x::l=>by
  unfold insertOut
  split
  ·exact .refl _
  ·exact ((ins_perm o l).cons x).trans (.swap o x l)
theorem ord_perm:∀ l:List Out,(ord l).Perm l
 | []=>.refl _
 | o::l=>(ins_perm o (ord l)).trans ((ord_perm l).cons o)
theorem ins_pw (o:Out):∀ l:List Out,l.Pairwise Bf->(∀ x ∈ l,x.num ≠ o.num)->(insertOut o l).Pairwise Bf
 | [],_,_=>by unfold insertOut;simp
 | x::l,h,hn=>by
  obtain ⟨h1,h2⟩:=List.pairwise_cons.mp h
  unfold insertOut
  split
  ·rename_i hb
   have hb:=(before_iff o x).mp hb
   refine List.pairwise_cons.mpr ⟨fun y hy=>?_,h⟩
   rcases List.mem_cons.mp hy with e | hy
   ·rw [e];exact hb
   ·exact hb.trans (h1 y hy)
  ·rename_i hb
   have hx:Bf x o:=(Bf.total (hn x List.mem_cons_self)).resolve_right fun z=>hb ((before_iff o x).mpr z)
   refine List.pairwise_cons.mpr ⟨fun y hy=>?_,ins_pw o l h2 fun y hy=>hn y (List.mem_cons_of_mem _ hy)⟩
   rcases List.mem_cons.mp ((ins_perm o l).mem_iff.mp hy) with e | hy
   ·rw [e];exact hx
   ·exact h1 y hy
theorem ord_pw:∀ l:List Out,(l.map (·.num)).Nodup->(ord l).Pairwise Bf
 | [],_=>by simp [ord]
 | o::l,h=>by
  obtain ⟨h1,h2⟩:=List.nodup_cons.mp (show (o.num::l.map (·.num)).Nodup from h)
  refine ins_pw o _ (ord_pw l h2) fun x hx e=>h1 ?_
  rw [← e]
  exact List.mem_map_of_mem ((ord_perm l).mem_iff.mp hx)
theorem uniq:∀ {l m:List Out},l.Perm m->l.Pairwise Bf->m.Pairwise Bf->l=m
 | [],m,p,_,_=>by rw [p.symm.eq_nil]
 | a::l,[],p,_,_=>by exact absurd p.eq_nil (by simp)
 | a::l,b::m,p,h,h'=>by
  obtain ⟨h1,h2⟩:=List.pairwise_cons.mp h
  obtain ⟨h3,h4⟩:=List.pairwise_cons.mp h'
  have e:a=b:=by
   rcases List.mem_cons.mp (p.mem_iff.mp (List.mem_cons_self (a:=a) (l:=l))) with e | e
   ·exact e
   ·rcases List.mem_cons.mp (p.mem_iff.mpr (List.mem_cons_self (a:=b) (l:=m))) with e' | e'
    ·exact e'.symm
    ·exact absurd (h1 b e') (h3 a e).asymm
  subst e
  rw [uniq (List.Perm.cons_inv p) h2 h4]
theorem best_ord:∀ l:List Out,best l=(ord l).head?
 | []=>rfl
 | o::l=>by
  unfold best
  rw [ord_cons,best_ord l]
  cases ord l with
  | nil=>rfl
  | cons x r =>
   show (if before o x=true then some o else some x)=(insertOut o (x::r)).head?
   unfold insertOut
   split <;> rfl
theorem nodup_filter {l:List Out} (p:Out->Bool) (h:(l.map (·.num)).Nodup):((l.filter p).map (·.num)).Nodup:=
 h.sublist (List.filter_sublist.map _)
theorem ord_filter (p:Out->Bool) (l:List Out) (h:(l.map (·.num)).Nodup):(ord l).filter p=ord (l.filter p):=
 uniq (((ord_perm l).filter p).trans (ord_perm _).symm) ((ord_pw l h).filter p) (ord_pw _ (nodup_filter p h))
theorem sorted_is {l m:List Out} (hn:(l.map (·.num)).Nodup) (p:m.Perm l) (h:m.Pairwise fun a b=>¬ Bf b a):m=ord l:=by
 refine uniq (p.trans (ord_perm l).symm) ?_ (ord_pw l hn)
 have hm:(m.map (·.num)).Nodup:=(p.map _).nodup_iff.mpr hn
 have hm':m.Pairwise fun a b=>a.num ≠ b.num:=List.pairwise_map.mp hm
 exact (h.and hm').imp fun {a b} ⟨z,ne⟩=>(Bf.total ne).resolve_right z
end VB
end
section
set_option Elab.async false
namespace VB
open Vbbhak
theorem trimmed_length (b:Bytes):(trimmed b).length≤b.length:=by
 unfold trimmed
 rw [List.length_reverse]
 refine Nat.le_trans (List.dropWhile_sublist _).length_le ?_
 rw [List.length_reverse]
 exact Nat.le_refl _
noncomputable def LineOk (x:Line):Prop:=x.text.length≤132
theorem gap_le (c:UInt8):gap c≤3:=by unfold gap;split;omega;split <;> omega
theorem pages_size (most:Nat):∀ (l:List Line) (cur:List Bytes),(∀ x ∈ l,LineOk x)->(∀ r ∈ cur,r.length≤132)->∀ p ∈ pagesFrom most cur l,p.length≤cur.length + 3 * l.length∧∀ r ∈ p,r.length≤132
 | [],cur,_,hc,p,hp=>by
  unfold pagesFrom at hp
  by_cases h:cur=[]
  ·rw [if_pos h] at hp;cases hp
  ·rw [if_neg h] at hp;rw [List.mem_singleton.mp hp];exact ⟨by simp,hc⟩
 | x::l,cur,hl,hc,p,hp=>by
  have hx:=hl x List.mem_cons_self
  have ht:(trimmed x.text).length≤132:=Nat.le_trans (trimmed_length _) hx
  have hg:=gap_le x.code
  have hp':p ∈ (put most cur x).1++pagesFrom most (put most cur x).2 l:=hp
  have hput:(∀ q ∈ (put most cur x).1,q=cur)∧(put most cur x).2.length≤cur.length + 3∧∀ r ∈ (put most cur x).2,r.length≤132:=by
   unfold put
   dsimp only
   split
   ·rename_i h0
    split
    ·exact ⟨fun q hq=>(by cases hq),by simp,fun r hr=>by rw [List.mem_singleton.mp hr];exact ht⟩
    ·refine ⟨fun q hq=>(by cases hq),by simp;omega,fun r hr=>?_⟩
     rcases List.mem_append.mp hr with h | h
     ·rw [(List.mem_replicate.mp h).2];simp
     ·rw [List.mem_singleton.mp h];exact ht
   ·rename_i h0
    split
    ·refine ⟨fun q hq=>(by cases hq),by simp;omega,fun r hr=>?_⟩
     rcases List.mem_append.mp hr with h | h
     ·exact hc r (List.dropLast_subset _ h)
     ·rw [List.mem_singleton.mp h,overlaid_length]
      have:(cur.getLastD []).length≤132:=by
       cases e:cur.getLast? with
       | none=>rw [List.getLastD_eq_getLast?,e];simp
       | some y=>rw [List.getLastD_eq_getLast?,e];exact hc y (List.mem_of_getLast? e)
      omega
    ·split
     ·exact ⟨fun q hq=>List.mem_singleton.mp hq,by simp,fun r hr=>by rw [List.mem_singleton.mp hr];exact ht⟩
     ·refine ⟨fun q hq=>(by cases hq),by simp;omega,fun r hr=>?_⟩
      rcases List.mem_append.mp hr with h | h
      ·exact hc r h
      ·rcases List.mem_append.mp h with h | h
       ·rw [(List.mem_replicate.mp h).2];simp
       ·rw [List.mem_singleton.mp h];exact ht
  rcases List.mem_append.mp hp' with h | h
  ·rw [hput.1 p h]
   exact ⟨by omega,hc⟩
  ·obtain ⟨h1,h2⟩:=pages_size most l _ (fun y hy=>hl y (List.mem_cons_of_mem _ hy)) hput.2.2 p h
   refine ⟨?_,h2⟩
   rw [List.length_cons]
   have:=hput.2.1
   omega
theorem pages_count (most:Nat):∀ (l:List Line) (cur:List Bytes),(pagesFrom most cur l).length≤l.length + 1
 | [],cur=>by unfold pagesFrom;split <;> simp
 | x::l,cur=>by
  show ((put most cur x).1++pagesFrom most (put most cur x).2 l).length≤_
  have h1:(put most cur x).1.length≤1:=by
   unfold put;dsimp only
   split
   ·split <;> simp
   ·split
    ·simp
    ·split <;> simp
  have h2:=pages_count most l (put most cur x).2
  rw [List.length_append,List.length_cons]
  omega
noncomputable def okStep (n:Nat) (sep:Bool) (st:Nat):Prop:=if sep=true then st≤n + 1 else 1≤st∧st≤n
theorem sheetAt_some {s:State} {sep:Bool} {o:Out} {p:Pos}:(sheetAt s sep o p).isSome=true ↔ okStep (pagesOf s o).length sep p.step:=by
 unfold sheetAt okStep
 dsimp only
 by_cases h0:p.step=0
 ·rw [if_pos h0]
  cases sep <;> simp [h0]
 ·rw [if_neg h0]
  by_cases h1:p.step≤(pagesOf s o).length
  ·rw [if_pos h1,List.getElem?_eq_getElem (by omega)]
   cases sep <;> simp <;> omega
  ·rw [if_neg h1]
   cases sep
   ·simp;omega
   ·by_cases h2:p.step=(pagesOf s o).length + 1
    ·rw [if_pos ⟨h2,rfl⟩];simp [h2]
    ·rw [if_neg (fun z=>h2 z.1)];simp;omega
structure OutOk (s:State) (o:Out):Prop where
 num1:1≤o.num
 num2:o.num < s.next
 num3:o.num≤999999
 cop1:1≤o.copies
 cop2:o.copies≤255
 pos1:1≤o.pos.copy
 pos2:o.pos.copy≤o.copies + 1
 name:o.name.length≤8
 few:o.lines.length≤100
 lin:∀ x ∈ o.lines,LineOk x
structure HandOk (s:State) (x:Writer) (h:Hand) (o:Out):Prop where
 mem:o ∈ s.outs
 num:o.num=h.out
 closed:o.closed=true
 c1:1≤h.pos.copy
 c2:h.pos.copy≤o.copies
 nc:h.noted.copy=h.pos.copy
 ps:okStep (pagesOf s o).length x.sep h.pos.step
 ns:okStep (pagesOf s o).length x.sep h.noted.step
 fs:okStep (pagesOf s o).length x.sep h.first
 fp:h.first≤h.pos.step
 fn:h.first≤h.noted.step
 sp:h.pos.step≤h.first + x.serial
 sn:h.noted.step≤h.first + x.noted
noncomputable def EntryOk:Entry->Prop
 | .sheet _ _ _ _ l=>l.length≤300∧∀ r ∈ l,r.length≤140
 | .mark _=>True
structure WrOk (s:State) (x:Writer):Prop where
 hand:∀ h,x.hand=some h->x.on=true∧∃ o,HandOk s x h o
 pap1:x.paper.length≤s.sheets
 pap2:(x.paper.getLast?).any isMark=false->x.paper.length + 1≤s.sheets
 ent:∀ e ∈ x.paper,EntryOk e
structure WF (s:State):Prop where
 m1:1≤s.most
 m2:s.most≤100
 c1:1≤s.cap
 c2:s.cap≤200
 p1:2≤s.sheets
 p2:s.sheets≤5000
 n1:1≤s.next
 few:s.outs.length≤s.cap
 nd:(s.outs.map (·.num)).Nodup
 out:∀ o ∈ s.outs,OutOk s o
 len:s.writers.length=8
 wr:∀ x ∈ s.writers,WrOk s x
theorem wf_new {m c p:Nat} (h1:1≤m) (h2:m≤100) (h3:1≤c) (h4:c≤200) (h5:2≤p) (h6:p≤5000):WF (newHouse m c p):=by
 refine ⟨h1,h2,h3,h4,h5,h6,Nat.le_refl _,Nat.zero_le _,List.nodup_nil,fun o ho=>(by cases ho),rfl,fun x hx=>?_⟩
 rw [(List.mem_replicate.mp hx).2]
 exact ⟨fun h e=>(by cases e),Nat.zero_le _,fun _=>(by show 0 + 1≤p;omega),fun e he=>by cases he⟩
theorem wf_start:WF start:=wf_new (by decide) (by decide) (by decide) (by decide) (by decide) (by decide)
theorem outAt_some {s:State} {n:Int} {o:Out} (h:outAt s n=some o):o ∈ s.outs∧(o.num:Int)=n:=by
 unfold outAt at h
 exact ⟨List.mem_of_find?_eq_some h,by simpa using List.find?_some h⟩
theorem outAt_none {s:State} {n:Int} (h:outAt s n=none):∀ o ∈ s.outs,(o.num:Int) ≠ n:=fun o ho e=>by
 unfold outAt at h
 exact absurd (List.find?_eq_none.mp h o ho) (by simp [e])
theorem num_inj:∀ {l:List Out},(l.map (·.num)).Nodup->∀ {o p:Out},o ∈ l->p ∈ l->o.num=p.num->o=p
 | [],_,_,_,ho,_,_=>by cases ho
 | a::l,h,o,p,ho,hp,e=>by
  obtain ⟨h1,h2⟩:=List.nodup_cons.mp (show (a.num::l.map (·.num)).Nodup from h)
  rcases List.mem_cons.mp ho with e1 | ho <;> rcases List.mem_cons.mp hp with e2 | hp
  ·rw [e1,e2]
  ·exact absurd (List.mem_map.mpr ⟨p,hp,by rw [← e,e1]⟩) h1
  ·exact absurd (List.mem_map.mpr ⟨o,ho,by rw [e,e2]⟩) h1
  ·exact num_inj h2 ho hp e
theorem outAt_mem {s:State} (w:WF s) {o:Out} (h:o ∈ s.outs):outAt s (o.num:Int)=some o:=by
 cases e:outAt s (o.num:Int) with
 | none=>exact absurd rfl (outAt_none e o h)
 | some p =>
  obtain ⟨h1,h2⟩:=outAt_some e
  rw [num_inj w.nd h1 h (by omega)]
theorem inHand_of {s:State} {x:Writer} {h:Hand} (hx:x ∈ s.writers) (e:x.hand=some h):inHand s h.out=true:=by
 unfold inHand
 refine List.any_eq_true.mpr ⟨x,hx,?_⟩
 rw [e]
 exact beq_self_eq_true h.out
theorem writerAt_mem {s:State} (hl:s.writers.length=8) {w:Int} (h:isWriter w=true):writerAt s w ∈ s.writers∧s.writers[w.toNat - 1]? = some (writerAt s w)∧w.toNat - 1 < 8∧1≤w∧w≤8:=by
 unfold isWriter inside at h
 have h:=of_decide_eq_true h
 have hi:w.toNat - 1 < s.writers.length:=by omega
 have e:s.writers[w.toNat - 1]? = some (writerAt s w):=by
  unfold writerAt
  rw [List.getD_eq_getElem?_getD,List.getElem?_eq_getElem hi]
  rfl
 exact ⟨List.mem_of_getElem? e,e,by omega,h.1,h.2⟩
end VB
end
section
set_option Elab.async false
namespace VB
open Vbbhak
theorem WrOk.of {s s':State} {x:Writer} (W:WrOk s x) (e1:s'.outs=s.outs) (e2:s'.most=s.most) (e3:s'.sheets=s.sheets):WrOk s' x:=by
 obtain ⟨m,c,p,n,os,ws⟩:=s
 obtain ⟨m',c',p',n',os',ws'⟩:=s'
 dsimp only at e1 e2 e3
 subst e1 e2 e3
 obtain ⟨h,a,b,d⟩:=W
 refine ⟨fun hh e=>?_,a,b,d⟩
 obtain ⟨on,o,H⟩:=h hh e
 exact ⟨on,o,H.mem,H.num,H.closed,H.c1,H.c2,H.nc,H.ps,H.ns,H.fs,H.fp,H.fn,H.sp,H.sn⟩
theorem OutOk.of {s s':State} {o:Out} (W:OutOk s o) (e:s.next≤s'.next):OutOk s' o:=⟨W.num1,Nat.lt_of_lt_of_le W.num2 e,W.num3,W.cop1,W.cop2,W.pos1,W.pos2,W.name,W.few,W.lin⟩
theorem wf_setWriter {s:State} (W:WF s) (w:Int) {x:Writer} (hx:WrOk s x):WF (setWriter s w x):=by
 refine ⟨W.m1,W.m2,W.c1,W.c2,W.p1,W.p2,W.n1,W.few,W.nd,fun o ho=>(W.out o ho).of (Nat.le_refl _),?_,fun y hy=>?_⟩
 ·show (s.writers.set _ _).length=8
  rw [List.length_set];exact W.len
 ·have hy:y ∈ s.writers.set (w.toNat - 1) x:=hy
  rcases List.mem_or_eq_of_mem_set hy with h | h
  ·exact (W.wr y h).of rfl rfl rfl
  ·rw [h];exact hx.of rfl rfl rfl
theorem setOut_nums (s:State) (o:Out):(setOut s o).outs.map (·.num)=s.outs.map (·.num):=by
 show (s.outs.map fun x=>if x.num=o.num then o else x).map (·.num)=_
 rw [List.map_map]
 refine List.map_congr_left fun x _=>?_
 show (if x.num=o.num then o else x).num=x.num
 split
 ·rename_i h;exact h.symm
 ·rfl
theorem setOut_mem {s:State} {o y:Out} (h:y ∈ (setOut s o).outs):y=o∨(y ∈ s.outs∧y.num ≠ o.num):=by
 obtain ⟨x,hx,e⟩:=List.mem_map.mp (show y ∈ s.outs.map fun x=>if x.num=o.num then o else x from h)
 by_cases hc:x.num=o.num
 ·rw [if_pos hc] at e;exact .inl e.symm
 ·rw [if_neg hc] at e;rw [← e];exact .inr ⟨hx,hc⟩
theorem mem_setOut {s:State} {o y:Out} (h:y ∈ s.outs):(if y.num=o.num then o else y) ∈ (setOut s o).outs:=List.mem_map.mpr ⟨y,h,rfl⟩
theorem wf_setOut {s:State} (W:WF s) {o o':Out} (ho:o ∈ s.outs) (hn:o'.num=o.num) (hk:OutOk s o') (hh:inHand s o.num=false∨(o'.closed=o.closed∧o'.copies=o.copies∧o'.lines=o.lines)):WF (setOut s o'):=by
 refine ⟨W.m1,W.m2,W.c1,W.c2,W.p1,W.p2,W.n1,?_,?_,fun y hy=>?_,W.len,fun x hx=>?_⟩
 ·show (s.outs.map _).length≤_
  rw [List.length_map];exact W.few
 ·rw [setOut_nums];exact W.nd
 ·rcases setOut_mem hy with rfl | ⟨h,_⟩
  ·exact hk.of (Nat.le_refl _)
  ·exact (W.out y h).of (Nat.le_refl _)
 ·have Wx:=W.wr x hx
  refine ⟨fun h e=>?_,Wx.pap1,Wx.pap2,Wx.ent⟩
  obtain ⟨on,p,H⟩:=Wx.hand h e
  refine ⟨on,?_⟩
  have hm:=mem_setOut (o:=o') H.mem
  by_cases hp:p.num=o'.num
  ·rw [if_pos hp] at hm
   have ep:p=o:=num_inj W.nd H.mem ho (by rw [hp,hn])
   subst ep
   rcases hh with hf | ⟨h1,h2,h3⟩
   ·rw [H.num,inHand_of (s:=s) hx e] at hf;cases hf
   ·have ee:pagesOf (setOut s o') o'=pagesOf s p:=by show pages s.most o'.lines=pages s.most p.lines;rw [h3]
    exact ⟨o',hm,by rw [hn];exact H.num,by rw [h1];exact H.closed,H.c1,by rw [h2];exact H.c2,H.nc,by rw [ee];exact H.ps,by rw [ee];exact H.ns,by rw [ee];exact H.fs,H.fp,H.fn,H.sp,H.sn⟩
  ·rw [if_neg hp] at hm
   exact ⟨p,hm,H.num,H.closed,H.c1,H.c2,H.nc,H.ps,H.ns,H.fs,H.fp,H.fn,H.sp,H.sn⟩
noncomputable def begin_ (sep:Bool):Nat:=if sep=true then 0 else 1
theorem okStep_begin {n:Nat} {sep:Bool} (h:sep=true∨0 < n):okStep n sep (begin_ sep):=by
 unfold okStep begin_
 cases sep
 ·rcases h with h | h
  ·cases h
  ·simp;omega
 ·simp
theorem settled_cases {s:State} {sep:Bool} {o:Out} {p:Pos} (h:p.copy≤o.copies) :
  (settled s sep o p=⟨o.copies + 1,0⟩)∨((settled s sep o p).copy≤o.copies∧okStep (pagesOf s o).length sep (settled s sep o p).step ∧
   ((settled s sep o p=p)∨(p.step=0∧settled s sep o p=⟨p.copy,1⟩)∨(settled s sep o p=⟨p.copy + 1,begin_ sep⟩))):=by
 unfold settled
 dsimp only
 rw [if_neg (by omega)]
 by_cases h1:p.step=0∧sep=false∧0 < (pagesOf s o).length
 ·rw [if_pos h1]
  refine .inr ⟨h,?_,.inr (.inl ⟨h1.1,rfl⟩)⟩
  unfold okStep
  rw [h1.2.1]
  simp
  omega
 ·rw [if_neg h1]
  by_cases h2:(sheetAt s sep o p).isSome=true
  ·rw [if_pos h2]
   exact .inr ⟨h,sheetAt_some.mp h2,.inl rfl⟩
  ·rw [if_neg h2]
   by_cases h3:p.copy < o.copies∧(sep=true∨0 < (pagesOf s o).length)
   ·rw [if_pos h3]
    exact .inr ⟨h3.1,okStep_begin h3.2,.inr (.inr rfl)⟩
   ·rw [if_neg h3]
    exact .inl rfl
theorem set_get {s:State} (hl:s.writers.length=8) {w:Int} (h:isWriter w=true) (x:Writer):writerAt (setWriter s w x) w=x:=by
 obtain ⟨_,_,h3,_,_⟩:=writerAt_mem hl h
 show (s.writers.set (w.toNat - 1) x).getD (w.toNat - 1) {}=x
 rw [List.getD_eq_getElem?_getD,List.getElem?_set_self (by omega)]
 rfl
theorem noteHand_ok {s:State} {x:Writer} (h:WrOk s x):WrOk s (noteHand x):=by
 unfold noteHand
 cases e:x.hand with
 | none=>exact ⟨fun h e=>(by cases e),h.pap1,h.pap2,h.ent⟩
 | some hh =>
  obtain ⟨on,o,H⟩:=h.hand hh e
  refine ⟨fun h' e'=>?_,h.pap1,h.pap2,h.ent⟩
  cases e'
  exact ⟨on,o,H.mem,H.num,H.closed,H.c1,H.c2,rfl,H.ps,H.ps,H.fs,H.fp,H.fp,H.sp,H.sp⟩
theorem bare_ok {s:State} {x y:Writer} (h:WrOk s x) (e:y.hand=none) (ep:y.paper=x.paper):WrOk s y:=
 ⟨fun h' e'=>(by rw [e] at e';cases e'),by rw [ep];exact h.pap1,by rw [ep];exact h.pap2,by rw [ep];exact h.ent⟩
theorem keptPlace_copy (sep:Bool) (p:Pos):(keptPlace sep p).copy=p.copy:=by unfold keptPlace;split <;> rfl
theorem wf_letGo {s:State} (W:WF s) {w:Int} (hw:isWriter w=true) {h:Hand} {o:Out} (e:(writerAt s w).hand=some h) (ho:o ∈ s.outs) (hn:o.num=h.out) {p:Pos} (p1:1≤p.copy) (p2:p.copy≤o.copies + 1):WF (letGo s w p):=by
 have Wx:=W.wr _ (writerAt_mem W.len hw).1
 have eo:outAt s (h.out:Int)=some o:=by rw [← hn];exact outAt_mem W ho
 unfold letGo
 dsimp only
 rw [e]
 dsimp only
 rw [eo]
 dsimp only
 have W1:∀ y:Writer,y.hand=none->y.paper=(writerAt s w).paper->WF (setOut (setWriter s w y) { o with pos:=keptPlace (writerAt s w).sep p }):=fun y hy hp=>by
  have Wo:=W.out o ho
  refine wf_setOut (o:=o) (wf_setWriter W w (bare_ok Wx hy hp)) ho rfl ⟨Wo.num1,Wo.num2,Wo.num3,Wo.cop1,Wo.cop2,?_,?_,Wo.name,Wo.few,Wo.lin⟩ (.inr ⟨rfl,rfl,rfl⟩)
  ·show 1≤(keptPlace _ p).copy
   rw [keptPlace_copy];exact p1
  ·show (keptPlace _ p).copy≤_
   rw [keptPlace_copy];exact p2
 split
 ·exact W1 _ rfl rfl
 ·exact W1 _ rfl rfl
theorem decimal_len {n:Nat} (h:n≤999999):(decimal n).length≤6:=by
 unfold decimal
 rw [List.length_map]
 show n.repr.toList.length≤6
 rw [Nat.toList_repr]
 exact (Nat.length_toDigits_le_iff (by decide) (by decide)).mpr (by omega)
theorem separator_ok {word:String} {o:Out} {c:Nat} (hw:(chars word).length≤5) (hn:o.name.length≤8) (h1:o.num≤999999) (h2:c≤999999):(separator word o c).length≤300∧∀ r ∈ separator word o c,r.length≤140:=by
 refine ⟨by show 3≤300;decide,fun r hr=>?_⟩
 unfold separator at hr
 have d1:=decimal_len h1
 have d2:=decimal_len h2
 simp only [List.mem_cons,List.not_mem_nil,or_false] at hr
 rcases hr with rfl | rfl | rfl
 ·rw [List.length_append,List.length_cons];omega
 ·rw [List.length_append]
  have:(chars "OUTPUT ").length=7:=rfl
  omega
 ·rw [List.length_append]
  have:(chars "COPY ").length=5:=rfl
  omega
theorem sheet_ok {s:State} (W:WF s) {o:Out} (ho:o ∈ s.outs) {sep:Bool} {p:Pos} (hp:p.copy≤256):((sheetAt s sep o p).getD []).length≤300∧∀ r ∈ (sheetAt s sep o p).getD [],r.length≤140:=by
 have Wo:=W.out o ho
 have none_ok:(([]:List Bytes)).length≤300∧∀ r ∈ ([]:List Bytes),r.length≤140:=⟨Nat.zero_le _,fun r hr=>(by cases hr)⟩
 have n3:=Wo.num3
 unfold sheetAt
 dsimp only
 split
 ·split
  ·exact separator_ok (by decide) Wo.name n3 (by omega)
  ·exact none_ok
 ·split
  ·cases e:(pagesOf s o)[p.step - 1]? with
   | none=>exact none_ok
   | some q =>
    obtain ⟨h1,h2⟩:=pages_size s.most o.lines [] Wo.lin (fun r hr=>(by cases hr)) q (List.mem_of_getElem? e)
    have:=Wo.few
    refine ⟨?_,fun r hr=>Nat.le_trans (h2 r hr) (by decide)⟩
    show q.length≤300
    rw [List.length_nil] at h1
    omega
  ·split
   ·exact separator_ok (by decide) Wo.name n3 (by omega)
   ·exact none_ok
theorem wf_printed {s:State} (W:WF s) {w:Int} (hw:isWriter w=true) {h:Hand} {o:Out} (e:(writerAt s w).hand=some h) (H:HandOk s (writerAt s w) h o) (hr:roomy s (writerAt s w)=true):WF (printed s w h o):=by
 have Wx:=W.wr _ (writerAt_mem W.len hw).1
 have hr:=of_decide_eq_true hr
 have hc2:=(W.out o H.mem).cop2
 have c2:=H.c2
 unfold printed
 dsimp only
 refine wf_setWriter W w ⟨fun h' e'=>?_,?_,fun _=>?_,fun y hy=>?_⟩
 ·have e':(writerAt s w).hand=some h':=e'
  have eh:h=h':=Option.some.inj (e.symm.trans e')
  subst eh
  refine ⟨(Wx.hand h e).1,o,H.mem,H.num,H.closed,H.c1,H.c2,H.nc,H.ps,H.ns,H.fs,H.fp,H.fn,?_,H.sn⟩
  have:=H.sp
  show h.pos.step≤h.first + ((writerAt s w).serial + 1)
  omega
 ·show ((writerAt s w).paper++[_]).length≤s.sheets
  rw [List.length_append,List.length_singleton];omega
 ·show ((writerAt s w).paper++[_]).length + 1≤s.sheets
  rw [List.length_append,List.length_singleton];omega
 ·have hy:y ∈ (writerAt s w).paper++[_]:=hy
  rcases List.mem_append.mp hy with hy | hy
  ·exact Wx.ent y hy
  ·rw [List.mem_singleton.mp hy]
   exact sheet_ok W H.mem (by omega)
theorem last_mark {l:List Entry} {n:Nat}:((l++[Entry.mark n]).getLast?).any isMark=true:=by
 rw [List.getLast?_append];rfl
theorem comesBack_ok {s:State} (W:WF s) {x:Writer} (hx:WrOk s x):WrOk s (comesBack x):=by
 unfold comesBack
 cases e:x.hand with
 | none=>exact hx
 | some h =>
  obtain ⟨on,o,H⟩:=hx.hand h e
  have mk:∀ y:Writer,y.on=true->y.sep=x.sep->y.serial=x.noted->y.noted=x.noted->y.hand=some { h with pos:=h.noted,since:=0 }->y.paper.length≤s.sheets->((y.paper.getLast?).any isMark=false->y.paper.length + 1≤s.sheets)->(∀ q ∈ y.paper,EntryOk q)->WrOk s y:=fun y h1 h2 h3 h4 h5 h6 h7 h8=>by
   refine ⟨fun h' e'=>?_,h6,h7,h8⟩
   rw [h5] at e'
   cases e'
   refine ⟨h1,o,H.mem,H.num,H.closed,?_,?_,rfl,?_,?_,?_,H.fn,H.fn,?_,?_⟩
   ·show 1≤h.noted.copy
    rw [H.nc];exact H.c1
   ·show h.noted.copy≤_
    rw [H.nc];exact H.c2
   ·rw [h2];exact H.ns
   ·rw [h2];exact H.ns
   ·rw [h2];exact H.fs
   ·rw [h3];exact H.sn
   ·rw [h4];exact H.sn
  have p1:=W.p1
  by_cases hm:(x.paper.getLast?).any isMark=true
  ·refine mk _ ?_ ?_ rfl ?_ rfl ?_ ?_ ?_ <;> (dsimp only;unfold marked;rw [if_pos hm])
   ·exact on
   ·exact hx.pap1
   ·exact hx.pap2
   ·exact hx.ent
  ·have hm':(x.paper.getLast?).any isMark=false:=by simpa using hm
   have hl:=hx.pap2 hm'
   refine mk _ ?_ ?_ rfl ?_ rfl ?_ ?_ ?_ <;> (dsimp only;unfold marked;rw [if_neg hm])
   ·exact on
   ·show (x.paper++[_]).length≤_
    rw [List.length_append,List.length_singleton];exact hl
   ·intro z
    rw [last_mark] at z;cases z
   ·intro q hq
    have hq:q ∈ x.paper++[_]:=hq
    rcases List.mem_append.mp hq with hq | hq
    ·exact hx.ent q hq
    ·rw [List.mem_singleton.mp hq];trivial
theorem wf_power {s:State} (W:WF s):WF (power s):=by
 refine ⟨W.m1,W.m2,W.c1,W.c2,W.p1,W.p2,W.n1,W.few,W.nd,fun o ho=>(W.out o ho).of (Nat.le_refl _),?_,fun y hy=>?_⟩
 ·show (s.writers.map comesBack).length=8
  rw [List.length_map];exact W.len
 ·obtain ⟨x,hx,rfl⟩:=List.mem_map.mp (show y ∈ s.writers.map comesBack from hy)
  exact (comesBack_ok W (W.wr x hx)).of rfl rfl rfl
theorem okStep_succ {n:Nat} {sep:Bool} {a b:Nat} (h:okStep n sep b) (h1:a≤b) (h2:okStep n sep a) {c:Nat} (h3:a≤c) (h4:c≤b):okStep n sep c:=by
 unfold okStep at *
 cases sep <;> simp at * <;> omega
theorem wf_goesOn {s:State} (W:WF s) {w:Int} (hw:isWriter w=true) {h:Hand} {o:Out} (e:(writerAt s w).hand=some h) (H:HandOk s (writerAt s w) h o) (h1:h.pos.step + 1≤h.first + (writerAt s w).serial):WF (goesOn s w h o):=by
 have Wx:=W.wr _ (writerAt_mem W.len hw).1
 have on:=(Wx.hand h e).1
 unfold goesOn
 dsimp only
 have hset:=settled_cases (s:=s) (sep:=(writerAt s w).sep) (o:=o) (p:=⟨h.pos.copy,h.pos.step + 1⟩) H.c2
 have hc1:=H.c1
 have hc2:=H.c2
 generalize hp:settled s (writerAt s w).sep o ⟨h.pos.copy,h.pos.step + 1⟩=p at hset ⊢
 by_cases hd:isDone { o with pos:=p }=true
 ·rw [if_pos hd]
  have hd':o.copies < p.copy:=of_decide_eq_true hd
  rcases hset with z | ⟨z,_⟩
  ·exact wf_letGo W hw e H.mem H.num (by rw [z];show 1≤o.copies + 1;omega) (by rw [z];exact Nat.le_refl _)
  ·omega
 ·rw [if_neg hd]
  have hd':¬ o.copies < p.copy:=fun z=>hd (decide_eq_true z)
  rcases hset with z | ⟨z1,z2,z3⟩
  ·exact absurd (show o.copies < p.copy by rw [z];show o.copies < o.copies + 1;omega) hd'
  ·have hcop:p.copy=h.pos.copy∨p=⟨h.pos.copy + 1,begin_ (writerAt s w).sep⟩:=by
    rcases z3 with z | z | z
    ·rw [z];exact .inl rfl
    ·exact absurd z.1 (by show ¬ h.pos.step + 1=0;omega)
    ·exact .inr z
   by_cases hcc:p.copy ≠ h.pos.copy
   ·rw [if_pos hcc]
    have hpb:=hcop.resolve_left hcc
    split
    ·exact wf_letGo W hw e H.mem H.num (by rw [hpb];show 1≤h.pos.copy + 1;omega) (by omega)
    ·refine wf_setWriter W w (noteHand_ok ⟨fun h' e'=>?_,Wx.pap1,Wx.pap2,Wx.ent⟩)
     cases e'
     refine ⟨on,o,H.mem,rfl,H.closed,?_,z1,rfl,z2,z2,z2,Nat.le_refl _,Nat.le_refl _,Nat.le_add_right _ _,Nat.le_add_right _ _⟩
     show 1≤p.copy
     rw [hpb];show 1≤h.pos.copy + 1;omega
   ·rw [if_neg hcc]
    have hpp:p=⟨h.pos.copy,h.pos.step + 1⟩:=by
     rcases z3 with z | z | z
     ·exact z
     ·exact absurd z.1 (by show ¬ h.pos.step + 1=0;omega)
     ·exact absurd (show p.copy ≠ h.pos.copy by rw [z];show h.pos.copy + 1 ≠ h.pos.copy;omega) hcc
    have hst:p.step=h.pos.step + 1:=by rw [hpp]
    have hcp:p.copy=h.pos.copy:=by rw [hpp]
    have Wy:WrOk s { writerAt s w with hand:=some { h with pos:=p,since:=h.since + 1 } }:=by
     refine ⟨fun h' e'=>?_,Wx.pap1,Wx.pap2,Wx.ent⟩
     cases e'
     have hfp:=H.fp
     refine ⟨on,o,H.mem,H.num,H.closed,?_,z1,?_,z2,H.ns,H.fs,?_,H.fn,?_,H.sn⟩
     ·show 1≤p.copy
      rw [hcp];exact H.c1
     ·show h.noted.copy=p.copy
      rw [hcp];exact H.nc
     ·show h.first≤p.step
      rw [hst];omega
     ·show p.step≤h.first + (writerAt s w).serial
      rw [hst];exact h1
    split
    ·exact wf_setWriter W w (noteHand_ok Wy)
    ·exact wf_setWriter W w Wy
theorem best_mem:∀ {l:List Out} {o:Out},best l=some o->o ∈ l
 | [],o,h=>by cases h
 | x::l,o,h=>by
  unfold best at h
  cases e:best l with
  | none=>rw [e] at h;rw [← Option.some.inj h];exact List.mem_cons_self
  | some p =>
   rw [e] at h
   dsimp only at h
   split at h
   ·rw [← Option.some.inj h];exact List.mem_cons_self
   ·rw [← Option.some.inj h];exact List.mem_cons_of_mem _ (best_mem e)
end VB
end
section
set_option Elab.async false
namespace VB
open Vbbhak
theorem inside_iff {n lo hi:Int}:inside n lo hi=true ↔ lo≤n∧n≤hi:=by unfold inside;simp
theorem not_false' {b:Bool} (h:¬ b=false):b=true:=by cases b <;> simp_all
theorem wf_onOut {s:State} (W:WF s) {n:Int} {f:Out->State × Ans} (h:∀ o,o ∈ s.outs->(o.num:Int)=n->WF (f o).1):WF (onOut s n f).1:=by
 unfold onOut
 split
 ·exact W
 ·cases e:outAt s n with
  | none=>exact W
  | some o =>
   obtain ⟨h1,h2⟩:=outAt_some e
   exact h o h1 h2
theorem wf_onWriter {s:State} (W:WF s) {w:Int} {f:Writer->State × Ans} (h:isWriter w=true->(writerAt s w).on=true->WF (f (writerAt s w)).1):WF (onWriter s w f).1:=by
 unfold onWriter
 split
 ·exact W
 ·rename_i h1
  split
  ·exact W
  ·rename_i h2
   exact h (not_false' h1) (not_false' h2)
theorem isText_len {b:Bytes} (h:¬ isText b=false):b.length≤132:=by
 have h:=not_false' h
 unfold isText at h
 rw [Bool.and_eq_true] at h
 exact of_decide_eq_true h.1
theorem isName_len {b:Bytes} (h:¬ isName b=false):b.length≤8:=by
 have h:=not_false' h
 unfold isName at h
 cases b with
 | nil=>simp
 | cons c r =>
  dsimp only at h
  rw [Bool.and_eq_true] at h
  exact of_decide_eq_true h.1
theorem wf_taken {s:State} (W:WF s) {w:Int} (hw:isWriter w=true) (on:(writerAt s w).on=true) {o:Out} (ho:o ∈ s.outs) (hf:free s (writerAt s w) o=true):WF (taken s w o (settled s (writerAt s w).sep o o.pos)):=by
 have Wx:=W.wr _ (writerAt_mem W.len hw).1
 have Wo:=W.out o ho
 unfold free at hf
 simp only [Bool.and_eq_true,Bool.not_eq_true'] at hf
 obtain ⟨hcl,_,hnd,hnh,_⟩:=hf
 have hnd:¬ o.copies < o.pos.copy:=of_decide_eq_false hnd
 have hset:=settled_cases (s:=s) (sep:=(writerAt s w).sep) (o:=o) (p:=o.pos) (by omega)
 generalize settled s (writerAt s w).sep o o.pos=p at hset ⊢
 have p1:=Wo.pos1
 unfold taken
 by_cases hd:isDone { o with pos:=p }=true
 ·rw [if_pos hd]
  have hd':o.copies < p.copy:=of_decide_eq_true hd
  rcases hset with z | ⟨z,_⟩
  ·refine wf_setOut W ho rfl ⟨Wo.num1,Wo.num2,Wo.num3,Wo.cop1,Wo.cop2,?_,?_,Wo.name,Wo.few,Wo.lin⟩ (.inr ⟨rfl,rfl,rfl⟩)
   ·show 1≤p.copy;rw [z];show 1≤o.copies + 1;omega
   ·show p.copy≤o.copies + 1;rw [z];exact Nat.le_refl _
  ·omega
 ·rw [if_neg hd]
  have hd':¬ o.copies < p.copy:=fun z=>hd (decide_eq_true z)
  rcases hset with z | ⟨z1,z2,z3⟩
  ·exact absurd (show o.copies < p.copy by rw [z];show o.copies < o.copies + 1;omega) hd'
  ·refine wf_setWriter W w ⟨fun h' e'=>?_,Wx.pap1,Wx.pap2,Wx.ent⟩
   cases e'
   refine ⟨on,o,ho,rfl,hcl,?_,z1,rfl,z2,z2,z2,Nat.le_refl _,Nat.le_refl _,Nat.le_add_right _ _,Nat.le_add_right _ _⟩
   show 1≤p.copy
   rcases z3 with z | z | z
   ·rw [z];exact p1
   ·rw [z.2];exact p1
   ·rw [z];show 1≤o.pos.copy + 1;omega
theorem turnOf_takes {s:State} {x:Writer} {o:Out} {p:Pos} (h:turnOf s x = .takes o p):x.hand=none∧o ∈ s.outs∧free s x o=true∧p=settled s x.sep o o.pos:=by
 unfold turnOf at h
 cases e:x.hand with
 | some hh =>
  rw [e] at h;dsimp only at h
  split at h
  ·split at h <;> cases h
  ·cases h
 | none =>
  rw [e] at h;dsimp only at h
  split at h
  ·rename_i q hq
   cases h
   have m:=best_mem hq
   have m2:=(List.mem_filter.mp m).1
   exact ⟨rfl,(List.mem_filter.mp m2).1,(List.mem_filter.mp m2).2,rfl⟩
  ·split at h <;> cases h
theorem turnOf_prints {s:State} {x:Writer} {h:Hand} {o:Out} (e:turnOf s x = .prints h o):x.hand=some h∧outAt s h.out=some o∧roomy s x=true:=by
 unfold turnOf at e
 cases eh:x.hand with
 | none =>
  rw [eh] at e;dsimp only at e
  split at e
  ·cases e
  ·split at e <;> cases e
 | some hh =>
  rw [eh] at e;dsimp only at e
  split at e
  ·rename_i o' ho
   split at e
   ·rename_i hr
    cases e
    exact ⟨rfl,ho,hr⟩
   ·cases e
  ·cases e
theorem hand_out {s:State} (W:WF s) {w:Int} (hw:isWriter w=true) {h:Hand} (e:(writerAt s w).hand=some h):∃ o,outAt s (h.out:Int)=some o∧HandOk s (writerAt s w) h o:=by
 obtain ⟨_,o,H⟩:=(W.wr _ (writerAt_mem W.len hw).1).hand h e
 exact ⟨o,by rw [← H.num];exact outAt_mem W H.mem,H⟩
theorem printed_at {s:State} (W:WF s) {w:Int} (hw:isWriter w=true) {h:Hand} {o:Out}:writerAt (printed s w h o) w={ writerAt s w with serial:=(writerAt s w).serial + 1,paper:=(writerAt s w).paper++[.sheet ((writerAt s w).serial + 1) o.num h.pos.copy h.pos.step ((sheetAt s (writerAt s w).sep o h.pos).getD [])] }:=set_get W.len hw _
theorem wf_turn {s:State} (W:WF s) {w:Int} (hw:isWriter w=true) (on:(writerAt s w).on=true):WF (doTurn s w (writerAt s w)).1:=by
 unfold doTurn
 cases e:turnOf s (writerAt s w) with
 | nothing=>exact W
 | wants f=>exact W
 | full=>exact W
 | takes o p =>
  obtain ⟨_,ho,hf,rfl⟩:=turnOf_takes e
  exact wf_taken W hw on ho hf
 | prints h o =>
  obtain ⟨eh,eo,hr⟩:=turnOf_prints e
  obtain ⟨o',eo',H⟩:=hand_out W hw eh
  rw [eo] at eo'
  cases eo'
  show WF (goesOn (printed s w h o) w h o)
  have W1:=wf_printed W hw eh H hr
  have e1:=printed_at W hw (h:=h) (o:=o)
  have e2:(writerAt (printed s w h o) w).hand=some h:=by rw [e1];exact eh
  have H1:HandOk (printed s w h o) (writerAt (printed s w h o) w) h o:=by
   rw [e1]
   refine ⟨H.mem,H.num,H.closed,H.c1,H.c2,H.nc,H.ps,H.ns,H.fs,H.fp,H.fn,?_,H.sn⟩
   have:=H.sp
   show h.pos.step≤h.first + ((writerAt s w).serial + 1)
   omega
  refine wf_goesOn W1 hw e2 H1 ?_
  rw [e1]
  have:=H.sp
  show h.pos.step + 1≤h.first + ((writerAt s w).serial + 1)
  omega
theorem wf_cut {s:State} (W:WF s) {w:Int} (hw:isWriter w=true):WF (doCut s w (writerAt s w)).1:=by
 unfold doCut
 cases e:turnOf s (writerAt s w) with
 | nothing=>exact wf_power W
 | wants f=>exact wf_power W
 | full=>exact W
 | takes o p=>exact wf_power W
 | prints h o =>
  obtain ⟨eh,eo,hr⟩:=turnOf_prints e
  obtain ⟨o',eo',H⟩:=hand_out W hw eh
  rw [eo] at eo'
  cases eo'
  exact wf_power (wf_printed W hw eh H hr)
theorem wf_back {s:State} (W:WF s) {w k:Int} (hw:isWriter w=true):WF (doBack s w k (writerAt s w)).1:=by
 have Wx:=W.wr _ (writerAt_mem W.len hw).1
 unfold doBack
 cases eh:(writerAt s w).hand with
 | none=>exact W
 | some h =>
  dsimp only
  obtain ⟨on,o,H⟩:=Wx.hand h eh
  by_cases hr:roomy s (writerAt s w)=false
  ·rw [if_pos hr];exact W
  ·rw [if_neg hr]
   have hr:=of_decide_eq_true (not_false' hr)
   have hfp:=H.fp
   by_cases hn:h.pos.step - max h.first (h.pos.step - k.toNat)=0
   ·rw [if_pos hn];exact wf_setWriter W w (noteHand_ok Wx)
   ·rw [if_neg hn]
    refine wf_setWriter W w (noteHand_ok ⟨fun h' e'=>?_,?_,fun z=>?_,fun y hy=>?_⟩)
    ·cases e'
     have hsp:=H.sp
     refine ⟨on,o,H.mem,H.num,H.closed,H.c1,H.c2,H.nc,?_,H.ns,H.fs,?_,H.fn,?_,H.sn⟩
     ·exact okStep_succ H.ps hfp H.fs (show h.first≤max h.first (h.pos.step - k.toNat) by omega) (show max h.first (h.pos.step - k.toNat)≤h.pos.step by omega)
     ·show h.first≤max h.first (h.pos.step - k.toNat)
      omega
     ·show max h.first (h.pos.step - k.toNat)≤h.first + ((writerAt s w).serial - (h.pos.step - max h.first (h.pos.step - k.toNat)))
      omega
    ·show ((writerAt s w).paper++[_]).length≤s.sheets
     rw [List.length_append,List.length_singleton];omega
    ·show ((writerAt s w).paper++[_]).length + 1≤s.sheets
     rw [List.length_append,List.length_singleton];omega
    ·have hy:y ∈ (writerAt s w).paper++[_]:=hy
     rcases List.mem_append.mp hy with hy | hy
     ·exact Wx.ent y hy
     ·rw [List.mem_singleton.mp hy];trivial
theorem wf_step {s:State} (W:WF s) (c:Call):WF (step s c).1:=by
 cases c with
 | begin m c p =>
  show WF (if inside m 1 100=false∨inside c 1 200=false∨inside p 2 5000=false then no s 1 else yes (newHouse m.toNat c.toNat p.toNat) 0).1
  split
  ·exact W
  ·rename_i h
   simp only [not_or] at h
   have h1:=inside_iff.mp (not_false' h.1)
   have h2:=inside_iff.mp (not_false' h.2.1)
   have h3:=inside_iff.mp (not_false' h.2.2)
   exact wf_new (by omega) (by omega) (by omega) (by omega) (by omega) (by omega)
 | open_ c f n p h b =>
  unfold step
  dsimp only
  split
  ·exact W
  ·rename_i h1
   simp only [not_or] at h1
   have hn:=inside_iff.mp (not_false' h1.2.2.1)
   split
   ·exact W
   ·rename_i h2
    split
    ·exact W
    ·rename_i h3
     simp only [not_or] at h3
     have h3a:¬ s.cap≤s.outs.length:=h3.1
     have h3b:¬ LASTNUM < s.next:=h3.2
     unfold LASTNUM at h3b
     have n1:=W.n1
     refine ⟨W.m1,W.m2,W.c1,W.c2,W.p1,W.p2,?_,?_,?_,fun y hy=>?_,W.len,fun x hx=>?_⟩
     ·show 1≤s.next + 1;omega
     ·show (s.outs++[_]).length≤s.cap
      rw [List.length_append,List.length_singleton];omega
     ·show ((s.outs++[_]).map Out.num).Nodup
      rw [List.map_append]
      refine List.nodup_append.mpr ⟨W.nd,by simp,fun a ha b hb=>?_⟩
      obtain ⟨o,ho,rfl⟩:=List.mem_map.mp ha
      have:=(W.out o ho).num2
      rw [List.mem_singleton.mp hb]
      show o.num ≠ s.next
      omega
     ·rcases List.mem_append.mp (show y ∈ s.outs++[_] from hy) with hy | hy
      ·exact (W.out y hy).of (Nat.le_succ _)
      ·rw [List.mem_singleton.mp hy]
       exact ⟨n1,Nat.lt_succ_self _,(by show s.next≤999999;omega),(by show 1≤n.toNat;omega),(by show n.toNat≤255;omega),Nat.le_refl _,Nat.succ_le_succ (Nat.zero_le _),isName_len h2,Nat.zero_le _,fun x hx=>(by cases hx)⟩
     ·have Wx:=W.wr x hx
      refine ⟨fun hh e=>?_,Wx.pap1,Wx.pap2,Wx.ent⟩
      obtain ⟨on,o,H⟩:=Wx.hand hh e
      exact ⟨on,o,List.mem_append_left _ H.mem,H.num,H.closed,H.c1,H.c2,H.nc,H.ps,H.ns,H.fs,H.fp,H.fn,H.sp,H.sn⟩
 | line n c t =>
  refine wf_onOut W fun o ho en=>?_
  try dsimp only
  split
  ·exact W
  ·rename_i h1
   simp only [not_or] at h1
   split
   ·exact W
   ·rename_i h2
    split
    ·exact W
    ·rename_i h3
     have Wo:=W.out o ho
     unfold MOSTLINES at h3
     refine wf_setOut W ho rfl ⟨Wo.num1,Wo.num2,Wo.num3,Wo.cop1,Wo.cop2,Wo.pos1,Wo.pos2,Wo.name,?_,fun x hx=>?_⟩ (.inl ?_)
     ·show (o.lines++[_]).length≤100
      rw [List.length_append,List.length_singleton];omega
     ·rcases List.mem_append.mp (show x ∈ o.lines++[_] from hx) with hx | hx
      ·exact Wo.lin x hx
      ·rw [List.mem_singleton.mp hx];exact isText_len h1.2
     ·cases eh:inHand s o.num with
      | false=>rfl
      | true =>
       obtain ⟨x,hx,hq⟩:=List.any_eq_true.mp (show (s.writers.any _)=true from eh)
       cases e:x.hand with
       | none=>rw [e] at hq;cases hq
       | some h =>
        rw [e] at hq
        obtain ⟨_,p,H⟩:=(W.wr x hx).hand h e
        have e1:h.out=o.num:=eq_of_beq hq
        have e2:p=o:=num_inj W.nd H.mem ho (by rw [H.num,e1])
        rw [e2] at H
        exact absurd H.closed h2
 | close n =>
  refine wf_onOut W fun o ho en=>?_
  try dsimp only
  split
  ·exact W
  ·rename_i h2
   have Wo:=W.out o ho
   refine wf_setOut W ho rfl ⟨Wo.num1,Wo.num2,Wo.num3,Wo.cop1,Wo.cop2,Wo.pos1,Wo.pos2,Wo.name,Wo.few,Wo.lin⟩ (.inl ?_)
   cases eh:inHand s o.num with
   | false=>rfl
   | true =>
    obtain ⟨x,hx,hq⟩:=List.any_eq_true.mp (show (s.writers.any _)=true from eh)
    cases e:x.hand with
    | none=>rw [e] at hq;cases hq
    | some h =>
     rw [e] at hq
     obtain ⟨_,p,H⟩:=(W.wr x hx).hand h e
     have e1:h.out=o.num:=eq_of_beq hq
     have e2:p=o:=num_inj W.nd H.mem ho (by rw [H.num,e1])
     rw [e2] at H
     exact absurd H.closed h2
 | purge n =>
  refine wf_onOut W fun o ho en=>?_
  try dsimp only
  split
  ·exact W
  ·rename_i h2
   refine ⟨W.m1,W.m2,W.c1,W.c2,W.p1,W.p2,W.n1,?_,?_,fun y hy=>?_,W.len,fun x hx=>?_⟩
   ·show (s.outs.filter _).length≤_
    exact Nat.le_trans (List.length_filter_le _ _) W.few
   ·show ((s.outs.filter _).map (·.num)).Nodup
    exact W.nd.sublist (List.filter_sublist.map _)
   ·exact (W.out y (List.mem_filter.mp (show y ∈ s.outs.filter _ from hy)).1).of (Nat.le_refl _)
   ·have Wx:=W.wr x hx
    refine ⟨fun hh e=>?_,Wx.pap1,Wx.pap2,Wx.ent⟩
    obtain ⟨on,p,H⟩:=Wx.hand hh e
    refine ⟨on,p,?_,H.num,H.closed,H.c1,H.c2,H.nc,H.ps,H.ns,H.fs,H.fp,H.fn,H.sp,H.sn⟩
    refine List.mem_filter.mpr ⟨H.mem,?_⟩
    have hne:p.num ≠ o.num:=fun z=>h2 (by rw [← z,H.num];exact inHand_of (s:=s) hx e)
    simpa using hne
 | hold n =>
  refine wf_onOut W fun o ho en=>?_
  try dsimp only
  split
  ·exact W
  ·split
   ·exact W
   ·have Wo:=W.out o ho
    exact wf_setOut W ho rfl ⟨Wo.num1,Wo.num2,Wo.num3,Wo.cop1,Wo.cop2,Wo.pos1,Wo.pos2,Wo.name,Wo.few,Wo.lin⟩ (.inr ⟨rfl,rfl,rfl⟩)
 | letgo n =>
  refine wf_onOut W fun o ho en=>?_
  try dsimp only
  split
  ·exact W
  ·have Wo:=W.out o ho
   exact wf_setOut W ho rfl ⟨Wo.num1,Wo.num2,Wo.num3,Wo.cop1,Wo.cop2,Wo.pos1,Wo.pos2,Wo.name,Wo.few,Wo.lin⟩ (.inr ⟨rfl,rfl,rfl⟩)
 | change n c f p =>
  unfold step
  dsimp only
  split
  ·exact W
  ·refine wf_onOut W fun o ho en=>?_
   try dsimp only
   split
   ·exact W
   ·have Wo:=W.out o ho
    exact wf_setOut W ho rfl ⟨Wo.num1,Wo.num2,Wo.num3,Wo.cop1,Wo.cop2,Wo.pos1,Wo.pos2,Wo.name,Wo.few,Wo.lin⟩ (.inr ⟨rfl,rfl,rfl⟩)
 | copies n k =>
  unfold step
  dsimp only
  split
  ·exact W
  ·rename_i h0
   have h0:=inside_iff.mp (not_false' h0)
   refine wf_onOut W fun o ho en=>?_
   try dsimp only
   split
   ·exact W
   ·rename_i h1
    by_cases h2:k < ((if o.pos.step=0 then o.pos.copy - 1 else o.pos.copy:Nat):Int)
    ·rw [if_pos h2];exact W
    ·rw [if_neg h2]
     have Wo:=W.out o ho
     have:=Wo.pos1
     refine wf_setOut W ho rfl ⟨Wo.num1,Wo.num2,Wo.num3,?_,?_,Wo.pos1,?_,Wo.name,Wo.few,Wo.lin⟩ (.inl (by simpa using h1))
     ·show 1≤k.toNat;omega
     ·show k.toNat≤255;omega
     ·show o.pos.copy≤k.toNat + 1
      split at h2 <;> omega
 | start w f sep e l =>
  unfold step
  dsimp only
  split
  ·exact W
  ·rename_i h0
   simp only [not_or] at h0
   have hw:=not_false' h0.1
   have Wx:=W.wr _ (writerAt_mem W.len hw).1
   split
   ·exact W
   ·split
    ·exact W
    ·rename_i h1
     refine wf_setWriter W w (bare_ok Wx ?_ rfl)
     have hh:(writerAt s w).hand=none:=by
      cases e:(writerAt s w).hand with
      | none=>rfl
      | some h=>exact absurd (Wx.hand h e).1 h1
     exact hh
 | serve w sep e l =>
  unfold step
  dsimp only
  split
  ·exact W
  ·refine wf_onWriter W fun hw on=>?_
   try dsimp only
   have Wx:=W.wr _ (writerAt_mem W.len hw).1
   split
   ·exact W
   ·split
    ·exact W
    ·rename_i h1
     exact wf_setWriter W w (bare_ok Wx (by simpa using h1) rfl)
 | mount w f =>
  unfold step
  dsimp only
  split
  ·exact W
  ·refine wf_onWriter W fun hw on=>?_
   try dsimp only
   have Wx:=W.wr _ (writerAt_mem W.len hw).1
   split
   ·exact W
   ·rename_i h1
    exact wf_setWriter W w (bare_ok Wx (by simpa using h1) rfl)
 | halt_ w =>
  refine wf_onWriter W fun hw on=>?_
  try dsimp only
  have Wx:=W.wr _ (writerAt_mem W.len hw).1
  split
  ·exact W
  ·split
   ·exact wf_setWriter W w (bare_ok Wx rfl rfl)
   ·rename_i h e
    refine wf_setWriter W w (noteHand_ok ⟨fun h' e'=>?_,Wx.pap1,Wx.pap2,Wx.ent⟩)
    obtain ⟨on,o,H⟩:=Wx.hand h' e'
    exact ⟨on,o,H.mem,H.num,H.closed,H.c1,H.c2,H.nc,H.ps,H.ns,H.fs,H.fp,H.fn,H.sp,H.sn⟩
 | turn w=>exact wf_onWriter W fun hw on=>wf_turn W hw on
 | note w =>
  refine wf_onWriter W fun hw on=>?_
  try dsimp only
  have Wx:=W.wr _ (writerAt_mem W.len hw).1
  split
  ·exact W
  ·exact wf_setWriter W w (noteHand_ok Wx)
 | back w k =>
  unfold step
  dsimp only
  split
  ·exact W
  ·exact wf_onWriter W fun hw on=>wf_back W hw
 | interrupt w =>
  refine wf_onWriter W fun hw on=>?_
  try dsimp only
  split
  ·exact W
  ·rename_i h e
   obtain ⟨o,eo,H⟩:=hand_out W hw e
   have:=H.c2
   exact wf_letGo W hw e H.mem H.num H.c1 (by omega)
 | power=>exact wf_power W
 | cut w=>exact wf_onWriter W fun hw on=>wf_cut W hw
 | pages n=>exact wf_onOut W fun o ho en=>W
 | page n p =>
  refine wf_onOut W fun o ho en=>?_
  try dsimp only
  split
  ·exact W
  ·exact W
 | output n=>exact wf_onOut W fun o ho en=>W
 | queue c =>
  unfold step
  dsimp only
  split
  ·exact W
  ·exact W
 | writer w =>
  unfold step
  dsimp only
  split
  ·exact W
  ·exact W
 | paper w f m =>
  unfold step
  dsimp only
  split
  ·exact W
  ·exact W
 | sheet w k =>
  unfold step
  dsimp only
  split
  ·exact W
  ·split
   ·exact W
   ·exact W
   ·exact W
 | clean w f m =>
  unfold step
  dsimp only
  split
  ·exact W
  ·exact W
end VB
end
section
set_option Elab.async false
namespace VB
open Vbbhak
noncomputable def RowsOk (a:Ans):Prop:=a.rows.length≤300∧∀ r ∈ a.rows,r.length≤200
theorem rok_no (s:State) (n:Nat):RowsOk (no s n).2:=⟨by simp [no],by simp [no]⟩
theorem rok_yes (s:State) (n:Nat):RowsOk (yes s n).2:=⟨by simp [yes],by simp [yes]⟩
theorem rok_onOut {s:State} {n:Int} {f:Out->State × Ans} (h:∀ o,o ∈ s.outs->RowsOk (f o).2):RowsOk (onOut s n f).2:=by
 unfold onOut
 split
 ·exact rok_no _ _
 ·split
  ·exact rok_no _ _
  ·rename_i o e
   exact h o (outAt_some e).1
theorem rok_onWriter {s:State} {n:Int} {f:Writer->State × Ans} (h:isWriter n=true->RowsOk (f (writerAt s n)).2):RowsOk (onWriter s n f).2:=by
 unfold onWriter
 split
 ·exact rok_no _ _
 ·split
  ·exact rok_no _ _
  ·rename_i h1 _
   exact h (by simpa using h1)
theorem rok_told (s:State) (l:List Entry) (h:l.length≤100):RowsOk (toldOf s l).2:=by
 unfold toldOf yes
 refine ⟨by simp;omega,fun r hr=>?_⟩
 obtain ⟨e,_,rfl⟩:=List.mem_map.mp hr
 cases e <;> simp [entryRow]
theorem slice_len (l:List Entry) (f m:Int) (h:inside m 1 100=true):(slice l f m).length≤100:=by
 unfold slice
 have:=inside_iff.mp h
 rw [List.length_take]
 omega
theorem rok_rows (s:State) (n:Nat) (l:List Bytes) (h1:l.length≤300) (h2:∀ r ∈ l,r.length≤140):RowsOk (yes s n (l.map nums)).2:=by
 refine ⟨by simpa [yes] using h1,fun r hr=>?_⟩
 obtain ⟨b,hb,rfl⟩:=List.mem_map.mp hr
 unfold nums
 rw [List.length_map]
 have:=h2 b hb
 omega
theorem rok_one (s:State) (n:Nat) (r:List Nat) (h:r.length≤200):RowsOk (yes s n [r]).2:=⟨by simp [yes],fun x hx=>by
 have:x=r:=by simpa [yes] using hx
 rw [this];exact h⟩
theorem rows_ok {s:State} (W:WF s) (hc:∀ x ∈ s.writers,x.classes.length≤8) (k:Call):RowsOk (step s k).2:=by
 cases k with
 | begin m c p=>show RowsOk (if _ then _ else _:State × Ans).2;split;exact rok_no _ _;exact rok_yes _ _
 | open_ c f n p h b=>show RowsOk (if _ then _ else if _ then _ else if _ then _ else _:State × Ans).2;split;exact rok_no _ _;split;exact rok_no _ _;split;exact rok_no _ _;exact rok_yes _ _
 | line n c t=>exact rok_onOut fun o _=>by split;exact rok_no _ _;split;exact rok_no _ _;split;exact rok_no _ _;exact rok_yes _ _
 | close n=>exact rok_onOut fun o _=>by split;exact rok_no _ _;exact rok_yes _ _
 | purge n=>exact rok_onOut fun o _=>by split;exact rok_no _ _;exact rok_yes _ _
 | hold n=>exact rok_onOut fun o _=>by split;exact rok_no _ _;split;exact rok_no _ _;exact rok_yes _ _
 | letgo n=>exact rok_onOut fun o _=>by split;exact rok_no _ _;exact rok_yes _ _
 | change n c f p=>show RowsOk (if _ then _ else _:State × Ans).2;split;exact rok_no _ _;exact rok_onOut fun o _=>by split;exact rok_no _ _;exact rok_yes _ _
 | copies n k =>
  show RowsOk (if _ then _ else _:State × Ans).2
  split
  ·exact rok_no _ _
  ·refine rok_onOut fun o _=>?_
   split
   ·exact rok_no _ _
   ·generalize ((if o.pos.step=0 then o.pos.copy - 1 else o.pos.copy:Nat):Int)=cb
    split
    ·exact rok_no _ _
    ·exact rok_yes _ _
 | start w f sep e l=>show RowsOk (if _ then _ else if _ then _ else if _ then _ else _:State × Ans).2;split;exact rok_no _ _;split;exact rok_no _ _;split;exact rok_no _ _;exact rok_yes _ _
 | serve w sep e l=>show RowsOk (if _ then _ else _:State × Ans).2;split;exact rok_no _ _;exact rok_onWriter fun _=>by split;exact rok_no _ _;split;exact rok_no _ _;exact rok_yes _ _
 | mount w f=>show RowsOk (if _ then _ else _:State × Ans).2;split;exact rok_no _ _;exact rok_onWriter fun _=>by split;exact rok_no _ _;exact rok_yes _ _
 | halt_ w=>exact rok_onWriter fun _=>by split;exact rok_no _ _;split <;> exact rok_yes _ _
 | turn w =>
   refine rok_onWriter fun _=>?_
   unfold doTurn
   split
   ·exact rok_yes _ _
   ·exact rok_one _ _ _ (by simp)
   ·exact rok_one _ _ _ (by simp)
   ·exact rok_no _ _
   ·exact rok_one _ _ _ (by simp)
 | note w=>exact rok_onWriter fun _=>by split;exact rok_no _ _;exact rok_yes _ _
 | back w k =>
   show RowsOk (if _ then _ else _:State × Ans).2
   split
   ·exact rok_no _ _
   refine rok_onWriter fun _=>?_
   unfold doBack
   split
   ·exact rok_no _ _
   ·split
    ·exact rok_no _ _
    ·dsimp only
     split <;> exact rok_yes _ _
 | interrupt w=>exact rok_onWriter fun _=>by split;exact rok_no _ _;exact rok_yes _ _
 | power=>exact rok_yes _ _
 | cut w =>
   refine rok_onWriter fun _=>?_
   unfold doCut
   split
   ·exact rok_no _ _
   ·exact rok_one _ _ _ (by simp)
   ·exact rok_yes _ _
 | pages n=>exact rok_onOut fun o _=>rok_yes _ _
 | page n p =>
   refine rok_onOut fun o ho=>?_
   split
   ·exact rok_no _ _
   ·rename_i hp
    have hp:=inside_iff.mp (not_false' hp)
    have hlt:p.toNat - 1 < (pagesOf s o).length:=by omega
    dsimp only
    have e:(pagesOf s o).getD (p.toNat - 1) []=(pagesOf s o)[p.toNat - 1]:=by rw [List.getD_eq_getElem?_getD,List.getElem?_eq_getElem hlt];rfl
    rw [e]
    have O:=W.out o ho
    obtain ⟨h1,h2⟩:=pages_size s.most o.lines [] O.lin (by simp) _ (List.getElem_mem hlt)
    have:=O.few
    simp at h1
    exact rok_rows _ _ _ (by omega) fun r hr=>by have:=h2 r hr;omega
 | output n =>
   refine rok_onOut fun o ho=>⟨by show 2≤300;decide,fun r hr=>?_⟩
   have:r=nums o.name∨r=[o.cls,o.form,o.prio,o.copies,o.held.toNat,o.closed.toNat,(isDone o).toNat,(inHand s o.num).toNat,o.lines.length,o.pos.copy,o.pos.step]:=by simpa [yes] using hr
   rcases this with rfl | rfl
   ·have:=(W.out o ho).name
    unfold nums
    rw [List.length_map];omega
   ·show 11≤200;decide
 | queue c =>
   show RowsOk (if _ then _ else _:State × Ans).2
   split
   ·exact rok_no _ _
   ·refine rok_one _ _ _ ?_
    rw [List.length_map]
    have e:∀ l:List Out,(l.foldr insertOut []).length=l.length:=by
     intro l
     induction l with
     | nil=>rfl
     | cons a l ih =>
      rw [List.foldr_cons,List.length_cons,← ih]
      have:∀ (o:Out) (m:List Out),(insertOut o m).length=m.length + 1:=by
       intro o m
       induction m with
       | nil=>rfl
       | cons x m ihm =>
        unfold insertOut
        split
        ·rfl
        ·rw [List.length_cons,ihm,List.length_cons]
      exact this _ _
    rw [e]
    have:=List.length_filter_le (fun o:Out=>o.closed && (!o.held && (!isDone o && (!inHand s o.num && o.cls == c.toNat)))) s.outs
    have:=W.few
    have:=W.c2
    omega
 | writer w =>
   show RowsOk (if _ then _ else _:State × Ans).2
   split
   ·exact rok_no _ _
   ·rename_i hw
    have hm:=(writerAt_mem W.len (not_false' hw)).1
    have hl:=hc _ hm
    refine ⟨by show 3≤300;decide,fun r hr=>?_⟩
    simp only [yes,List.mem_cons,List.not_mem_nil,or_false] at hr
    rcases hr with h | h | h
    ·rw [h];omega
    ·rw [h];show 5≤200;decide
    ·rw [h]
     split
     ·show 0≤200;decide
     ·show 4≤200;decide
 | paper w f m =>
   show RowsOk (if _ then _ else _:State × Ans).2
   split
   ·exact rok_no _ _
   ·rename_i hh
    exact rok_told _ _ (slice_len _ _ _ (not_false' fun z=>hh (.inr (.inr z))))
 | sheet w k =>
   show RowsOk (if _ then _ else _:State × Ans).2
   split
   ·exact rok_no _ _
   ·rename_i hh
    have hw:=not_false' fun z=>hh (.inl z)
    have hm:=(writerAt_mem W.len hw).1
    split
    ·exact rok_no _ _
    ·exact rok_no _ _
    ·rename_i l e
     have:=(W.wr _ hm).ent _ (List.mem_of_getElem? e)
     exact rok_rows _ _ _ this.1 this.2
 | clean w f m =>
   show RowsOk (if _ then _ else _:State × Ans).2
   split
   ·exact rok_no _ _
   ·rename_i hh
    exact rok_told _ _ (slice_len _ _ _ (not_false' fun z=>hh (.inr (.inr z))))
theorem flat_len {a:Ans} (h:RowsOk a):(flat a).length≤60301:=by
 have go:∀ (l:List (List Nat)),(∀ r ∈ l,r.length≤200)->(l.flatMap fun r=>(r.length:Int)::r.map Int.ofNat).length≤201 * l.length:=by
  intro l hl
  induction l with
  | nil=>simp
  | cons a l ih =>
   have:=ih fun r hr=>hl r (List.mem_cons_of_mem _ hr)
   have:=hl a List.mem_cons_self
   simp only [List.flatMap_cons,List.length_append,List.length_cons,List.length_map]
   omega
 have:=go a.rows h.2
 have:=h.1
 unfold flat
 rw [List.length_cons]
 omega
end VB
end
section
set_option Elab.async false
set_option linter.all false
set_option maxRecDepth 100000
set_option maxHeartbeats 4000000
namespace Ps
open PySem PySem.Spec PyProof.Rows L2
noncomputable abbrev rLt:R2:=rI0 fun i j=>.bl (decide (i < j))
noncomputable abbrev rLe:R2:=rI0 fun i j=>.bl (decide (i≤j))
noncomputable abbrev rGt:R2:=rI0 fun i j=>.bl (decide (j < i))
noncomputable abbrev rPlus:R2:=rI0 fun i j=>.int (i + j)
noncomputable abbrev rMinus:R2:=rI0 fun i j=>.int (i - j)
noncomputable abbrev rAddStr:R2:=fun x y H Q=>∃ i j,x = .str i∧y = .str j∧i.length + j.length≤sizeLine∧Q (.str (i++j)) H
noncomputable abbrev rLen (K:PySem.W.Frag):List V->Hp->VK->Prop:=fun xs H Q=>∃ p ys,xs=[.ref p]∧(SqL K H p ys∨SqT K H p ys)∧Q (.int ys.length) H
noncomputable abbrev rLenD:List V->Hp->VK->Prop:=fun xs H Q=>∃ a kvs,xs=[V.ref a]∧H a=some (.dK kvs)∧Q (.int kvs.length) H
noncomputable abbrev rMax:List V->Hp->VK->Prop:=fun xs H Q=>∃ i j,xs=[.int i,.int j]∧Q (.int (if j > i then j else i)) H
noncomputable abbrev rMin:List V->Hp->VK->Prop:=fun xs H Q=>∃ i j,xs=[.int i,.int j]∧Q (.int (if j < i then j else i)) H
noncomputable abbrev rOrd:List V->Hp->VK->Prop:=fun xs H Q=>∃ x,xs=[.str x]∧x.length=1∧Q (.int (x.cps.getD 0 0:Nat)) H
noncomputable abbrev rStr:List V->Hp->VK->Prop:=fun xs H Q=>∃ i,xs=[.int i]∧i.natAbs.log2 < 1920∧Q (.str (toString i)) H
noncomputable abbrev rListOf (K:PySem.W.Frag):List V->Hp->VK->Prop:=fun xs H Q=>∃ p ys,xs=[.ref p]∧(SqL K H p ys∨SqT K H p ys)∧∀ l,H l=none->Q (.ref l) (upd H l (.lst ys))
noncomputable abbrev rInt1:List V->Hp->VK->Prop:=fun xs H Q=>(∃ i,xs=[.int i]∧Q (.int i) H)∨∃ k,xs=[.bl k]∧Q (.int (if k then 1 else 0)) H
theorem bt_len:bootBuiltins "len" = some (.builtin "len"):=by decide +kernel
theorem bt_max:bootBuiltins "max" = some (.builtin "max"):=by decide +kernel
theorem bt_min:bootBuiltins "min" = some (.builtin "min"):=by decide +kernel
theorem bt_all:bootBuiltins "all" = some (.builtin "all"):=by decide +kernel
theorem bt_ord:bootBuiltins "ord" = some (.builtin "ord"):=by decide +kernel
theorem bt_sorted:bootBuiltins "sorted" = some (.builtin "sorted"):=by decide +kernel
theorem bt_str:bootBuiltins "str" = some (.type "str"):=by decide +kernel
theorem bt_set:bootBuiltins "set" = some (.type "set"):=by decide +kernel
theorem bt_list:bootBuiltins "list" = some (.type "list"):=by decide +kernel
theorem bt_int:bootBuiltins "int" = some (.type "int"):=by decide +kernel
noncomputable def GlobV (mg:Str->Option Value) (x:Str) (v:V):Prop:=∃ u,mg x=some u∧RelV v u
theorem pe_globI {X:Cx} {x:Str} {v:V} {pos:Pos} (hg:Gl X x) (h:GlobV X.mg x v) (hd:(x == ("__debug__" : Str))=false:=by decide):PE X (.Name x pos) (tC v):=by
 obtain ⟨u,h1,h2⟩:=h
 exact pe_glob hg h1 h2 hd
noncomputable def TupK (K:PySem.W.Frag) (a:Addr) (xs:List V):Prop:=∃ (o:Obj) (its:Array Value) (n:Nat),K.lookup a=some o∧o.cls = .type "tuple" ∧ o.data = .seq its n∧its.size≤sizeLine∧Vals xs its.toList
theorem TupK.sq {K:PySem.W.Frag} {a:Addr} {xs:List V} (h:TupK K a xs) (H:Hp):SqT K H a xs:=.inr h
noncomputable def TupsK (K:PySem.W.Frag):List Addr->List (List V)->Prop
 | [],[]=>True
 | a::as,x::xs=>TupK K a x∧TupsK K as xs
 | _,_=>False
noncomputable def DictK (K:PySem.W.Frag) (a:Addr) (kvs:List (Int × Int)):Prop:=(a == sysModules)=false∧∀ (P:Program) (w:World) (h:Heap),K.In h->∃ vs,KV (kvs.map fun p=>((Sum.inl p.1:Key),V.int p.2)) vs∧h.DictOf (mixKind P w) a vs
structure FT (K:PySem.W.Frag) (mg:Str->Option Value) (x:Str) (st:Stmt) (ps:List Str) where
 f:Addr
 fd:FuncData
 F:Fun K x x st f fd
 b:Binds K fd ps []
 mg:mg x=some (.ref f)
structure MT (K:PySem.W.Frag) (C:Addr) (m qual:Str) (st:Stmt) (ps:List Str) where
 f:Addr
 fd:FuncData
 F:Fun K m qual st f fd
 b:Binds K fd ps []
 me:Meth K C m f
structure IT (K:PySem.W.Frag) (C:Addr) (qual:Str) (st:Stmt) (ps:List Str) where
 f:Addr
 fd:FuncData
 F:Fun K "__init__" qual st f fd
 b:Binds K fd ps []
 mak:Mk K C f
noncomputable def tDGetM (K:PySem.W.Frag) (td ty:TE):TE:=fun σ H Q=>td σ H fun x H1=>ty σ H1 fun y H2=>∃ a kvs n i,x = .ref a∧y = .int n∧DictK K a kvs∧kvs.lookup n=some i∧Q (.int i) H2
noncomputable def tDGet2M (K:PySem.W.Frag) (td ty tx:TE):TE:=fun σ H Q=>td σ H fun x H1=>∃ a kvs,x = .ref a∧DictK K a kvs∧ty σ H1 fun y H2=>tx σ H2 fun z H3=>∃ n d,y = .int n∧z = .int d∧Q (.int ((kvs.lookup n).getD d)) H3
theorem valV_lookup:∀ (kvs:List (Int × Int)) (n:Int),valV (kvs.map fun p=>((Sum.inl p.1:Key),V.int p.2)) (Sum.inl n)=(kvs.lookup n).map V.int
 | [],n=>rfl
 | p::r,n=>by
  rw [List.map_cons]
  by_cases e:p.1=n
  ·rw [valV_pos (p:=((Sum.inl p.1:Key),V.int p.2)) (by rw [e])]
   obtain ⟨a,b⟩:=p
   have e:a=n:=e
   subst e
   simp [List.lookup]
  ·rw [valV_neg (p:=((Sum.inl p.1:Key),V.int p.2)) (fun z=>e (Sum.inl.inj z)),valV_lookup r n]
   obtain ⟨a,b⟩:=p
   have e:¬ a=n:=e
   have:(n == a)=false:=beq_eq_false_iff_ne.mpr (fun z=>e z.symm)
   simp [List.lookup,this]
section
variable {X:Cx} {o i e f:Expr} {pos apos cpos:Pos} {td ty tx:TE}
theorem pe_dgetM (hu:X.A.units + 1 < cLine) (ho:PE X o td) (hi:PE X i ty) (hs:NoSl i):PE X (.Subscript o i pos) (tDGetM X.K td ty):=by
 intro pins s σ H Q I h
 refine subD_of PySem.F.slot_dict_getitem.lookup hs (thn (ho pins s σ H _ I h) fun u s1 ⟨x,H1,I1,rx,q1⟩=>thn (hi pins s1 σ H1 _ I1 q1) fun iv s2 ⟨y,H2,I2,ry,a,kvs,n,j,ex,ey,g,l,q2⟩=>?_)
 subst ex ey
 obtain rfl:u=Value.ref a:=rx
 obtain ⟨vs,rel,dd⟩:=g.2 X.prog X.w s2.heap I2.kIn
 refine ⟨dd.typeIs,?_⟩
 obtain ⟨w',hw,rw'⟩:=RelO.some_of (v:=V.int j) (o:=valueAt vs (Sum.inl n)) (by rw [show some (V.int j)=(kvs.lookup n).map V.int by rw [l];rfl,← valV_lookup];exact rel.val (Sum.inl n))
 exact wpAny_getItem_of (kV_is (k:=Sum.inl n) ry) dd.mapOf hw ⟨_,H2,I2.tok _,rw',q2⟩
theorem pe_dget2M (hu:X.A.units + 1 < cLine) (ho:PE X o td) (he:PE X e ty) (hf:PE X f tx) (m:M2 X o "get" apos e f cpos):PE X (.Call (.Attribute o "get" apos) [e,f] [] cpos) (tDGet2M X.K td ty tx):=by
 intro pins s σ H Q I h
 refine wpAny_Call_method m.base m.few m.line PySem.F.plainAttrs_dict PySem.F.slot_dict_get PySem.F.type_dict_get (thn (ho pins s σ H _ I h) fun u s1 ⟨x,H1,I1,rx,a,kvs,ex,d,q1⟩=>?_)
 subst ex
 obtain rfl:u=Value.ref a:=rx
 obtain ⟨vs,rel,dd⟩:=d.2 X.prog X.w s1.heap I1.kIn
 refine ⟨dd.typeIs,?_,?_⟩
 ·intro b q
  cases q
  obtain ⟨ob,_,_,h1,h2,_⟩:=dd
  exact ⟨ob,h1,h2.2.1⟩
 rw [m.trees]
 refine Calls.callWith_builtin rfl (Calls.evalArgs_plain (Calls.spliced_cons (thn (he pins s1 σ H1 _ I1 q1) fun iv s2 ⟨y,H2,I2,ry,q2⟩ =>
  Calls.spliced_cons (thn (hf pins s2 σ H2 _ I2 q2) fun fv s3 ⟨z,H3,I3,rz,n,dflt,ey,ez,q3⟩=>Calls.spliced_nil ?_))))
 subst ey ez
 obtain ⟨vs,rel,dd⟩:=d.2 X.prog X.w s3.heap I3.kIn
 refine call_meetsIn PySem.F.slot_dict_get dd.typeIs PySem.F.entry_dict_get (PySem.F.args_dict_get_3 _ _ _) (meets_dict_get_default (mixKind X.prog X.w) a (kV_is (k:=Sum.inl n) ry) d.1 fv) ⟨_,dd.mapOf,⟨_,H3,I3.tok _,?_,q3⟩⟩
 have:=(rel.val (Sum.inl n)).getD rz
 rw [valV_lookup] at this
 cases e:kvs.lookup n with
 | none=>rw [e] at this;exact this
 | some j=>rw [e] at this;exact this
end
noncomputable def rSlT2 (K:PySem.W.Frag):V->Option Int->Option Int->Hp->VK->Prop:=fun x lo hi H Q=>∃ a xs,x = .ref a∧SqT K H a xs ∧
 (HT.sIx xs.length 0 lo=0∧HT.sIx xs.length xs.length hi=xs.length->Q (.ref a) H)∧(¬ (HT.sIx xs.length 0 lo=0∧HT.sIx xs.length xs.length hi=xs.length)->∀ p,H p=none->Q (.ref p) (upd H p (.tup (cutV xs lo hi))))
theorem getItem_tuple_all {prog:Program} {w:World} {A:Around} {E:Value->Shared->Prop} {s:Shared} {t sl:Addr} {items:Array Value} {vl vu:Value} {lo hi:Option Int} {Q:Value->Shared->Prop} (ht:IsTup s.heap t items) (hs:s.heap.IsSliceOf sl vl vu .none) (pl:IsPart vl lo) (pu:IsPart vu hi)
  (hw:HT.sIx items.size 0 lo=0∧HT.sIx items.size items.size hi=items.size) (h:Q (.ref t) s):wpAny (model prog w) A (getItem (.ref t) (.ref sl)) Q E s:=by
 obtain ⟨os,hos,hcs,hds⟩:=id hs
 have hTs:s.TypeIs (.ref sl) "slice":=⟨os,hos,hcs⟩
 unfold getItem
 try with_reducible refine wpAny_holding ?_
 first | refine wpAny_bind (wpAny_pure ?_) | skip
 refine wpAny_bind (wpAny_sequenceKey ht.typeIs (by decide) ?_)
 refine wpAny_bind (wpAny_callSpecial?_slot (name:=Str.ofString "__getitem__") ht.typeIs PyProof.Rows.slot_tuple_getitem
  (wpAny_call_entry PyProof.Rows.slot_tuple_getitem ht.typeIs entry_tuple_getitem ?_ (args_tuple_getitem _ _)))
 show wpAny _ _ (Builtin.Tuple.tupleItemsOf (.ref t) >>= _) _ _ s
 refine wpAny_bind (tupleItemsOf_ ht ?_)
 refine wpAny_bind (wpAny_typeOf hTs ?_)
 rw [if_pos (by decide)]
 refine wpAny_bind (HT.sliceApplied_gen hs pl pu ?_)
 have hyes:(((HT.sIx items.size 0 lo:Nat):Int) == 0 && (1:Int) == 1 && (HT.sIx items.size items.size hi - HT.sIx items.size 0 lo) == items.size)=true:=by
  rw [hw.1,hw.2];simp
 show wpAny _ _ (if (((HT.sIx items.size 0 lo:Nat):Int) == 0 && (1:Int) == 1 && (HT.sIx items.size items.size hi - HT.sIx items.size 0 lo) == items.size)=true then _ else _) _ _ s
 rw [if_pos hyes]
 have ex:wpAny (model prog w) A.in1 (Builtin.Tuple.tupleIsExact (.ref t)) (fun b s'=>b=true∧s'=s) E s:=by
  unfold Builtin.Tuple.tupleIsExact
  exact wpAny_bind (wpAny_typeOf ht.typeIs (wpAny_pure ⟨by decide,rfl⟩))
 refine wpAny_bind (wpAny_mono ex (fun b s' hb=>?_) fun _ _ x=>x)
 obtain ⟨hb,rfl⟩:=hb
 rw [if_pos hb]
 first
  | exact wpAny_bind (wpAny_rule (wpAny_pure ⟨_,rfl,wpAny_pure h⟩))
  | exact wpAny_pure ⟨_,rfl,wpAny_pure h⟩
  | exact wpAny_bind (wpAny_pure (wpAny_pure ⟨_,rfl,wpAny_pure h⟩))
theorem sl_tup2 {X:Cx}:SlR X (rSlT2 X.K):=by
 intro pins s σ H x v vl vu lo hi sl Q I rx hs pl pu h
 obtain ⟨a,xs,e,hx,q1,q2⟩:=h
 by_cases hw:HT.sIx xs.length 0 lo=0∧HT.sIx xs.length xs.length hi=xs.length
 ·subst e
  cases rx
  obtain ⟨its,r,ht,hz⟩:=I.tuple hx
  have hlen:its.toArray.size=xs.length:=by rw [List.size_toArray];exact r.length.symm
  refine ⟨"tuple",_,PyProof.Rows.slot_tuple_getitem.lookup,ht.typeIs,?_⟩
  exact getItem_tuple_all ht hs pl pu (by rw [hlen];exact hw) ⟨.ref a,_,I,rfl,q1 hw⟩
 ·exact sl_tup pins s σ H x v vl vu lo hi sl Q I rx hs pl pu ⟨a,xs,e,hx,hw,q2 hw⟩
end Ps
end
section
set_option Elab.async false
set_option linter.all false
set_option maxRecDepth 100000
set_option maxHeartbeats 4000000
namespace Ps
open PySem PySem.Spec PyProof.Rows L2
noncomputable def dedup (ns:List Int):List Int:=ns.foldl step_dedup []
theorem range_getD:∀ (ns:List Int),(List.range ns.length).map (fun i=>ns.getD i 0)=ns:=fun ns=>by
 apply List.ext_getElem
 ·simp
 ·intro i h1 h2
  simp at h1
  simp [h1]
theorem firstMet_dedup (ns:List Int):firstMet (fun i=>ns.getD i 0) ns.length=dedup ns:=by
 unfold firstMet dedup
 rw [range_getD]
noncomputable def rSet (K:PySem.W.Frag):List V->Hp->VK->Prop:=fun vs H Q=>∃ a ns,vs=[.ref a]∧SqL K H a (ns.map V.int)∧ns.length + 1 < 4096∧∀ p S,H p=none->Q (.ref p) (upd H p (.set S (dedup ns).length))
noncomputable def rLenS:List V->Hp->VK->Prop:=fun vs H Q=>∃ a S n,vs=[.ref a]∧H a=some (.set S n)∧Q (.int (n:Int)) H
theorem call_setL {X:Cx} (hc:X.calm=true):CallR X (.type "set") (rSet X.K):=by
 intro pins s σ H vs us Q I r h
 obtain ⟨a,ns,rfl,hs,hn,q⟩:=h
 obtain ⟨its,rv,hl,_⟩:=I.list hs
 rw [Vals.ref1 r]
 have hi:=rv.ints
 have hlen:its.length=ns.length:=PyProof.Rows.IntsAre.length hi
 refine PySem.call_set_list (items:=its.toArray) (ns:=ns) (I.ok.hd hc) hl.isList (by simpa using hi) (by rw [List.size_toArray,hlen];exact hn) fun h' tk hS hk=>?_
 rw [show its.toArray.size=ns.length by rw [List.size_toArray];exact hlen,firstMet_dedup] at hS
 have k:∀ b u,s.heap.get? b=some u->h'.get? b=some u:=fun b u e=>hk b u (Heap.lt_size e) e
 exact ⟨.ref s.heap.objs.size,_,I.laid (o:=.set (fun k=>(dedup ns).any (· == k)) (dedup ns).length) k (Nat.le_refl _) hS,rfl,q _ _ (I.hok.fresh (Nat.le_refl _))⟩
theorem call_lenS {X:Cx}:CallR X (.builtin "len") rLenS:=by
 intro pins s σ H vs us Q I r h
 obtain ⟨a,S,n,rfl,hs,q⟩:=h
 rw [Vals.ref1 r]
 obtain ⟨o,es,ep,t,h1,h2,h3,_,_,h4,h5,h6⟩:=(show s.heap.SetOf (intKind X.prog X.w) a S n from I.hok a _ hs)
 subst h6
 refine call_len_set h1 h2 h3 h5 (by unfold scanBound at h4;omega) ⟨.int (es.size:Int),H,I.tok _,⟨_,rfl⟩,q⟩
theorem dedup_go:∀ (l acc:List Int),acc.Nodup->(l.foldl step_dedup acc).length≤acc.length + l.length∧((l.foldl step_dedup acc).length=acc.length + l.length ↔ (l.Nodup∧∀ x ∈ l,x ∉ acc))
 | [],acc,_=>by simp
 | x::l,acc,h=>by
  rw [List.foldl_cons,show step_dedup acc x=(if acc.any (· == x) then acc else acc++[x]) from rfl]
  by_cases hx:acc.any (· == x)=true
  ·rw [if_pos hx]
   have hm:x ∈ acc:=by simpa using hx
   obtain ⟨h1,h2⟩:=dedup_go l acc h
   refine ⟨by rw [List.length_cons];omega,⟨fun e=>absurd e (by rw [List.length_cons];omega),fun e=>absurd hm (e.2 x List.mem_cons_self)⟩⟩
  ·rw [if_neg hx]
   have hm:x ∉ acc:=by simpa using hx
   have hn:(acc++[x]).Nodup:=List.nodup_append.mpr ⟨h,by simp,fun a ha b hb=>by rw [List.mem_singleton.mp hb];intro z;exact hm (z ▸ ha)⟩
   obtain ⟨h1,h2⟩:=dedup_go l (acc++[x]) hn
   rw [List.length_append,List.length_singleton] at h1 h2
   refine ⟨by rw [List.length_cons];omega,?_⟩
   rw [List.length_cons,show acc.length + (l.length + 1)=acc.length + 1 + l.length by omega,h2,List.nodup_cons]
   constructor
   ·rintro ⟨a,b⟩
    refine ⟨⟨fun z=>b x z (by simp),a⟩,fun y hy=>?_⟩
    rcases List.mem_cons.mp hy with rfl | hy
    ·exact hm
    ·exact fun z=>b y hy (List.mem_append_left _ z)
   ·rintro ⟨⟨a,b⟩,c⟩
    refine ⟨b,fun y hy z=>?_⟩
    rcases List.mem_append.mp z with z | z
    ·exact c y (List.mem_cons_of_mem _ hy) z
    ·exact a ((List.mem_singleton.mp z) ▸ hy)
theorem dedup_nodup (l:List Int):(dedup l).length=l.length ↔ l.Nodup:=by
 have:=(dedup_go l [] List.nodup_nil).2
 simp at this
 exact this
theorem eraseDups_nodup:∀ (n:Nat) (l:List Int),l.length≤n->(l.eraseDups.length≤l.length∧(l.eraseDups.length=l.length ↔ l.Nodup))
 | _,[],_=>by simp
 | n + 1,x::l,h=>by
  rw [List.eraseDups_cons]
  have hl:(l.filter fun b => !b == x).length≤l.length:=List.length_filter_le _ _
  obtain ⟨h1,h2⟩:=eraseDups_nodup n (l.filter fun b => !b == x) (by simp at h;omega)
  refine ⟨by simp only [List.length_cons];omega,?_⟩
  rw [List.nodup_cons]
  simp only [List.length_cons]
  constructor
  ·intro e
   have e1:(l.filter fun b => !b == x).length=l.length:=by omega
   have e2:(l.filter fun b => !b == x)=l:=List.filter_eq_self.mpr (List.length_filter_eq_length_iff.mp e1)
   have e3:=List.length_filter_eq_length_iff.mp e1
   refine ⟨fun z=>?_,?_⟩
   ·have:=e3 x z;simp at this
   ·rw [← e2];exact h2.mp (by omega)
  ·rintro ⟨a,b⟩
   have e2:(l.filter fun b => !b == x)=l:=List.filter_eq_self.mpr fun y hy=>by
    have:y ≠ x:=fun z=>a (z ▸ hy)
    simp [this]
   rw [e2] at h2 ⊢
   have:=h2.mpr b
   omega
theorem dups_iff (l:List Int):((dedup l).length=l.length) ↔ (l.eraseDups.length=l.length):=by
 rw [dedup_nodup,(eraseDups_nodup l.length l (Nat.le_refl _)).2]
end Ps
end
section
set_option Elab.async false
set_option linter.all false
set_option maxRecDepth 100000
set_option maxHeartbeats 4000000
namespace Ps
open PySem PySem.Spec PyProof.Rows L2
structure Apart (X:Cx) (pins:List (Addr × Obj)) (it:Addr):Prop where
 loc:it ≠ X.env.locals
 s0:X.s_0.heap.objs.size≤it
 cel:∀ x c,X.env.cells.lookup x=some c->c ≠ it
 pin:∀ p ∈ X.pn++pins,p.1 ≠ it
 stk:it ∉ frs X.stack
section
variable {X:Cx} {pins:List (Addr × Obj)} {σ:L2.St} {H:Hp} {s:Shared}
theorem inv_apart (I:Inv X pins σ H s) {it:Addr} (h:s.heap.objs.size≤it):Apart X pins it where
 loc:=fun e=>by have:=I.lt;rw [← e] at this;exact absurd (Nat.lt_of_lt_of_le this h) (Nat.lt_irrefl _)
 s0:=Nat.le_trans I.sz h
 cel:=fun x c e z=>by
  obtain ⟨v,o,ho,_⟩:=I.cell x c e
  have:=Heap.lt_size ho
  rw [z] at this
  exact absurd (Nat.lt_of_lt_of_le this h) (Nat.lt_irrefl _)
 pin:=fun p hp z=>by
  have:=Heap.lt_size (I.pin p hp).1
  rw [z] at this
  exact absurd (Nat.lt_of_lt_of_le this h) (Nat.lt_irrefl _)
 stk:=fun z=>by
  rcases List.mem_cons.mp (I.stkSub _ z) with e | e
  ·have:=I.lt
   rw [← e] at this
   exact absurd (Nat.lt_of_lt_of_le this h) (Nat.lt_irrefl _)
  ·exact I.nofs h e
theorem inv_track {a:Addr} {o:HO} (I:Inv X pins σ H s) (hA:Apart X pins a) (hn:H a=none) (new:ObjOk X.prog X.w (upd H a o) s.heap a o):Inv X pins σ (upd H a o) s:=by
 refine ⟨I.ok,I.os,I.bare,⟨I.base.keep,I.base.slot,fun b o e n hx=>?_,I.base.there,fun b xs e=>?_,fun b o x e=>?_,fun b ps e=>?_⟩,I.loc,I.cell,?_,fun x c e=>?_,fun p hp=>?_,fun b u e=>?_,I.len⟩
 ·rw [upd_ne (Nat.ne_of_lt (Nat.lt_of_lt_of_le (Heap.lt_size e) hA.s0))]
  exact I.base.free b o e n hx
 ·have q:=I.base.tups b xs e
  rw [upd_ne (ne_of_none q hn)];exact q
 ·have q:=I.base.frzs b o x e
  rw [upd_ne (ne_of_none q hn)];exact q
 ·obtain ⟨m,q⟩:=I.base.tbls b ps e
  exact ⟨m,by rw [upd_ne (ne_of_none q hn)];exact q⟩
 ·rw [upd_ne hA.loc.symm];exact I.free
 ·rw [upd_ne (hA.cel x c e)];exact I.freeC x c e
 ·obtain ⟨e,n,r⟩:=I.pin p hp
  exact ⟨e,by rw [upd_ne (hA.pin p hp)];exact n,r⟩
 ·by_cases hb:b=a
  ·subst hb;rw [upd_same] at e;cases e;exact new
  ·rw [upd_ne hb] at e
   exact (I.hok b u e).stay (fun c v _ q=>q) (fun c q=>by rw [upd_ne (ne_of_none q hn)];exact q) fun c xs q=>by rw [upd_ne (ne_of_none q hn)];exact q
end
noncomputable def KT (H:Hp) (k:Int × Int) (v:Value):Prop:=∃ t,v = .ref t∧H t=some (.tup [.int k.1,.int k.2])
noncomputable def PLt (a b:Int × Int):Prop:=a.1 < b.1∨(a.1=b.1∧a.2 < b.2)
noncomputable def noSh:Nat->Bool:=fun _=>false
theorem kt_obj {P:Program} {w:World} {H:Hp} {h:Heap} (ok:HOk P w H h) {k:Int × Int} {v:Value} (x:KT H k v):∃ a o t u n,v = .ref a∧h.get? a=some o∧o.cls = .type "tuple" ∧ o.data = .seq #[.int k.1 t,.int k.2 u] n:=by
 obtain ⟨a,rfl,e⟩:=x
 obtain ⟨_,its,r,o,e1,e2,n,e3⟩:=ok a _ e
 cases r with
 | cons r1 r =>
  cases r with
  | cons r2 r =>
   cases r
   obtain ⟨t,rfl⟩:=r1
   obtain ⟨u,rfl⟩:=r2
   exact ⟨a,o,t,u,n,rfl,e1,e2,e3⟩
theorem kt_key {P:Program} {w:World} {H:Hp} {h:Heap} (ok:HOk P w H h) {k:Int × Int} {v:Value} (x:KT H k v):G.tupKeyC h noSh v=some [Sum.inl k.1,Sum.inl k.2]:=by
 obtain ⟨a,o,t,u,n,rfl,e1,e2,e3⟩:=kt_obj ok x
 unfold G.tupKeyC
 rw [if_pos (by simp [G.isTupObj,e1,e2])]
 simp [tupKey,e1,e3,tupItems,noSh]
theorem kt_tup {P:Program} {w:World} {H:Hp} {h:Heap} (ok:HOk P w H h) {k:Int × Int} {v:Value} (x:KT H k v):∃ f,TupOf h noSh v f:=by
 obtain ⟨a,o,t,u,n,rfl,e1,e2,e3⟩:=kt_obj ok x
 exact ⟨_,a,o,_,n,rfl,e1,e2,e3,rfl,fun _=>⟨_,_,rfl⟩,fun z=>by cases z⟩
theorem kt_tups {P:Program} {w:World} {H:Hp} {h:Heap} (ok:HOk P w H h):∀ {kz:List (Int × Int)} {vs:List Value},Paired (KT H) kz vs->∃ fs,TupsOf h noSh vs fs
 | _,_,.nil=>⟨[],.nil⟩
 | _,_,.cons x r=>by
  obtain ⟨f,hf⟩:=kt_tup ok x
  obtain ⟨fs,hfs⟩:=kt_tups ok r
  exact ⟨_,.cons hf hfs⟩
theorem paired_zip {α β γ δ:Type} {F:α->β->Prop} {R:γ->δ->Prop}:∀ {l:List α} {m:List β} {p:List γ} {q:List δ},Paired F l m->Paired R p q->Paired (fun (x:α × γ) (y:β × δ)=>F x.1 y.1∧R x.2 y.2) (l.zip p) (m.zip q)
 | _,_,_,_,.nil,_=>by rw [List.zip_nil_left,List.zip_nil_left];exact .nil
 | _,_,_,_,.cons _ _,.nil=>by rw [List.zip_nil_right,List.zip_nil_right];exact .nil
 | _,_,_,_,.cons a b,.cons c d=>by rw [List.zip_cons_cons,List.zip_cons_cons];exact .cons ⟨a,c⟩ (paired_zip b d)
theorem paired_perm {α β:Type} {F:α->β->Prop} {m m':List β} (p:m.Perm m'):∀ {l:List α},Paired F l m->∃ l',l'.Perm l∧Paired F l' m':=by
 induction p with
 | nil=>intro l h;exact ⟨l,.refl _,h⟩
 | cons x _ ih =>
  intro l h
  cases h with
  | cons a b =>
   obtain ⟨l',p',h'⟩:=ih b
   exact ⟨_,p'.cons _,.cons a h'⟩
 | swap x y r =>
  intro l h
  cases h with
  | cons a b =>
   cases b with
   | cons c d=>exact ⟨_,List.Perm.swap _ _ _,.cons c (.cons a d)⟩
 | trans _ _ ih1 ih2 =>
  intro l h
  obtain ⟨l1,p1,h1⟩:=ih1 h
  obtain ⟨l2,p2,h2⟩:=ih2 h1
  exact ⟨l2,p2.trans p1,h2⟩
theorem paired_get {α β:Type} {F:α->β->Prop}:∀ {l:List α} {m:List β} {i:Nat} {a:α},Paired F l m->l[i]? = some a->∃ b,m[i]? = some b∧F a b
 | _,_,_,_,.nil,e=>by simp at e
 | _,_,0,_,.cons r _,e=>by simp at e;subst e;exact ⟨_,rfl,r⟩
 | _,_,i + 1,a,.cons _ t,e=>by
  obtain ⟨b,h1,h2⟩:=paired_get (i:=i) t (by simpa using e)
  exact ⟨b,by simpa using h1,h2⟩
theorem paired_snd {H:Hp}:∀ {l:List ((Int × Int) × V)} {m:List (Value × Value)},Paired (fun x y=>KT H x.1 y.1∧RelV x.2 y.2) l m->Vals (l.map Prod.snd) (m.map Prod.snd)
 | _,_,.nil=>.nil
 | _,_,.cons a b=>.cons a.2 (paired_snd b)
theorem paired_mono {α β:Type} {F R:α->β->Prop} (h:∀ a b,F a b->R a b):∀ {l:List α} {m:List β},Paired F l m->Paired R l m
 | _,_,.nil=>.nil
 | _,_,.cons a b=>.cons (h _ _ a) (paired_mono h b)
theorem KT.same {H H':Hp} (s:∀ b o,H b=some o->H' b=some o) {k:Int × Int} {v:Value} (x:KT H k v):KT H' k v:=let ⟨t,e1,e2⟩:=x;⟨t,e1,s _ _ e2⟩
theorem lex_pair (a b:Int × Int):lexLt itemOrd [Sum.inl a.1,Sum.inl a.2] [Sum.inl b.1,Sum.inl b.2]=false->¬ PLt a b:=by
 intro h z
 have:=lex_false.mp h
 obtain ⟨h1,h2⟩:=this
 have h1:decide (a.1 < b.1)=false:=h1
 have h1':¬ a.1 < b.1:=by simpa using h1
 rcases z with z | ⟨z1,z2⟩
 ·exact h1' z
 ·rcases h2 with h2 | h2
  ·have h2:decide (b.1 < a.1)=true:=h2
   have:b.1 < a.1:=by simpa using h2
   omega
  ·obtain ⟨h3,_⟩:=lex_false.mp h2
   have h3:decide (a.2 < b.2)=false:=h3
   have:¬ a.2 < b.2:=by simpa using h3
   exact this z2
end Ps
end
section
set_option Elab.async false
set_option linter.all false
set_option maxRecDepth 100000
set_option maxHeartbeats 4000000
namespace Ps
open PySem PySem.Spec PyProof.Rows L2
section
variable {X:Cx} {pins:List (Addr × Obj)} {σ:L2.St} {H:Hp} {s:Shared} {A:Around} {E:Value->Shared->Prop} {a kS:Addr} {vs:List Value} {xs:List V} {kz:List (Int × Int)} {keys:Array Value} {e e1:Nat} {Q:PySem.Fin->Shared->Prop}
noncomputable def Sorted (kz:List (Int × Int)) (xs:List V) (ps:List ((Int × Int) × V)):Prop:=ps.Perm (kz.zip xs)∧ps.Pairwise fun p q=>¬ PLt q.1 p.1
theorem sk_tail {st:SortSt} (I:Inv X pins σ H s) (hA:Apart X pins a) (hK:Apart X pins kS) (hka:kS ≠ a) (ha:H a=none) (hk:H kS=none) (ok:s.heap.get? kS=some (seqObj "list" keys e)) (oa:s.heap.get? a=some (seqObj "list" #[] e1))
  (hks:Paired (KT H) kz keys.toList) (hv:Vals xs vs) (hlen:kz.length=xs.length) (hZ:vs.length≤sizeLine)
  (hp:(arrOf st).Perm (keys.zip vs.toArray)) (hs:SortedToK (G.tupKindC s.heap noSh) (arrOf st) (arrOf st).size) (hfl:failedOf st=none)
  (h:∀ s' ps,Inv X pins σ (upd H a (.lst (ps.map Prod.snd))) s'->Sorted kz xs ps->Q (.done (.ret .none)) s') :
  wpAny (model X.prog X.w) A (ksk_tail a false e1 (.ref kS) st) Q E s:=by
 have hZ2:=hZ
 rw [sizeLine_eq] at hZ2
 have hxv:=hv.length
 have hsz:keys.size=vs.length:=by
  have h1:kz.length=keys.size:=(Paired.length hks).trans Array.length_toList
  omega
 have hsz2:(arrOf st).size=vs.length:=by rw [hp.size_eq,Array.size_zip,hsz,List.size_toArray,Nat.min_self]
 have hout:((arrOf st).map (·.2)).size=vs.length:=by rw [Array.size_map];exact hsz2
 have s1:=Heap.SameBut.update s.heap kS (Obj.mapSeq fun _=>(#[]:Array Value))
 have na1:(s.heap.update kS (Obj.mapSeq fun _=>(#[]:Array Value))).get? a=some (seqObj "list" #[] e1):=(s1.2 a hka.symm).trans oa
 have s2:=Heap.SameBut.update (s.heap.update kS (Obj.mapSeq fun _=>(#[]:Array Value))) a (Obj.mapSeq fun _=>(arrOf st).map (·.2))
 obtain ⟨c2,hc2⟩:∃ c2,((s.heap.update kS (Obj.mapSeq fun _=>(#[]:Array Value))).update a (Obj.mapSeq fun _=>(arrOf st).map (·.2))).get? a=some (seqObj "list" ((arrOf st).map (·.2)) c2):=
  ⟨_,get?_update_seq na1 fun _=>(arrOf st).map (·.2)⟩
 have I1:Inv X pins σ H { s with heap:=s.heap.update kS (Obj.mapSeq fun _=>(#[]:Array Value)) }:=
  I.turned (t':=s.toks) (fun b o hb q=>(s1.2 b hb).trans q) hk hK.loc (.inr hK.s0) hK.cel hK.pin
 have I2:Inv X pins σ H { s with heap:=(s.heap.update kS (Obj.mapSeq fun _=>(#[]:Array Value))).update a (Obj.mapSeq fun _=>(arrOf st).map (·.2)) }:=
  I1.turned (t':=s.toks) (fun b o hb q=>(s2.2 b hb).trans q) ha hA.loc (.inr hA.s0) hA.cel hA.pin
 have hl:(arrOf st).toList.Perm (keys.toList.zip vs):=by rw [← ksk_zip];exact Array.perm_iff_toList_perm.mp hp
 obtain ⟨ps,p1,p2⟩:=paired_perm hl.symm (paired_zip hks hv)
 unfold ksk_tail
 try dsimp only
 refine wpAny_bind (listUpdate_at ok rfl ?_ (by rw [hsz,sizeLine_eq];omega) (Nat.zero_le _))
 refine wpAny_bind (wpAny_letGo ?_)
 refine wpAny_bind (seqEpoch_at na1 rfl ?_)
 refine wpAny_bind (listUpdate_at na1 rfl ?_ (Nat.zero_le _) (Nat.le_trans (Nat.le_of_eq hout) (by rw [sizeLine_eq];omega)))
 rw [hfl]
 simp only [bne_self_eq_false,Bool.false_eq_true,if_false]
 have lenps:(ps.map Prod.snd).length=vs.length:=by
  rw [List.length_map,p1.length_eq,List.length_zip]
  omega
 refine wpAny_pure (h _ ps (inv_track I2 hA ha ⟨by rw [lenps];exact hZ,((arrOf st).map (·.2)).toList,c2,?_,?_⟩) ⟨p1,?_⟩)
 ·rw [Array.toList_map]
  exact paired_snd p2
 ·rw [Array.toArray_toList]
  exact hc2
 ·rw [List.pairwise_iff_getElem]
  intro i j hi hj hij
  have hps:ps.length=vs.length:=by rw [← lenps,List.length_map]
  have q:=hs i j (Nat.le_of_lt hij) (by rw [hsz2,← hps];exact hj)
  have key:∀ (i:Nat) (hi:i < ps.length),KK (G.tupKindC s.heap noSh) (arrOf st) i=[Sum.inl ps[i].1.1,Sum.inl ps[i].1.2]:=fun i hi=>by
   obtain ⟨r,hr,hk',_⟩:=paired_get p2 (List.getElem?_eq_getElem hi)
   unfold KK
   rw [← Array.getElem?_toList,hr]
   show (G.tupKeyC s.heap noSh r.1).getD []=_
   rw [kt_key I.hok hk']
   rfl
  rw [key i hi,key j hj] at q
  exact lex_pair _ _ q
theorem sk_end (I:Inv X pins σ H s) (hA:Apart X pins a) (hK:Apart X pins kS) (hka:kS ≠ a) (ha:H a=none) (hk:H kS=none) (ok:s.heap.get? kS=some (seqObj "list" keys e)) (oa:s.heap.get? a=some (seqObj "list" #[] e1))
  (hks:Paired (KT H) kz keys.toList) (hv:Vals xs vs) (hlen:kz.length=xs.length) (hZ:vs.length≤sizeLine)
  (h:∀ s' ps,Inv X pins σ (upd H a (.lst (ps.map Prod.snd))) s'->Sorted kz xs ps->Q (.done (.ret .none)) s') :
  wpAny (model X.prog X.w) A (ksk_end a false vs.toArray e1 (.ref kS) keys) Q E s:=by
 have hxv:=hv.length
 have hsz:keys.size=vs.length:=by
  have h1:kz.length=keys.size:=(Paired.length hks).trans Array.length_toList
  omega
 have hzs:(keys.zip vs.toArray).size=vs.length:=by rw [Array.size_zip,hsz,List.size_toArray,Nat.min_self]
 unfold ksk_end
 try dsimp only
 rw [if_neg Bool.false_ne_true,if_neg Bool.false_ne_true]
 by_cases h2:vs.toArray.size < 2
 ·rw [if_pos h2,if_pos h2]
  refine wpAny_bind (wpAny_pure ?_)
  rw [StateT.run_pure]
  refine wpAny_bind (wpAny_pure ?_)
  try dsimp only
  refine sk_tail (st:=SortSt.mk' general' (keys.zip vs.toArray) #[] 7 none) I hA hK hka ha hk ok oa hks hv hlen hZ (Array.Perm.refl _) ?_ rfl h
  intro i j hij hj
  have hj2:j < (keys.zip vs.toArray).size:=hj
  rw [hzs] at hj2
  rw [List.size_toArray] at h2
  have:i=j:=by omega
  subst this
  exact KeyOrd.kle_refl _
 ·rw [if_neg h2,if_neg h2]
  rw [List.size_toArray] at h2
  obtain ⟨fs,hfs⟩:=kt_tups I.hok hks
  have hkk:∀ {R:SortKind->Shared->Prop},R (tuples' true) s->wpAny (model X.prog X.w) A (keyKind' keys) R E s:=fun {R} hq=>by
   have:=tup_kind (M:=model X.prog X.w) (A:=A) (E:=E) (s:=s) (Q:=R) (by rw [G.TupsOf.length hfs,Array.length_toList];omega) hfs hq
   rw [Array.toArray_toList] at this
   exact this
  refine wpAny_bind (hkk ?_)
  have hkeys:KeysOf (G.tupKindC s.heap noSh) (keys.zip vs.toArray):=by
   intro p hp
   rw [ksk_zip] at hp
   obtain ⟨x,y⟩:=p
   obtain ⟨i,hi⟩:=List.mem_iff_getElem?.mp (List.of_mem_zip hp).1
   have hik:i < kz.length:=by
    rw [Paired.length hks]
    exact (List.getElem?_eq_some_iff.mp hi).1
   obtain ⟨b,hb,hkt⟩:=paired_get hks (List.getElem?_eq_getElem hik)
   rw [hi] at hb
   cases hb
   exact ⟨_,kt_key I.hok hkt⟩
  refine wpAny_bind (wpAny_mono (G.wpS_sortRunsSt (κ:=G.tupKindC s.heap noSh) (kd:=tuples' true) (a₀:=keys.zip vs.toArray) (st:=SortSt.mk' (tuples' true) (keys.zip vs.toArray) #[] 7 none)
   (Q:=fun _ st'=>(arrOf st').Perm (keys.zip vs.toArray)∧failedOf st'=none∧SortedToK (G.tupKindC s.heap noSh) (arrOf st') (keys.zip vs.toArray).size)
   (G.tupC_ltAt true (G.KeepsTups.refl _)) hkeys ⟨Array.Perm.refl _,rfl,rfl⟩ rfl (Stable.refl _) (by rw [hzs];omega) fun st' a1 a2 a3 _=>⟨a1,a2,a3⟩) ?_ fun _ _ e=>e)
  rintro ⟨⟨⟩,st'⟩ s' ⟨rfl,hp,hf,hs⟩
  try dsimp only
  exact sk_tail I hA hK hka ha hk ok oa hks hv hlen hZ hp (by rw [hp.size_eq];exact hs) hf h
noncomputable def Turn (X:Cx) (pins:List (Addr × Obj)) (σ:L2.St) (A:Around) (f v:Value) (k:Int × Int) (H:Hp) (s:Shared):Prop:=
 wpAny (model X.prog X.w) A (call f [v]) (fun u s'=>∃ H',Inv X pins σ H' s'∧(∀ b o,H b=some o->H' b=some o)∧KT H' k u∧∀ b o,s.heap.get? b=some o->H b=none->b ∉ frs X.stack->s'.heap.get? b=some o∧H' b=none) (fun _ _=>False) s
theorem sk_rest {f:Value} (I:Inv X pins σ H s) (hA:Apart X pins a) (hK:Apart X pins kS) (hka:kS ≠ a) (ha:H a=none) (hk:H kS=none) (ok:s.heap.get? kS=some (seqObj "list" #[] 0)) (oa:s.heap.get? a=some (seqObj "list" #[] e1))
  (hv:Vals xs vs) (hlen:kz.length=xs.length) (hZ:vs.length≤sizeLine)
  (turn:∀ (i:Nat) (v:Value) (k:Int × Int),vs[i]? = some v->kz[i]? = some k->∀ H' s',Inv X pins σ H' s'->(∀ b o,H b=some o->H' b=some o)->Turn X pins σ A f v k H' s')
  (h:∀ H' s' ps,Inv X pins σ (upd H' a (.lst (ps.map Prod.snd))) s'->(∀ b o,H b=some o->H' b=some o)->Sorted kz xs ps->Q (.done (.ret .none)) s') :
  wpAny (model X.prog X.w) A (ksk_rest a f false vs.toArray e1 (.ref kS)) Q E s:=by
 have hZ2:=hZ
 have hxv:=hv.length
 rw [sizeLine_eq] at hZ2
 unfold ksk_rest
 refine wpAny_bind (wpAny_rule ?_)
 first
  | rw [List.forIn_toArray]
  | (rw [← Array.forIn_toList];simp only [List.toList_toArray])
  | rw [← Array.forIn_toList]
 refine wpAny_bind (ksk_fold (fun i s'=>∃ H' kA e,Inv X pins σ H' s'∧(∀ b o,H b=some o->H' b=some o)∧H' a=none∧H' kS=none∧s'.heap.get? kS=some (seqObj "list" kA e)∧s'.heap.get? a=some (seqObj "list" #[] e1)∧Paired (KT H') (kz.take i) kA.toList) vs 0 s
  ⟨H,#[],0,I,fun _ _ q=>q,ha,hk,ok,oa,by simpa using Paired.nil⟩ ?step ?done)
 case step =>
  rintro j x s' hx ⟨H',kA,e,I',sm,ha',hk',ok',oa',hp⟩
  simp only [Nat.zero_add] at hp ⊢
  have hj:j < vs.length:=(List.getElem?_eq_some_iff.mp hx).1
  obtain ⟨k,hkj⟩:∃ k,kz[j]? = some k:=⟨_,List.getElem?_eq_getElem (by omega)⟩
  have hz:kA.size≤vs.length:=by
   have h1:(kz.take j).length=kA.size:=(Paired.length hp).trans Array.length_toList
   rw [List.length_take] at h1
   omega
  refine wpAny_bind (wpAny_attempt (wpAny_mono (turn j x k hx hkj H' s' I' sm) (fun v s'' he=>?_) fun _ _ hF=>hF.elim))
  obtain ⟨H2,I2,sm2,kt,kp⟩:=he
  try dsimp only
  obtain ⟨ok2,hk2⟩:=kp kS _ ok' hk' hK.stk
  obtain ⟨oa2,ha2⟩:=kp a _ oa' ha' hA.stk
  have s1:=Heap.SameBut.update s''.heap kS (Obj.mapSeq (·.push v))
  obtain ⟨c2,hc2⟩:∃ c2,(s''.heap.update kS (Obj.mapSeq (·.push v))).get? kS=some (seqObj "list" (kA.push v) c2):=⟨_,get?_update_seq ok2 (·.push v)⟩
  have ek:kz.take (j + 1)=kz.take j++[k]:=by rw [List.take_add_one,hkj];simp
  have ea:(kA.push v).toList=kA.toList++[v]:=by simp
  refine wpAny_bind (listUpdate_at ok2 rfl ?_ (by rw [sizeLine_eq];omega) (Nat.le_trans (Nat.le_of_eq (Array.size_push ..)) (by rw [sizeLine_eq];omega)))
  refine wpAny_pure ⟨rfl,H2,kA.push v,c2,?_,fun b o q=>sm2 _ _ (sm _ _ q),ha2,hk2,hc2,(s1.2 a hka.symm).trans oa2,?_⟩
  ·exact I2.turned (t':=s''.toks) (fun b o hb q=>(s1.2 b hb).trans q) hk2 hK.loc (.inr hK.s0) hK.cel hK.pin
  ·rw [ea,ek]
   exact Paired.snoc (paired_mono (fun _ _ z=>z.same sm2) hp) kt
 case done =>
  rintro s' ⟨H',kA,e,I',sm,ha',hk',ok',oa',hp⟩
  have hp':Paired (KT H') kz kA.toList:=by
   have e3:kz.take (0 + vs.length)=kz:=List.take_of_length_le (by omega)
   rw [e3] at hp
   exact hp
  try dsimp only
  refine wpAny_bind (listItems_at ok' rfl ?_)
  exact sk_end I' hA hK hka ha' hk' ok' oa' hp' hv hlen hZ fun s2 ps J so=>h H' s2 ps J sm so
theorem sk_tree {f:Value} {n:Nat} (I:Inv X pins σ H s) (ho:s.heap.get? a=some (seqObj "list" vs.toArray n)) (hA:Apart X pins a) (ha:H a=none)
  (hv:Vals xs vs) (hlen:kz.length=xs.length) (hZ:vs.length≤sizeLine)
  (turn:∀ (i:Nat) (v:Value) (k:Int × Int),vs[i]? = some v->kz[i]? = some k->∀ H' s',Inv X pins σ H' s'->(∀ b o,H b=some o->H' b=some o)->Turn X pins σ A f v k H' s')
  (h:∀ H' s' ps,Inv X pins σ (upd H' a (.lst (ps.map Prod.snd))) s'->(∀ b o,H b=some o->H' b=some o)->Sorted kz xs ps->Q (.done (.ret .none)) s') :
  wpAny (model X.prog X.w) A (ksk_tree a f false) Q E s:=by
 have hZ2:=hZ
 rw [sizeLine_eq] at hZ2
 have hlt:a < s.heap.objs.size:=Heap.lt_size ho
 have s1:=Heap.SameBut.update s.heap a (Obj.mapSeq fun _=>(#[]:Array Value))
 obtain ⟨e1,ho1⟩:∃ e1,(s.heap.update a (Obj.mapSeq fun _=>(#[]:Array Value))).get? a=some (seqObj "list" #[] e1):=⟨_,get?_update_seq ho fun _ => #[]⟩
 have hkS:((s.heap.update a (Obj.mapSeq fun _=>(#[]:Array Value))).push (seqObj "tuple" vs.toArray 0)).objs.size=s.heap.objs.size + 1:=by rw [size_push',Heap.size_update]
 have I1:Inv X pins σ H { s with heap:=s.heap.update a (Obj.mapSeq fun _=>(#[]:Array Value)) }:=
  I.turned (t':=s.toks) (fun b o hb q=>(s1.2 b hb).trans q) ha hA.loc (.inr hA.s0) hA.cel hA.pin
 have I2:Inv X pins σ H { s with heap:=((s.heap.update a (Obj.mapSeq fun _=>(#[]:Array Value))).push (seqObj "tuple" vs.toArray 0)).push (seqObj "list" #[] 0) }:=
  I1.kept (t':=s.toks) fun b o q=>Heap.get?_push_of_some _ (Heap.get?_push_of_some _ q)
 have fr:s.heap.objs.size≤((s.heap.update a (Obj.mapSeq fun _=>(#[]:Array Value))).push (seqObj "tuple" vs.toArray 0)).objs.size:=by rw [hkS];omega
 unfold ksk_tree
 refine wpAny_bind (listItems_at ho rfl ?_)
 refine wpAny_bind (listUpdate_at ho rfl ?_ (by rw [List.size_toArray,sizeLine_eq];omega) (Nat.zero_le _))
 refine wpAny_bind (seqEpoch_at ho1 rfl ?_)
 refine wpAny_bind (wpAny_newTuple ?_ (by show vs.length≤_;rw [sizeLine_eq];omega))
 refine wpAny_bind (wpAny_newList ?_ (Nat.zero_le _))
 refine wpAny_holding ?_
 exact sk_rest (s:={ s with heap:=((s.heap.update a (Obj.mapSeq fun _=>(#[]:Array Value))).push (seqObj "tuple" vs.toArray 0)).push (seqObj "list" #[] 0) }) (kS:=((s.heap.update a (Obj.mapSeq fun _=>(#[]:Array Value))).push (seqObj "tuple" vs.toArray 0)).objs.size)
  I2 hA (inv_apart I fr) (by rw [hkS];exact Nat.ne_of_gt (Nat.lt_succ_of_lt hlt)) ha (I.hok.fresh fr) (Heap.get?_push_size _ rfl) (Heap.get?_push_of_some _ (Heap.get?_push_of_some _ ho1)) hv hlen hZ turn h
theorem sk_sorted {f l:Addr} {R:Value->Shared->Prop} (I:Inv X pins σ H s) (hl:s.heap.IsList l vs.toArray) (hv:Vals xs vs) (hlen:kz.length=xs.length) (hZ:vs.length≤sizeLine)
  (turn:∀ (i:Nat) (v:Value) (k:Int × Int),vs[i]? = some v->kz[i]? = some k->∀ H' s',Inv X pins σ H' s'->(∀ b o,H b=some o->H' b=some o)->Turn X pins σ A.in1.in1 (.ref f) v k H' s')
  (h:∀ D H' s' ps,H D=none->Inv X pins σ (upd H' D (.lst (ps.map Prod.snd))) s'->(∀ b o,H b=some o->H' b=some o)->Sorted kz xs ps->R (.ref D) s') :
  wpAny (model X.prog X.w) A (call (.builtin "sorted") [.ref l] [(Str.ofString "key",.ref f)]) R E s:=by
 have hZ2:=hZ
 rw [sizeLine_eq] at hZ2
 refine call_function_entry_kw kind_sorted plain_sorted entry_sorted (ksk_s1 _ _) ?_
 unfold Builtin.«sorted»
 refine wpAny_bind (m:=checkCount "sorted" 1 1 _) (wpAny_pure ?_)
 refine wpAny_bind (collect_list hl ?_ (by rw [sizeLine_eq];omega))
 refine wpAny_bind (wpAny_newList ?_ (by rw [sizeLine_eq];omega))
 have hsz:((s.heap.push (seqObj "list" #[] 0)).update s.heap.objs.size (Obj.mapSeq (· ++ vs.toArray))).objs.size=s.heap.objs.size + 1:=by
  rw [Heap.size_update,size_push']
 have hoL:(((s.heap.push (seqObj "list" #[] 0)).update s.heap.objs.size (Obj.mapSeq (· ++ vs.toArray))).push (seqObj "list" vs.toArray 0)).get? (s.heap.objs.size + 1)=some (seqObj "list" vs.toArray 0):=by
  rw [← hsz];exact Heap.get?_push_size _ rfl
 have keep:∀ b o,s.heap.get? b=some o->(((s.heap.push (seqObj "list" #[] 0)).update s.heap.objs.size (Obj.mapSeq (· ++ vs.toArray))).push (seqObj "list" vs.toArray 0)).get? b=some o:=fun b o q=>by
  have hlt:b < s.heap.objs.size:=Heap.lt_size q
  rw [Heap.get?_push_ne _ _ _ (by rw [hsz];exact Nat.ne_of_lt (Nat.lt_succ_of_lt hlt)),Heap.get?_update_ne _ _ _ _ (Nat.ne_of_lt hlt),Heap.get?_push_ne _ _ _ (Nat.ne_of_lt hlt)]
  exact q
 show wpAny _ _ _ _ _ { s with heap:=((s.heap.push (seqObj "list" #[] 0)).update s.heap.objs.size (Obj.mapSeq (· ++ vs.toArray))).push (seqObj "list" vs.toArray 0) }
 rw [hsz]
 have I1:Inv X pins σ H { s with heap:=((s.heap.push (seqObj "list" #[] 0)).update s.heap.objs.size (Obj.mapSeq (· ++ vs.toArray))).push (seqObj "list" vs.toArray 0) }:=I.kept (t':=s.toks) keep
 refine wpAny_bind (wpAny_holding (wpAny_call_entry_kw slot_list_sort ⟨_,hoL,rfl⟩ entry_list_sort ?body (ksk_l1 _ _)))
 case body =>
  show wpAny (model X.prog X.w) A.in1.in1 (Builtin.«list.sort» ⟨[.ref (s.heap.objs.size + 1)],[(Str.ofString "key",.ref f)]⟩) _ _ _
  rw [ksk_t1]
  refine sk_tree I1 hoL (inv_apart I (Nat.le_succ _)) (I.hok.fresh (Nat.le_succ _)) hv hlen hZ turn fun H' s' ps J sm so=>⟨_,rfl,?_⟩
  exact wpAny_pure ⟨_,rfl,h _ H' s' ps (I.hok.fresh (Nat.le_succ _)) J sm so⟩
end
end Ps
end
section
set_option Elab.async false
set_option linter.all false
set_option maxRecDepth 100000
set_option maxHeartbeats 4000000
namespace Ps
open PySem PySem.Spec PyProof.Rows L2
class BOk (mg:Str->Option Value) (base:Heap):Prop where
 ex:∃ bm ob,mg "__builtins__" = some (.ref bm)∧bm ≠ builtinsNs∧bm ≠ mainGlobals∧base.get? bm=some ob∧ob.cls = .type "module" ∧ ob.dict=some builtinsNs∧ob.data = .plain
instance bok_in {CX:CXT} {P:Program} {w:World} {K:PySem.W.Frag} {mg:Str->Option Value} {base:Heap} {N:List Str} {qual:Str} {scope:Scope} {f:Addr} {cd:Value} {A:Around} {outer:List Env} {s:Shared} {H:Hp} {E:XK} [h:BOk mg base]:BOk mg (cxOf CX P w K mg base N qual scope f cd A outer s H E).nox.base:=h
noncomputable abbrev codeO (c:Addr) (q:Str):HO:=.ext fun h=>h.CodeRec (.ref c) q
noncomputable def lamTab (pos:Pos) (c:Addr):Array Value:=#[rawInt pos.line,rawInt pos.col,.ref c]
noncomputable def LamT (pos:Pos) (q:Str) (P:Addr) (H:Hp):Prop:=H P=some (.tbl #[])∨∃ c,H P=some (.tbl (lamTab pos c))∧H c=some (codeO c q)
noncomputable def LamD (pos:Pos) (q:Str) (P c:Addr) (H:Hp):Prop:=H P=some (.tbl (lamTab pos c))∧H c=some (codeO c q)
theorem codeO_ok {P:Program} {w:World} {H:Hp} {h:Heap} {c:Addr} {q:Str} (x:h.CodeRec (.ref c) q):ObjOk P w H h c (codeO c q):=by
 obtain ⟨c2,o,vs,t,e,h1,h2,h3⟩:=id x
 cases e
 refine ⟨x,⟨o,h1⟩,fun h1 h2 y k=>?_⟩
 obtain ⟨c2,o,vs,t,e,g1,g2,g3⟩:=y
 cases e
 exact ⟨_,o,vs,t,rfl,k _ g1,g2,g3⟩
section
variable {X:Cx} {pins:List (Addr × Obj)} {σ:L2.St} {H:Hp} {s:Shared} {E:Value->Shared->Prop} {c P:Addr} {params:Arguments} {body:Expr} {scope:Scope} {pos:Pos} {Q:Value->Shared->Prop}
theorem bat_of (I:Inv X pins σ H s) (hB:BOk X.mg X.base) {P:Addr} {u:HO} (hP:H P=some u):s.heap.BuiltinsAt X.mg P:=by
 obtain ⟨bm,ob,b1,b2,b3,b4,b5,b6,b7⟩:=hB.ex
 obtain ⟨e1,e2⟩:=I.bs bm ob b4
 exact ⟨bm,ob,b1,b2,b3,ne_of_none hP e2 |>.symm,e1,b5,b6,b7⟩
theorem lam_make (I:Inv X pins σ H s) (hB:BOk X.mg X.base) (hcode:X.env.code = .ref c) (hK:PySem.W.codeHdIn X.K c P=true) (hcl:closureFor scope X.env=pure []) (hdef:defaultsOf params X.env=([],[]))
  (hL:LamT pos (X.env.qual ++ "<lambda>") P H)
  (h:∀ f c' ctv H' s',Inv X pins σ H' s'->Apart X pins f->s'.heap.get? f=some (PySem.W.kla_obj "<lambda>" (X.env.qual ++ "<lambda>") params body scope [] ((X.mg "__name__").getD .none) c' ctv)->H' f=none->LamD pos (X.env.qual ++ "<lambda>") P c' H'->(∀ b o,b ≠ P->H b=some o->H' b=some o)->(∀ b,H' b=none->H b=none)->(H c'=none∨LamD pos (X.env.qual ++ "<lambda>") P c' H)->Q (.ref f) s') :
  wpAny (model X.prog X.w) X.A (eval (.Lambda params body scope pos) X.env) Q E s:=by
 have hd:=PySem.W.codeHd_of_K I.kIn hK
 have hg:s.heap.Ns mainGlobals X.mg:=I.mod.glob.keeps I.bk
 refine PySem.W.kla_eval hdef ?_
 rcases hL with hL | ⟨c',hL,hC⟩
 ·have hP:s.heap.get? P=some (PySem.W.tabObj #[]):=I.hok P _ hL
  have hgP:mainGlobals ≠ P:=fun z=>by
   obtain ⟨o,es,ep,e,d,_⟩:=hg
   rw [z,hP] at e
   cases e
   cases d
  refine PySem.W.kla_makeFunction hcl I.ok.glob hg hcode hd hP trivial rfl hgP (bat_of I hB hL) fun c' ctv h' tk hx hge hlt hrec htb=>?_
  have hPlt:P < s.heap.objs.size:=Heap.lt_size hP
  have hcn:H c'=none:=I.hok.fresh hge
  have hsz:s.heap.objs.size≤h'.objs.size:=Nat.le_trans hge (Nat.le_of_lt hlt)
  have hcP:c' ≠ P:=Nat.ne_of_gt (Nat.lt_of_lt_of_le hPlt hge)
  have k:∀ b o,b ≠ P->s.heap.get? b=some o->(h'.push (PySem.W.kla_obj "<lambda>" (X.env.qual ++ "<lambda>") params body scope [] ((X.mg "__name__").getD .none) c' ctv)).get? b=some o:=fun b o hb q=>Heap.get?_push_of_some _ (hx b o hb q)
  have kP:(h'.push (PySem.W.kla_obj "<lambda>" (X.env.qual ++ "<lambda>") params body scope [] ((X.mg "__name__").getD .none) c' ctv)).get? P=some (PySem.W.tabObj (lamTab pos c')):=Heap.get?_push_of_some _ (by rw [htb];rfl)
  have nP:∀ {b:Addr} {u:HO},H b=some u->(∀ ps,u ≠ .tbl ps)->b ≠ P:=fun {b u} e n z=>by rw [z,hL] at e;cases e;exact n _ rfl
  have nC:∀ {b:Addr} {u:HO},H b=some u->b ≠ c':=fun {b u} e=>ne_of_none e hcn
  have old:∀ b u,H b=some u->b ≠ P->upd (upd H P (.tbl (lamTab pos c'))) c' (codeO c' (X.env.qual ++ "<lambda>")) b=some u:=fun b u e n=>by rw [upd_ne (nC e),upd_ne n];exact e
  have hP':upd (upd H P (.tbl (lamTab pos c'))) c' (codeO c' (X.env.qual ++ "<lambda>")) P=some (.tbl (lamTab pos c')):=by rw [upd_ne hcP.symm,upd_same]
  have hok:HOk X.prog X.w (upd (upd H P (.tbl (lamTab pos c'))) c' (codeO c' (X.env.qual ++ "<lambda>"))) (h'.push (PySem.W.kla_obj "<lambda>" (X.env.qual ++ "<lambda>") params body scope [] ((X.mg "__name__").getD .none) c' ctv)):=fun b u e=>by
   by_cases hb:b=c'
   ·subst hb
    rw [upd_same] at e
    cases e
    refine codeO_ok ?_
    obtain ⟨c2,o,vs,t,e,g1,g2,g3⟩:=hrec
    exact ⟨c2,o,vs,t,e,Heap.get?_push_of_some _ g1,g2,g3⟩
   ·by_cases hb2:b=P
    ·subst hb2
     rw [hP'] at e
     cases e
     exact kP
    ·rw [upd_ne hb,upd_ne hb2] at e
     refine (I.hok b u e).stay (fun b' u' z q=>k b' u' ?_ q) (fun b' q=>old b' _ q (nP q (fun ps z=>by cases z))) fun b' xs q=>old b' _ q (nP q (fun ps z=>by cases z))
     rcases z with z | z
     ·rw [z];exact hb2
     ·exact nP z (fun ps z=>by cases z)
  have un:Un X.fs [] H (upd (upd H P (.tbl (lamTab pos c'))) c' (codeO c' (X.env.qual ++ "<lambda>"))) s.heap (h'.push (PySem.W.kla_obj "<lambda>" (X.env.qual ++ "<lambda>") params body scope [] ((X.mg "__name__").getD .none) c' ctv)):=by
   have nN:∀ {b:Addr},H b=none->b ≠ P:=fun {b} e z=>by rw [z,hL] at e;cases e
   refine ⟨fun b o q n _ _=>k b o (nN n) q,fun b o q n _ _=>⟨o.slots,k b o (nN n) q⟩,fun b o q n _=>?_,fun b o q _=>?_,fun b xs q=>old _ _ q (nP q (fun ps z=>by cases z)),fun b o u q=>old _ _ q (nP q (fun ps z=>by cases z)),fun b ps q=>?_⟩
   ·rw [upd_ne (Nat.ne_of_lt (Nat.lt_of_lt_of_le (Heap.lt_size q) hge)),upd_ne (nN n)]
    exact n
   ·by_cases hb:b=P
    ·rw [hb];exact ⟨_,kP⟩
    ·exact ⟨o,k b o hb q⟩
   ·by_cases hb:b=P
    ·rw [hb,hL] at q
     cases q
     exact ⟨lamTab pos c',by rw [hb,hP'];simp⟩
    ·exact ⟨#[],by rw [old _ _ q hb];simp⟩
  have fP:h'.objs.size ≠ P:=Nat.ne_of_gt (Nat.lt_of_lt_of_le hPlt hsz)
  refine h h'.objs.size c' ctv _ _ (I.un (t':=tk) un hok) (inv_apart I hsz) (Heap.get?_push_size _ rfl) ?_ ⟨hP',upd_same⟩ (fun b o n e=>old _ _ e n) (fun b n=>?_) (.inl hcn)
  ·rw [upd_ne (Nat.ne_of_gt hlt),upd_ne fP]
   exact I.hok.fresh hsz
  ·by_cases hb:b=c'
   ·rw [hb];exact hcn
   ·rw [upd_ne hb] at n
    by_cases hb2:b=P
    ·rw [hb2,upd_same] at n;cases n
    ·rw [upd_ne hb2] at n;exact n
 ·have hP:s.heap.get? P=some (PySem.W.tabObj (lamTab pos c')):=I.hok P _ hL
  refine PySem.W.kla_makeFunctionHit (cv:=.ref c') hcl I.ok.glob hg hcode hd hP ?_ ?_ (bat_of I hB hL) fun ctv h' tk hk hsz=>?_
  ·exact trivial
  ·show codeAmong pos [rawInt pos.line,rawInt pos.col,.ref c']=_
   simp [codeAmong,rawInt]
  ·exact h h'.objs.size c' ctv H _ (I.kept (t':=tk) fun b o q=>Heap.get?_push_of_some _ (hk b o q)) (inv_apart I hsz) (Heap.get?_push_size _ rfl) (I.hok.fresh hsz) ⟨hL,hC⟩ (fun b o _ e=>e) (fun b n=>n) (.inr ⟨hL,hC⟩)
end
theorem lam_run {Pr:Program} {w:World} {K:PySem.W.Frag} {mg:Str->Option Value} {base:Heap} {k:Nat} {A:Around} {outer:List Env} {s:Shared} {H:Hp} {f c:Addr} {qual:Str} {params:Arguments} {body:Expr} {scope:Scope} {pm ct:Value} {N ps:List Str} {us:List Value} {vs:List V} {Q:VK} {t:TE}
  (S:FnScope N ps scope) (hr:Room k A) (e0:Env0 Pr w K mg base A outer s H) (ho:s.heap.get? f=some (PySem.W.kla_obj "<lambda>" qual params body scope [] pm c ct)) (hcd:s.heap.CodeRec (.ref c) qual)
  (hb:bindArgs (PySem.W.kla_fn "<lambda>" qual params body scope [] pm (.ref c) ct) ⟨us,[]⟩=pure (ps.zip us)) (r:Vals vs us) (hl:vs.length=ps.length)
  (ht:PE (cxOf CX0 Pr w K mg base N qual scope f (.ref c) A outer s H E0).nox body t) (hq:t (start N vs) H Q) :
  codeAny (model Pr w) A (.call (.ref f) ⟨us,[]⟩) (CR CX0 outer Pr w H s Q E0) s:=by
 have lim:s.heap.NoLimit:=e0.mod.nolimit.keeps fun b o e=>(e0.bs b o e).1
 have hkind:∀ y ∈ ps.zip us,scope.names.lookup y.1=some .local∨(scope.names.lookup y.1=some .cell∧((cellsFrom (s.heap.objs.size + 1) scope.names []).lookup y.1).isSome=true):=fun ⟨n,v⟩ hy=>by
  rcases S.par n (List.of_mem_zip hy).1 with q | q
  ·exact .inl q
  ·exact .inr ⟨q,PySem.W.cellsFrom_some _ _ _ (.inl q)⟩
 refine PySem.W.kla_callFunE hr.depth ho rfl S.co S.gen rfl hcd ?_
 rw [hb]
 refine wpAny_pure (wpAny_newFunctionEnv_cells S.kind hkind fun env he s1 x=>?_)
 subst he
 refine ⟨lim.keeps x.toInCall.keep,PySem.W.kla_codeExpr ?_⟩
 have I:Inv (cxOf CX0 Pr w K mg base N qual scope f (.ref c) A outer s H E0) [] (start N vs) H s1:=inv_start S hr.hd e0 hl r x
 exact wpAny_mono (ht.nox [] s1 (start N vs) H _ I hq) (fun u s' hs=>by
  obtain ⟨v,H',J,rv,q⟩:=hs
  exact ⟨v,H',J.os,J.bare,J.base,J.hok,rv,q⟩) fun e s' hs=>hs
end Ps
end
section
set_option Elab.async false
set_option linter.all false
set_option maxRecDepth 100000
set_option maxHeartbeats 4000000
namespace Ps
open PySem PySem.Spec PyProof.Rows L2
noncomputable def rSL (K:PySem.W.Frag) (pos:Pos) (q:Str) (P:Addr) (N:List Str) (t:TE) (x:V) (H1:Hp) (Q:VK):Prop:=∃ l as kz,x = .ref l∧SqL K H1 l (List.map V.ref as)∧LamT pos q P H1∧(kz:List (Int × Int)).length=as.length ∧
 (∀ (i:Nat) (a:Addr) (k:Int × Int),as[i]? = some a->kz[i]? = some k->∀ H',(∀ b o,b ≠ P->H1 b=some o->H' b=some o)->t (start N [.ref a]) H' (fun v H2=>(∃ tt,v = .ref tt∧H2 tt=some (.tup [.int k.1,.int k.2]))∧∀ b o,H' b=some o->H2 b=some o)) ∧
 ∀ D H' ps c,H1 D=none->(∀ b o,b ≠ P->H1 b=some o->H' b=some o)->LamD pos q P c H'->(H1 c=none∨LamD pos q P c H1)->H' D=some (.lst (ps.map Prod.snd))->Sorted kz (as.map V.ref) ps->Q (.ref D) H'
noncomputable def tSL (K:PySem.W.Frag) (pos:Pos) (q:Str) (P:Addr) (N:List Str) (t te:TE):TE:=fun σ H Q=>te σ H fun x H1=>rSL K pos q P N t x H1 Q
theorem pe_sortedLam {X:Cx} {k:Nat} {c P:Addr} {e body:Expr} {params:Arguments} {scope:Scope} {N:List Str} {pn:Str} {p pos kp cpos:Pos} {t te:TE} (hr:Room (k + 2) X.A) (hB:BOk X.mg X.base) (hg:Gl X "sorted") (hm:X.mg "sorted" = none)
  (hcode:X.env.code = .ref c) (hK:PySem.W.codeHdIn X.K c P=true) (hcl:closureFor scope X.env=pure []) (hdef:defaultsOf params X.env=([],[])) (S:FnScope N [pn] scope)
  (hb:∀ (pm cv ct u:Value),bindArgs (PySem.W.kla_fn "<lambda>" (X.env.qual ++ "<lambda>") params body scope [] pm cv ct) ⟨[u],[]⟩=pure [(pn,u)])
  (he:PE X e te) (hbody:∀ A outer s H f cd,PE (cxOf CX0 X.prog X.w X.K X.mg X.base N (X.env.qual ++ "<lambda>") scope f cd A outer s H E0).nox body t)
  (hs:starEach [e] X.env=[(false,eval e X.env)]:=by rfl) :
  PE X (.Call (.Name "sorted" p) [e] [⟨some "key",.Lambda params body scope pos,kp⟩] cpos) (tSL X.K pos (X.env.qual ++ "<lambda>") P N t te):=by
 intro pins s σ H Q I h
 refine wpAny_Call_Name_kw (ld_blt I hg hm bt_sorted ?_ (by decide) (by decide))
 refine callWith_kw (e:=e) (rest:=[]) (thn (pa_cons he pa_nil hs cpos pins s σ H (fun xs H1=>match xs with | [x]=>rSL X.K pos (X.env.qual ++ "<lambda>") P N t x H1 Q | _=>False) I h) fun us s1 ⟨xs,H1,I1,r1,h1⟩=>?_) (by rw [hs];rfl) (by rw [hs];rfl)
 match xs,h1 with
 | [],h1=>exact False.elim h1
 | _::_::_,h1=>exact False.elim h1
 | [x],h1 =>
 obtain ⟨l,as,kz,rfl,hl,hT,hlen,hkey,h1⟩:=h1
 obtain rfl:=Vals.ref1 r1
 refine kws_cons (lam_make I1 hB hcode hK hcl hdef hT fun f c' ctv H2 s2 I2 apf of hf ld sm sn lo=>kws_nil ?_)
 show wpAny _ _ (call (.builtin "sorted") [.ref l] [(Str.ofString "key",.ref f)]) _ _ _
 have hnl:∀ (b:Addr) (ys:List V),SqL X.K H1 b ys->SqL X.K H2 b ys:=fun b ys z=>by
  rcases z with z | z
  ·rcases z with z | ⟨o,z⟩
   ·exact .inl (.inl (sm _ _ (fun y=>by rw [y] at z;rcases hT with e | ⟨_,e,_⟩ <;> (rw [e] at z;cases z)) z))
   ·exact .inl (.inr ⟨o,sm _ _ (fun y=>by rw [y] at z;rcases hT with e | ⟨_,e,_⟩ <;> (rw [e] at z;cases z)) z⟩)
  ·exact .inr z
 obtain ⟨its,rv,pl,hz⟩:=I2.list (hnl _ _ hl)
 have I3:Inv X ((f,PySem.W.kla_obj "<lambda>" (X.env.qual ++ "<lambda>") params body scope [] ((X.mg "__name__").getD .none) c' ctv)::pins) σ H2 s2:=I2.pins_of fun p hp=>by
  rcases List.mem_cons.mp hp with rfl | hp
  ·exact ⟨of,hf,apf.loc,fun z=>absurd apf.s0 (by
    obtain ⟨_,o,ho,_⟩:=I2.ok.funs.mem z
    exact Nat.not_le_of_gt (Heap.lt_size ho)),fun v z=>by cases z⟩
  ·exact I2.pin p (List.mem_append_right _ hp)
 have hlv:=rv.length
 refine sk_sorted (kz:=kz) I3 pl.isList rv (by rw [List.length_map];exact hlen) (by rw [← hlv];exact hz) (fun i v k hv hk H4 s4 I4 sm4=>?_) fun D H' s' ps hD J sm4 so=>?_
 ·have hi:i < as.length:=by rw [← hlen];exact (List.getElem?_eq_some_iff.mp hk).1
  obtain ⟨u,hu,ru⟩:=rv.get (i:=i) (x:=V.ref as[i]) (by rw [List.getElem?_map,List.getElem?_eq_getElem hi];rfl)
  rw [hv] at hu
  cases hu
  obtain rfl:v=Value.ref as[i]:=ru
  have hq:=hkey i as[i] k (List.getElem?_eq_getElem hi) hk H4 fun b o n e=>sm4 _ _ (sm _ _ n e)
  have hcd:s4.heap.CodeRec (.ref c') (X.env.qual ++ "<lambda>"):=(I4.hok c' _ (sm4 _ _ ld.2)).1
  unfold Turn
  refine wpAny_call (codeAny_mono (lam_run (vs:=[V.ref as[i]]) S (hr.in1.in1) I4.env0.in1.in1 (I4.pin _ (List.mem_append_right _ List.mem_cons_self)).1 hcd (hb _ _ _ _) (.cons rfl .nil) rfl (hbody _ _ _ _ _ _) hq) fun r s' hr'=>?_)
  cases r with
  | error e=>exact False.elim hr'
  | ok fl =>
   cases fl with
   | next=>exact False.elim hr'
   | brk=>exact False.elim hr'
   | cont=>exact False.elim hr'
   | ret u =>
    obtain ⟨v,H5,os,bare,un,hok,rv5,⟨tt,e5,e6⟩,sm5⟩:=hr'
    have I5:Inv X ((f,PySem.W.kla_obj "<lambda>" (X.env.qual ++ "<lambda>") params body scope [] ((X.mg "__name__").getD .none) c' ctv)::pins) σ H5 s':=by
     obtain ⟨hh,g,d,t,os'⟩:=s'
     obtain rfl:os'=s4.os:=os
     exact I4.call (h':=hh) (g':=g) (d':=d) (t':=t) (ch:=[]) un hok bare (fun b z=>absurd z (by simp))
    subst e5
    exact ⟨H5,I5,sm5,⟨tt,rv5,e6⟩,fun b o q n nf=>⟨un.keep b o q n nf (by simp),un.free b o q n (by simp)⟩⟩
 ·have nD:∀ b o,H2 b=some o->upd H' D (.lst (ps.map Prod.snd)) b=some o:=fun b o e=>by rw [upd_ne (ne_of_none e hD)];exact sm4 _ _ e
  exact ⟨.ref D,_,J.pins_of fun p hp=>J.pin p (List.mem_append_right _ (List.mem_cons_of_mem _ hp)),rfl,h1 D _ ps c' (sn _ hD) (fun b o n e=>nD _ _ (sm _ _ n e)) ⟨nD _ _ ld.1,nD _ _ ld.2⟩ lo upd_same so⟩
end Ps
end
section
set_option Elab.async false
set_option linter.all false
set_option maxRecDepth 100000
set_option maxHeartbeats 4000000
namespace Ps
open PySem PySem.Spec PyProof.Rows L2
local macro_rules | `(tactic| walk_at "S") => `(tactic| exact ⟨rfl, rfl, rfl, of_decide_eq_true (by kernel_rfl), rfl, of_decide_eq_true (by kernel_rfl), of_decide_eq_true (by kernel_rfl)⟩)
noncomputable def top (i:Nat):Stmt:=PySem.Challenge.pw_paperspool_s01_answers.main.body.getD i (.Pass ⟨0,0,0,0⟩)
noncomputable abbrev s_is_mark:Stmt:=top 1
noncomputable abbrev s_row_of_entry:Stmt:=top 3
noncomputable abbrev s_Output_init:Stmt:=inClass (top 8) 0
noncomputable abbrev s_Output_is_behind_end:Stmt:=inClass (top 8) 2
noncomputable abbrev s_Output_end:Stmt:=inClass (top 8) 3
noncomputable abbrev s_Output_copies_begun:Stmt:=inClass (top 8) 4
noncomputable abbrev s_Writer_switch_on:Stmt:=inClass (top 9) 2
noncomputable abbrev s_Writer_be_told:Stmt:=inClass (top 9) 3
noncomputable abbrev s_Writer_empty_hand:Stmt:=inClass (top 9) 4
noncomputable abbrev s_Writer_note:Stmt:=inClass (top 9) 6
noncomputable abbrev s_Writer_put_mark:Stmt:=inClass (top 9) 10
noncomputable abbrev s_Spool_writer_at:Stmt:=inClass (top 10) 2
noncomputable abbrev s_Spool_is_in_hand:Stmt:=inClass (top 10) 3
noncomputable abbrev s_within:Stmt:=top 24
noncomputable abbrev s_first_row:Stmt:=top 52
noncomputable abbrev s_rows_down_to:Stmt:=top 53
noncomputable abbrev s_without_end_blanks:Stmt:=top 54
noncomputable abbrev s_byte_at:Stmt:=top 56
noncomputable abbrev s_strike:Stmt:=top 57
noncomputable abbrev s_with_rows:Stmt:=top 70
noncomputable abbrev s_row_of_hand:Stmt:=top 77
noncomputable abbrev s_is_sheet:Stmt:=top 84
noncomputable abbrev s_first_step:Stmt:=top 85
noncomputable abbrev s_bytes_of:Stmt:=top 88
noncomputable abbrev s_is_paper_full:Stmt:=top 100
noncomputable abbrev s_Reader_init:Stmt:=inClass (top 120) 0
noncomputable abbrev s_Reader_is_at_end:Stmt:=inClass (top 120) 1
noncomputable abbrev s_Reader_take_one:Stmt:=inClass (top 120) 2
noncomputable abbrev s_Reader_take:Stmt:=inClass (top 120) 3
noncomputable abbrev s_counting_sheets:Stmt:=top 2
noncomputable abbrev s_Output_is_done:Stmt:=inClass (top 8) 1
noncomputable abbrev s_Writer_switch_off:Stmt:=inClass (top 9) 1
noncomputable abbrev s_Writer_begin_copy:Stmt:=inClass (top 9) 5
noncomputable abbrev s_Writer_go_back:Stmt:=inClass (top 9) 8
noncomputable abbrev s_Writer_ends_with_mark:Stmt:=inClass (top 9) 9
noncomputable abbrev s_is_switch:Stmt:=top 25
noncomputable abbrev s_is_class:Stmt:=top 26
noncomputable abbrev s_is_form:Stmt:=top 27
noncomputable abbrev s_is_priority:Stmt:=top 28
noncomputable abbrev s_is_copies:Stmt:=top 29
noncomputable abbrev s_is_note_every:Stmt:=top 30
noncomputable abbrev s_is_back:Stmt:=top 31
noncomputable abbrev s_is_from:Stmt:=top 32
noncomputable abbrev s_is_most:Stmt:=top 33
noncomputable abbrev s_is_writer:Stmt:=top 34
noncomputable abbrev s_is_letter:Stmt:=top 35
noncomputable abbrev s_is_digit:Stmt:=top 36
noncomputable abbrev s_is_text:Stmt:=top 38
noncomputable abbrev s_output_refusal:Stmt:=top 40
noncomputable abbrev s_put_over:Stmt:=top 55
noncomputable abbrev s_some_entries:Stmt:=top 80
noncomputable abbrev s_next_sheet:Stmt:=top 83
noncomputable abbrev s_separator:Stmt:=top 87
noncomputable abbrev s_go_on_in_copy:Stmt:=top 103
noncomputable abbrev s_Writer_init:Stmt:=inClass (top 9) 0
noncomputable abbrev s_Writer_return_to_noted:Stmt:=inClass (top 9) 7
noncomputable abbrev s_Spool_is_waiting:Stmt:=inClass (top 10) 4
noncomputable abbrev s_is_name:Stmt:=top 37
noncomputable abbrev s_is_class_list:Stmt:=top 39
noncomputable abbrev s_hand_refusal:Stmt:=top 41
noncomputable abbrev s_writer_refusal:Stmt:=top 42
noncomputable abbrev s_put_line:Stmt:=top 51
noncomputable abbrev s_close:Stmt:=top 63
noncomputable abbrev s_letgo:Stmt:=top 66
noncomputable abbrev s_tell_pages:Stmt:=top 72
noncomputable abbrev s_tell_page:Stmt:=top 73
noncomputable abbrev s_tell_output:Stmt:=top 74
noncomputable abbrev s_tell_writer:Stmt:=top 76
noncomputable abbrev s_tell_paper:Stmt:=top 78
noncomputable abbrev s_tell_clean:Stmt:=top 79
noncomputable abbrev s_tell_sheet:Stmt:=top 81
noncomputable abbrev s_rows_of_sheet:Stmt:=top 86
noncomputable abbrev s_take_in_hand:Stmt:=top 99
noncomputable abbrev s_hand_back:Stmt:=top 104
noncomputable abbrev s_Spool_waiting_outputs:Stmt:=inClass (top 10) 5
noncomputable abbrev s_Spool_lose_power:Stmt:=inClass (top 10) 6
noncomputable abbrev s_empty_hand_refusal:Stmt:=top 43
noncomputable abbrev s_open_output:Stmt:=top 61
noncomputable abbrev s_add_line:Stmt:=top 62
noncomputable abbrev s_purge:Stmt:=top 64
noncomputable abbrev s_hold:Stmt:=top 65
noncomputable abbrev s_change:Stmt:=top 67
noncomputable abbrev s_set_copies:Stmt:=top 68
noncomputable abbrev s_print_sheet:Stmt:=top 101
noncomputable abbrev s_go_on:Stmt:=top 102
noncomputable abbrev s_start:Stmt:=top 106
noncomputable abbrev s_serve:Stmt:=top 107
noncomputable abbrev s_mount:Stmt:=top 108
noncomputable abbrev s_stop:Stmt:=top 109
noncomputable abbrev s_Spool_renew:Stmt:=inClass (top 10) 1
noncomputable abbrev s_tell_queue:Stmt:=top 75
noncomputable abbrev s_cut_turn:Stmt:=top 96
noncomputable abbrev s_free_outputs:Stmt:=top 98
noncomputable abbrev s_note:Stmt:=top 111
noncomputable abbrev s_back:Stmt:=top 112
noncomputable abbrev s_interrupt:Stmt:=top 113
noncomputable abbrev s_power:Stmt:=top 114
noncomputable abbrev s_Spool_init:Stmt:=inClass (top 10) 0
noncomputable abbrev s_begin:Stmt:=top 60
noncomputable abbrev s_take_output:Stmt:=top 97
noncomputable abbrev s_cut:Stmt:=top 115
noncomputable abbrev s_answer_question:Stmt:=top 127
noncomputable abbrev s_take_turn:Stmt:=top 95
noncomputable abbrev s_answer_on_outputs:Stmt:=top 125
noncomputable abbrev s_turn:Stmt:=top 110
noncomputable abbrev s_new_spool:Stmt:=top 122
noncomputable abbrev s_answer_on_writers:Stmt:=top 126
noncomputable abbrev s_answer_next:Stmt:=top 124
noncomputable abbrev s_answers_of:Stmt:=top 123
noncomputable abbrev s_answers:Stmt:=top 121
theorem sc_is_mark:FnScope ["entry"] ["entry"] (defScope s_is_mark):=by walk_at "S"
theorem sc_row_of_entry:FnScope ["entry"] ["entry"] (defScope s_row_of_entry):=by walk_at "S"
theorem sc_Output_init:FnScope ["self","number","name","output_class","form","copies","priority","held"] ["self","number","name","output_class","form","copies","priority","held"] (defScope s_Output_init):=by walk_at "S"
theorem sc_Output_is_behind_end:FnScope ["self","place"] ["self","place"] (defScope s_Output_is_behind_end):=by walk_at "S"
theorem sc_Output_end:FnScope ["self"] ["self"] (defScope s_Output_end):=by walk_at "S"
theorem sc_Output_copies_begun:FnScope ["self"] ["self"] (defScope s_Output_copies_begun):=by walk_at "S"
theorem sc_Writer_switch_on:FnScope ["self","form"] ["self","form"] (defScope s_Writer_switch_on):=by walk_at "S"
theorem sc_Writer_be_told:FnScope ["self","separators","note_every","classes"] ["self","separators","note_every","classes"] (defScope s_Writer_be_told):=by walk_at "S"
theorem sc_Writer_empty_hand:FnScope ["self"] ["self"] (defScope s_Writer_empty_hand):=by walk_at "S"
theorem sc_Writer_note:FnScope ["self"] ["self"] (defScope s_Writer_note):=by walk_at "S"
theorem sc_Writer_put_mark:FnScope ["self"] ["self"] (defScope s_Writer_put_mark):=by walk_at "S"
theorem sc_Spool_writer_at:FnScope ["self","number"] ["self","number"] (defScope s_Spool_writer_at):=by walk_at "S"
theorem sc_Spool_is_in_hand:FnScope ["self","number","writer"] ["self","number"] (defScope s_Spool_is_in_hand):=by walk_at "S"
theorem sc_within:FnScope ["value","least","greatest"] ["value","least","greatest"] (defScope s_within):=by walk_at "S"
theorem sc_first_row:FnScope ["code","most_rows","row"] ["code","most_rows"] (defScope s_first_row):=by walk_at "S"
theorem sc_rows_down_to:FnScope ["count","words","rows","row"] ["count","words"] (defScope s_rows_down_to):=by walk_at "S"
theorem sc_without_end_blanks:FnScope ["text","size"] ["text"] (defScope s_without_end_blanks):=by walk_at "S"
theorem sc_byte_at:FnScope ["text","k"] ["text","k"] (defScope s_byte_at):=by walk_at "S"
theorem sc_strike:FnScope ["one","other"] ["one","other"] (defScope s_strike):=by walk_at "S"
theorem sc_with_rows:FnScope ["first","rows","answer","row"] ["first","rows"] (defScope s_with_rows):=by walk_at "S"
theorem sc_row_of_hand:FnScope ["writer"] ["writer"] (defScope s_row_of_hand):=by walk_at "S"
theorem sc_is_sheet:FnScope ["step","pages","separators"] ["step","pages","separators"] (defScope s_is_sheet):=by walk_at "S"
theorem sc_first_step:FnScope ["separators"] ["separators"] (defScope s_first_step):=by walk_at "S"
theorem sc_bytes_of:FnScope ["text","sign"] ["text"] (defScope s_bytes_of):=by walk_at "S"
theorem sc_is_paper_full:FnScope ["spool","writer"] ["spool","writer"] (defScope s_is_paper_full):=by walk_at "S"
theorem sc_Reader_init:FnScope ["self","calls"] ["self","calls"] (defScope s_Reader_init):=by walk_at "S"
theorem sc_Reader_is_at_end:FnScope ["self"] ["self"] (defScope s_Reader_is_at_end):=by walk_at "S"
theorem sc_Reader_take_one:FnScope ["self"] ["self"] (defScope s_Reader_take_one):=by walk_at "S"
theorem sc_Reader_take:FnScope ["self","size"] ["self","size"] (defScope s_Reader_take):=by walk_at "S"
theorem sc_counting_sheets:FnScope ["paper","sheets","entry","sheet"] ["paper"] (defScope s_counting_sheets):=by walk_at "S"
theorem sc_Output_is_done:FnScope ["self"] ["self"] (defScope s_Output_is_done):=by walk_at "S"
theorem sc_Writer_switch_off:FnScope ["self"] ["self"] (defScope s_Writer_switch_off):=by walk_at "S"
theorem sc_Writer_begin_copy:FnScope ["self","place"] ["self","place"] (defScope s_Writer_begin_copy):=by walk_at "S"
theorem sc_Writer_go_back:FnScope ["self","most_steps","steps"] ["self","most_steps"] (defScope s_Writer_go_back):=by walk_at "S"
theorem sc_Writer_ends_with_mark:FnScope ["self"] ["self"] (defScope s_Writer_ends_with_mark):=by walk_at "S"
theorem sc_is_switch:FnScope ["value"] ["value"] (defScope s_is_switch):=by walk_at "S"
theorem sc_is_class:FnScope ["value"] ["value"] (defScope s_is_class):=by walk_at "S"
theorem sc_is_form:FnScope ["value"] ["value"] (defScope s_is_form):=by walk_at "S"
theorem sc_is_priority:FnScope ["value"] ["value"] (defScope s_is_priority):=by walk_at "S"
theorem sc_is_copies:FnScope ["value"] ["value"] (defScope s_is_copies):=by walk_at "S"
theorem sc_is_note_every:FnScope ["value"] ["value"] (defScope s_is_note_every):=by walk_at "S"
theorem sc_is_back:FnScope ["value"] ["value"] (defScope s_is_back):=by walk_at "S"
theorem sc_is_from:FnScope ["value"] ["value"] (defScope s_is_from):=by walk_at "S"
theorem sc_is_most:FnScope ["value"] ["value"] (defScope s_is_most):=by walk_at "S"
theorem sc_is_writer:FnScope ["value"] ["value"] (defScope s_is_writer):=by walk_at "S"
theorem sc_is_letter:FnScope ["byte"] ["byte"] (defScope s_is_letter):=by walk_at "S"
theorem sc_is_digit:FnScope ["byte"] ["byte"] (defScope s_is_digit):=by walk_at "S"
theorem sc_is_text:FnScope ["row","byte"] ["row"] (defScope s_is_text):=by walk_at "S"
theorem sc_output_refusal:FnScope ["spool","number"] ["spool","number"] (defScope s_output_refusal):=by walk_at "S"
theorem sc_put_over:FnScope ["under","over","size","k"] ["under","over"] (defScope s_put_over):=by walk_at "S"
theorem sc_some_entries:FnScope ["entries","first","most","rows","entry"] ["entries","first","most"] (defScope s_some_entries):=by walk_at "S"
theorem sc_next_sheet:FnScope ["output","place","separators","copy","step","pages"] ["output","place","separators"] (defScope s_next_sheet):=by walk_at "S"
theorem sc_separator:FnScope ["word","output","copy"] ["word","output","copy"] (defScope s_separator):=by walk_at "S"
theorem sc_go_on_in_copy:FnScope ["writer","place"] ["writer","place"] (defScope s_go_on_in_copy):=by walk_at "S"
theorem sc_Writer_init:FnScope ["self"] ["self"] (defScope s_Writer_init):=by walk_at "S"
theorem sc_Writer_return_to_noted:FnScope ["self"] ["self"] (defScope s_Writer_return_to_noted):=by walk_at "S"
theorem sc_Spool_is_waiting:FnScope ["self","output"] ["self","output"] (defScope s_Spool_is_waiting):=by walk_at "S"
theorem sc_is_name:FnScope ["row","byte"] ["row"] (defScope s_is_name):=by walk_at "S"
theorem sc_is_class_list:FnScope ["row","value"] ["row"] (defScope s_is_class_list):=by walk_at "S"
theorem sc_hand_refusal:FnScope ["spool","number","refusal"] ["spool","number"] (defScope s_hand_refusal):=by walk_at "S"
theorem sc_writer_refusal:FnScope ["spool","number"] ["spool","number"] (defScope s_writer_refusal):=by walk_at "S"
theorem sc_put_line:FnScope ["pages","code","text","most_rows","words","page"] ["pages","code","text","most_rows"] (defScope s_put_line):=by walk_at "S"
theorem sc_close:FnScope ["spool","number","refusal","output"] ["spool","number"] (defScope s_close):=by walk_at "S"
theorem sc_letgo:FnScope ["spool","number","refusal","output"] ["spool","number"] (defScope s_letgo):=by walk_at "S"
theorem sc_tell_pages:FnScope ["spool","number","refusal"] ["spool","number"] (defScope s_tell_pages):=by walk_at "S"
theorem sc_tell_page:FnScope ["spool","number","wanted","refusal","pages","page"] ["spool","number","wanted"] (defScope s_tell_page):=by walk_at "S"
theorem sc_tell_output:FnScope ["spool","number","refusal","output","row"] ["spool","number"] (defScope s_tell_output):=by walk_at "S"
theorem sc_tell_writer:FnScope ["spool","number","writer","row"] ["spool","number"] (defScope s_tell_writer):=by walk_at "S"
theorem sc_tell_paper:FnScope ["spool","number","first","most"] ["spool","number","first","most"] (defScope s_tell_paper):=by walk_at "S"
theorem sc_tell_clean:FnScope ["spool","number","first","most"] ["spool","number","first","most"] (defScope s_tell_clean):=by walk_at "S"
theorem sc_tell_sheet:FnScope ["spool","number","wanted","paper","entry"] ["spool","number","wanted"] (defScope s_tell_sheet):=by walk_at "S"
theorem sc_rows_of_sheet:FnScope ["output","place"] ["output","place"] (defScope s_rows_of_sheet):=by walk_at "S"
theorem sc_take_in_hand:FnScope ["writer","output","place"] ["writer","output"] (defScope s_take_in_hand):=by walk_at "S"
theorem sc_hand_back:FnScope ["spool","writer","place","output"] ["spool","writer","place"] (defScope s_hand_back):=by walk_at "S"
theorem sc_Spool_waiting_outputs:FnScope ["self","waiting","output"] ["self"] (defScope s_Spool_waiting_outputs):=by walk_at "S"
theorem sc_Spool_lose_power:FnScope ["self","writer"] ["self"] (defScope s_Spool_lose_power):=by walk_at "S"
theorem sc_empty_hand_refusal:FnScope ["spool","number","refusal"] ["spool","number"] (defScope s_empty_hand_refusal):=by walk_at "S"
theorem sc_open_output:FnScope ["spool","output_class","form","copies","priority","held","name","number"] ["spool","output_class","form","copies","priority","held","name"] (defScope s_open_output):=by walk_at "S"
theorem sc_add_line:FnScope ["spool","number","code","text","refusal","output"] ["spool","number","code","text"] (defScope s_add_line):=by walk_at "S"
theorem sc_purge:FnScope ["spool","number","refusal"] ["spool","number"] (defScope s_purge):=by walk_at "S"
theorem sc_hold:FnScope ["spool","number","refusal","output"] ["spool","number"] (defScope s_hold):=by walk_at "S"
theorem sc_change:FnScope ["spool","number","output_class","form","priority","refusal","output"] ["spool","number","output_class","form","priority"] (defScope s_change):=by walk_at "S"
theorem sc_set_copies:FnScope ["spool","number","copies","refusal","output"] ["spool","number","copies"] (defScope s_set_copies):=by walk_at "S"
theorem sc_print_sheet:FnScope ["spool","writer","output","copy","step"] ["spool","writer"] (defScope s_print_sheet):=by walk_at "S"
theorem sc_go_on:FnScope ["spool","writer","output","copy","place"] ["spool","writer"] (defScope s_go_on):=by walk_at "S"
theorem sc_start:FnScope ["spool","number","form","separators","note_every","classes","writer"] ["spool","number","form","separators","note_every","classes"] (defScope s_start):=by walk_at "S"
theorem sc_serve:FnScope ["spool","number","separators","note_every","classes","refusal","writer"] ["spool","number","separators","note_every","classes"] (defScope s_serve):=by walk_at "S"
theorem sc_mount:FnScope ["spool","number","form","refusal","writer","before"] ["spool","number","form"] (defScope s_mount):=by walk_at "S"
theorem sc_stop:FnScope ["spool","number","refusal","writer"] ["spool","number"] (defScope s_stop):=by walk_at "S"
theorem sc_Spool_renew:FnScope ["self","most_rows","cap","paper_room","writer"] ["self","most_rows","cap","paper_room"] (defScope s_Spool_renew):=by walk_at "S"
theorem sc_tell_queue:FnScope ["spool","wanted","numbers","output"] ["spool","wanted"] (defScope s_tell_queue):=by walk_at "S"
theorem sc_cut_turn:FnScope ["spool","writer","answer"] ["spool","writer"] (defScope s_cut_turn):=by walk_at "S"
theorem sc_free_outputs:FnScope ["spool","writer","output"] ["spool","writer"] (defScope s_free_outputs):=by walk_at "S"
theorem sc_note:FnScope ["spool","number","refusal","writer","since"] ["spool","number"] (defScope s_note):=by walk_at "S"
theorem sc_back:FnScope ["spool","number","most_steps","refusal","writer"] ["spool","number","most_steps"] (defScope s_back):=by walk_at "S"
theorem sc_interrupt:FnScope ["spool","number","refusal","writer","let_go"] ["spool","number"] (defScope s_interrupt):=by walk_at "S"
theorem sc_power:FnScope ["spool"] ["spool"] (defScope s_power):=by walk_at "S"
theorem sc_Spool_init:FnScope ["self","most_rows","cap","paper_room"] ["self","most_rows","cap","paper_room"] (defScope s_Spool_init):=by walk_at "S"
theorem sc_begin:FnScope ["spool","most_rows","cap","paper_room"] ["spool","most_rows","cap","paper_room"] (defScope s_begin):=by walk_at "S"
theorem sc_take_output:FnScope ["spool","writer","free","fitting","output"] ["spool","writer"] (defScope s_take_output):=by walk_at "S"
theorem sc_cut:FnScope ["spool","number","refusal"] ["spool","number"] (defScope s_cut):=by walk_at "S"
theorem sc_answer_question:FnScope ["spool","call","numbers"] ["spool","call","numbers"] (defScope s_answer_question):=by walk_at "S"
theorem sc_take_turn:FnScope ["spool","writer","answer"] ["spool","writer"] (defScope s_take_turn):=by walk_at "S"
theorem sc_answer_on_outputs:FnScope ["spool","call","numbers","row"] ["spool","call","numbers","row"] (defScope s_answer_on_outputs):=by walk_at "S"
theorem sc_turn:FnScope ["spool","number","refusal"] ["spool","number"] (defScope s_turn):=by walk_at "S"
theorem sc_new_spool:FnScope ([]:List Str) ([]:List Str) (defScope s_new_spool):=by walk_at "S"
theorem sc_answer_on_writers:FnScope ["spool","call","numbers","row"] ["spool","call","numbers","row"] (defScope s_answer_on_writers):=by walk_at "S"
theorem sc_answer_next:FnScope ["spool","reader","call","shape","numbers","row"] ["spool","reader"] (defScope s_answer_next):=by walk_at "S"
theorem sc_answers_of:FnScope ["spool","calls","reader","told","answer"] ["spool","calls"] (defScope s_answers_of):=by walk_at "S"
theorem sc_answers:FnScope ["calls"] ["calls"] (defScope s_answers):=by walk_at "S"
set_option genInjectivity false
set_option genSizeOf false
structure Txt (K:PySem.W.Frag) (mg:Str->Option Value) where
 c_Output:Addr
 cl_Output:Cls K c_Output
 mgc_Output:mg "Output" = some (.ref c_Output)
 no_Output_number:NoAttr K c_Output "number"
 no_Output_name:NoAttr K c_Output "name"
 no_Output_output_class:NoAttr K c_Output "output_class"
 no_Output_form:NoAttr K c_Output "form"
 no_Output_copies:NoAttr K c_Output "copies"
 no_Output_priority:NoAttr K c_Output "priority"
 no_Output_held:NoAttr K c_Output "held"
 no_Output_closed:NoAttr K c_Output "closed"
 no_Output_line_count:NoAttr K c_Output "line_count"
 no_Output_pages:NoAttr K c_Output "pages"
 no_Output_place:NoAttr K c_Output "place"
 c_Writer:Addr
 cl_Writer:Cls K c_Writer
 mgc_Writer:mg "Writer" = some (.ref c_Writer)
 no_Writer_paper:NoAttr K c_Writer "paper"
 no_Writer_serial:NoAttr K c_Writer "serial"
 no_Writer_noted_serial:NoAttr K c_Writer "noted_serial"
 no_Writer_on:NoAttr K c_Writer "on"
 no_Writer_form:NoAttr K c_Writer "form"
 no_Writer_draining:NoAttr K c_Writer "draining"
 no_Writer_separators:NoAttr K c_Writer "separators"
 no_Writer_note_every:NoAttr K c_Writer "note_every"
 no_Writer_classes:NoAttr K c_Writer "classes"
 no_Writer_hand:NoAttr K c_Writer "hand"
 no_Writer_place:NoAttr K c_Writer "place"
 no_Writer_noted_place:NoAttr K c_Writer "noted_place"
 no_Writer_since:NoAttr K c_Writer "since"
 no_Writer_first_step:NoAttr K c_Writer "first_step"
 c_Spool:Addr
 cl_Spool:Cls K c_Spool
 mgc_Spool:mg "Spool" = some (.ref c_Spool)
 no_Spool_most_rows:NoAttr K c_Spool "most_rows"
 no_Spool_cap:NoAttr K c_Spool "cap"
 no_Spool_paper_room:NoAttr K c_Spool "paper_room"
 no_Spool_last_number:NoAttr K c_Spool "last_number"
 no_Spool_outputs:NoAttr K c_Spool "outputs"
 no_Spool_writers:NoAttr K c_Spool "writers"
 c_Reader:Addr
 cl_Reader:Cls K c_Reader
 mgc_Reader:mg "Reader" = some (.ref c_Reader)
 no_Reader_calls:NoAttr K c_Reader "calls"
 no_Reader_position:NoAttr K c_Reader "position"
 g_WRITERS:GlobV mg "WRITERS" (.int (8))
 a_FIRST_PLACE:Addr
 g_FIRST_PLACE:GlobV mg "FIRST_PLACE" (.ref a_FIRST_PLACE)
 t_FIRST_PLACE:TupK K a_FIRST_PLACE [.int (1),.int (0)]
 a_NO_PLACE:Addr
 g_NO_PLACE:GlobV mg "NO_PLACE" (.ref a_NO_PLACE)
 t_NO_PLACE:TupK K a_NO_PLACE [.int (0),.int (0)]
 g_OUT_OF_RANGE:GlobV mg "OUT_OF_RANGE" (.int (-1))
 g_WRONG_FORM:GlobV mg "WRONG_FORM" (.int (-2))
 g_WRITER_OFF:GlobV mg "WRITER_OFF" (.int (-3))
 g_NOT_THERE:GlobV mg "NOT_THERE" (.int (-4))
 g_SO_ALREADY:GlobV mg "SO_ALREADY" (.int (-5))
 g_WRONG_STATE:GlobV mg "WRONG_STATE" (.int (-6))
 g_IN_HAND:GlobV mg "IN_HAND" (.int (-7))
 g_NO_ROOM:GlobV mg "NO_ROOM" (.int (-8))
 g_LAST_NUMBER:GlobV mg "LAST_NUMBER" (.int (999999))
 g_LONGEST_NAME:GlobV mg "LONGEST_NAME" (.int (8))
 g_LONGEST_TEXT:GlobV mg "LONGEST_TEXT" (.int (132))
 g_MOST_CLASSES:GlobV mg "MOST_CLASSES" (.int (8))
 g_BLANK:GlobV mg "BLANK" (.int (32))
 g_OVER:GlobV mg "OVER" (.int (43))
 g_NEW_PAGE:GlobV mg "NEW_PAGE" (.int (49))
 g_STRUCK:GlobV mg "STRUCK" (.int (35))
 a_ROWS_DOWN:Addr
 g_ROWS_DOWN:GlobV mg "ROWS_DOWN" (.ref a_ROWS_DOWN)
 d_ROWS_DOWN:DictK K a_ROWS_DOWN [(32,1),(48,2),(45,3)]
 a_CODES:Addr
 g_CODES:GlobV mg "CODES" (.ref a_CODES)
 t_CODES:TupK K a_CODES [.int (32),.int (48),.int (45),.int (43),.int (49)]
 g_MOST_LINES:GlobV mg "MOST_LINES" (.int (100))
 g_NOTHING_FREE:GlobV mg "NOTHING_FREE" (.int (0))
 g_PRINTED:GlobV mg "PRINTED" (.int (1))
 g_TAKEN:GlobV mg "TAKEN" (.int (2))
 g_OTHER_FORM:GlobV mg "OTHER_FORM" (.int (3))
 g_NOTHING_PRINTED:GlobV mg "NOTHING_PRINTED" (.int (0))
 a_SHAPES:Addr
 as_SHAPES:List Addr
 g_SHAPES:GlobV mg "SHAPES" (.ref a_SHAPES)
 t_SHAPES:TupK K a_SHAPES (as_SHAPES.map V.ref)
 ts_SHAPES:TupsK K as_SHAPES [[.int (3),.bl false],[.int (5),.bl true],[.int (2),.bl true],[.int (1),.bl false],[.int (1),.bl false],[.int (1),.bl false],[.int (1),.bl false],[.int (4),.bl false],[.int (2),.bl false],[.int (4),.bl true],[.int (3),.bl true],[.int (2),.bl false],[.int (1),.bl false],[.int (1),.bl false],[.int (1),.bl false],[.int (2),.bl false],[.int (1),.bl false],[.int (0),.bl false],[.int (1),.bl false],[.int (1),.bl false],[.int (2),.bl false],[.int (1),.bl false],[.int (1),.bl false],[.int (1),.bl false],[.int (3),.bl false],[.int (2),.bl false],[.int (3),.bl false]]
 g_FIRST_WRITER_CALL:GlobV mg "FIRST_WRITER_CALL" (.int (9))
 g_FIRST_QUESTION:GlobV mg "FIRST_QUESTION" (.int (19))
 n_all:mg "all" = none
 n_int:mg "int" = none
 n_len:mg "len" = none
 n_list:mg "list" = none
 n_max:mg "max" = none
 n_min:mg "min" = none
 n_ord:mg "ord" = none
 n_range:mg "range" = none
 n_set:mg "set" = none
 n_sorted:mg "sorted" = none
 n_str:mg "str" = none
 is_mark:FT K mg "is_mark" s_is_mark ["entry"]
 row_of_entry:FT K mg "row_of_entry" s_row_of_entry ["entry"]
 Output_init:IT K c_Output "Output.__init__" s_Output_init ["self","number","name","output_class","form","copies","priority","held"]
 Output_is_behind_end:MT K c_Output "is_behind_end" "Output.is_behind_end" s_Output_is_behind_end ["self","place"]
 Output_end:MT K c_Output "end" "Output.end" s_Output_end ["self"]
 Output_copies_begun:MT K c_Output "copies_begun" "Output.copies_begun" s_Output_copies_begun ["self"]
 Writer_switch_on:MT K c_Writer "switch_on" "Writer.switch_on" s_Writer_switch_on ["self","form"]
 Writer_be_told:MT K c_Writer "be_told" "Writer.be_told" s_Writer_be_told ["self","separators","note_every","classes"]
 Writer_empty_hand:MT K c_Writer "empty_hand" "Writer.empty_hand" s_Writer_empty_hand ["self"]
 Writer_note:MT K c_Writer "note" "Writer.note" s_Writer_note ["self"]
 Writer_put_mark:MT K c_Writer "put_mark" "Writer.put_mark" s_Writer_put_mark ["self"]
 Spool_writer_at:MT K c_Spool "writer_at" "Spool.writer_at" s_Spool_writer_at ["self","number"]
 Spool_is_in_hand:MT K c_Spool "is_in_hand" "Spool.is_in_hand" s_Spool_is_in_hand ["self","number"]
 within:FT K mg "within" s_within ["value","least","greatest"]
 first_row:FT K mg "first_row" s_first_row ["code","most_rows"]
 rows_down_to:FT K mg "rows_down_to" s_rows_down_to ["count","words"]
 without_end_blanks:FT K mg "without_end_blanks" s_without_end_blanks ["text"]
 byte_at:FT K mg "byte_at" s_byte_at ["text","k"]
 strike:FT K mg "strike" s_strike ["one","other"]
 with_rows:FT K mg "with_rows" s_with_rows ["first","rows"]
 row_of_hand:FT K mg "row_of_hand" s_row_of_hand ["writer"]
 is_sheet:FT K mg "is_sheet" s_is_sheet ["step","pages","separators"]
 first_step:FT K mg "first_step" s_first_step ["separators"]
 bytes_of:FT K mg "bytes_of" s_bytes_of ["text"]
 is_paper_full:FT K mg "is_paper_full" s_is_paper_full ["spool","writer"]
 Reader_init:IT K c_Reader "Reader.__init__" s_Reader_init ["self","calls"]
 Reader_is_at_end:MT K c_Reader "is_at_end" "Reader.is_at_end" s_Reader_is_at_end ["self"]
 Reader_take_one:MT K c_Reader "take_one" "Reader.take_one" s_Reader_take_one ["self"]
 Reader_take:MT K c_Reader "take" "Reader.take" s_Reader_take ["self","size"]
 counting_sheets:FT K mg "counting_sheets" s_counting_sheets ["paper"]
 Output_is_done:MT K c_Output "is_done" "Output.is_done" s_Output_is_done ["self"]
 Writer_switch_off:MT K c_Writer "switch_off" "Writer.switch_off" s_Writer_switch_off ["self"]
 Writer_begin_copy:MT K c_Writer "begin_copy" "Writer.begin_copy" s_Writer_begin_copy ["self","place"]
 Writer_go_back:MT K c_Writer "go_back" "Writer.go_back" s_Writer_go_back ["self","most_steps"]
 Writer_ends_with_mark:MT K c_Writer "ends_with_mark" "Writer.ends_with_mark" s_Writer_ends_with_mark ["self"]
 is_switch:FT K mg "is_switch" s_is_switch ["value"]
 is_class:FT K mg "is_class" s_is_class ["value"]
 is_form:FT K mg "is_form" s_is_form ["value"]
 is_priority:FT K mg "is_priority" s_is_priority ["value"]
 is_copies:FT K mg "is_copies" s_is_copies ["value"]
 is_note_every:FT K mg "is_note_every" s_is_note_every ["value"]
 is_back:FT K mg "is_back" s_is_back ["value"]
 is_from:FT K mg "is_from" s_is_from ["value"]
 is_most:FT K mg "is_most" s_is_most ["value"]
 is_writer:FT K mg "is_writer" s_is_writer ["value"]
 is_letter:FT K mg "is_letter" s_is_letter ["byte"]
 is_digit:FT K mg "is_digit" s_is_digit ["byte"]
 is_text:FT K mg "is_text" s_is_text ["row"]
 output_refusal:FT K mg "output_refusal" s_output_refusal ["spool","number"]
 put_over:FT K mg "put_over" s_put_over ["under","over"]
 some_entries:FT K mg "some_entries" s_some_entries ["entries","first","most"]
 next_sheet:FT K mg "next_sheet" s_next_sheet ["output","place","separators"]
 separator:FT K mg "separator" s_separator ["word","output","copy"]
 go_on_in_copy:FT K mg "go_on_in_copy" s_go_on_in_copy ["writer","place"]
 Writer_init:IT K c_Writer "Writer.__init__" s_Writer_init ["self"]
 Writer_return_to_noted:MT K c_Writer "return_to_noted" "Writer.return_to_noted" s_Writer_return_to_noted ["self"]
 Spool_is_waiting:MT K c_Spool "is_waiting" "Spool.is_waiting" s_Spool_is_waiting ["self","output"]
 is_name:FT K mg "is_name" s_is_name ["row"]
 is_class_list:FT K mg "is_class_list" s_is_class_list ["row"]
 hand_refusal:FT K mg "hand_refusal" s_hand_refusal ["spool","number"]
 writer_refusal:FT K mg "writer_refusal" s_writer_refusal ["spool","number"]
 put_line:FT K mg "put_line" s_put_line ["pages","code","text","most_rows"]
 close:FT K mg "close" s_close ["spool","number"]
 letgo:FT K mg "letgo" s_letgo ["spool","number"]
 tell_pages:FT K mg "tell_pages" s_tell_pages ["spool","number"]
 tell_page:FT K mg "tell_page" s_tell_page ["spool","number","wanted"]
 tell_output:FT K mg "tell_output" s_tell_output ["spool","number"]
 tell_writer:FT K mg "tell_writer" s_tell_writer ["spool","number"]
 tell_paper:FT K mg "tell_paper" s_tell_paper ["spool","number","first","most"]
 tell_clean:FT K mg "tell_clean" s_tell_clean ["spool","number","first","most"]
 tell_sheet:FT K mg "tell_sheet" s_tell_sheet ["spool","number","wanted"]
 rows_of_sheet:FT K mg "rows_of_sheet" s_rows_of_sheet ["output","place"]
 take_in_hand:FT K mg "take_in_hand" s_take_in_hand ["writer","output"]
 hand_back:FT K mg "hand_back" s_hand_back ["spool","writer","place"]
 Spool_waiting_outputs:MT K c_Spool "waiting_outputs" "Spool.waiting_outputs" s_Spool_waiting_outputs ["self"]
 Spool_lose_power:MT K c_Spool "lose_power" "Spool.lose_power" s_Spool_lose_power ["self"]
 empty_hand_refusal:FT K mg "empty_hand_refusal" s_empty_hand_refusal ["spool","number"]
 open_output:FT K mg "open_output" s_open_output ["spool","output_class","form","copies","priority","held","name"]
 add_line:FT K mg "add_line" s_add_line ["spool","number","code","text"]
 purge:FT K mg "purge" s_purge ["spool","number"]
 hold:FT K mg "hold" s_hold ["spool","number"]
 change:FT K mg "change" s_change ["spool","number","output_class","form","priority"]
 set_copies:FT K mg "set_copies" s_set_copies ["spool","number","copies"]
 print_sheet:FT K mg "print_sheet" s_print_sheet ["spool","writer"]
 go_on:FT K mg "go_on" s_go_on ["spool","writer"]
 start:FT K mg "start" s_start ["spool","number","form","separators","note_every","classes"]
 serve:FT K mg "serve" s_serve ["spool","number","separators","note_every","classes"]
 mount:FT K mg "mount" s_mount ["spool","number","form"]
 stop:FT K mg "stop" s_stop ["spool","number"]
 Spool_renew:MT K c_Spool "renew" "Spool.renew" s_Spool_renew ["self","most_rows","cap","paper_room"]
 tell_queue:FT K mg "tell_queue" s_tell_queue ["spool","wanted"]
 cut_turn:FT K mg "cut_turn" s_cut_turn ["spool","writer"]
 free_outputs:FT K mg "free_outputs" s_free_outputs ["spool","writer"]
 note:FT K mg "note" s_note ["spool","number"]
 back:FT K mg "back" s_back ["spool","number","most_steps"]
 interrupt:FT K mg "interrupt" s_interrupt ["spool","number"]
 power:FT K mg "power" s_power ["spool"]
 Spool_init:IT K c_Spool "Spool.__init__" s_Spool_init ["self","most_rows","cap","paper_room"]
 begin:FT K mg "begin" s_begin ["spool","most_rows","cap","paper_room"]
 take_output:FT K mg "take_output" s_take_output ["spool","writer"]
 cut:FT K mg "cut" s_cut ["spool","number"]
 answer_question:FT K mg "answer_question" s_answer_question ["spool","call","numbers"]
 take_turn:FT K mg "take_turn" s_take_turn ["spool","writer"]
 answer_on_outputs:FT K mg "answer_on_outputs" s_answer_on_outputs ["spool","call","numbers","row"]
 turn:FT K mg "turn" s_turn ["spool","number"]
 new_spool:FT K mg "new_spool" s_new_spool ([]:List Str)
 answer_on_writers:FT K mg "answer_on_writers" s_answer_on_writers ["spool","call","numbers","row"]
 answer_next:FT K mg "answer_next" s_answer_next ["spool","reader"]
 answers_of:FT K mg "answers_of" s_answers_of ["spool","calls"]
 answers:FT K mg "answers" s_answers ["calls"]
 a_LAM:Addr
 c_LAM:Addr
 lam_code:Spool_waiting_outputs.fd.code = .ref c_LAM
 lam_hd:PySem.W.codeHdIn K c_LAM a_LAM=true
noncomputable def f_Output (v0 v1 v2 v3 v4 v5 v6 v7 v8 v9 v10:V):List (Str × V):=[("number",v0),("name",v1),("output_class",v2),("form",v3),("copies",v4),("priority",v5),("held",v6),("closed",v7),("line_count",v8),("pages",v9),("place",v10)]
section
variable {v0 v1 v2 v3 v4 v5 v6 v7 v8 v9 v10 y:V}
theorem lk_Output_number:(f_Output v0 v1 v2 v3 v4 v5 v6 v7 v8 v9 v10).lookup ("number" : Str)=some v0:=rfl
theorem pt_Output_number:putF "number" y (f_Output v0 v1 v2 v3 v4 v5 v6 v7 v8 v9 v10)=f_Output y v1 v2 v3 v4 v5 v6 v7 v8 v9 v10:=rfl
theorem lk_Output_name:(f_Output v0 v1 v2 v3 v4 v5 v6 v7 v8 v9 v10).lookup ("name" : Str)=some v1:=rfl
theorem pt_Output_name:putF "name" y (f_Output v0 v1 v2 v3 v4 v5 v6 v7 v8 v9 v10)=f_Output v0 y v2 v3 v4 v5 v6 v7 v8 v9 v10:=rfl
theorem lk_Output_output_class:(f_Output v0 v1 v2 v3 v4 v5 v6 v7 v8 v9 v10).lookup ("output_class" : Str)=some v2:=rfl
theorem pt_Output_output_class:putF "output_class" y (f_Output v0 v1 v2 v3 v4 v5 v6 v7 v8 v9 v10)=f_Output v0 v1 y v3 v4 v5 v6 v7 v8 v9 v10:=rfl
theorem lk_Output_form:(f_Output v0 v1 v2 v3 v4 v5 v6 v7 v8 v9 v10).lookup ("form" : Str)=some v3:=rfl
theorem pt_Output_form:putF "form" y (f_Output v0 v1 v2 v3 v4 v5 v6 v7 v8 v9 v10)=f_Output v0 v1 v2 y v4 v5 v6 v7 v8 v9 v10:=rfl
theorem lk_Output_copies:(f_Output v0 v1 v2 v3 v4 v5 v6 v7 v8 v9 v10).lookup ("copies" : Str)=some v4:=rfl
theorem pt_Output_copies:putF "copies" y (f_Output v0 v1 v2 v3 v4 v5 v6 v7 v8 v9 v10)=f_Output v0 v1 v2 v3 y v5 v6 v7 v8 v9 v10:=rfl
theorem lk_Output_priority:(f_Output v0 v1 v2 v3 v4 v5 v6 v7 v8 v9 v10).lookup ("priority" : Str)=some v5:=rfl
theorem pt_Output_priority:putF "priority" y (f_Output v0 v1 v2 v3 v4 v5 v6 v7 v8 v9 v10)=f_Output v0 v1 v2 v3 v4 y v6 v7 v8 v9 v10:=rfl
theorem lk_Output_held:(f_Output v0 v1 v2 v3 v4 v5 v6 v7 v8 v9 v10).lookup ("held" : Str)=some v6:=rfl
theorem pt_Output_held:putF "held" y (f_Output v0 v1 v2 v3 v4 v5 v6 v7 v8 v9 v10)=f_Output v0 v1 v2 v3 v4 v5 y v7 v8 v9 v10:=rfl
theorem lk_Output_closed:(f_Output v0 v1 v2 v3 v4 v5 v6 v7 v8 v9 v10).lookup ("closed" : Str)=some v7:=rfl
theorem pt_Output_closed:putF "closed" y (f_Output v0 v1 v2 v3 v4 v5 v6 v7 v8 v9 v10)=f_Output v0 v1 v2 v3 v4 v5 v6 y v8 v9 v10:=rfl
theorem lk_Output_line_count:(f_Output v0 v1 v2 v3 v4 v5 v6 v7 v8 v9 v10).lookup ("line_count" : Str)=some v8:=rfl
theorem pt_Output_line_count:putF "line_count" y (f_Output v0 v1 v2 v3 v4 v5 v6 v7 v8 v9 v10)=f_Output v0 v1 v2 v3 v4 v5 v6 v7 y v9 v10:=rfl
theorem lk_Output_pages:(f_Output v0 v1 v2 v3 v4 v5 v6 v7 v8 v9 v10).lookup ("pages" : Str)=some v9:=rfl
theorem pt_Output_pages:putF "pages" y (f_Output v0 v1 v2 v3 v4 v5 v6 v7 v8 v9 v10)=f_Output v0 v1 v2 v3 v4 v5 v6 v7 v8 y v10:=rfl
theorem lk_Output_place:(f_Output v0 v1 v2 v3 v4 v5 v6 v7 v8 v9 v10).lookup ("place" : Str)=some v10:=rfl
theorem pt_Output_place:putF "place" y (f_Output v0 v1 v2 v3 v4 v5 v6 v7 v8 v9 v10)=f_Output v0 v1 v2 v3 v4 v5 v6 v7 v8 v9 y:=rfl
theorem nm_Output_init:(f_Output v0 v1 v2 v3 v4 v5 v6 v7 v8 v9 v10).lookup ("__init__" : Str)=none:=rfl
theorem nm_Output_is_done:(f_Output v0 v1 v2 v3 v4 v5 v6 v7 v8 v9 v10).lookup ("is_done" : Str)=none:=rfl
theorem nm_Output_is_behind_end:(f_Output v0 v1 v2 v3 v4 v5 v6 v7 v8 v9 v10).lookup ("is_behind_end" : Str)=none:=rfl
theorem nm_Output_end:(f_Output v0 v1 v2 v3 v4 v5 v6 v7 v8 v9 v10).lookup ("end" : Str)=none:=rfl
theorem nm_Output_copies_begun:(f_Output v0 v1 v2 v3 v4 v5 v6 v7 v8 v9 v10).lookup ("copies_begun" : Str)=none:=rfl
theorem ln_Output:(f_Output v0 v1 v2 v3 v4 v5 v6 v7 v8 v9 v10).length < 1000:=by show 11 < 1000;decide
end
noncomputable def f_Writer (v0 v1 v2 v3 v4 v5 v6 v7 v8 v9 v10 v11 v12 v13:V):List (Str × V):=[("paper",v0),("serial",v1),("noted_serial",v2),("on",v3),("form",v4),("draining",v5),("separators",v6),("note_every",v7),("classes",v8),("hand",v9),("place",v10),("noted_place",v11),("since",v12),("first_step",v13)]
section
variable {v0 v1 v2 v3 v4 v5 v6 v7 v8 v9 v10 v11 v12 v13 y:V}
theorem lk_Writer_paper:(f_Writer v0 v1 v2 v3 v4 v5 v6 v7 v8 v9 v10 v11 v12 v13).lookup ("paper" : Str)=some v0:=rfl
theorem pt_Writer_paper:putF "paper" y (f_Writer v0 v1 v2 v3 v4 v5 v6 v7 v8 v9 v10 v11 v12 v13)=f_Writer y v1 v2 v3 v4 v5 v6 v7 v8 v9 v10 v11 v12 v13:=rfl
theorem lk_Writer_serial:(f_Writer v0 v1 v2 v3 v4 v5 v6 v7 v8 v9 v10 v11 v12 v13).lookup ("serial" : Str)=some v1:=rfl
theorem pt_Writer_serial:putF "serial" y (f_Writer v0 v1 v2 v3 v4 v5 v6 v7 v8 v9 v10 v11 v12 v13)=f_Writer v0 y v2 v3 v4 v5 v6 v7 v8 v9 v10 v11 v12 v13:=rfl
theorem lk_Writer_noted_serial:(f_Writer v0 v1 v2 v3 v4 v5 v6 v7 v8 v9 v10 v11 v12 v13).lookup ("noted_serial" : Str)=some v2:=rfl
theorem pt_Writer_noted_serial:putF "noted_serial" y (f_Writer v0 v1 v2 v3 v4 v5 v6 v7 v8 v9 v10 v11 v12 v13)=f_Writer v0 v1 y v3 v4 v5 v6 v7 v8 v9 v10 v11 v12 v13:=rfl
theorem lk_Writer_on:(f_Writer v0 v1 v2 v3 v4 v5 v6 v7 v8 v9 v10 v11 v12 v13).lookup ("on" : Str)=some v3:=rfl
theorem pt_Writer_on:putF "on" y (f_Writer v0 v1 v2 v3 v4 v5 v6 v7 v8 v9 v10 v11 v12 v13)=f_Writer v0 v1 v2 y v4 v5 v6 v7 v8 v9 v10 v11 v12 v13:=rfl
theorem lk_Writer_form:(f_Writer v0 v1 v2 v3 v4 v5 v6 v7 v8 v9 v10 v11 v12 v13).lookup ("form" : Str)=some v4:=rfl
theorem pt_Writer_form:putF "form" y (f_Writer v0 v1 v2 v3 v4 v5 v6 v7 v8 v9 v10 v11 v12 v13)=f_Writer v0 v1 v2 v3 y v5 v6 v7 v8 v9 v10 v11 v12 v13:=rfl
theorem lk_Writer_draining:(f_Writer v0 v1 v2 v3 v4 v5 v6 v7 v8 v9 v10 v11 v12 v13).lookup ("draining" : Str)=some v5:=rfl
theorem pt_Writer_draining:putF "draining" y (f_Writer v0 v1 v2 v3 v4 v5 v6 v7 v8 v9 v10 v11 v12 v13)=f_Writer v0 v1 v2 v3 v4 y v6 v7 v8 v9 v10 v11 v12 v13:=rfl
theorem lk_Writer_separators:(f_Writer v0 v1 v2 v3 v4 v5 v6 v7 v8 v9 v10 v11 v12 v13).lookup ("separators" : Str)=some v6:=rfl
theorem pt_Writer_separators:putF "separators" y (f_Writer v0 v1 v2 v3 v4 v5 v6 v7 v8 v9 v10 v11 v12 v13)=f_Writer v0 v1 v2 v3 v4 v5 y v7 v8 v9 v10 v11 v12 v13:=rfl
theorem lk_Writer_note_every:(f_Writer v0 v1 v2 v3 v4 v5 v6 v7 v8 v9 v10 v11 v12 v13).lookup ("note_every" : Str)=some v7:=rfl
theorem pt_Writer_note_every:putF "note_every" y (f_Writer v0 v1 v2 v3 v4 v5 v6 v7 v8 v9 v10 v11 v12 v13)=f_Writer v0 v1 v2 v3 v4 v5 v6 y v8 v9 v10 v11 v12 v13:=rfl
theorem lk_Writer_classes:(f_Writer v0 v1 v2 v3 v4 v5 v6 v7 v8 v9 v10 v11 v12 v13).lookup ("classes" : Str)=some v8:=rfl
theorem pt_Writer_classes:putF "classes" y (f_Writer v0 v1 v2 v3 v4 v5 v6 v7 v8 v9 v10 v11 v12 v13)=f_Writer v0 v1 v2 v3 v4 v5 v6 v7 y v9 v10 v11 v12 v13:=rfl
theorem lk_Writer_hand:(f_Writer v0 v1 v2 v3 v4 v5 v6 v7 v8 v9 v10 v11 v12 v13).lookup ("hand" : Str)=some v9:=rfl
theorem pt_Writer_hand:putF "hand" y (f_Writer v0 v1 v2 v3 v4 v5 v6 v7 v8 v9 v10 v11 v12 v13)=f_Writer v0 v1 v2 v3 v4 v5 v6 v7 v8 y v10 v11 v12 v13:=rfl
theorem lk_Writer_place:(f_Writer v0 v1 v2 v3 v4 v5 v6 v7 v8 v9 v10 v11 v12 v13).lookup ("place" : Str)=some v10:=rfl
theorem pt_Writer_place:putF "place" y (f_Writer v0 v1 v2 v3 v4 v5 v6 v7 v8 v9 v10 v11 v12 v13)=f_Writer v0 v1 v2 v3 v4 v5 v6 v7 v8 v9 y v11 v12 v13:=rfl
theorem lk_Writer_noted_place:(f_Writer v0 v1 v2 v3 v4 v5 v6 v7 v8 v9 v10 v11 v12 v13).lookup ("noted_place" : Str)=some v11:=rfl
theorem pt_Writer_noted_place:putF "noted_place" y (f_Writer v0 v1 v2 v3 v4 v5 v6 v7 v8 v9 v10 v11 v12 v13)=f_Writer v0 v1 v2 v3 v4 v5 v6 v7 v8 v9 v10 y v12 v13:=rfl
theorem lk_Writer_since:(f_Writer v0 v1 v2 v3 v4 v5 v6 v7 v8 v9 v10 v11 v12 v13).lookup ("since" : Str)=some v12:=rfl
theorem pt_Writer_since:putF "since" y (f_Writer v0 v1 v2 v3 v4 v5 v6 v7 v8 v9 v10 v11 v12 v13)=f_Writer v0 v1 v2 v3 v4 v5 v6 v7 v8 v9 v10 v11 y v13:=rfl
theorem lk_Writer_first_step:(f_Writer v0 v1 v2 v3 v4 v5 v6 v7 v8 v9 v10 v11 v12 v13).lookup ("first_step" : Str)=some v13:=rfl
theorem pt_Writer_first_step:putF "first_step" y (f_Writer v0 v1 v2 v3 v4 v5 v6 v7 v8 v9 v10 v11 v12 v13)=f_Writer v0 v1 v2 v3 v4 v5 v6 v7 v8 v9 v10 v11 v12 y:=rfl
theorem nm_Writer_init:(f_Writer v0 v1 v2 v3 v4 v5 v6 v7 v8 v9 v10 v11 v12 v13).lookup ("__init__" : Str)=none:=rfl
theorem nm_Writer_switch_off:(f_Writer v0 v1 v2 v3 v4 v5 v6 v7 v8 v9 v10 v11 v12 v13).lookup ("switch_off" : Str)=none:=rfl
theorem nm_Writer_switch_on:(f_Writer v0 v1 v2 v3 v4 v5 v6 v7 v8 v9 v10 v11 v12 v13).lookup ("switch_on" : Str)=none:=rfl
theorem nm_Writer_be_told:(f_Writer v0 v1 v2 v3 v4 v5 v6 v7 v8 v9 v10 v11 v12 v13).lookup ("be_told" : Str)=none:=rfl
theorem nm_Writer_empty_hand:(f_Writer v0 v1 v2 v3 v4 v5 v6 v7 v8 v9 v10 v11 v12 v13).lookup ("empty_hand" : Str)=none:=rfl
theorem nm_Writer_begin_copy:(f_Writer v0 v1 v2 v3 v4 v5 v6 v7 v8 v9 v10 v11 v12 v13).lookup ("begin_copy" : Str)=none:=rfl
theorem nm_Writer_note:(f_Writer v0 v1 v2 v3 v4 v5 v6 v7 v8 v9 v10 v11 v12 v13).lookup ("note" : Str)=none:=rfl
theorem nm_Writer_return_to_noted:(f_Writer v0 v1 v2 v3 v4 v5 v6 v7 v8 v9 v10 v11 v12 v13).lookup ("return_to_noted" : Str)=none:=rfl
theorem nm_Writer_go_back:(f_Writer v0 v1 v2 v3 v4 v5 v6 v7 v8 v9 v10 v11 v12 v13).lookup ("go_back" : Str)=none:=rfl
theorem nm_Writer_ends_with_mark:(f_Writer v0 v1 v2 v3 v4 v5 v6 v7 v8 v9 v10 v11 v12 v13).lookup ("ends_with_mark" : Str)=none:=rfl
theorem nm_Writer_put_mark:(f_Writer v0 v1 v2 v3 v4 v5 v6 v7 v8 v9 v10 v11 v12 v13).lookup ("put_mark" : Str)=none:=rfl
theorem ln_Writer:(f_Writer v0 v1 v2 v3 v4 v5 v6 v7 v8 v9 v10 v11 v12 v13).length < 1000:=by show 14 < 1000;decide
end
noncomputable def f_Spool (v0 v1 v2 v3 v4 v5:V):List (Str × V):=[("most_rows",v0),("cap",v1),("paper_room",v2),("last_number",v3),("outputs",v4),("writers",v5)]
section
variable {v0 v1 v2 v3 v4 v5 y:V}
theorem lk_Spool_most_rows:(f_Spool v0 v1 v2 v3 v4 v5).lookup ("most_rows" : Str)=some v0:=rfl
theorem pt_Spool_most_rows:putF "most_rows" y (f_Spool v0 v1 v2 v3 v4 v5)=f_Spool y v1 v2 v3 v4 v5:=rfl
theorem lk_Spool_cap:(f_Spool v0 v1 v2 v3 v4 v5).lookup ("cap" : Str)=some v1:=rfl
theorem pt_Spool_cap:putF "cap" y (f_Spool v0 v1 v2 v3 v4 v5)=f_Spool v0 y v2 v3 v4 v5:=rfl
theorem lk_Spool_paper_room:(f_Spool v0 v1 v2 v3 v4 v5).lookup ("paper_room" : Str)=some v2:=rfl
theorem pt_Spool_paper_room:putF "paper_room" y (f_Spool v0 v1 v2 v3 v4 v5)=f_Spool v0 v1 y v3 v4 v5:=rfl
theorem lk_Spool_last_number:(f_Spool v0 v1 v2 v3 v4 v5).lookup ("last_number" : Str)=some v3:=rfl
theorem pt_Spool_last_number:putF "last_number" y (f_Spool v0 v1 v2 v3 v4 v5)=f_Spool v0 v1 v2 y v4 v5:=rfl
theorem lk_Spool_outputs:(f_Spool v0 v1 v2 v3 v4 v5).lookup ("outputs" : Str)=some v4:=rfl
theorem pt_Spool_outputs:putF "outputs" y (f_Spool v0 v1 v2 v3 v4 v5)=f_Spool v0 v1 v2 v3 y v5:=rfl
theorem lk_Spool_writers:(f_Spool v0 v1 v2 v3 v4 v5).lookup ("writers" : Str)=some v5:=rfl
theorem pt_Spool_writers:putF "writers" y (f_Spool v0 v1 v2 v3 v4 v5)=f_Spool v0 v1 v2 v3 v4 y:=rfl
theorem nm_Spool_init:(f_Spool v0 v1 v2 v3 v4 v5).lookup ("__init__" : Str)=none:=rfl
theorem nm_Spool_renew:(f_Spool v0 v1 v2 v3 v4 v5).lookup ("renew" : Str)=none:=rfl
theorem nm_Spool_writer_at:(f_Spool v0 v1 v2 v3 v4 v5).lookup ("writer_at" : Str)=none:=rfl
theorem nm_Spool_is_in_hand:(f_Spool v0 v1 v2 v3 v4 v5).lookup ("is_in_hand" : Str)=none:=rfl
theorem nm_Spool_is_waiting:(f_Spool v0 v1 v2 v3 v4 v5).lookup ("is_waiting" : Str)=none:=rfl
theorem nm_Spool_waiting_outputs:(f_Spool v0 v1 v2 v3 v4 v5).lookup ("waiting_outputs" : Str)=none:=rfl
theorem nm_Spool_lose_power:(f_Spool v0 v1 v2 v3 v4 v5).lookup ("lose_power" : Str)=none:=rfl
theorem ln_Spool:(f_Spool v0 v1 v2 v3 v4 v5).length < 1000:=by show 6 < 1000;decide
end
noncomputable def f_Reader (v0 v1:V):List (Str × V):=[("calls",v0),("position",v1)]
section
variable {v0 v1 y:V}
theorem lk_Reader_calls:(f_Reader v0 v1).lookup ("calls" : Str)=some v0:=rfl
theorem pt_Reader_calls:putF "calls" y (f_Reader v0 v1)=f_Reader y v1:=rfl
theorem lk_Reader_position:(f_Reader v0 v1).lookup ("position" : Str)=some v1:=rfl
theorem pt_Reader_position:putF "position" y (f_Reader v0 v1)=f_Reader v0 y:=rfl
theorem nm_Reader_init:(f_Reader v0 v1).lookup ("__init__" : Str)=none:=rfl
theorem nm_Reader_is_at_end:(f_Reader v0 v1).lookup ("is_at_end" : Str)=none:=rfl
theorem nm_Reader_take_one:(f_Reader v0 v1).lookup ("take_one" : Str)=none:=rfl
theorem nm_Reader_take:(f_Reader v0 v1).lookup ("take" : Str)=none:=rfl
theorem ln_Reader:(f_Reader v0 v1).length < 1000:=by show 2 < 1000;decide
end
end Ps
end
section
set_option Elab.async false
set_option linter.all false
set_option maxRecDepth 100000
set_option maxHeartbeats 4000000
namespace Ps
open PySem PySem.Spec PyProof.Rows L2
section
variable {K:PySem.W.Frag} {x m q:Str} {st:Stmt} {ps:List Str} {C:Addr} (P:Program) (w:World) (base:Heap)
noncomputable abbrev FO {mg:Str->Option Value} (k:Nat) (y:FT K mg x st ps) (sp:Sp):Prop:=FnOk P w K mg base CX0 k y.f y.fd ps sp
noncomputable abbrev MO (mg:Str->Option Value) (k:Nat) (y:MT K C m q st ps) (sp:Sp):Prop:=FnOk P w K mg base CX0 k y.f y.fd ps sp
noncomputable abbrev NO (mg:Str->Option Value) (k:Nat) (y:IT K C q st ps) (sp:Sp):Prop:=FnOk P w K mg base CX0 k y.f y.fd ps sp
end
theorem iteI {c:Prop} [Decidable c] {A B:Prop} (h1:c->A) (h2:¬ c->B):if c then A else B:=by
 by_cases h:c
 ·rw [if_pos h];exact h1 h
 ·rw [if_neg h];exact h2 h
section
variable {X:Cx} {k j:Nat} {C:Addr} {st:Stmt} {ps:List Str} {sp:Sp} {x m q:Str} {p pos apos:Pos} {e o:Expr} {es:List Expr} {ta te:TE} {t:TA} {pl:Sem Bool} {v:V}
theorem pcf (y:FT X.K X.mg x st ps) (F:FnOk X.prog X.w X.K X.mg X.base CX0 k y.f y.fd ps sp) (hr:Room j X.A) (ha:PA X (e::es) t) (hk:k≤j:=by decide) (hg:Gl X x:=by exact rfl) (hdb:(x == ("__debug__" : Str))=false:=by decide) (he:starEach (e::es) X.env=(false,eval e X.env)::starEach es X.env:=by rfl) (hpl:(backTo pos (starEach es X.env)).any (·.1)=false:=by rfl):PE X (.Call (.Name x p) (e::es) [] pos) (tCall sp [] E0 t):=pe_call F (hr.mono hk) hg y.mg y.F.kp y.b .nil pass0 ha hdb he hpl
theorem pcm (he:PE X o ta) (c:Cls X.K C) (y:MT X.K C m q st ps) (F:FnOk X.prog X.w X.K X.mg X.base CX0 k y.f y.fd ps sp) (hr:Room j X.A) (ha:PA X (e::es) t) (hk:k≤j:=by decide) (hst:starEach (e::es) X.env=(false,eval e X.env)::starEach es X.env:=by rfl) (hpl:(backTo pos (starEach es X.env)).any (·.1)=false:=by rfl)
  (ht:eval (.Call (.Attribute o m apos) (e::es) [] pos) X.env=(do
   let ov ← eval o X.env
   standAt apos.atName
   let (f,first) ← holding [ov] (getMethod ov m pl)
   callWith pos f first (backTo pos (starEach (e::es) X.env)) (backToKw pos (keywordEach [] X.env))):=by rfl):PE X (.Call (.Attribute o m apos) (e::es) [] pos) (tMeth C m sp [] E0 ta t):=pe_meth he c y.me F (hr.mono hk) y.b .nil pass0 ha hst hpl ht
theorem pcm0 (he:PE X o ta) (c:Cls X.K C) (y:MT X.K C m q st ps) (F:FnOk X.prog X.w X.K X.mg X.base CX0 k y.f y.fd ps sp) (hr:Room j X.A) (hk:k≤j:=by decide)
  (ht:eval (.Call (.Attribute o m apos) [] [] pos) X.env=(do
   let ov ← eval o X.env
   standAt apos.atName
   let (f,first) ← holding [ov] (getMethod ov m pl)
   callWith pos f first (backTo pos (starEach [] X.env)) (backToKw pos (keywordEach [] X.env))):=by rfl):PE X (.Call (.Attribute o m apos) [] [] pos) (tMeth C m sp [] E0 ta tNil):=pe_meth0 he c y.me F (hr.mono hk) y.b .nil pass0 ht
theorem pa1 (ha:PE X e te) (hs:starEach (e::[]) X.env=(false,eval e X.env)::starEach [] X.env:=by rfl):PA X (e::[]) (tCons te tNil):=pa_cons ha pa_nil hs
theorem pgi (h:GlobV X.mg x v) (hg:Gl X x:=by exact rfl) (hd:(x == ("__debug__" : Str))=false:=by decide):PE X (.Name x pos) (tC v):=pe_globI hg h hd
theorem prl (h:PE X e te) (hs:starEach (e::[]) X.env=(false,eval e X.env)::starEach [] X.env:=by rfl):PSs X [.Return (some (.List [e] p)) pos] (tRet (tLst (tCons te tNil))):=pss_one (ps_ret (pe_lst (pa1 h hs)))
theorem prg (h:GlobV X.mg x v) (hg:Gl X x:=by exact rfl) (hd:(x == ("__debug__" : Str))=false:=by decide) (hs:starEach ((.Name x apos)::[]) X.env=(false,eval (.Name x apos) X.env)::starEach [] X.env:=by rfl):PSs X [.Return (some (.List [.Name x apos] p)) pos] (tRet (tLst (tCons (tC v) tNil))):=prl (pgi h hg hd) hs
theorem pst (i:Nat) {sc:Scope} {pos':Pos} (S:FnScope X.N ps sc) (he:PE X e te) (hi:X.N[i]? = some x:=by exact rfl) (hx:Loc X.env.scope x:=by exact Or.inl rfl) (hs:swapsWith e (some (.Name x pos')) pos.line X.env=pure false:=by rfl) (hf:X.fn x=true∨X.env.scope.names.lookup x=some .local:=by first | exact .inl rfl | exact .inr rfl | assumption):PS X (.Assign [.Name x pos'] e pos) (tAsg te (gName i)):=ps_set S.nd hi hx he hs hf
theorem pf (he:PE X e ta) {f:Str} (hb:attributeBase e f X.env (eval e X.env)=eval e X.env:=by exact rfl):PE X (.Attribute e f pos) (tFld X.K ta f):=pe_fld he hb
end
end Ps
end
section
set_option Elab.async false
set_option linter.all false
namespace Ps
open PySem PySem.Spec PyProof.Rows L2
section
variable {σ:L2.St} {H:Hp} {Q:VK} {v:V} {a b c d e f g:Option V}
theorem tv0:tVar 0 (some v::σ) H Q=Q v H:=by simp [tVar]
theorem tv1:tVar 1 (a::some v::σ) H Q=Q v H:=by simp [tVar]
theorem tv2:tVar 2 (a::b::some v::σ) H Q=Q v H:=by simp [tVar]
theorem tv3:tVar 3 (a::b::c::some v::σ) H Q=Q v H:=by simp [tVar]
theorem tv4:tVar 4 (a::b::c::d::some v::σ) H Q=Q v H:=by simp [tVar]
theorem tv5:tVar 5 (a::b::c::d::e::some v::σ) H Q=Q v H:=by simp [tVar]
theorem tv6:tVar 6 (a::b::c::d::e::f::some v::σ) H Q=Q v H:=by simp [tVar]
theorem tv7:tVar 7 (a::b::c::d::e::f::g::some v::σ) H Q=Q v H:=by simp [tVar]
theorem start_eq (N:List Str) (vs:List V):L2.start N vs=vs.map some++List.replicate (N.length - vs.length) none:=rfl
theorem scal_i {i j:Int}:scal (.int i) (.int j)=true:=rfl
theorem scal_b {i j:Bool}:scal (.bl i) (.bl j)=true:=rfl
theorem scal_s {i j:Str}:scal (.str i) (.str j)=true:=rfl
theorem scal_n {i:Int}:scal (.int i) .non=true:=rfl
end
theorem seq1 {t u:TS} {D:Ends} {σ:L2.St} {H:Hp} (h:t { D with nx:=u D } σ H):tSeq t u D σ H:=h
structure Wf where
 paper:V
 serial:Int
 noted:Int
 on:Bool
 form:Int
 drain:Bool
 sep:Int
 every:Int
 classes:V
 hand:Int
 place:V
 nplace:V
 since:Int
 first:Int
noncomputable def Wf.fs (f:Wf):List (Str × V):=f_Writer f.paper (.int f.serial) (.int f.noted) (.bl f.on) (.int f.form) (.bl f.drain) (.int f.sep) (.int f.every) f.classes (.int f.hand) f.place f.nplace (.int f.since) (.int f.first)
structure Of where
 num:Int
 name:V
 cls:Int
 form:Int
 copies:Int
 prio:Int
 held:Bool
 closed:Bool
 lines:Int
 pages:V
 place:V
noncomputable def Of.fs (f:Of):List (Str × V):=f_Output (.int f.num) f.name (.int f.cls) (.int f.form) (.int f.copies) (.int f.prio) (.bl f.held) (.bl f.closed) (.int f.lines) f.pages f.place
structure Sf where
 most:Int
 cap:Int
 room:Int
 last:Int
 outs:Addr
 writers:Addr
noncomputable def Sf.fs (f:Sf):List (Str × V):=f_Spool (.int f.most) (.int f.cap) (.int f.room) (.int f.last) (.ref f.outs) (.ref f.writers)
section
variable {K:PySem.W.Frag} {mg:Str->Option Value}
noncomputable def WO (T:Txt K mg) (dx:Addr) (f:Wf):HO:=.ins T.c_Writer dx f.fs
noncomputable def OO (T:Txt K mg) (dx:Addr) (f:Of):HO:=.ins T.c_Output dx f.fs
noncomputable def SO (T:Txt K mg) (dx:Addr) (f:Sf):HO:=.ins T.c_Spool dx f.fs
noncomputable def RO (T:Txt K mg) (dx:Addr) (c:V) (i:Int):HO:=.ins T.c_Reader dx (f_Reader c (.int i))
noncomputable def PlV (K:PySem.W.Frag) (H:Hp) (v:V) (c s:Int):Prop:=∃ a,v = .ref a∧SqT K H a [.int c,.int s]
end
theorem same_new {H:Hp} {p:Addr} {o:HO} (h:H p=none):Same H (upd H p o):=fun b u e=>by rw [upd_ne (ne_of_none e h)];exact e
theorem Same.rfl' {H:Hp}:Same H H:=fun _ _ e=>e
theorem Same.seqT {K:PySem.W.Frag} {H H':Hp} {a:Addr} {xs:List V} (e:Same H H') (h:SqT K H a xs):SqT K H' a xs:=by
 rcases h with (h | ⟨o,h⟩) | h
 ·exact .inl (.inl (e _ _ h))
 ·exact .inl (.inr ⟨o,e _ _ h⟩)
 ·exact .inr h
theorem PlV.same {K:PySem.W.Frag} {H H':Hp} {v:V} {c s:Int} (h:PlV K H v c s) (e:Same H H'):PlV K H' v c s:=by
 obtain ⟨a,h1,h2⟩:=h
 exact ⟨a,h1,Same.seqT e h2⟩
theorem sz0:0≤sizeLine:=by decide
theorem sz1:1≤sizeLine:=by decide
theorem sz2:2≤sizeLine:=by decide
theorem sz3:3≤sizeLine:=by decide
theorem sz4:4≤sizeLine:=by decide
theorem sz5:5≤sizeLine:=by decide
theorem sz6:6≤sizeLine:=by decide
theorem sz7:7≤sizeLine:=by decide
theorem sz8:8≤sizeLine:=by decide
theorem sz9:9≤sizeLine:=by decide
theorem sz10:10≤sizeLine:=by decide
theorem sz11:11≤sizeLine:=by decide
theorem sz12:12≤sizeLine:=by decide
theorem putF_len (f:Str) (v:V):∀ fs:List (Str × V),(putF f v fs).length≤fs.length + 1
 | []=>Nat.le_refl _
 | (g,x)::r=>by
  show (if g=f then (g,v)::r else (g,x)::putF f v r).length≤_
  split
  ·simp
  ·have:=putF_len f v r;simp only [List.length_cons];omega
noncomputable def Ex (l:List Addr) (H H':Hp):Prop:=∀ b o,H b=some o->b ∉ l->H' b=some o
theorem Ex.of_same {l:List Addr} {H H':Hp} (s:Same H H'):Ex l H H':=fun b o e _=>s b o e
theorem Ex.trans {l:List Addr} {H H1 H2:Hp} (s:Ex l H H1) (t:Ex l H1 H2):Ex l H H2:=fun b o e n=>t b o (s b o e n) n
theorem Ex.mono {l m:List Addr} {H H':Hp} (s:Ex l H H') (h:∀ b,b ∈ l->b ∈ m):Ex m H H':=fun b o e n=>s b o e fun z=>n (h b z)
theorem Ex.upd {l:List Addr} {H:Hp} {a:Addr} {o:HO} (h:a ∈ l):Ex l H (upd H a o):=fun b u e n=>by rw [upd_ne (fun z=>n (by rw [z];exact h))];exact e
theorem Ex.then {l:List Addr} {H H':Hp} {a:Addr} {o:HO} (s:Ex l H H') (h:a ∈ l):Ex l H (L2.upd H' a o):=s.trans (Ex.upd h)
theorem Ex.new {l:List Addr} {H H':Hp} {a:Addr} {o:HO} (s:Ex l H H') (h:H' a=none):Ex l H (L2.upd H' a o):=s.trans (Ex.of_same (same_new h))
theorem upd_none {H:Hp} {a p:Addr} {o:HO} (h:upd H a o p=none):H p=none∧p ≠ a:=by
 unfold upd at h
 split at h
 ·cases h
 ·rename_i n;exact ⟨h,n⟩
theorem upd_comm {H:Hp} {a p:Addr} {x y:HO} (h:p ≠ a):upd (upd H a x) p y=upd (upd H p y) a x:=by
 funext b;unfold upd;by_cases h1:b=a
 ·have:b ≠ p:=fun z=>h (z.symm.trans h1)
  simp [h1,Ne.symm h]
 ·simp [h1]
noncomputable def All2 {α β:Type} (R:α->β->Prop) (as:List α) (bs:List β):Prop:=as.length=bs.length∧∀ (i:Nat) (a:α) (b:β),as[i]? = some a->bs[i]? = some b->R a b
section
variable {α β:Type} {R S:α->β->Prop} {as cs:List α} {bs ds:List β} {a:α} {b:β}
theorem All2.nil:All2 R [] []:=⟨rfl,fun i a b h=>by simp at h⟩
theorem All2.mono (h:All2 R as bs) (f:∀ a b,R a b->S a b):All2 S as bs:=⟨h.1,fun i a b x y=>f a b (h.2 i a b x y)⟩
theorem All2.app (h:All2 R as bs) (h':All2 R cs ds):All2 R (as++cs) (bs++ds):=by
 refine ⟨by rw [List.length_append,List.length_append,h.1,h'.1],fun i a b x y=>?_⟩
 by_cases hi:i < as.length
 ·rw [List.getElem?_append_left hi] at x
  rw [List.getElem?_append_left (by rw [← h.1];exact hi)] at y
  exact h.2 i a b x y
 ·rw [List.getElem?_append_right (by omega)] at x
  rw [List.getElem?_append_right (by rw [← h.1];omega)] at y
  rw [← h.1] at y
  exact h'.2 _ a b x y
theorem All2.one (h:R a b):All2 R [a] [b]:=⟨rfl,fun i x y e f=>by
 cases i with
 | zero=>cases e;cases f;exact h
 | succ n=>simp at e⟩
theorem All2.snoc (h:All2 R as bs) (h':R a b):All2 R (as++[a]) (bs++[b]):=h.app (All2.one h')
theorem All2.cons (h':R a b) (h:All2 R as bs):All2 R (a::as) (b::bs):=(All2.one h').app h
theorem All2.head (h:All2 R (a::as) (b::bs)):R a b:=h.2 0 a b rfl rfl
theorem All2.tail (h:All2 R (a::as) (b::bs)):All2 R as bs:=⟨by have:=h.1;simpa using this,fun i x y e f=>h.2 (i + 1) x y (by simpa using e) (by simpa using f)⟩
theorem All2.at_r (h:All2 R as bs) {i:Nat} (e:bs[i]? = some b):∃ a,as[i]? = some a∧R a b:=by
 have hi:i < as.length:=by rw [h.1];exact (List.getElem?_eq_some_iff.mp e).1
 exact ⟨as[i],List.getElem?_eq_getElem hi,h.2 i _ _ (List.getElem?_eq_getElem hi) e⟩
theorem All2.at_l (h:All2 R as bs) {i:Nat} (e:as[i]? = some a):∃ b,bs[i]? = some b∧R a b:=by
 have hi:i < bs.length:=by rw [← h.1];exact (List.getElem?_eq_some_iff.mp e).1
 exact ⟨bs[i],List.getElem?_eq_getElem hi,h.2 i _ _ e (List.getElem?_eq_getElem hi)⟩
theorem All2.snoc_r {bs:List β} (h:All2 R as (bs++[b])):∃ cs a,as=cs++[a]∧All2 R cs bs∧R a b:=by
 have hl:=h.1
 rw [List.length_append,List.length_singleton] at hl
 have hne:as ≠ []:=fun z=>by rw [z] at hl;simp at hl
 refine ⟨as.dropLast,as.getLast hne,(List.dropLast_concat_getLast hne).symm,⟨by rw [List.length_dropLast];omega,fun i x y e f=>?_⟩,?_⟩
 ·have hi:i < bs.length:=(List.getElem?_eq_some_iff.mp f).1
  refine h.2 i x y ?_ (by rw [List.getElem?_append_left hi];exact f)
  rw [← List.dropLast_concat_getLast hne,List.getElem?_append_left (by rw [List.length_dropLast];omega)]
  exact e
 ·refine h.2 bs.length _ _ ?_ (by simp)
  rw [List.getLast_eq_getElem,show bs.length=as.length - 1 by omega]
  exact List.getElem?_eq_getElem _
end
noncomputable def ivs (l:List Int):List V:=l.map V.int
noncomputable def bvs (b:Vbbhak.Bytes):List V:=ivs (VB.vints b)
noncomputable def nvs (l:List Nat):List V:=l.map fun (n:Nat)=>V.int (n:Int)
theorem ivs_length (l:List Int):(ivs l).length=l.length:=by unfold ivs;simp
theorem bvs_length (b:Vbbhak.Bytes):(bvs b).length=b.length:=by unfold bvs;rw [ivs_length,VB.ints_length]
noncomputable def LcI (H1:Hp) (D:Addr) (out:Nat->List V) (i:Nat) (H:Hp):Prop:=Same H1 H∧H D=some (.lst (out i))
theorem lc_start {H1:Hp} {D:Addr} {out:Nat->List V} (hD:H1 D=none) (h0:out 0=[]):LcI H1 D out 0 (upd H1 D (.lst [])):=⟨same_new hD,by rw [upd_same,h0]⟩
theorem lc_put {H1 H H4:Hp} {D:Addr} {out:Nat->List V} {i:Nat} {y:V} (h:LcI H1 D out i H) (hD:H1 D=none) (s:Same H H4) (hl:(out i).length < sizeLine) (e:out (i + 1)=out i++[y]) :
  ∃ acc,H4 D=some (.lst acc)∧acc.length < sizeLine∧LcI H1 D out (i + 1) (upd H4 D (.lst (acc++[y]))):=
 ⟨out i,s _ _ h.2,hl,fun b o z=>by rw [upd_ne (ne_of_none z hD)];exact s _ _ (h.1 b o z),by rw [upd_same,e]⟩
theorem lc_skip {H1 H H3:Hp} {D:Addr} {out:Nat->List V} {i:Nat} (h:LcI H1 D out i H) (s:Same H H3) (e:out (i + 1)=out i):LcI H1 D out (i + 1) H3:=⟨h.1.trans s,by rw [e];exact s _ _ h.2⟩
theorem at_map {α:Type} {f:α->V} {l:List α} {i:Nat} {v:V} (h:(l.map f)[i]? = some v):∃ x,l[i]? = some x∧v=f x:=by
 rw [List.getElem?_map] at h
 cases e:l[i]? with
 | none=>rw [e] at h;cases h
 | some x=>rw [e] at h;exact ⟨x,rfl,(Option.some.inj h).symm⟩
section
variable {K:PySem.W.Frag} {g:TG} {tt:TT} {te:TE} {vs:List Nat} {σ:L2.St} {H:Hp} {Q:VK}
theorem lcR {ta:TA} (n:Nat) (Pv:Addr->Nat->Hp->Prop) (he:∀ R:List V->Hp->Prop,R [V.int (n:Int)] H->ta σ H R) (hn:n < 2 ^ 61) (h0:∀ D,H D=none->Pv D 0 (upd H D (.lst [])))
  (hs:∀ D,H D=none->∀ i H',i < n->Pv D i H'->g (.int (i:Int)) (wipe σ vs) H' fun σ2 H2=>wipe σ2 vs=wipe σ vs∧tt σ2 H2 fun b H3 =>
   if b=true then te σ2 H3 fun y H4=>∃ acc,H4 D=some (.lst acc)∧acc.length < sizeLine∧Pv D (i + 1) (upd H4 D (.lst (acc++[y]))) else Pv D (i + 1) H3)
  (hd:∀ D,H D=none->∀ H',Pv D n H'->Q (.ref D) H'):tLc (iRng1 ta) g tt te vs σ H Q:=by
 refine he _ ⟨(n:Int),rfl,by omega,by omega,fun D hD=>?_⟩
 rw [Int.toNat_natCast]
 refine lc_range (Pv D) (h0 D hD) (fun i H' hi p=>?_) (hd D hD)
 rw [Int.zero_add]
 exact hs D hD i H' hi p
theorem lcL {tl:TE} (a:Addr) (xs:List V) (Pv:Addr->Nat->Hp->Prop) (he:∀ R:V->Hp->Prop,R (.ref a) H->tl σ H R) (hx:SqL K H a xs) (h0:∀ D,H D=none->Pv D 0 (upd H D (.lst [])))
  (hl:∀ D,H D=none->∀ i H',i≤xs.length->Pv D i H'->SqL K H' a xs)
  (hs:∀ D,H D=none->∀ i x H',xs[i]? = some x->Pv D i H'->g x (wipe σ vs) H' fun σ2 H2=>wipe σ2 vs=wipe σ vs∧tt σ2 H2 fun b H3 =>
   if b=true then te σ2 H3 fun y H4=>∃ acc,H4 D=some (.lst acc)∧acc.length < sizeLine∧Pv D (i + 1) (upd H4 D (.lst (acc++[y]))) else Pv D (i + 1) H3)
  (hd:∀ D,H D=none->∀ H',Pv D xs.length H'->Q (.ref D) H'):tLc (iList K tl) g tt te vs σ H Q:=by
 refine he _ ⟨a,rfl,⟨xs,hx⟩,fun D hD=>?_⟩
 exact lc_list (Pv D) (h0 D hD) (hl D hD) (hs D hD) (hd D hD)
theorem lcLS {tl:TE} (a:Addr) (xs:List V) (out:Nat->List V) (he:∀ R:V->Hp->Prop,R (.ref a) H->tl σ H R) (hx:SqL K H a xs) (h0:out 0=[])
  (hs:∀ D,H D=none->∀ i x H',xs[i]? = some x->Same H H'->LcI H D out i H'->g x (wipe σ vs) H' fun σ2 H2=>wipe σ2 vs=wipe σ vs∧tt σ2 H2 fun b H3 =>
   if b=true then te σ2 H3 fun y H4=>∃ acc,H4 D=some (.lst acc)∧acc.length < sizeLine∧LcI H D out (i + 1) (upd H4 D (.lst (acc++[y]))) else LcI H D out (i + 1) H3)
  (hd:∀ D H',H D=none->Same H H'->H' D=some (.lst (out xs.length))->Q (.ref D) H'):tLc (iList K tl) g tt te vs σ H Q:=
 lcL a xs (fun D i H'=>LcI H D out i H') he hx (fun D hD=>lc_start hD h0) (fun D hD i H' _ p=>p.1.seq hx) (fun D hD i x H' hi p=>hs D hD i x H' hi p.1 p) (fun D hD H' p=>hd D H' hD p.1 p.2)
theorem lcLG {tl:TE} (xs:List V) (Pv:Hp->Addr->Nat->Hp->Prop) (he:∀ R:V->Hp->Prop,(∀ q,H q=none->R (.ref q) (upd H q (.lst xs)))->tl σ H R)
  (h0:∀ H1 D,Same H H1->H1 D=none->Pv H1 D 0 (upd H1 D (.lst []))) (hl:∀ H1 D,Same H H1->H1 D=none->∀ i H',Pv H1 D i H'->Same H1 H')
  (hs:∀ H1 D,Same H H1->H1 D=none->∀ i x H',xs[i]? = some x->Pv H1 D i H'->g x (wipe σ vs) H' fun σ2 H2=>wipe σ2 vs=wipe σ vs∧tt σ2 H2 fun b H3 =>
   if b=true then te σ2 H3 fun y H4=>∃ acc,H4 D=some (.lst acc)∧acc.length < sizeLine∧Pv H1 D (i + 1) (upd H4 D (.lst (acc++[y]))) else Pv H1 D (i + 1) H3)
  (hd:∀ H1 D H',Same H H1->H1 D=none->Pv H1 D xs.length H'->Q (.ref D) H'):tLc (iList K tl) g tt te vs σ H Q:=by
 refine he _ fun q hq=>⟨q,rfl,⟨xs,SqL.of upd_same⟩,fun D hD=>?_⟩
 have s1:Same H (upd H q (.lst xs)):=same_new hq
 exact lc_list (xs:=xs) (Pv _ D) (h0 _ D s1 hD) (fun i H' _ p=>SqL.of ((hl _ D s1 hD i H' p) _ _ upd_same)) (hs _ D s1 hD) (fun H' p=>hd _ D H' s1 hD p)
theorem lcS {te':TE} (x:Str) (Pv:Addr->Nat->Hp->Prop) (he:∀ R:V->Hp->Prop,R (.str x) H->te' σ H R) (h0:∀ D,H D=none->Pv D 0 (upd H D (.lst [])))
  (hs:∀ D,H D=none->∀ (i:Nat) (c:Nat) H',x.cps[i]? = some c->Pv D i H'->g (.str ⟨#[c]⟩) (wipe σ vs) H' fun σ2 H2=>wipe σ2 vs=wipe σ vs∧tt σ2 H2 fun b H3 =>
   if b=true then te σ2 H3 fun y H4=>∃ acc,H4 D=some (.lst acc)∧acc.length < sizeLine∧Pv D (i + 1) (upd H4 D (.lst (acc++[y]))) else Pv D (i + 1) H3)
  (hd:∀ D,H D=none->∀ H',Pv D x.cps.size H'->Q (.ref D) H'):tLc (iStr te') g tt te vs σ H Q:=by
 refine he _ ⟨x,rfl,fun D hD=>?_⟩
 refine ⟨fun i m H=>m=x.cps.size - i∧i≤x.cps.size∧Pv D i H,⟨x.cps.size,by simp,Nat.zero_le _,h0 D hD⟩,?_⟩
 rintro i m H' ⟨rfl,hi,p⟩
 by_cases hlt:i < x.cps.size
 ·refine .inr ⟨hlt,Pv D (i + 1),fun H'' p'=>⟨x.cps.size - (i + 1),by omega,rfl,hlt,p'⟩,fun v H'' y=>?_⟩
  obtain ⟨e,c,hc,hv⟩:=y
  subst e hv
  exact hs D hD i c _ hc p
 ·have e:i=x.cps.size:=by omega
  subst e
  exact .inl ⟨Nat.le_refl _,hd D hD H' p⟩
theorem forL {tl:TE} {tb:TS} {D:Ends} (a:Addr) (xs:List V) (Pv:Nat->L2.St->Hp->Prop) (he:∀ R:V->Hp->Prop,R (.ref a) H->tl σ H R) (hx:SqL K H a xs) (h0:Pv 0 σ H)
  (hl:∀ i σ H,i≤xs.length->Pv i σ H->SqL K H a xs)
  (hs:∀ i x σ H,xs[i]? = some x->Pv i σ H->g x σ H fun σ2 H2=>tb { D with nx:=Pv (i + 1),ct:=Pv (i + 1),bk:=D.nx } σ2 H2) (hd:∀ σ H,Pv xs.length σ H->D.nx σ H) :
  tFor (iList K tl) g tb D σ H:=by
 refine he _ ⟨a,rfl,⟨xs,hx⟩,?_⟩
 exact for_list Pv h0 hl hs hd
end
end Ps
end
section
set_option Elab.async false
set_option linter.all false
set_option maxRecDepth 100000
set_option maxHeartbeats 4000000
namespace Ps
open PySem PySem.Spec PyProof.Rows L2
set_option hygiene false
local macro_rules | `(tactic| walk_at "L") => `(tactic| first | (obtain ⟨rfl, _⟩ := h; rfl) | (obtain ⟨_, h⟩ := h; walk_at "L"))
local macro_rules
  | `(tactic| o_headS (1 $a:term $b:term)) => `(tactic| (refine $a $b (fun vs H Q E h => ?_) (fun cdv A outer s H vs Q E hr h => ?_); (walk_at "L")))
  | `(tactic| o_headS (2 $c:term)) => `(tactic| (refine ⟨_, $c, ?_⟩; (try dsimp only [cxOf, Cx.wish])))
  | `(tactic| o_headS (2 $c:term $d:term)) => `(tactic| (refine ⟨$c, $d, ?_⟩; (try dsimp only [cxOf, Cx.wish])))
set_option hygiene true
local macro_rules | `(tactic| o_headS [$xs:ident,*]) => do let ys := ("List.getElem?_cons_zero List.getElem?_cons_succ tYes wipe tAsg tIfS tRet tRetN tDrop tNext tC tv0 tv1 tv2 tv3 tv4 tv5 tv6 tv7 tOp tUn tFld sFld sFldAug tTest tB tNot tNotV tAnd tOr tAndV tOrV tChain tCons tNil tCall tMeth tCB tLst tTup tAug gName tDNotIn tDGet sDPut tDPop1 tBM tSl tPart tNoPart rEq rNe rLt rLe rGt rPlus rMinus rI0 rU ipI rAdd rSub rIxT rIxL rLen rLenD rMax rMin rListOf Ps.start_eq List.map_cons List.map_nil List.length_cons List.length_nil Nat.reduceAdd Nat.reduceSub List.replicate List.cons_append List.nil_append List.append_nil List.set_cons_zero List.set_cons_succ exists_eq_left' exists_eq_left exists_and_left exists_eq' exists_eq and_assoc true_and and_true V.int.injEq V.ref.injEq V.bl.injEq V.str.injEq List.cons.injEq Option.some.injEq HO.ins.injEq HO.lst.injEq HO.tup.injEq HO.dK.injEq decide_eq_true_eq scal_i scal_b scal_s scal_n if_true if_false reduceIte Bool.false_eq_true Bool.true_eq_false Bool.not_true Bool.not_false Bool.not_eq_true' decide_eq_false_iff_not reduceCtorEq false_and exists_const exists_false or_false false_or upd_same upd_upd WO Wf.fs OO Of.fs SO Sf.fs RO eq_self sz0 sz1 sz2 sz3 sz4 sz5 sz6 sz7 sz8 sz9 sz10 sz11 sz12 lk_Output_number pt_Output_number lk_Output_name pt_Output_name lk_Output_output_class pt_Output_output_class lk_Output_form pt_Output_form lk_Output_copies pt_Output_copies lk_Output_priority pt_Output_priority lk_Output_held pt_Output_held lk_Output_closed pt_Output_closed lk_Output_line_count pt_Output_line_count lk_Output_pages pt_Output_pages lk_Output_place pt_Output_place nm_Output_init nm_Output_is_done nm_Output_is_behind_end nm_Output_end nm_Output_copies_begun ln_Output lk_Writer_paper pt_Writer_paper lk_Writer_serial pt_Writer_serial lk_Writer_noted_serial pt_Writer_noted_serial lk_Writer_on pt_Writer_on lk_Writer_form pt_Writer_form lk_Writer_draining pt_Writer_draining lk_Writer_separators pt_Writer_separators lk_Writer_note_every pt_Writer_note_every lk_Writer_classes pt_Writer_classes lk_Writer_hand pt_Writer_hand lk_Writer_place pt_Writer_place lk_Writer_noted_place pt_Writer_noted_place lk_Writer_since pt_Writer_since lk_Writer_first_step pt_Writer_first_step nm_Writer_init nm_Writer_switch_off nm_Writer_switch_on nm_Writer_be_told nm_Writer_empty_hand nm_Writer_begin_copy nm_Writer_note nm_Writer_return_to_noted nm_Writer_go_back nm_Writer_ends_with_mark nm_Writer_put_mark ln_Writer lk_Spool_most_rows pt_Spool_most_rows lk_Spool_cap pt_Spool_cap lk_Spool_paper_room pt_Spool_paper_room lk_Spool_last_number pt_Spool_last_number lk_Spool_outputs pt_Spool_outputs lk_Spool_writers pt_Spool_writers nm_Spool_init nm_Spool_renew nm_Spool_writer_at nm_Spool_is_in_hand nm_Spool_is_waiting nm_Spool_waiting_outputs nm_Spool_lose_power ln_Spool lk_Reader_calls pt_Reader_calls lk_Reader_position pt_Reader_position nm_Reader_init nm_Reader_is_at_end nm_Reader_take_one nm_Reader_take ln_Reader Txt.cl_Output Txt.no_Output_number Txt.no_Output_name Txt.no_Output_output_class Txt.no_Output_form Txt.no_Output_copies Txt.no_Output_priority Txt.no_Output_held Txt.no_Output_closed Txt.no_Output_line_count Txt.no_Output_pages Txt.no_Output_place Txt.cl_Writer Txt.no_Writer_paper Txt.no_Writer_serial Txt.no_Writer_noted_serial Txt.no_Writer_on Txt.no_Writer_form Txt.no_Writer_draining Txt.no_Writer_separators Txt.no_Writer_note_every Txt.no_Writer_classes Txt.no_Writer_hand Txt.no_Writer_place Txt.no_Writer_noted_place Txt.no_Writer_since Txt.no_Writer_first_step Txt.cl_Spool Txt.no_Spool_most_rows Txt.no_Spool_cap Txt.no_Spool_paper_room Txt.no_Spool_last_number Txt.no_Spool_outputs Txt.no_Spool_writers Txt.cl_Reader Txt.no_Reader_calls Txt.no_Reader_position".splitOn " ").toArray.map (fun s => Lean.mkIdent s.toName); `(tactic| simp only [$[$(xs.getElems ++ ys):ident],*])
local macro_rules | `(tactic| walk_at "ps") => `(tactic| o_headS [tSeq, rInt1])
local macro_rules | `(tactic| walk_at "pq") => `(tactic| o_headS [tYes])
section
section
variable {P:Program} {w:World} {K:PySem.W.Frag} {mg:Str->Option Value} {base:Heap}
noncomputable def sp_within (_:Txt K mg):Sp:=fun vs H Q _=>∃ v l g,vs=[.int v,.int l,.int g]∧Q (.bl (Vbbhak.inside v l g)) H
theorem ok_within (T:Txt K mg):FO P w base 1 T.within (sp_within T):=by
 o_headS (1 T.within.F.ok sc_within)
 obtain ⟨v,l,g,rfl,h⟩:=h
 o_headS (2 (pss_one (ps_ret (pe_chain op_le op_le (pv 1) (pv 0) (pv 2)))))
 walk_at "ps"
 unfold Vbbhak.inside at h
 split
 ·rename_i h1;simpa [h1] using h
 ·rename_i h1;simpa [h1] using h
noncomputable def spB (f:Int->Bool):Sp:=fun vs H Q _=>∃ v,vs=[.int v]∧Q (.bl (f v)) H
noncomputable def sp_is_switch (_:Txt K mg):Sp:=spB fun v=>Vbbhak.inside v 0 1
noncomputable def sp_is_class (_:Txt K mg):Sp:=spB Vbbhak.isClass
noncomputable def sp_is_form (_:Txt K mg):Sp:=spB Vbbhak.isForm
noncomputable def sp_is_priority (_:Txt K mg):Sp:=spB fun v=>Vbbhak.inside v 0 15
noncomputable def sp_is_copies (_:Txt K mg):Sp:=spB fun v=>Vbbhak.inside v 1 255
noncomputable def sp_is_note_every (_:Txt K mg):Sp:=spB fun v=>Vbbhak.inside v 1 1000
noncomputable def sp_is_back (_:Txt K mg):Sp:=spB fun v=>Vbbhak.inside v 1 1000
noncomputable def sp_is_from (_:Txt K mg):Sp:=spB fun v=>Vbbhak.inside v 1 1000000
noncomputable def sp_is_most (_:Txt K mg):Sp:=spB fun v=>Vbbhak.inside v 1 100
noncomputable def sp_is_writer (_:Txt K mg):Sp:=spB Vbbhak.isWriter
noncomputable def sp_is_letter (_:Txt K mg):Sp:=spB fun v=>Vbbhak.inside v 65 90
noncomputable def sp_is_digit (_:Txt K mg):Sp:=spB fun v=>Vbbhak.inside v 48 57
theorem ok_is_switch (T:Txt K mg):FO P w base 2 T.is_switch (sp_is_switch T):=by
 o_headS (1 T.is_switch.F.ok sc_is_switch)
 obtain ⟨v,rfl,h⟩:=h
 o_headS (2 (pss_one (ps_ret (pcf T.within (ok_within T) hr (pa_cons (pv 0) (pa_cons pe_int (pa1 pe_int)))))))
 walk_at "ps"
 exact ⟨_,_,_,rfl,h⟩
theorem ok_is_class (T:Txt K mg):FO P w base 2 T.is_class (sp_is_class T):=by
 o_headS (1 T.is_class.F.ok sc_is_class)
 obtain ⟨v,rfl,h⟩:=h
 o_headS (2 (pss_one (ps_ret (pcf T.within (ok_within T) hr (pa_cons (pv 0) (pa_cons pe_int (pa1 pe_int)))))))
 walk_at "ps"
 exact ⟨_,_,_,rfl,h⟩
theorem ok_is_form (T:Txt K mg):FO P w base 2 T.is_form (sp_is_form T):=by
 o_headS (1 T.is_form.F.ok sc_is_form)
 obtain ⟨v,rfl,h⟩:=h
 o_headS (2 (pss_one (ps_ret (pcf T.within (ok_within T) hr (pa_cons (pv 0) (pa_cons pe_int (pa1 pe_int)))))))
 walk_at "ps"
 exact ⟨_,_,_,rfl,h⟩
theorem ok_is_priority (T:Txt K mg):FO P w base 2 T.is_priority (sp_is_priority T):=by
 o_headS (1 T.is_priority.F.ok sc_is_priority)
 obtain ⟨v,rfl,h⟩:=h
 o_headS (2 (pss_one (ps_ret (pcf T.within (ok_within T) hr (pa_cons (pv 0) (pa_cons pe_int (pa1 pe_int)))))))
 walk_at "ps"
 exact ⟨_,_,_,rfl,h⟩
theorem ok_is_copies (T:Txt K mg):FO P w base 2 T.is_copies (sp_is_copies T):=by
 o_headS (1 T.is_copies.F.ok sc_is_copies)
 obtain ⟨v,rfl,h⟩:=h
 o_headS (2 (pss_one (ps_ret (pcf T.within (ok_within T) hr (pa_cons (pv 0) (pa_cons pe_int (pa1 pe_int)))))))
 walk_at "ps"
 exact ⟨_,_,_,rfl,h⟩
theorem ok_is_note_every (T:Txt K mg):FO P w base 2 T.is_note_every (sp_is_note_every T):=by
 o_headS (1 T.is_note_every.F.ok sc_is_note_every)
 obtain ⟨v,rfl,h⟩:=h
 o_headS (2 (pss_one (ps_ret (pcf T.within (ok_within T) hr (pa_cons (pv 0) (pa_cons pe_int (pa1 pe_int)))))))
 walk_at "ps"
 exact ⟨_,_,_,rfl,h⟩
theorem ok_is_back (T:Txt K mg):FO P w base 2 T.is_back (sp_is_back T):=by
 o_headS (1 T.is_back.F.ok sc_is_back)
 obtain ⟨v,rfl,h⟩:=h
 o_headS (2 (pss_one (ps_ret (pcf T.within (ok_within T) hr (pa_cons (pv 0) (pa_cons pe_int (pa1 pe_int)))))))
 walk_at "ps"
 exact ⟨_,_,_,rfl,h⟩
theorem ok_is_from (T:Txt K mg):FO P w base 2 T.is_from (sp_is_from T):=by
 o_headS (1 T.is_from.F.ok sc_is_from)
 obtain ⟨v,rfl,h⟩:=h
 o_headS (2 (pss_one (ps_ret (pcf T.within (ok_within T) hr (pa_cons (pv 0) (pa_cons pe_int (pa1 pe_int)))))))
 walk_at "ps"
 exact ⟨_,_,_,rfl,h⟩
theorem ok_is_most (T:Txt K mg):FO P w base 2 T.is_most (sp_is_most T):=by
 o_headS (1 T.is_most.F.ok sc_is_most)
 obtain ⟨v,rfl,h⟩:=h
 o_headS (2 (pss_one (ps_ret (pcf T.within (ok_within T) hr (pa_cons (pv 0) (pa_cons pe_int (pa1 pe_int)))))))
 walk_at "ps"
 exact ⟨_,_,_,rfl,h⟩
theorem ok_is_writer (T:Txt K mg):FO P w base 2 T.is_writer (sp_is_writer T):=by
 o_headS (1 T.is_writer.F.ok sc_is_writer)
 obtain ⟨v,rfl,h⟩:=h
 o_headS (2 (pss_one (ps_ret (pcf T.within (ok_within T) hr (pa_cons (pv 0) (pa_cons pe_int (pa1 (pgi T.g_WRITERS))))))))
 walk_at "ps"
 exact ⟨_,_,_,rfl,h⟩
theorem ok_is_letter (T:Txt K mg):FO P w base 2 T.is_letter (sp_is_letter T):=by
 o_headS (1 T.is_letter.F.ok sc_is_letter)
 obtain ⟨v,rfl,h⟩:=h
 o_headS (2 (pss_one (ps_ret (pcf T.within (ok_within T) hr (pa_cons (pv 0) (pa_cons pe_int (pa1 pe_int)))))))
 walk_at "ps"
 exact ⟨_,_,_,rfl,h⟩
theorem ok_is_digit (T:Txt K mg):FO P w base 2 T.is_digit (sp_is_digit T):=by
 o_headS (1 T.is_digit.F.ok sc_is_digit)
 obtain ⟨v,rfl,h⟩:=h
 o_headS (2 (pss_one (ps_ret (pcf T.within (ok_within T) hr (pa_cons (pv 0) (pa_cons pe_int (pa1 pe_int)))))))
 walk_at "ps"
 exact ⟨_,_,_,rfl,h⟩
end
end
section
section
variable {P:Program} {w:World} {K:PySem.W.Frag} {mg:Str->Option Value} {base:Heap}
noncomputable def sp_is_mark (_:Txt K mg):Sp:=fun vs H Q _=>∃ a xs,vs=[.ref a]∧SqT K H a xs∧Q (.bl (decide ((xs.length:Int)=1))) H
theorem ok_is_mark (T:Txt K mg):FO P w base 1 T.is_mark (sp_is_mark T):=by
 o_headS (1 T.is_mark.F.ok sc_is_mark)
 obtain ⟨a,xs,rfl,h⟩:=h
 o_headS (2 (pss_one (ps_ret (pe_cmpR op_eq (pe_callB (r:=rLen K) call_len_seq rfl T.n_len bt_len (pa1 (pv 0))) pe_int (nomark _)))))
 obtain ⟨h1,h⟩:=h
 walk_at "ps"
 exact ⟨xs,Or.inr h1,h⟩
noncomputable def sp_first_step (_:Txt K mg):Sp:=fun vs H Q _=>∃ v,vs=[.int v]∧Q (.int (if v=1 then 0 else 1)) H
theorem ok_first_step (T:Txt K mg):FO P w base 1 T.first_step (sp_first_step T):=by
 o_headS (1 T.first_step.F.ok sc_first_step)
 obtain ⟨v,rfl,h⟩:=h
 o_headS (2 (pss_cons (ps_if (pt_cmpR op_eq (pv 0) pe_int (nomark _)) (pss_one (ps_ret pe_int)) pss_nil) (pss_one (ps_ret pe_int))))
 walk_at "ps"
 split at h <;> simp_all
noncomputable def sp_is_sheet (_:Txt K mg):Sp:=fun vs H Q _=>∃ st n sep,vs=[.int st,.int n,.int sep]∧Q (.bl (if st=0∨st=n + 1 then decide (sep=1) else decide (st≤n))) H
theorem ok_is_sheet (T:Txt K mg):FO P w base 1 T.is_sheet (sp_is_sheet T):=by
 o_headS (1 T.is_sheet.F.ok sc_is_sheet)
 obtain ⟨st,n,sep,rfl,h⟩:=h
 o_headS (2 (pss_cons (ps_if (PW.pt (pw_or (pt_cmpR op_eq (pv 0) pe_int (nomark _)) (pw_or1 (pt_cmpR op_eq (pv 0) (pe_op op_add (pv 1) pe_int) (nomark _))))) (pss_one (ps_ret (pe_cmpR op_eq (pv 2) pe_int (nomark _)))) pss_nil) (pss_one (ps_ret (pe_cmpR op_le (pv 0) (pv 1) (nomark _))))))
 walk_at "ps"
 repeat' split
 all_goals simp_all
noncomputable def sp_strike (_:Txt K mg):Sp:=fun vs H Q _=>∃ a b,vs=[.int a,.int b]∧Q (.int (if a=32 then b else if b=32∨a=b then a else 35)) H
theorem ok_strike (T:Txt K mg):FO P w base 1 T.strike (sp_strike T):=by
 o_headS (1 T.strike.F.ok sc_strike)
 obtain ⟨a,b,rfl,h⟩:=h
 o_headS (2 (pss_cons (ps_if (pt_cmpR op_eq (pv 0) (pgi T.g_BLANK) (nomark _)) (pss_one (ps_ret (pv 1))) pss_nil) (pss_cons (ps_if (PW.pt (pw_or (pt_cmpR op_eq (pv 1) (pgi T.g_BLANK) (nomark _)) (pw_or1 (pt_cmpR op_eq (pv 0) (pv 1) (nomark _))))) (pss_one (ps_ret (pv 0))) pss_nil) (pss_one (ps_ret (pgi T.g_STRUCK))))))
 walk_at "ps"
 repeat' split
 all_goals simp_all
noncomputable def sp_Output_is_behind_end (T:Txt K mg):Sp:=fun vs H Q _=>∃ a pl dx f c s,vs=[.ref a,.ref pl]∧H a=some (OO T dx f)∧SqT K H pl [.int c,.int s]∧Q (.bl (decide (f.copies < c))) H
theorem ok_Output_is_behind_end (T:Txt K mg):MO P w base mg 1 T.Output_is_behind_end (sp_Output_is_behind_end T):=by
 o_headS (1 T.Output_is_behind_end.F.ok sc_Output_is_behind_end)
 obtain ⟨a,pl,dx,f,c,st,rfl,h⟩:=h
 o_headS (2 (pss_one (ps_ret (pe_cmpR op_gt (pe_ix ix_tup (pv 1) pe_int (fun _ _=>rfl)) (pf (pv 0)) (nomark _)))))
 obtain ⟨h1,h2,h⟩:=h
 walk_at "ps"
 refine ⟨_,h2,_,rfl,?_⟩
 simp only [h1]
 walk_at "ps"
 exact h
noncomputable def sp_Output_is_done (T:Txt K mg):Sp:=fun vs H Q _=>∃ a dx f c s,vs=[.ref a]∧H a=some (OO T dx f)∧PlV K H f.place c s∧Q (.bl (decide (f.copies < c))) H
theorem ok_Output_is_done (T:Txt K mg):MO P w base mg 2 T.Output_is_done (sp_Output_is_done T):=by
 o_headS (1 T.Output_is_done.F.ok sc_Output_is_done)
 obtain ⟨a,dx,f,c,st,rfl,h⟩:=h
 o_headS (2 (pss_one (ps_ret (pcm (pv 0) T.cl_Output T.Output_is_behind_end (ok_Output_is_behind_end T) hr (pa1 (pf (pv 0)))))))
 obtain ⟨h1,⟨pl,h2,h3⟩,h⟩:=h
 (try refine seq1 ?_);walk_at "pq";(try (simp only [h1];(try walk_at "pq")));(repeat (refine seq1 ?_;(try walk_at "pq");(try (simp only [h1];(try walk_at "pq")))));(try walk_at "ps");(try (simp only [h1];(try walk_at "ps")))
 rw [h2]
 exact ⟨_,_,_,_,_,_,rfl,h1,h3,h⟩
noncomputable def sp_Output_end (T:Txt K mg):Sp:=fun vs H Q _=>∃ a dx f,vs=[.ref a]∧H a=some (OO T dx f)∧∀ p,H p=none->Q (.ref p) (upd H p (.tup [.int (f.copies + 1),.int 0]))
theorem ok_Output_end (T:Txt K mg):MO P w base mg 1 T.Output_end (sp_Output_end T):=by
 o_headS (1 T.Output_end.F.ok sc_Output_end)
 obtain ⟨a,dx,f,rfl,h⟩:=h
 o_headS (2 (pss_one (ps_ret (pe_tup (pa_cons (pe_op op_add (pf (pv 0)) pe_int) (pa1 pe_int))))))
 obtain ⟨h1,h⟩:=h
 (try refine seq1 ?_);walk_at "pq";(try (simp only [h1];(try walk_at "pq")));(repeat (refine seq1 ?_;(try walk_at "pq");(try (simp only [h1];(try walk_at "pq")))));(try walk_at "ps");(try (simp only [h1];(try walk_at "ps")))
 exact h
noncomputable def sp_Output_copies_begun (T:Txt K mg):Sp:=fun vs H Q _=>∃ a dx f c s,vs=[.ref a]∧H a=some (OO T dx f)∧PlV K H f.place c s∧Q (.int (if s=0 then c - 1 else c)) H
theorem ok_Output_copies_begun (T:Txt K mg):MO P w base mg 1 T.Output_copies_begun (sp_Output_copies_begun T):=by
 o_headS (1 T.Output_copies_begun.F.ok sc_Output_copies_begun)
 obtain ⟨a,dx,f,c,st,rfl,h⟩:=h
 o_headS (2 (pss_cons (ps_if (pt_cmpR op_eq (pe_ix ix_tup (pf (pv 0)) pe_int (fun _ _=>rfl)) pe_int (nomark _)) (pss_one (ps_ret (pe_op op_sub (pe_ix ix_tup (pf (pv 0)) pe_int (fun _ _=>rfl)) pe_int))) pss_nil) (pss_one (ps_ret (pe_ix ix_tup (pf (pv 0)) pe_int (fun _ _=>rfl))))))
 obtain ⟨h1,⟨pl,h2,h3⟩,h⟩:=h
 (try refine seq1 ?_);walk_at "pq";(try (simp only [h1];(try walk_at "pq")));(repeat (refine seq1 ?_;(try walk_at "pq");(try (simp only [h1];(try walk_at "pq")))));(try walk_at "ps");(try (simp only [h1];(try walk_at "ps")))
 simp only [h2]
 walk_at "ps"
 refine ⟨_,h3,_,rfl,?_⟩
 walk_at "ps"
 split
 ·refine ⟨_,h3,_,rfl,?_⟩
  walk_at "ps"
  simp_all
 ·refine ⟨_,h3,_,rfl,?_⟩
  simp_all
noncomputable def sp_Spool_writer_at (T:Txt K mg):Sp:=fun vs H Q _=>∃ a dx f n ws v,vs=[.ref a,.int n]∧H a=some (SO T dx f)∧SqL K H f.writers ws∧atI ws (n - 1)=some v∧Q v H
theorem ok_Spool_writer_at (T:Txt K mg):MO P w base mg 1 T.Spool_writer_at (sp_Spool_writer_at T):=by
 o_headS (1 T.Spool_writer_at.F.ok sc_Spool_writer_at)
 obtain ⟨a,dx,f,n,ws,v,rfl,h⟩:=h
 o_headS (2 (pss_one (ps_ret (pe_ix ix_list (pf (pv 0)) (pe_op op_sub (pv 1) pe_int) (fun _ _=>rfl)))))
 obtain ⟨h1,h2,h3,h⟩:=h
 (try refine seq1 ?_);walk_at "pq";(try (simp only [h1];(try walk_at "pq")));(repeat (refine seq1 ?_;(try walk_at "pq");(try (simp only [h1];(try walk_at "pq")))));(try walk_at "ps");(try (simp only [h1];(try walk_at "ps")))
 exact ⟨_,h2,_,h3,h⟩
noncomputable def sp_is_paper_full (T:Txt K mg):Sp:=fun vs H Q _=>∃ a b dx f dy g p es,vs=[.ref a,.ref b]∧H a=some (SO T dx f)∧H b=some (WO T dy g)∧g.paper = .ref p∧H p=some (.lst es)∧Q (.bl (decide (f.room - 2 < (es.length:Int)))) H
theorem ok_is_paper_full (T:Txt K mg):FO P w base 1 T.is_paper_full (sp_is_paper_full T):=by
 o_headS (1 T.is_paper_full.F.ok sc_is_paper_full)
 obtain ⟨a,b,dx,f,dy,g,p,es,rfl,h⟩:=h
 o_headS (2 (pss_one (ps_ret (pe_cmpR op_gt (pe_callB (r:=rLen K) call_len_seq rfl T.n_len bt_len (pa1 (pf (pv 1)))) (pe_op op_sub (pf (pv 0)) pe_int) (nomark _)))))
 obtain ⟨h1,h2,h3,h4,h⟩:=h
 (try refine seq1 ?_);walk_at "pq";(try (simp only [h2];(try walk_at "pq")));(repeat (refine seq1 ?_;(try walk_at "pq");(try (simp only [h2];(try walk_at "pq")))));(try walk_at "ps");(try (simp only [h2];(try walk_at "ps")))
 rw [h3]
 walk_at "ps"
 refine ⟨es,Or.inl (SqL.of h4),?_⟩
 simp only [h1]
 walk_at "ps"
 exact h
noncomputable def sp_Reader_init (T:Txt K mg):Sp:=fun vs H Q _=>∃ a dx c,vs=[.ref a,c]∧H a=some (.ins T.c_Reader dx [])∧Q .non (upd H a (RO T dx c 0))
theorem ok_Reader_init (T:Txt K mg):NO P w base mg 1 T.Reader_init (sp_Reader_init T):=by
 o_headS (1 T.Reader_init.F.ok sc_Reader_init)
 obtain ⟨a,dx,c,rfl,h⟩:=h
 o_headS (2 (pss_cons (ps_fld (pv 0) (pv 1) rfl) (pss_one (ps_fld (pv 0) pe_int rfl))))
 obtain ⟨h1,h⟩:=h
 (try refine seq1 ?_);walk_at "pq";(try (simp only [h1];(try walk_at "pq")));(repeat (refine seq1 ?_;(try walk_at "pq");(try (simp only [h1];(try walk_at "pq")))));(try walk_at "ps");(try (simp only [h1];(try walk_at "ps")))
 refine ⟨by decide,by simp [putF],?_⟩
 exact h
noncomputable def sp_Reader_is_at_end (T:Txt K mg):Sp:=fun vs H Q _=>∃ a dx p i xs,vs=[.ref a]∧H a=some (RO T dx (.ref p) i)∧SqL K H p xs∧Q (.bl (decide ((xs.length:Int)≤i))) H
theorem ok_Reader_is_at_end (T:Txt K mg):MO P w base mg 1 T.Reader_is_at_end (sp_Reader_is_at_end T):=by
 o_headS (1 T.Reader_is_at_end.F.ok sc_Reader_is_at_end)
 obtain ⟨a,dx,p,i,xs,rfl,h⟩:=h
 o_headS (2 (pss_one (ps_ret (pe_cmpR op_ge (pf (pv 0)) (pe_callB (r:=rLen K) call_len_seq rfl T.n_len bt_len (pa1 (pf (pv 0)))) (nomark _)))))
 obtain ⟨h1,h2,h⟩:=h
 (try refine seq1 ?_);walk_at "pq";(try (simp only [h1];(try walk_at "pq")));(repeat (refine seq1 ?_;(try walk_at "pq");(try (simp only [h1];(try walk_at "pq")))));(try walk_at "ps");(try (simp only [h1];(try walk_at "ps")))
 exact ⟨_,Or.inl h2,h⟩
noncomputable def sp_Reader_take_one (T:Txt K mg):Sp:=fun vs H Q _=>∃ a dx p i xs v,vs=[.ref a]∧H a=some (RO T dx (.ref p) i)∧SqL K (upd H a (RO T dx (.ref p) (i + 1))) p xs∧atI xs i=some v∧Q v (upd H a (RO T dx (.ref p) (i + 1)))
theorem ok_Reader_take_one (T:Txt K mg):MO P w base mg 1 T.Reader_take_one (sp_Reader_take_one T):=by
 o_headS (1 T.Reader_take_one.F.ok sc_Reader_take_one)
 obtain ⟨a,dx,p,i,xs,v,rfl,h⟩:=h
 o_headS (2 (pss_cons (ps_fldaug (pv 0) pe_int in_add) (pss_one (ps_ret (pe_ix ix_list (pf (pv 0)) (pe_op op_sub (pf (pv 0)) pe_int) (fun _ _=>rfl))))))
 obtain ⟨h1,h2,h3,h⟩:=h
 (try refine seq1 ?_);walk_at "pq";(try (simp only [h1];(try walk_at "pq")));(repeat (refine seq1 ?_;(try walk_at "pq");(try (simp only [h1];(try walk_at "pq")))));(try walk_at "ps");(try (simp only [h1];(try walk_at "ps")))
 refine ⟨xs,h2,v,?_,h⟩
 rw [show i + 1 - 1=i by omega]
 exact h3
noncomputable def sp_Reader_take (T:Txt K mg):Sp:=fun vs H Q _=>∃ a dx p i n xs,vs=[.ref a,.int n]∧H a=some (RO T dx (.ref p) i)∧SqL K (upd H a (RO T dx (.ref p) (i + n))) p xs∧∀ q,upd H a (RO T dx (.ref p) (i + n)) q=none->Q (.ref q) (upd (upd H a (RO T dx (.ref p) (i + n))) q (.lst (cutV xs (some i) (some (i + n)))))
theorem ok_Reader_take (T:Txt K mg):MO P w base mg 1 T.Reader_take (sp_Reader_take T):=by
 o_headS (1 T.Reader_take.F.ok sc_Reader_take)
 obtain ⟨a,dx,p,i,n,xs,rfl,h⟩:=h
 o_headS (2 (pss_cons (ps_fldaug (pv 0) (pv 1) in_add) (pss_one (ps_ret (pe_slice sl_list (pf (pv 0)) (po_some (pe_op op_sub (pf (pv 0)) (pv 1))) (po_some (pf (pv 0))))))))
 obtain ⟨h1,h2,h⟩:=h
 walk_at "ps"
 simp only [h1,rSlL]
 walk_at "ps"
 refine ⟨xs,h2,?_⟩
 rw [show i + n - n=i by omega]
 exact h
noncomputable def sp_Writer_switch_on (T:Txt K mg):Sp:=fun vs H Q _=>∃ a dx f n,vs=[.ref a,.int n]∧H a=some (WO T dx f)∧Q .non (upd H a (WO T dx { f with on:=true,form:=n }))
theorem ok_Writer_switch_on (T:Txt K mg):MO P w base mg 1 T.Writer_switch_on (sp_Writer_switch_on T):=by
 o_headS (1 T.Writer_switch_on.F.ok sc_Writer_switch_on)
 obtain ⟨a,dx,f,n,rfl,h⟩:=h
 o_headS (2 (pss_cons (ps_fld (pv 0) (pe_bl) rfl) (pss_one (ps_fld (pv 0) (pv 1) rfl))))
 obtain ⟨h1,h⟩:=h
 (try refine seq1 ?_);walk_at "pq";(try (simp only [h1];(try walk_at "pq")));(repeat (refine seq1 ?_;(try walk_at "pq");(try (simp only [h1];(try walk_at "pq")))));(try walk_at "ps");(try (simp only [h1];(try walk_at "ps")))
 exact h
noncomputable def toldF (s e c:V) (fs:List (Str × V)):List (Str × V):=putF "classes" c (putF "note_every" e (putF "separators" s fs))
noncomputable def sp_Writer_be_told (T:Txt K mg):Sp:=fun vs H Q _=>∃ a dx fs s e c,vs=[.ref a,s,e,c]∧H a=some (.ins T.c_Writer dx fs)∧fs.length < 900∧Q .non (upd H a (.ins T.c_Writer dx (toldF s e c fs)))
theorem ok_Writer_be_told (T:Txt K mg):MO P w base mg 1 T.Writer_be_told (sp_Writer_be_told T):=by
 o_headS (1 T.Writer_be_told.F.ok sc_Writer_be_told)
 obtain ⟨a,dx,fs,s1,e,c,rfl,h⟩:=h
 o_headS (2 (pss_cons (ps_fld (pv 0) (pv 1) rfl) (pss_cons (ps_fld (pv 0) (pv 2) rfl) (pss_one (ps_fld (pv 0) (pv 3) rfl)))))
 obtain ⟨h1,h2,h⟩:=h
 (try refine seq1 ?_);walk_at "pq";(try (simp only [h1];(try walk_at "pq")));(repeat (refine seq1 ?_;(try walk_at "pq");(try (simp only [h1];(try walk_at "pq")))));(try walk_at "ps");(try (simp only [h1];(try walk_at "ps")))
 have l1:=putF_len "separators" s1 fs
 have l2:=putF_len "note_every" e (putF "separators" s1 fs)
 exact ⟨by omega,by omega,by omega,h⟩
noncomputable def emptyF (T:Txt K mg) (fs:List (Str × V)):List (Str × V):=putF "first_step" (.int 0) (putF "since" (.int 0) (putF "noted_place" (.ref T.a_NO_PLACE) (putF "place" (.ref T.a_NO_PLACE) (putF "hand" (.int 0) fs))))
noncomputable def sp_Writer_empty_hand (T:Txt K mg):Sp:=fun vs H Q _=>∃ a dx fs,vs=[.ref a]∧H a=some (.ins T.c_Writer dx fs)∧fs.length < 900∧Q .non (upd H a (.ins T.c_Writer dx (emptyF T fs)))
theorem ok_Writer_empty_hand (T:Txt K mg):MO P w base mg 1 T.Writer_empty_hand (sp_Writer_empty_hand T):=by
 o_headS (1 T.Writer_empty_hand.F.ok sc_Writer_empty_hand)
 obtain ⟨a,dx,fs,rfl,h⟩:=h
 o_headS (2 (pss_cons (ps_fld (pv 0) pe_int rfl) (pss_cons (ps_fld (pv 0) (pgi T.g_NO_PLACE) rfl) (pss_cons (ps_fld (pv 0) (pgi T.g_NO_PLACE) rfl) (pss_cons (ps_fld (pv 0) pe_int rfl) (pss_one (ps_fld (pv 0) pe_int rfl)))))))
 obtain ⟨h1,h2,h⟩:=h
 (try refine seq1 ?_);walk_at "pq";(try (simp only [h1];(try walk_at "pq")));(repeat (refine seq1 ?_;(try walk_at "pq");(try (simp only [h1];(try walk_at "pq")))));(try walk_at "ps");(try (simp only [h1];(try walk_at "ps")))
 have l1:=putF_len "hand" (.int 0) fs
 have l2:=putF_len "place" (.ref T.a_NO_PLACE) (putF "hand" (.int 0) fs)
 have l3:=putF_len "noted_place" (.ref T.a_NO_PLACE) (putF "place" (.ref T.a_NO_PLACE) (putF "hand" (.int 0) fs))
 have l4:=putF_len "since" (.int 0) (putF "noted_place" (.ref T.a_NO_PLACE) (putF "place" (.ref T.a_NO_PLACE) (putF "hand" (.int 0) fs)))
 exact ⟨by omega,by omega,by omega,by omega,by omega,h⟩
noncomputable def Wf.note (f:Wf):Wf:={ f with noted:=f.serial,nplace:=f.place,since:=0 }
noncomputable def sp_Writer_note (T:Txt K mg):Sp:=fun vs H Q _=>∃ a dx f,vs=[.ref a]∧H a=some (WO T dx f)∧Q .non (upd H a (WO T dx f.note))
theorem ok_Writer_note (T:Txt K mg):MO P w base mg 1 T.Writer_note (sp_Writer_note T):=by
 o_headS (1 T.Writer_note.F.ok sc_Writer_note)
 obtain ⟨a,dx,f,rfl,h⟩:=h
 o_headS (2 (pss_cons (ps_fld (pv 0) (pf (pv 0)) rfl) (pss_cons (ps_fld (pv 0) (pf (pv 0)) rfl) (pss_one (ps_fld (pv 0) pe_int rfl)))))
 obtain ⟨h1,h⟩:=h
 (try refine seq1 ?_);walk_at "pq";(try (simp only [h1];(try walk_at "pq")));(repeat (refine seq1 ?_;(try walk_at "pq");(try (simp only [h1];(try walk_at "pq")))));(try walk_at "ps");(try (simp only [h1];(try walk_at "ps")))
 exact h
noncomputable def sp_Writer_put_mark (T:Txt K mg):Sp:=fun vs H Q _=>∃ a dx f p es,vs=[.ref a]∧H a=some (WO T dx f)∧f.paper = .ref p∧H p=some (.lst es)∧es.length < sizeLine ∧
 ∀ t H',H t=none->H' t=some (.tup [.int f.serial])->H' p=some (.lst (es++[.ref t]))->Ex [p] H H'->Q .non H'
theorem ok_Writer_put_mark (T:Txt K mg):MO P w base mg 1 T.Writer_put_mark (sp_Writer_put_mark T):=by
 o_headS (1 T.Writer_put_mark.F.ok sc_Writer_put_mark)
 obtain ⟨a,dx,f,p,es,rfl,h⟩:=h
 o_headS (2 (pss_one (ps_expr (pe_bm PySem.F.plainAttrs_list PySem.F.slot_list_append PySem.F.type_list_append mt_append (pf (pv 0)) (pa1 (pe_tup (pa1 (pf (pv 0)))))))))
 obtain ⟨h1,h2,h3,h4,h⟩:=h
 (try refine seq1 ?_);walk_at "pq";(try (simp only [h1];(try walk_at "pq")));(repeat (refine seq1 ?_;(try walk_at "pq");(try (simp only [h1];(try walk_at "pq")))));(try walk_at "ps");(try (simp only [h1];(try walk_at "ps")))
 simp only [h2]
 refine ⟨Or.inl ⟨rfl,_,SqL.of h3⟩,fun t ht=>?_⟩
 simp only [rAppend]
 walk_at "ps"
 simp only [upd_ne (ne_of_none h3 ht),h3]
 walk_at "ps"
 exact ⟨h4,h t _ ht (by rw [upd_ne (ne_of_none h3 ht).symm,upd_same]) upd_same (((Ex.of_same Same.rfl').new ht).then (by simp))⟩
noncomputable def sp_Writer_begin_copy (T:Txt K mg):Sp:=fun vs H Q _=>∃ a dx f pl c s,vs=[.ref a,.ref pl]∧H a=some (WO T dx f)∧SqT K (upd H a (WO T dx { f with place:=.ref pl })) pl [.int c,.int s]∧Q .non (upd H a (WO T dx { f with place:=.ref pl,first:=s,noted:=f.serial,nplace:=.ref pl,since:=0 }))
theorem ok_Writer_begin_copy (T:Txt K mg):MO P w base mg 2 T.Writer_begin_copy (sp_Writer_begin_copy T):=by
 o_headS (1 T.Writer_begin_copy.F.ok sc_Writer_begin_copy)
 obtain ⟨a,dx,f,pl,c,st,rfl,h⟩:=h
 o_headS (2 (pss_cons (ps_fld (pv 0) (pv 1) rfl) (pss_cons (ps_fld (pv 0) (pe_ix ix_tup (pv 1) pe_int (fun _ _=>rfl)) rfl) (pss_one (ps_expr (pcm0 (pv 0) T.cl_Writer T.Writer_note (ok_Writer_note T) hr))))))
 obtain ⟨h1,h2,h⟩:=h
 (try refine seq1 ?_);walk_at "pq";(try (simp only [h1];(try walk_at "pq")));(repeat (refine seq1 ?_;(try walk_at "pq");(try (simp only [h1];(try walk_at "pq")))));(try walk_at "ps");(try (simp only [h1];(try walk_at "ps")))
 refine ⟨_,h2,_,rfl,?_⟩
 exact ⟨a,dx,{ f with place:=.ref pl,first:=st },rfl,upd_same,by rw [upd_upd];exact h⟩
noncomputable def Wf.off (f:Wf) (c:V):Wf:={ f with on:=false,form:=0,drain:=false,sep:=0,every:=0,classes:=c }
noncomputable def offF (c:V) (fs:List (Str × V)):List (Str × V):=toldF (.int 0) (.int 0) c (putF "draining" (.bl false) (putF "form" (.int 0) (putF "on" (.bl false) fs)))
noncomputable def sp_Writer_switch_off (T:Txt K mg):Sp:=fun vs H Q _=>∃ a dx fs,vs=[.ref a]∧H a=some (.ins T.c_Writer dx fs)∧fs.length < 800∧fs.lookup ("be_told" : Str)=none∧∀ c,H c=none->Q .non (upd (upd H c (.lst [])) a (.ins T.c_Writer dx (offF (.ref c) fs)))
theorem ok_Writer_switch_off (T:Txt K mg):MO P w base mg 2 T.Writer_switch_off (sp_Writer_switch_off T):=by
 o_headS (1 T.Writer_switch_off.F.ok sc_Writer_switch_off)
 obtain ⟨a,dx,fs,rfl,h⟩:=h
 o_headS (2 (pss_cons (ps_fld (pv 0) (pe_bl) rfl) (pss_cons (ps_fld (pv 0) pe_int rfl) (pss_cons (ps_fld (pv 0) (pe_bl) rfl) (pss_one (ps_expr (pcm (pv 0) T.cl_Writer T.Writer_be_told (ok_Writer_be_told T) hr (pa_cons pe_int (pa_cons pe_int (pa1 (pe_lst pa_nil)))))))))))
 obtain ⟨h1,h2,h3,h⟩:=h
 (try refine seq1 ?_);walk_at "pq";(try (simp only [h1];(try walk_at "pq")));(repeat (refine seq1 ?_;(try walk_at "pq");(try (simp only [h1];(try walk_at "pq")))));(try walk_at "ps");(try (simp only [h1];(try walk_at "ps")))
 have l1:=putF_len "on" (.bl false) fs
 have l2:=putF_len "form" (.int 0) (putF "on" (.bl false) fs)
 have l3:=putF_len "draining" (.bl false) (putF "form" (.int 0) (putF "on" (.bl false) fs))
 refine ⟨by omega,by omega,by omega,by rw [lookup_putF,if_neg (by decide +kernel),lookup_putF,if_neg (by decide +kernel),lookup_putF,if_neg (by decide +kernel)];exact h3,fun c hc=>?_⟩
 obtain ⟨hc,n⟩:=upd_none hc
 refine ⟨_,_,_,_,_,_,rfl,by rw [upd_ne n.symm,upd_same],by omega,?_⟩
 rw [upd_comm n,upd_upd]
 exact h c hc
noncomputable def Wf.empty (f:Wf) (v:V):Wf:={ f with hand:=0,place:=v,nplace:=v,since:=0,first:=0 }
noncomputable def sp_Writer_init (T:Txt K mg):Sp:=fun vs H Q _=>∃ a dx,vs=[.ref a]∧H a=some (.ins T.c_Writer dx []) ∧
 ∀ p c H',H p=none->H c=none->c ≠ p->H' a=some (WO T dx ⟨.ref p,0,0,false,0,false,0,0,.ref c,0,.ref T.a_NO_PLACE,.ref T.a_NO_PLACE,0,0⟩)->H' p=some (.lst [])->H' c=some (.lst [])->Ex [a] H H'->Q .non H'
theorem ok_Writer_init (T:Txt K mg):NO P w base mg 3 T.Writer_init (sp_Writer_init T):=by
 o_headS (1 T.Writer_init.F.ok sc_Writer_init)
 obtain ⟨a,dx,rfl,h⟩:=h
 o_headS (2 (pss_cons (ps_fld (pv 0) (pe_lst pa_nil) rfl) (pss_cons (ps_fld (pv 0) pe_int rfl) (pss_cons (ps_fld (pv 0) pe_int rfl) (pss_cons (ps_expr (pcm0 (pv 0) T.cl_Writer T.Writer_switch_off (ok_Writer_switch_off T) hr)) (pss_one (ps_expr (pcm0 (pv 0) T.cl_Writer T.Writer_empty_hand (ok_Writer_empty_hand T) hr))))))))
 obtain ⟨h1,h⟩:=h
 walk_at "ps"
 intro p hp
 have pa:a ≠ p:=ne_of_none h1 hp
 simp only [upd_ne pa,h1]
 walk_at "ps"
 have e:putF "noted_serial" (.int 0) (putF "serial" (.int 0) (putF "paper" (.ref p) []))=([("paper",.ref p),("serial",.int 0),("noted_serial",.int 0)]:List (Str × V)):=rfl
 rw [e]
 refine ⟨by simp,by show 1 < 1000;decide,by show 2 < 1000;decide,rfl,?_⟩
 refine ⟨a,dx,_,rfl,upd_same,by show 3 < 800;decide,rfl,fun c hc=>?_⟩
 obtain ⟨hc,ca⟩:=upd_none hc
 obtain ⟨hc,cp⟩:=upd_none hc
 refine ⟨_,_,upd_same,rfl,a,dx,_,rfl,upd_same,by show 9 < 900;decide,?_⟩
 refine h p c _ hp hc cp upd_same ?_ ?_ ?_
 ·simp only [upd_ne pa.symm,upd_ne cp.symm,upd_same]
 ·simp only [upd_ne ca,upd_same]
 ·exact ((((Ex.of_same (same_new hp)).then (by simp)).new (by rw [upd_ne ca,upd_ne cp];exact hc)).then (by simp)).then (by simp)
noncomputable def sp_Writer_ends_with_mark (T:Txt K mg):Sp:=fun vs H Q _=>∃ a dx f p es,vs=[.ref a]∧H a=some (WO T dx f)∧f.paper = .ref p∧H p=some (.lst es) ∧
 (es=[]->Q (.bl false) H)∧(∀ l e,es=l++[e]->∃ t xs,e = .ref t∧SqT K H t xs∧Q (.bl (decide ((xs.length:Int)=1))) H)
theorem ok_Writer_ends_with_mark (T:Txt K mg):MO P w base mg 2 T.Writer_ends_with_mark (sp_Writer_ends_with_mark T):=by
 o_headS (1 T.Writer_ends_with_mark.F.ok sc_Writer_ends_with_mark)
 obtain ⟨a,dx,f,p,es,rfl,h⟩:=h
 o_headS (2 (pss_one (ps_ret (pe_and (pe_cmpR op_gt (pe_callB (r:=rLen K) call_len_seq rfl T.n_len bt_len (pa1 (pf (pv 0)))) pe_int (nomark _)) (pe_one (pcf T.is_mark (ok_is_mark T) hr (pa1 (pe_ix ix_list (pf (pv 0)) (pe_un un_neg pe_int) (fun _ _=>rfl)))))))))
 obtain ⟨h1,h2,h3,h4,h5⟩:=h
 (try refine seq1 ?_);walk_at "pq";(try (simp only [h1];(try walk_at "pq")));(repeat (refine seq1 ?_;(try walk_at "pq");(try (simp only [h1];(try walk_at "pq")))));(try walk_at "ps");(try (simp only [h1];(try walk_at "ps")))
 simp only [h2]
 walk_at "ps"
 refine ⟨es,Or.inl (SqL.of h3),?_⟩
 split
 ·rename_i hl
  have hne:es ≠ []:=fun z=>by rw [z] at hl;simp at hl
  obtain ⟨t,xs,e1,e2,e3⟩:=h5 es.dropLast (es.getLast hne) (List.dropLast_concat_getLast hne).symm
  refine ⟨es,SqL.of h3,es.getLast hne,?_,t,xs,by rw [e1],e2,e3⟩
  have:=atI_last es.dropLast (es.getLast hne)
  rw [List.dropLast_concat_getLast hne] at this
  exact this
 ·rename_i hl
  refine h4 ?_
  cases es with
  | nil=>rfl
  | cons x r=>exact absurd (by simp only [List.length_cons];omega) hl
noncomputable def sp_Writer_go_back (T:Txt K mg):Sp:=fun vs H Q _=>∃ a dx f k c s p es,vs=[.ref a,.int k]∧H a=some (WO T dx f)∧PlV K H f.place c s∧f.paper = .ref p∧H p=some (.lst es)∧es.length < sizeLine ∧
 ∃ n,n=(if s - f.first < k then s - f.first else k)∧(¬ 0 < n->Q (.int n) (upd H a (WO T dx f.note))) ∧
  (0 < n->∀ t q H',H t=none->H q=none->H' t=some (.tup [.int (f.serial - n)])->H' q=some (.tup [.int c,.int (s - n)])->H' p=some (.lst (es++[.ref t])) →
   H' a=some (WO T dx { f with serial:=f.serial - n,noted:=f.serial - n,place:=.ref q,nplace:=.ref q,since:=0 })->Ex [a,p] H H'->Q (.int n) H')
theorem ok_Writer_go_back (T:Txt K mg):MO P w base mg 2 T.Writer_go_back (sp_Writer_go_back T):=by
 o_headS (1 T.Writer_go_back.F.ok sc_Writer_go_back)
 obtain ⟨a,dx,f,k,c,st,p,es,rfl,h⟩:=h
 o_headS (2 (pss_cons (pst 2 sc_Writer_go_back (pe_callB (r:=rMin) (call_min2 rfl) rfl T.n_min bt_min (pa_cons (pv 1) (pa1 (pe_op op_sub (pe_ix ix_tup (pf (pv 0)) pe_int (fun _ _=>rfl)) (pf (pv 0))))))) (pss_cons (ps_if (pt_cmpR op_gt (pv 2) pe_int (nomark _)) (pss_cons (ps_fld (pv 0) (pe_tup (pa_cons (pe_ix ix_tup (pf (pv 0)) pe_int (fun _ _=>rfl)) (pa1 (pe_op op_sub (pe_ix ix_tup (pf (pv 0)) pe_int (fun _ _=>rfl)) (pv 2))))) rfl) (pss_cons (ps_fldaug (pv 0) (pv 2) in_sub) (pss_one (ps_expr (pcm0 (pv 0) T.cl_Writer T.Writer_put_mark (ok_Writer_put_mark T) hr))))) pss_nil) (pss_cons (ps_expr (pcm0 (pv 0) T.cl_Writer T.Writer_note (ok_Writer_note T) hr)) (pss_one (ps_ret (pv 2)))))))
 obtain ⟨h1,⟨pl,h2,h3⟩,h4,h5,h6,n,hn,h7,h8⟩:=h
 (try refine seq1 ?_);walk_at "pq";(try (simp only [h1];(try walk_at "pq")));(repeat (refine seq1 ?_;(try walk_at "pq");(try (simp only [h1];(try walk_at "pq")))));(try walk_at "ps");(try (simp only [h1];(try walk_at "ps")))
 simp only [h2]
 walk_at "ps"
 refine ⟨_,h3,_,rfl,st,rfl,?_⟩
 rw [← hn]
 split
 ·rename_i hp
  refine ⟨_,h3,_,rfl,_,h3,_,rfl,st,rfl,fun q hq=>?_⟩
  have qa:a ≠ q:=ne_of_none h1 hq
  have qp:p ≠ q:=ne_of_none h5 hq
  rw [upd_ne qa,h1]
  walk_at "ps"
  have ap:p ≠ a:=ne_of h5 h1 (by intro z;cases z)
  refine ⟨a,dx,{ f with serial:=f.serial - n,place:=.ref q },p,es,rfl,upd_same,h4,by rw [upd_ne ap,upd_ne qp];exact h5,h6,fun t H' ht h't h'p ex=>?_⟩
  obtain ⟨ht,ta⟩:=upd_none ht
  obtain ⟨ht,tq⟩:=upd_none ht
  have h'a:H' a=some (WO T dx { f with serial:=f.serial - n,place:=.ref q }):=ex a _ upd_same (by simp [ap.symm])
  refine ⟨dx,_,h'a,rfl,a,dx,{ f with serial:=f.serial - n,place:=.ref q },rfl,h'a,?_⟩
  have h'q:H' q=some (.tup [.int c,.int (st - n)]):=ex q _ (by rw [upd_ne qa.symm,upd_same]) (by simp [qp.symm])
  have tp:t ≠ p:=fun z=>by rw [z,h5] at ht;cases ht
  refine h8 hp t q _ ht hq (by rw [upd_ne ta];exact h't) (by rw [upd_ne qa.symm];exact h'q) (by rw [upd_ne ap];exact h'p) upd_same ?_
  exact (((((Ex.of_same (same_new hq)).then (by simp)).trans (ex.mono (by simp)))).then (by simp))
 ·rename_i hp
  exact ⟨a,dx,f,rfl,h1,h7 hp⟩
noncomputable def sp_Writer_return_to_noted (T:Txt K mg):Sp:=fun vs H Q _=>∃ a dx f p es,vs=[.ref a]∧H a=some (WO T dx f)∧f.paper = .ref p∧H p=some (.lst es)∧es.length < sizeLine ∧
 ∃ b,((es=[]∧b=false)∨(∃ l t xs,es=l++[.ref t]∧SqT K H t xs∧(∀ H',Ex [a] H H'->SqT K H' t xs)∧b=decide ((xs.length:Int)=1)))∧(b=true->Q .non (upd H a (WO T dx { f with place:=f.nplace,serial:=f.noted,since:=0 }))) ∧
  (b=false->∀ t H',H t=none->H' t=some (.tup [.int f.noted])->H' p=some (.lst (es++[.ref t])) →
   H' a=some (WO T dx { f with place:=f.nplace,serial:=f.noted,since:=0 })->Ex [a,p] H H'->Q .non H')
theorem ok_Writer_return_to_noted (T:Txt K mg):MO P w base mg 3 T.Writer_return_to_noted (sp_Writer_return_to_noted T):=by
 o_headS (1 T.Writer_return_to_noted.F.ok sc_Writer_return_to_noted)
 obtain ⟨a,dx,f,p,es,rfl,h⟩:=h
 o_headS (2 (pss_cons (ps_fld (pv 0) (pf (pv 0)) rfl) (pss_cons (ps_fld (pv 0) (pf (pv 0)) rfl) (pss_cons (ps_fld (pv 0) pe_int rfl) (pss_one (ps_if (pt_not (pt_val (pcm0 (pv 0) T.cl_Writer T.Writer_ends_with_mark (ok_Writer_ends_with_mark T) hr))) (pss_one (ps_expr (pcm0 (pv 0) T.cl_Writer T.Writer_put_mark (ok_Writer_put_mark T) hr))) pss_nil))))))
 obtain ⟨h1,h2,h3,h4,b,h5,h6,h7⟩:=h
 (try refine seq1 ?_);walk_at "pq";(try (simp only [h1];(try walk_at "pq")));(repeat (refine seq1 ?_;(try walk_at "pq");(try (simp only [h1];(try walk_at "pq")))));(try walk_at "ps");(try (simp only [h1];(try walk_at "ps")))
 have ap:p ≠ a:=ne_of h3 h1 (by intro z;cases z)
 have hp':upd H a (WO T dx { f with place:=f.nplace,serial:=f.noted,since:=0 }) p=some (.lst es):=by rw [upd_ne ap];exact h3
 have fin:∀ b:Bool,((b=true->Q .non (upd H a (WO T dx { f with place:=f.nplace,serial:=f.noted,since:=0 }))) ∧
  (b=false->∀ t H',H t=none->H' t=some (.tup [.int f.noted])->H' p=some (.lst (es++[.ref t])) →
  H' a=some (WO T dx { f with place:=f.nplace,serial:=f.noted,since:=0 })->Ex [a,p] H H'->Q .non H')) →
  (if b=false then ∃ x x_1,upd H a (WO T dx { f with place:=f.nplace,serial:=f.noted,since:=0 }) a=some (HO.ins T.c_Writer x x_1)∧List.lookup (Str.ofString "put_mark") x_1=none ∧
    sp_Writer_put_mark T [V.ref a] (upd H a (WO T dx { f with place:=f.nplace,serial:=f.noted,since:=0 })) (fun x H1=>Q V.non H1) E0 else Q V.non (upd H a (WO T dx { f with place:=f.nplace,serial:=f.noted,since:=0 }))):=by
  intro b hb
  cases b with
  | true=>simpa using hb.1 rfl
  | false =>
   rw [if_pos rfl]
   refine ⟨_,_,upd_same,rfl,a,dx,_,p,es,rfl,upd_same,h2,hp',h4,fun t H' ht h't h'p ex=>?_⟩
   obtain ⟨ht,ta⟩:=upd_none ht
   refine hb.2 rfl t H' ht h't h'p (ex a _ upd_same (by simp [ap.symm])) (Ex.trans (Ex.upd (by simp)) (ex.mono (by simp)))
 refine ⟨a,dx,{ f with place:=f.nplace,serial:=f.noted,since:=0 },p,es,rfl,upd_same,h2,hp',fun z=>⟨false,rfl,fin false ?_⟩,fun l e z=>?_⟩
 ·rcases h5 with ⟨_,rfl⟩ | ⟨l,t,xs,e,_⟩
  ·exact ⟨h6,h7⟩
  ·rw [z] at e;simp at e
 ·rcases h5 with ⟨e1,_⟩ | ⟨l',t,xs,e1,e2,e3,e4⟩
  ·rw [e1] at z;simp at z
  ·rw [z] at e1
   have e5:=(List.append_inj' e1 rfl).2
   have e6:e = .ref t:=by simpa using e5
   exact ⟨t,xs,e6,e3 _ (Ex.upd (by simp)),_,rfl,fin _ (by rw [← e4];exact ⟨h6,h7⟩)⟩
noncomputable def sp_go_on_in_copy (T:Txt K mg):Sp:=fun vs H Q _=>∃ a dx f v,vs=[.ref a,v]∧H a=some (WO T dx f) ∧
 Q .non (upd H a (WO T dx (if f.every≤f.since + 1 then Wf.note { f with place:=v,since:=f.since + 1 } else { f with place:=v,since:=f.since + 1 })))
theorem ok_go_on_in_copy (T:Txt K mg):FO P w base 2 T.go_on_in_copy (sp_go_on_in_copy T):=by
 o_headS (1 T.go_on_in_copy.F.ok sc_go_on_in_copy)
 obtain ⟨a,dx,f,v,rfl,h⟩:=h
 o_headS (2 (pss_cons (ps_fld (pv 0) (pv 1) rfl) (pss_cons (ps_fldaug (pv 0) pe_int in_add) (pss_one (ps_if (pt_cmpR op_ge (pf (pv 0)) (pf (pv 0)) (nomark _)) (pss_one (ps_expr (pcm0 (pv 0) T.cl_Writer T.Writer_note (ok_Writer_note T) hr))) pss_nil)))))
 obtain ⟨h1,h⟩:=h
 (try refine seq1 ?_);walk_at "pq";(try (simp only [h1];(try walk_at "pq")));(repeat (refine seq1 ?_;(try walk_at "pq");(try (simp only [h1];(try walk_at "pq")))));(try walk_at "ps");(try (simp only [h1];(try walk_at "ps")))
 split at h
 ·rename_i hc
  rw [if_pos hc]
  refine ⟨a,dx,{ f with place:=v,since:=f.since + 1 },rfl,upd_same,?_⟩
  rw [upd_upd]
  exact h
 ·rename_i hc
  rw [if_neg hc]
  exact h
end
end
section
theorem cut_to (xs:List V) (n:Nat):cutV xs none (some (n:Int))=xs.take n:=by
 unfold cutV
 rw [HT.sIx_none,HT.sIx_nat,List.drop_zero,Nat.sub_zero]
 rcases Nat.le_total n xs.length with h | h
 ·rw [Nat.min_eq_left h]
 ·rw [Nat.min_eq_right h,List.take_length,List.take_of_length_le h]
theorem cut_ft (xs:List V) (i n:Nat):cutV xs (some (i:Int)) (some ((i:Int) + (n:Int)))=(xs.drop i).take n:=by
 unfold cutV
 rw [show (i:Int) + (n:Int)=((i + n:Nat):Int) by omega,HT.sIx_nat,HT.sIx_nat]
 rcases Nat.le_total xs.length i with h | h
 ·rw [Nat.min_eq_right h,List.drop_length,List.drop_of_length_le h];simp
 ·rw [Nat.min_eq_left h]
  rcases Nat.le_total (i + n) xs.length with h2 | h2
  ·rw [Nat.min_eq_left h2,show i + n - i=n by omega]
  ·rw [Nat.min_eq_right h2,List.take_of_length_le (by rw [List.length_drop];omega),List.take_of_length_le (by rw [List.length_drop];omega)]
theorem bvs_take (b:Vbbhak.Bytes) (n:Nat):(bvs b).take n=bvs (b.take n):=by unfold bvs ivs VB.vints;simp [List.map_take]
theorem ivs_take (b:List Int) (n:Nat):(ivs b).take n=ivs (b.take n):=by unfold ivs;simp [List.map_take]
theorem ivs_drop (b:List Int) (n:Nat):(ivs b).drop n=ivs (b.drop n):=by unfold ivs;simp [List.map_drop]
theorem bvs_at (b:Vbbhak.Bytes) (i:Nat) {c:UInt8} (h:b[i]? = some c):(bvs b)[i]? = some (.int (c.toNat:Int)):=by unfold bvs ivs VB.vints;simp [h]
theorem bvs_app (a b:Vbbhak.Bytes):bvs (a++b)=bvs a++bvs b:=by unfold bvs ivs VB.vints;simp
theorem bvs_at' {b:Vbbhak.Bytes} {i:Nat} {v:V} (h:(bvs b)[i]? = some v):∃ c,b[i]? = some c∧v = .int (c.toNat:Int):=by
 unfold bvs ivs VB.vints at h
 rw [List.map_map] at h
 exact at_map h
section
variable {P:Program} {w:World} {K:PySem.W.Frag} {mg:Str->Option Value} {base:Heap}
theorem c32 (c:UInt8):((c.toNat:Int)=32) ↔ c=32:=by
 constructor
 ·intro h
  apply UInt8.toNat_inj.mp
  rw [show (32:UInt8).toNat=32 from rfl];omega
 ·intro h;rw [h];rfl
noncomputable def sp_without_end_blanks (_:Txt K mg):Sp:=fun vs H Q _=>∃ a b,vs=[.ref a]∧SqL K H a (bvs b)∧∀ p,H p=none->Q (.ref p) (upd H p (.lst (bvs (Vbbhak.trimmed b))))
theorem ok_without_end_blanks (T:Txt K mg):FO P w base 1 T.without_end_blanks (sp_without_end_blanks T):=by
 o_headS (1 T.without_end_blanks.F.ok sc_without_end_blanks)
 obtain ⟨a,b,rfl,h⟩:=h
 o_headS (2 (pss_cons (pst 1 sc_without_end_blanks (pe_callB (r:=rLen K) call_len_seq rfl T.n_len bt_len (pa1 (pv 0)))) (pss_cons (ps_while PassesOwn.never (PW.pt (pw_and (pt_cmpR op_gt (pv 1) pe_int (nomark _)) (pw_and1 (pt_cmpR op_eq (pe_ix ix_list (pv 0) (pe_op op_sub (pv 1) pe_int) (fun _ _=>rfl)) (pgi T.g_BLANK) (nomark _))))) (pss_one (ps_aug (i:=1) sc_without_end_blanks.nd rfl (Or.inl rfl) pe_int ip_sub))) (pss_one (ps_ret (pe_slice sl_list (pv 0) (po_none) (po_some (pv 1))))))))
 obtain ⟨h1,h⟩:=h
 walk_at "ps"
 refine ⟨_,Or.inl h1,?_⟩
 refine ⟨fun m σ H'=>H'=H∧m≤b.length∧Vbbhak.trimmed (b.take m)=Vbbhak.trimmed b∧σ=[some (.ref a),some (.int (m:Int))],⟨b.length,rfl,Nat.le_refl _,by rw [List.take_length],by rw [bvs_length]⟩,?_⟩
 rintro m σ H' ⟨rfl,hm,ht,rfl⟩
 walk_at "ps"
 have fin:(∀ c,m ≠ 0->b[m - 1]? = some c->c ≠ 32)->(rSlL K (V.ref a) none (some (m:Int)) H' fun v H=>Q v H):=by
  intro hc
  refine ⟨a,_,rfl,h1,fun p hp=>?_⟩
  rw [cut_to,bvs_take]
  rw [VB.trim_stop b m hm hc] at ht
  rw [ht]
  exact h p hp
 split
 ·rename_i h0
  have hm0:m - 1 < b.length:=by omega
  refine ⟨_,h1,.int ((b[m - 1]).toNat:Int),at_of (j:=m - 1) (by omega) (bvs_at b _ (List.getElem?_eq_getElem hm0)),?_⟩
  walk_at "ps"
  split
  ·rename_i h32
   rw [c32] at h32
   refine ⟨fun σ' H''=>H''=H'∧σ'=[some (.ref a),some (.int ((m - 1:Nat):Int))],fun σ' H'' hh=>⟨m - 1,by omega,hh.1,by omega,?_,hh.2⟩,?_⟩
   ·have:=VB.trim_step b (m - 1) (by rw [List.getElem?_eq_getElem hm0,h32])
    rw [show m - 1 + 1=m by omega] at this
    rw [← this];exact ht
   ·walk_at "ps"
    rw [show ((m - 1:Nat):Int)=(m:Int) - 1 by omega]
  ·rename_i h32
   refine fin fun c _ e=>?_
   rw [List.getElem?_eq_getElem hm0] at e
   cases e
   rw [c32] at h32
   exact h32
 ·rename_i h0
  exact fin fun c z=>absurd (by omega) z
noncomputable def sp_byte_at (_:Txt K mg):Sp:=fun vs H Q _=>∃ a b k,vs=[.ref a,.int ((k:Nat):Int)]∧SqL K H a (bvs b)∧Q (.int ((VB.at32 b k).toNat:Int)) H
theorem ok_byte_at (T:Txt K mg):FO P w base 1 T.byte_at (sp_byte_at T):=by
 o_headS (1 T.byte_at.F.ok sc_byte_at)
 obtain ⟨a,b,k,rfl,h⟩:=h
 o_headS (2 (pss_cons (ps_if (pt_cmpR op_lt (pv 1) (pe_callB (r:=rLen K) call_len_seq rfl T.n_len bt_len (pa1 (pv 0))) (nomark _)) (pss_one (ps_ret (pe_ix ix_list (pv 0) (pv 1) (fun _ _=>rfl)))) pss_nil) (pss_one (ps_ret (pgi T.g_BLANK)))))
 obtain ⟨h1,h⟩:=h
 walk_at "ps"
 refine ⟨_,Or.inl h1,?_⟩
 rw [bvs_length]
 split
 ·rename_i hk
  have hk:k < b.length:=by omega
  refine ⟨_,h1,_,at_of (j:=k) rfl (bvs_at b _ (List.getElem?_eq_getElem hk)),?_⟩
  unfold VB.at32 at h
  rw [List.getD_eq_getElem?_getD,List.getElem?_eq_getElem hk] at h
  exact h
 ·rename_i hk
  unfold VB.at32 at h
  rw [List.getD_eq_getElem?_getD,List.getElem?_eq_none (by omega)] at h
  exact h
theorem struck_int (x y:UInt8):(if (x.toNat:Int)=32 then (y.toNat:Int) else if (y.toNat:Int)=32∨(x.toNat:Int)=y.toNat then (x.toNat:Int) else 35)=((Vbbhak.struck x y).toNat:Int):=by
 unfold Vbbhak.struck
 have e:((x.toNat:Int)=y.toNat) ↔ x=y:=⟨fun h=>UInt8.toNat_inj.mp (by omega),fun h=>by rw [h]⟩
 simp only [c32,e]
 split
 ·rfl
 ·split <;> rfl
noncomputable def sp_put_over (_:Txt K mg):Sp:=fun vs H Q _=>∃ a b x y,vs=[.ref a,.ref b]∧SqL K H a (bvs x)∧SqL K H b (bvs y)∧x.length≤1000∧y.length≤1000∧∀ p,H p=none->Q (.ref p) (upd H p (.lst (bvs (Vbbhak.overlaid x y))))
noncomputable def tr_put_over {K:PySem.W.Frag} {mg:Str->Option Value} (T:Txt K mg):TS:=tSeq (tAsg (tCB rMax (tCons (tCB (rLen K) (tCons (tVar 0) tNil)) (tCons (tCB (rLen K) (tCons (tVar 1) tNil)) tNil))) (gName 2)) (tRet (tLc (iRng1 (tCons (tVar 2) tNil)) (gName 3) (tYes) (tCall (sp_strike T) [] E0 (tCons (tCall (sp_byte_at T) [] E0 (tCons (tVar 0) (tCons (tVar 3) tNil))) (tCons (tCall (sp_byte_at T) [] E0 (tCons (tVar 1) (tCons (tVar 3) tNil))) tNil))) [3]))
theorem ok_put_over (T:Txt K mg):FO P w base 2 T.put_over (sp_put_over T):=by
 o_headS (1 T.put_over.F.ok sc_put_over)
 obtain ⟨a,b,x,y,rfl,h⟩:=h
 o_headS (2 (tr_put_over T) (pss_cons (pst 2 sc_put_over (pe_callB (r:=rMax) (call_max2 rfl) rfl T.n_max bt_max (pa_cons (pe_callB (r:=rLen K) call_len_seq rfl T.n_len bt_len (pa1 (pv 0))) (pa1 (pe_callB (r:=rLen K) call_len_seq rfl T.n_len bt_len (pa1 (pv 1))))))) (pss_one (ps_ret (pe_lc rfl sc_put_over.nd (pi_range1 rfl T.n_range (pa1 (pv 2))) (own:=[("k",3)]) (blkOk_by (N:=["under","over","size","k"]) (sc:=defScope s_put_over) (by decide +kernel)) (fun _ _ _ _ _=>pg_name (i:=3) sc_put_over.nd rfl (Or.inl rfl)) (fun _ _ _ _ _=>pts_nil) (fun _ _ _ _ _=>pcf T.strike (ok_strike T) hr (pa_cons (pcf T.byte_at (ok_byte_at T) hr (pa_cons (pv 0) (pa1 (pv 3)))) (pa1 (pcf T.byte_at (ok_byte_at T) hr (pa_cons (pv 1) (pa1 (pv 3))))))))))))
 obtain ⟨h1,h2,h3,h4,h⟩:=h
 simp only [tr_put_over]
 walk_at "ps"
 refine ⟨_,Or.inl h1,_,Or.inl h2,?_⟩
 rw [bvs_length,bvs_length]
 have em:(if (y.length:Int) > x.length then (y.length:Int) else x.length)=((Vbbhak.overlaid x y).length:Int):=by
  rw [VB.overlaid_length];split <;> omega
 have hl:=VB.overlaid_length x y
 rw [em]
 refine lcR (Vbbhak.overlaid x y).length (fun D i H'=>H'=upd H D (.lst (bvs ((Vbbhak.overlaid x y).take i)))) (fun R h=>by walk_at "ps";exact h) (by omega) (fun D hD=>by rw [List.take_zero];rfl) (fun D hD i H' hi e=>?_) (fun D hD H' e=>?_)
 ·subst e
  walk_at "ps"
  have sS:=same_new (o:=.lst (bvs ((Vbbhak.overlaid x y).take i))) hD
  refine ⟨_,_,i,rfl,sS.seq h1,_,_,i,rfl,sS.seq h2,_,_,rfl,?_⟩
  rw [struck_int]
  have hi2:=VB.overlaid_get x y i (by omega)
  refine ⟨_,upd_same,?_,?_⟩
  ·rw [bvs_length,List.length_take]
   have:(1000:Nat) < sizeLine:=by decide
   omega
  ·rw [upd_upd,VB.take_snoc hi2,bvs_app]
   rfl
 ·subst e
  rw [List.take_length]
  exact h D hD
noncomputable def sp_rows_down_to (_:Txt K mg):Sp:=fun vs H Q _=>∃ n v,vs=[.int ((n + 1:Nat):Int),v]∧n≤100 ∧
 ∀ (p:Addr) (as:List Addr) (H':Hp),H p=none->Same H H'->H' p=some (.lst (as.map V.ref++[v]))->as.length=n->(∀ a ∈ as,H' a=some (.lst []))->(∀ a ∈ as,H a=none)->Q (.ref p) H'
noncomputable def tr_rows_down_to {K:PySem.W.Frag} {mg:Str->Option Value} (T:Txt K mg):TS:=tSeq (tAsg (tLc (iRng1 (tCons (tOp rMinus (tVar 0) (tC (.int 1))) tNil)) (gName 3) (tYes) (tLst tNil) [3]) (gName 2)) (tSeq (tDrop (tBM K "list" rAppend (tVar 2) (tCons (tVar 1) tNil))) (tRet (tVar 2)))
theorem ok_rows_down_to (T:Txt K mg):FO P w base 1 T.rows_down_to (sp_rows_down_to T):=by
 o_headS (1 T.rows_down_to.F.ok sc_rows_down_to)
 obtain ⟨n,v,rfl,h⟩:=h
 o_headS (2 (tr_rows_down_to T) (pss_cons (ps_setLc (i:=2) rfl sc_rows_down_to.nd rfl rfl (sw_true rfl rfl rfl (by decide +kernel)) (pi_range1 rfl T.n_range (pa1 (pe_op op_sub (pv 0) pe_int))) (own:=[("row",3)]) (blkOk_by (N:=["count","words","rows","row"]) (sc:=defScope s_rows_down_to) (by decide +kernel)) (fun _ _ _ _ _=>pg_name (i:=3) sc_rows_down_to.nd rfl (Or.inl rfl)) (fun _ _ _ _ _=>pts_nil) (fun _ _ _ _ _=>pe_lst pa_nil)) (pss_cons (ps_expr (pe_bm PySem.F.plainAttrs_list PySem.F.slot_list_append PySem.F.type_list_append mt_append (pv 2) (pa1 (pv 1)))) (pss_one (ps_ret (pv 2))))))
 obtain ⟨h1,h⟩:=h
 simp only [tr_rows_down_to]
 walk_at "ps"
 refine lcR n (fun D i H'=>Same H H'∧∃ as:List Addr,H' D=some (.lst (as.map V.ref))∧as.length=i∧(∀ a ∈ as,H' a=some (.lst []))∧(∀ a ∈ as,H a=none)∧∀ a ∈ as,a ≠ D) (fun R h=>by walk_at "ps";rw [show ((n + 1:Nat):Int) - 1=(n:Int) by omega];exact h) (by omega) (fun D hD=>⟨same_new hD,[],upd_same,rfl,by simp,by simp,by simp⟩) (fun D hD i H' hi ⟨hS,as,e1,e2,e3,e4,e5⟩=>?_) (fun D hD H' ⟨hS,as,e1,e2,e3,e4,e5⟩=>?_)
 ·walk_at "ps"
  intro q hq
  have qD:D ≠ q:=ne_of_none e1 hq
  refine ⟨_,(by rw [upd_ne qD];exact e1),?_,?_⟩
  ·rw [List.length_map,e2];have:(1000:Nat) < sizeLine:=by decide
   omega
  ·refine ⟨?_,as++[q],?_,by simp [e2],?_,?_,?_⟩
   ·intro b o e
    have:=ne_of_none e hD
    rw [upd_ne this,upd_ne (ne_of_none (hS b o e) hq)]
    exact hS b o e
   ·rw [List.map_append];rfl
   ·intro a ha
    rcases List.mem_append.mp ha with ha | ha
    ·rw [upd_ne (e5 a ha),upd_ne (ne_of_none (e3 a ha) hq)];exact e3 a ha
    ·rw [List.mem_singleton.mp ha,upd_ne qD.symm,upd_same]
   ·intro a ha
    rcases List.mem_append.mp ha with ha | ha
    ·exact e4 a ha
    ·rw [List.mem_singleton.mp ha];exact hS.free hq
   ·intro a ha
    rcases List.mem_append.mp ha with ha | ha
    ·exact e5 a ha
    ·rw [List.mem_singleton.mp ha];exact qD.symm
 ·refine ⟨Or.inl ⟨rfl,_,SqL.of e1⟩,?_⟩
  simp only [rAppend]
  walk_at "ps"
  rw [e1]
  walk_at "ps"
  refine ⟨?_,?_⟩
  ·rw [List.length_map,e2];have:(1000:Nat) < sizeLine:=by decide
   omega
  ·refine h D as _ hD ?_ upd_same e2 ?_ e4
   ·intro b o e
    rw [upd_ne (ne_of_none e hD)];exact hS b o e
   ·intro a ha
    rw [upd_ne (e5 a ha)];exact e3 a ha
end
end
section
noncomputable def told (n:Int) (rows:List (List Int)):List Int:=n::rows.flatMap fun l=>(l.length:Int)::l
theorem told_snoc (n:Int) (rows:List (List Int)) (l:List Int):told n (rows++[l])=(told n rows++[(l.length:Int)])++l:=by
 unfold told
 simp
theorem ivs_app (a b:List Int):ivs (a++b)=ivs a++ivs b:=by unfold ivs;simp
theorem told_take_len (n:Int) (rows:List (List Int)):∀ i,(told n (rows.take i)).length≤(told n rows).length:=fun i=>by
 have e:rows=rows.take i++rows.drop i:=(List.take_append_drop i rows).symm
 have:told n rows=told n (rows.take i)++(rows.drop i).flatMap fun l=>(l.length:Int)::l:=by
  unfold told
  rw [List.cons_append,← List.flatMap_append,← e]
 rw [this,List.length_append]
 omega
section
variable {P:Program} {w:World} {K:PySem.W.Frag} {mg:Str->Option Value} {base:Heap}
noncomputable def sp_with_rows (_:Txt K mg):Sp:=fun vs H Q _=>∃ (n:Int) (r:Addr) (as:List Addr) (rows:List (List Int)),vs=[.int n,.ref r]∧SqL K H r (as.map V.ref)∧All2 (fun a l=>H a=some (.lst (ivs l))) as rows∧(told n rows).length < sizeLine ∧
 ∀ p,H p=none->Q (.ref p) (upd H p (.lst (ivs (told n rows))))
theorem ok_with_rows (T:Txt K mg):FO P w base 1 T.with_rows (sp_with_rows T):=by
 o_headS (1 T.with_rows.F.ok sc_with_rows)
 obtain ⟨n,r,as,rows,rfl,h⟩:=h
 o_headS (2 (pss_cons (pst 2 sc_with_rows (pe_lst (pa1 (pv 0)))) (pss_cons (ps_for PassesOwn.never rfl (pi_list (pv 1)) (pg_name (i:=3) sc_with_rows.nd rfl (Or.inl rfl)) (pss_cons (ps_expr (pe_bm PySem.F.plainAttrs_list PySem.F.slot_list_append PySem.F.type_list_append mt_append (pv 2) (pa1 (pe_callB (r:=rLen K) call_len_seq rfl T.n_len bt_len (pa1 (pv 3)))))) (pss_one (ps_expr (pe_bm PySem.F.plainAttrs_list PySem.F.slot_list_extend PySem.F.type_list_extend mt_extend (pv 2) (pa1 (pv 3))))))) (pss_one (ps_ret (pv 2))))))
 obtain ⟨h1,h2,h3,h⟩:=h
 walk_at "ps"
 intro p hp
 have sS:∀ o,Same H (upd H p o):=fun o=>same_new hp
 refine forL r (as.map V.ref) (fun i σ H'=>H'=upd H p (.lst (ivs (told n (rows.take i))))∧∃ v,σ=[some (.int n),some (.ref r),some (.ref p),v]) (fun R h=>by walk_at "ps";exact h) ((sS _).seq h1) ⟨by simp [told,ivs],none,rfl⟩ (fun i σ H' _ z=>by rw [z.1];exact (sS _).seq h1) (fun i x σ H' hi z=>?_) (fun σ H' z=>?_)
 ·obtain ⟨rfl,v,rfl⟩:=z
  obtain ⟨a,ha,rfl⟩:=at_map hi
  obtain ⟨l,hl,e⟩:=h2.at_l ha
  have lt:=told_take_len n rows (i + 1)
  rw [VB.take_snoc hl,told_snoc,List.length_append,List.length_append] at lt
  have e':∀ o,upd H p o a=some (.lst (ivs l)):=fun o=>sS o _ _ e
  walk_at "ps"
  refine ⟨Or.inl ⟨rfl,_,SqL.of upd_same⟩,_,Or.inl (SqL.of (e' _)),?_⟩
  simp only [rAppend]
  walk_at "ps"
  refine ⟨by rw [ivs_length];simp at lt;omega,Or.inl ⟨rfl,_,SqL.of upd_same⟩,?_⟩
  simp only [rExtend]
  walk_at "ps"
  rw [e']
  walk_at "ps"
  refine ⟨by rw [List.length_append,ivs_length,ivs_length];simp at lt ⊢;omega,?_⟩
  rw [VB.take_snoc hl,told_snoc,ivs_app,ivs_app,ivs_length]
  rfl
 ·obtain ⟨rfl,v,rfl⟩:=z
  rw [List.length_map,h2.1,List.take_length]
  walk_at "ps"
  exact h p hp
noncomputable def sp_bytes_of (_:Txt K mg):Sp:=fun vs H Q _=>∃ x:Str,vs=[.str x]∧x.cps.size < sizeLine∧∀ p,H p=none->Q (.ref p) (upd H p (.lst (ivs (x.cps.toList.map fun (c:Nat)=>(c:Int)))))
noncomputable def tr_bytes_of {K:PySem.W.Frag} {mg:Str->Option Value} (T:Txt K mg):TS:=tRet (tLc (iStr (tVar 0)) (gName 1) (tYes) (tCB rOrd (tCons (tVar 1) tNil)) [1])
theorem ok_bytes_of (T:Txt K mg):FO P w base 1 T.bytes_of (sp_bytes_of T):=by
 o_headS (1 T.bytes_of.F.ok sc_bytes_of)
 obtain ⟨x,rfl,h⟩:=h
 o_headS (2 (tr_bytes_of T) (pss_one (ps_ret (pe_lc rfl sc_bytes_of.nd (pi_str (pv 0)) (own:=[("sign",1)]) (blkOk_by (N:=["text","sign"]) (sc:=defScope s_bytes_of) (by decide +kernel)) (fun _ _ _ _ _=>pg_name (i:=1) sc_bytes_of.nd rfl (Or.inl rfl)) (fun _ _ _ _ _=>pts_nil) (fun _ _ _ _ _=>pe_callB (r:=rOrd) call_ord rfl T.n_ord bt_ord (pa1 (pv 1)))))))
 obtain ⟨h1,h⟩:=h
 simp only [tr_bytes_of]
 walk_at "ps"
 refine lcS x (fun D i H'=>H'=upd H D (.lst (ivs ((x.cps.toList.map fun (c:Nat)=>(c:Int)).take i)))) (fun R h=>by walk_at "ps";exact h) (fun D hD=>by simp [ivs]) (fun D hD i c H' hc e=>?_) (fun D hD H' e=>?_)
 ·subst e
  walk_at "ps"
  have hi:i < x.cps.size:=(Array.getElem?_eq_some_iff.mp hc).1
  refine ⟨_,rfl,rfl,_,upd_same,?_,?_⟩
  ·rw [ivs_length,List.length_take,List.length_map,Array.length_toList];omega
  ·have:(x.cps.toList.map fun (c:Nat)=>(c:Int))[i]? = some (c:Int):=by
    rw [List.getElem?_map,Array.getElem?_toList,hc];rfl
   rw [upd_upd,VB.take_snoc this,ivs_app]
   rfl
 ·subst e
  rw [List.take_of_length_le (by simp)]
  exact h D hD
noncomputable def sp_is_text (_:Txt K mg):Sp:=fun vs H Q _=>∃ a b,vs=[.ref a]∧SqL K H a (bvs b)∧∀ H',Same H H'->Q (.bl (Vbbhak.isText b)) H'
noncomputable def tr_is_text {K:PySem.W.Frag} {mg:Str->Option Value} (T:Txt K mg):TS:=tRet (tAndV (tOp rLe (tCB (rLen K) (tCons (tVar 0) tNil)) (tC (.int (132)))) (tCB (rAll K) (tCons (tLc (iList K (tVar 0)) (gName 1) (tYes) (tCall (sp_within T) [] E0 (tCons (tVar 1) (tCons (tC (.int 32)) (tCons (tC (.int 126)) tNil)))) [1]) tNil)))
theorem ok_is_text (T:Txt K mg):FO P w base 2 T.is_text (sp_is_text T):=by
 o_headS (1 T.is_text.F.ok sc_is_text)
 obtain ⟨a,b,rfl,h⟩:=h
 o_headS (2 (tr_is_text T) (pss_one (ps_ret (pe_and (pe_cmpR op_le (pe_callB (r:=rLen K) call_len_seq rfl T.n_len bt_len (pa1 (pv 0))) (pgi T.g_LONGEST_TEXT) (nomark _)) (pe_one (pe_callB (r:=rAll K) (cr_all rfl) rfl T.n_all bt_all (pa1 (pe_lc rfl sc_is_text.nd (pi_list (pv 0)) (own:=[("byte",1)]) (blkOk_by (N:=["row","byte"]) (sc:=defScope s_is_text) (by decide +kernel)) (fun _ _ _ _ _=>pg_name (i:=1) sc_is_text.nd rfl (Or.inl rfl)) (fun _ _ _ _ _=>pts_nil) (fun _ _ _ _ _=>pcf T.within (ok_within T) hr (pa_cons (pv 1) (pa_cons pe_int (pa1 pe_int))))))))))))
 obtain ⟨h1,h⟩:=h
 simp only [tr_is_text]
 walk_at "ps"
 refine ⟨_,Or.inl h1,?_⟩
 rw [bvs_length]
 split
 ·rename_i hl
  refine lcLS a (bvs b) (fun i=>((b.take i).map fun c=>Vbbhak.inside (c.toNat:Int) 32 126).map V.bl) (fun R h=>by walk_at "ps";exact h) h1 rfl (fun D hD i x H' hi s p=>?_) (fun D H' hD s e=>?_)
  ·obtain ⟨c,hc,rfl⟩:=bvs_at' hi
   walk_at "ps"
   refine ⟨_,_,_,rfl,lc_put p hD Same.rfl' ?_ ?_⟩
   ·simp;have:(1000:Nat) < sizeLine:=by decide
    omega
   ·rw [VB.take_snoc hc];simp
  ·simp only [rAll]
   walk_at "ps"
   rw [bvs_length,List.take_length] at e
   refine ⟨_,SqL.of e,?_⟩
   have:=h H' s
   unfold Vbbhak.isText at this
   have e2:(List.map (fun c=>Vbbhak.inside (c.toNat:Int) 32 126) b).all id=b.all fun c=>decide (32≤c.toNat∧c.toNat≤126):=by
    rw [List.all_map]
    congr 1
    funext c
    unfold Vbbhak.inside
    simp only [Function.comp,id]
    exact decide_eq_decide.mpr (by omega)
   rw [e2]
   rw [show decide (b.length≤132)=true from decide_eq_true (by omega),Bool.true_and] at this
   exact this
 ·rename_i hl
  have:=h H Same.rfl'
  unfold Vbbhak.isText at this
  rw [show decide (b.length≤132)=false from decide_eq_false (by omega),Bool.false_and] at this
  exact this
theorem ins_u (c:UInt8) (lo hi:Nat):Vbbhak.inside (c.toNat:Int) (lo:Int) (hi:Int)=decide (lo≤c.toNat∧c.toNat≤hi):=by
 unfold Vbbhak.inside
 exact decide_eq_decide.mpr (by omega)
theorem isName_cons (c:UInt8) (r:Vbbhak.Bytes):Vbbhak.isName (c::r)=(decide ((c::r).length≤8) && (decide (65≤c.toNat∧c.toNat≤90) && r.all fun d=>decide (65≤d.toNat∧d.toNat≤90) || decide (48≤d.toNat∧d.toNat≤57))):=rfl
noncomputable def sp_is_name (_:Txt K mg):Sp:=fun vs H Q _=>∃ a b,vs=[.ref a]∧SqL K H a (bvs b)∧∀ H',Same H H'->Q (.bl (Vbbhak.isName b)) H'
noncomputable def tr_is_name {K:PySem.W.Frag} {mg:Str->Option Value} (T:Txt K mg):TS:=tSeq (tIfS (tOr (tNot (tB (tCall (sp_within T) [] E0 (tCons (tCB (rLen K) (tCons (tVar 0) tNil)) (tCons (tC (.int 1)) (tCons (tC (.int (8))) tNil)))))) (tNot (tB (tCall (sp_is_letter T) [] E0 (tCons (tOp (rIxL K) (tVar 0) (tC (.int 0))) tNil))))) (tRet (tC (.bl false))) (tNext)) (tRet (tCB (rAll K) (tCons (tLc (iList K (tVar 0)) (gName 1) (tYes) (tOrV (tCall (sp_is_letter T) [] E0 (tCons (tVar 1) tNil)) (tCall (sp_is_digit T) [] E0 (tCons (tVar 1) tNil))) [1]) tNil)))
theorem ok_is_name (T:Txt K mg):FO P w base 3 T.is_name (sp_is_name T):=by
 o_headS (1 T.is_name.F.ok sc_is_name)
 obtain ⟨a,b,rfl,h⟩:=h
 o_headS (2 (tr_is_name T) (pss_cons (ps_if (PW.pt (pw_or (pt_not (pt_val (pcf T.within (ok_within T) hr (pa_cons (pe_callB (r:=rLen K) call_len_seq rfl T.n_len bt_len (pa1 (pv 0))) (pa_cons pe_int (pa1 (pgi T.g_LONGEST_NAME))))))) (pw_or1 (pt_not (pt_val (pcf T.is_letter (ok_is_letter T) hr (pa1 (pe_ix ix_list (pv 0) pe_int (fun _ _=>rfl))))))))) (pss_one (ps_ret (pe_bl))) pss_nil) (pss_one (ps_ret (pe_callB (r:=rAll K) (cr_all rfl) rfl T.n_all bt_all (pa1 (pe_lc rfl sc_is_name.nd (pi_list (pv 0)) (own:=[("byte",1)]) (blkOk_by (N:=["row","byte"]) (sc:=defScope s_is_name) (by decide +kernel)) (fun _ _ _ _ _=>pg_name (i:=1) sc_is_name.nd rfl (Or.inl rfl)) (fun _ _ _ _ _=>pts_nil) (fun _ _ _ _ _=>pe_or (pcf T.is_letter (ok_is_letter T) hr (pa1 (pv 1))) (pe_one (pcf T.is_digit (ok_is_digit T) hr (pa1 (pv 1))))))))))))
 obtain ⟨h1,h⟩:=h
 simp only [tr_is_name]
 walk_at "ps"
 refine ⟨_,Or.inl h1,?_⟩
 rw [bvs_length]
 refine ⟨_,_,_,rfl,_,rfl,?_⟩
 split
 ·rename_i hl
  have:=h H Same.rfl'
  rw [show Vbbhak.isName b=false from ?_] at this
  ·exact this
  ·unfold Vbbhak.inside at hl
   have hl:=of_decide_eq_false hl
   cases b with
   | nil=>rfl
   | cons c r =>
    rw [isName_cons,show decide ((c::r).length≤8)=false from decide_eq_false (by simp only [List.length_cons] at hl ⊢;omega),Bool.false_and]
 ·rename_i hl
  unfold Vbbhak.inside at hl
  have hl:1≤(b.length:Int)∧(b.length:Int)≤8:=by simpa using hl
  cases b with
  | nil=>simp at hl
  | cons c r =>
   refine ⟨_,h1,_,at_of (j:=0) rfl (bvs_at (c::r) 0 rfl),_,rfl,_,rfl,?_⟩
   have hc:Vbbhak.inside (c.toNat:Int) 65 90=decide (65≤c.toNat∧c.toNat≤90):=by unfold Vbbhak.inside;exact decide_eq_decide.mpr (by omega)
   have h8:decide ((c::r).length≤8)=true:=decide_eq_true (by omega)
   split
   ·rename_i hf
    have:=h H Same.rfl'
    have hf:Vbbhak.inside (c.toNat:Int) 65 90=false:=hf
    rw [isName_cons,← hc,hf,h8] at this
    exact this
   ·rename_i hf
    have hf:Vbbhak.inside (c.toNat:Int) 65 90=true:=by simpa using hf
    refine lcLS a (bvs (c::r)) (fun i=>(((c::r).take i).map fun c=>Vbbhak.inside (c.toNat:Int) 65 90 || Vbbhak.inside (c.toNat:Int) 48 57).map V.bl) (fun R h=>by walk_at "ps";exact h) h1 rfl (fun D hD i x H' hi s p=>?_) (fun D H' hD s e=>?_)
    ·obtain ⟨d,hd,rfl⟩:=bvs_at' hi
     have fin:∀ y,y=V.bl (Vbbhak.inside (d.toNat:Int) 65 90 || Vbbhak.inside (d.toNat:Int) 48 57)->∃ acc,H' D=some (.lst acc)∧acc.length < sizeLine∧LcI H D (fun i=>(((c::r).take i).map fun c=>Vbbhak.inside (c.toNat:Int) 65 90 || Vbbhak.inside (c.toNat:Int) 48 57).map V.bl) (i + 1) (upd H' D (.lst (acc++[y]))):=by
      intro y hy
      refine lc_put p hD Same.rfl' ?_ ?_
      ·simp only [List.length_map,List.length_take];have:(1000:Nat) < sizeLine:=by decide
       omega
      ·rw [VB.take_snoc hd,hy];simp
     walk_at "ps"
     refine ⟨_,rfl,_,rfl,?_⟩
     split
     ·rename_i ht
      have ht:Vbbhak.inside (d.toNat:Int) 65 90=true:=ht
      exact fin _ (by rw [ht];rfl)
     ·rename_i ht
      refine ⟨_,rfl,fin _ ?_⟩
      have ht:Vbbhak.inside (d.toNat:Int) 65 90=false:=by simpa using ht
      rw [ht];rfl
    ·simp only [rAll]
     walk_at "ps"
     rw [bvs_length,List.take_length] at e
     refine ⟨_,SqL.of e,?_⟩
     have:=h H' s
     rw [isName_cons,← hc,hf,h8,Bool.true_and,Bool.true_and] at this
     have e2:(List.map (fun c=>Vbbhak.inside (c.toNat:Int) 65 90 || Vbbhak.inside (c.toNat:Int) 48 57) (c::r)).all id=r.all fun d=>decide (65≤d.toNat∧d.toNat≤90) || decide (48≤d.toNat∧d.toNat≤57):=by
      rw [List.all_map,List.all_cons]
      simp only [Function.comp,id,hf,Bool.true_or,Bool.true_and]
      congr 1
      funext d
      show (Vbbhak.inside (d.toNat:Int) 65 90 || Vbbhak.inside (d.toNat:Int) 48 57)=_
      rw [show Vbbhak.inside (d.toNat:Int) 65 90=decide (65≤d.toNat∧d.toNat≤90) from ins_u d 65 90,show Vbbhak.inside (d.toNat:Int) 48 57=decide (48≤d.toNat∧d.toNat≤57) from ins_u d 48 57]
     rw [e2]
     exact this
noncomputable def sp_is_class_list (_:Txt K mg):Sp:=fun vs H Q _=>∃ a l,vs=[.ref a]∧SqL K H a (ivs l)∧∀ H',Same H H'->Q (.bl (Vbbhak.areClasses l)) H'
noncomputable def tr_is_class_list {K:PySem.W.Frag} {mg:Str->Option Value} (T:Txt K mg):TS:=tSeq (tIfS (tOr (tNot (tB (tCall (sp_within T) [] E0 (tCons (tCB (rLen K) (tCons (tVar 0) tNil)) (tCons (tC (.int 1)) (tCons (tC (.int (8))) tNil)))))) (tTest (tOp rNe (tCB rLenS (tCons (tCB (rSet K) (tCons (tVar 0) tNil)) tNil)) (tCB (rLen K) (tCons (tVar 0) tNil))))) (tRet (tC (.bl false))) (tNext)) (tRet (tCB (rAll K) (tCons (tLc (iList K (tVar 0)) (gName 1) (tYes) (tCall (sp_is_class T) [] E0 (tCons (tVar 1) tNil)) [1]) tNil)))
theorem ok_is_class_list (T:Txt K mg):FO P w base 3 T.is_class_list (sp_is_class_list T):=by
 o_headS (1 T.is_class_list.F.ok sc_is_class_list)
 obtain ⟨a,l,rfl,h⟩:=h
 o_headS (2 (tr_is_class_list T) (pss_cons (ps_if (PW.pt (pw_or (pt_not (pt_val (pcf T.within (ok_within T) hr (pa_cons (pe_callB (r:=rLen K) call_len_seq rfl T.n_len bt_len (pa1 (pv 0))) (pa_cons pe_int (pa1 (pgi T.g_MOST_CLASSES))))))) (pw_or1 (pt_cmpR op_ne (pe_callB (r:=rLenS) call_lenS rfl T.n_len bt_len (pa1 (pe_callTy (r:=rSet K) (call_setL rfl) rfl T.n_set bt_set (pa1 (pv 0))))) (pe_callB (r:=rLen K) call_len_seq rfl T.n_len bt_len (pa1 (pv 0))) (nomark _))))) (pss_one (ps_ret (pe_bl))) pss_nil) (pss_one (ps_ret (pe_callB (r:=rAll K) (cr_all rfl) rfl T.n_all bt_all (pa1 (pe_lc rfl sc_is_class_list.nd (pi_list (pv 0)) (own:=[("value",1)]) (blkOk_by (N:=["row","value"]) (sc:=defScope s_is_class_list) (by decide +kernel)) (fun _ _ _ _ _=>pg_name (i:=1) sc_is_class_list.nd rfl (Or.inl rfl)) (fun _ _ _ _ _=>pts_nil) (fun _ _ _ _ _=>pcf T.is_class (ok_is_class T) hr (pa1 (pv 1))))))))))
 obtain ⟨h1,h⟩:=h
 simp only [tr_is_class_list]
 walk_at "ps"
 refine ⟨_,Or.inl h1,?_⟩
 rw [ivs_length]
 refine ⟨_,_,_,rfl,_,rfl,?_⟩
 split
 ·rename_i hl
  have:=h H Same.rfl'
  unfold Vbbhak.inside at hl
  have hl:=of_decide_eq_false hl
  unfold Vbbhak.areClasses at this
  rw [show decide (1≤l.length∧l.length≤8)=false from decide_eq_false (by omega),Bool.false_and] at this
  exact this
 ·rename_i hl
  unfold Vbbhak.inside at hl
  have hl:1≤(l.length:Int)∧(l.length:Int)≤8:=by simpa using hl
  simp only [rSet]
  walk_at "ps"
  refine ⟨l,h1,by omega,fun p S hp=>?_⟩
  simp only [rLenS]
  walk_at "ps"
  have sS:=same_new (o:=HO.set S (dedup l).length) hp
  have ha:decide (1≤l.length∧l.length≤8)=true:=decide_eq_true (by omega)
  refine ⟨_,_,rfl,_,Or.inl (sS.seq h1),?_⟩
  rw [ivs_length]
  split
  ·rename_i hd
   have:=h _ sS
   unfold Vbbhak.areClasses at this
   have hd:¬ (dedup l).length=l.length:=by omega
   rw [dups_iff] at hd
   rw [ha,show (l.eraseDups.length == l.length)=false from beq_eq_false_iff_ne.mpr hd,Bool.and_false,Bool.and_false] at this
   exact this
  ·rename_i hd
   have hd:(dedup l).length=l.length:=by omega
   rw [dups_iff] at hd
   refine lcLS a (ivs l) (fun i=>((l.take i).map Vbbhak.isClass).map V.bl) (fun R h=>by walk_at "ps";exact h) (sS.seq h1) rfl (fun D hD i x H' hi s p=>?_) (fun D H' hD s e=>?_)
   ·obtain ⟨c,hc,rfl⟩:=at_map hi
    walk_at "ps"
    refine ⟨_,rfl,lc_put p hD Same.rfl' ?_ ?_⟩
    ·simp only [List.length_map,List.length_take];have:(1000:Nat) < sizeLine:=by decide
     omega
    ·rw [VB.take_snoc hc];simp
   ·simp only [rAll]
    walk_at "ps"
    rw [ivs_length,List.take_length] at e
    refine ⟨_,SqL.of e,?_⟩
    have:=h H' (sS.trans s)
    unfold Vbbhak.areClasses at this
    rw [ha,show (l.eraseDups.length == l.length)=true from beq_iff_eq.mpr hd,Bool.and_true,Bool.true_and] at this
    rw [List.all_map]
    exact this
noncomputable def sp_row_of_entry (_:Txt K mg):Sp:=fun vs H Q _=>∃ a xs,vs=[.ref a]∧SqT K H a xs∧∀ p H',H p=none->Same H H'->H' p=some (.lst (xs.take 4))->Q (.ref p) H'
theorem ok_row_of_entry (T:Txt K mg):FO P w base 1 T.row_of_entry (sp_row_of_entry T):=by
 o_headS (1 T.row_of_entry.F.ok sc_row_of_entry)
 obtain ⟨a,xs,rfl,h⟩:=h
 o_headS (2 (pss_one (ps_ret (pe_callTy (r:=rListOf K) call_list_of rfl T.n_list bt_list (pa1 (pe_slice sl_tup2 (pv 0) (po_none) (po_some pe_int)))))))
 obtain ⟨h1,h⟩:=h
 try simp only [cxOf,Cx.wish,rSlT2]
 walk_at "ps"
 refine ⟨a,xs,rfl,h1,fun hw=>?_,fun hw p hp=>?_⟩
 ·walk_at "ps"
  refine ⟨xs,Or.inr h1,fun l hl=>h l _ hl (same_new hl) ?_⟩
  rw [upd_same]
  have:HT.sIx xs.length xs.length (some ((4:Nat):Int))=xs.length:=hw.2
  rw [HT.sIx_nat] at this
  rw [List.take_of_length_le (by omega)]
 ·walk_at "ps"
  refine ⟨_,Or.inr (SqT.of upd_same),fun l hl=>?_⟩
  obtain ⟨hl',n⟩:=upd_none hl
  refine h l _ hl' ((same_new hp).trans (same_new hl)) ?_
  rw [upd_same,show (some (4:Int))=some ((4:Nat):Int) from rfl,cut_to]
noncomputable def sp_some_entries (_:Txt K mg):Sp:=fun vs H Q _=>∃ (e:Addr) (f m:Nat) (ps:List (Addr × List V × List Int)),vs=[.ref e,.int ((f + 1:Nat):Int),.int (m:Int)]∧SqL K H e (ps.map fun p=>V.ref p.1) ∧
 (∀ p ∈ ps,SqT K H p.1 p.2.1∧p.2.1.take 4=ivs p.2.2∧p.2.2.length≤4)∧m≤100 ∧
 ∀ p H',H p=none->Same H H'->H' p=some (.lst (ivs (told (((ps.drop f).take m).length:Int) (((ps.drop f).take m).map fun p=>p.2.2))))->Q (.ref p) H'
noncomputable def tr_some_entries {K:PySem.W.Frag} {mg:Str->Option Value} (T:Txt K mg):TS:=tSeq (tAsg (tLc (iList K (tSl (rSlL K) (tVar 0) (tPart (tOp rMinus (tVar 1) (tC (.int 1)))) (tPart (tOp rPlus (tOp rMinus (tVar 1) (tC (.int 1))) (tVar 2))))) (gName 4) (tYes) (tCall (sp_row_of_entry T) [] E0 (tCons (tVar 4) tNil)) [4]) (gName 3)) (tRet (tCall (sp_with_rows T) [] E0 (tCons (tCB (rLen K) (tCons (tVar 3) tNil)) (tCons (tVar 3) tNil))))
theorem ok_some_entries (T:Txt K mg):FO P w base 2 T.some_entries (sp_some_entries T):=by
 o_headS (1 T.some_entries.F.ok sc_some_entries)
 obtain ⟨e,f,m,ps,rfl,h⟩:=h
 o_headS (2 (tr_some_entries T) (pss_cons (ps_setLc (i:=3) rfl sc_some_entries.nd rfl rfl (sw_true rfl rfl rfl (by decide +kernel)) (pi_list (pe_slice sl_list (pv 0) (po_some (pe_op op_sub (pv 1) pe_int)) (po_some (pe_op op_add (pe_op op_sub (pv 1) pe_int) (pv 2))))) (own:=[("entry",4)]) (blkOk_by (N:=["entries","first","most","rows","entry"]) (sc:=defScope s_some_entries) (by decide +kernel)) (fun _ _ _ _ _=>pg_name (i:=4) sc_some_entries.nd rfl (Or.inl rfl)) (fun _ _ _ _ _=>pts_nil) (fun _ _ _ _ _=>pcf T.row_of_entry (ok_row_of_entry T) hr (pa1 (pv 4)))) (pss_one (ps_ret (pcf T.with_rows (ok_with_rows T) hr (pa_cons (pe_callB (r:=rLen K) call_len_seq rfl T.n_len bt_len (pa1 (pv 3))) (pa1 (pv 3))))))))
 obtain ⟨h1,h2,h3,h⟩:=h
 simp only [tr_some_entries]
 walk_at "ps"
 refine lcLG (((ps.drop f).take m).map fun p=>V.ref p.1) (fun H1 D i H'=>Same H1 H'∧∃ as:List Addr,H' D=some (.lst (as.map V.ref))∧All2 (fun a p=>H' a=some (.lst (ivs (p:Addr × List V × List Int).2.2))) as (((ps.drop f).take m).take i)∧∀ a ∈ as,a ≠ D) (fun R h=>?_) (fun H1 D s1 hD=>⟨same_new hD,[],upd_same,by simpa using All2.nil,by simp⟩) (fun H1 D s1 hD i H' z=>z.1) (fun H1 D s1 hD i x H' hi z=>?_) (fun H1 D H' s1 hD z=>?_)
 ·walk_at "ps"
  refine ⟨_,_,rfl,h1,fun q hq=>?_⟩
  rw [show ((f + 1:Nat):Int) - 1=(f:Int) by omega,cut_ft,← List.map_drop,← List.map_take]
  exact h q hq
 ·obtain ⟨sH,as,e1,e2,e3⟩:=z
  obtain ⟨p,hp,rfl⟩:=at_map hi
  obtain ⟨p1,p2,p3⟩:=h2 p (List.mem_of_mem_drop (List.mem_of_mem_take (List.mem_of_getElem? hp)))
  walk_at "ps"
  refine ⟨_,_,rfl,Same.seqT (s1.trans sH) p1,fun q H'' hq sq eq=>?_⟩
  have qD:q ≠ D:=fun z=>by rw [z,e1] at hq;cases hq
  refine ⟨_,sq _ _ e1,?_,?_,as++[q],?_,?_,?_⟩
  ·rw [List.length_map,e2.1,List.length_take,List.length_take];have:(1000:Nat) < sizeLine:=by decide
   omega
  ·intro b o e
   rw [upd_ne (ne_of_none e hD)];exact sq _ _ (sH _ _ e)
  ·rw [List.map_append];rfl
  ·rw [VB.take_snoc hp]
   refine All2.snoc ⟨e2.1,fun i a b ha hb=>?_⟩ ?_
   ·exact (upd_ne (e3 a (List.mem_of_getElem? ha))).trans (sq _ _ (e2.2 i a b ha hb))
   ·exact (upd_ne qD).trans (by rw [eq,p2])
  ·intro a ha
   rcases List.mem_append.mp ha with ha | ha
   ·exact e3 a ha
   ·rw [List.mem_singleton.mp ha];exact qD
 ·obtain ⟨sH,as,e1,e2,e3⟩:=z
  rw [List.length_map,List.take_length] at e2
  walk_at "ps"
  refine ⟨_,Or.inl (SqL.of e1),_,D,as,((ps.drop f).take m).map fun p=>p.2.2,rfl,SqL.of e1,⟨by rw [List.length_map];exact e2.1,fun i a l ha hl=>?_⟩,?_,fun p hp=>?_⟩
  ·rw [List.getElem?_map] at hl
   obtain ⟨b,hb,rb⟩:=e2.at_l ha
   rw [hb] at hl
   cases hl
   exact rb
  ·have:∀ l:List (Addr × List V × List Int),(∀ p ∈ l,p.2.2.length≤4)->∀ n,(told n (l.map fun p=>p.2.2)).length≤1 + 5 * l.length:=by
    intro l hl n
    induction l with
    | nil=>simp [told]
    | cons a l ih =>
     have:=ih (fun p hp=>hl p (List.mem_cons_of_mem _ hp))
     have h4:=hl a List.mem_cons_self
     unfold told at this ⊢
     simp only [List.map_cons,List.flatMap_cons,List.length_cons,List.length_append] at this ⊢
     omega
   have h5:=this ((ps.drop f).take m) (fun p hp=>(h2 p (List.mem_of_mem_drop (List.mem_of_mem_take hp))).2.2) (((as.map V.ref).length:Nat):Int)
   have h6:((ps.drop f).take m).length≤100:=by rw [List.length_take];omega
   have:(1000:Nat) < sizeLine:=by decide
   omega
  ·refine h p _ ((s1.trans sH).free hp) ((s1.trans sH).trans (same_new hp)) ?_
   rw [upd_same,List.length_map,e2.1]
end
end
section
noncomputable abbrev VEntry:=Vbbhak.Entry
noncomputable def RowsA (F:Hp) (r:Addr) (l:List Vbbhak.Bytes):Prop:=∃ as:List Addr,F r=some (.lst (as.map V.ref))∧All2 (fun a b=>F a=some (.lst (bvs b))) as l
noncomputable def EntA (F:Hp) (t:Addr):VEntry->Prop
 | .sheet n o c s l=>∃ r,F t=some (.tup [.int (n:Int),.int (o:Int),.int (c:Int),.int (s:Int),.ref r])∧RowsA F r l
 | .mark n=>F t=some (.tup [.int (n:Int)])
theorem RowsA.same {F F':Hp} {r:Addr} {l:List Vbbhak.Bytes} (h:RowsA F r l) (s:Same F F'):RowsA F' r l:=by
 obtain ⟨as,h1,h2⟩:=h
 exact ⟨as,s _ _ h1,h2.mono fun a b=>s a _⟩
theorem EntA.same {F F':Hp} {t:Addr} {e:VEntry} (h:EntA F t e) (s:Same F F'):EntA F' t e:=by
 cases e with
 | sheet n o c st l=>obtain ⟨r,h1,h2⟩:=h;exact ⟨r,s _ _ h1,h2.same s⟩
 | mark n=>exact s _ _ h
noncomputable def entV:VEntry->V->List V
 | .sheet n o c s _,r=>[.int (n:Int),.int (o:Int),.int (c:Int),.int (s:Int),r]
 | .mark n,_=>[.int (n:Int)]
theorem EntA.tup {F:Hp} {t:Addr} {e:VEntry} (h:EntA F t e):∃ r,F t=some (.tup (entV e r)):=by
 cases e with
 | sheet n o c st l=>obtain ⟨r,h1,h2⟩:=h;exact ⟨_,h1⟩
 | mark n=>exact ⟨.non,h⟩
theorem entV_first (e:VEntry) (r:V):atI (entV e r) 0=some (.int (Vbbhak.entrySerial e:Int)):=by cases e <;> rfl
theorem entV_mark (e:VEntry) (r:V):decide (((entV e r).length:Int)=1)=Vbbhak.isMark e:=by cases e <;> rfl
theorem entV_take (e:VEntry) (r:V):(entV e r).take 4=ivs ((Vbbhak.entryRow e).map fun (n:Nat)=>(n:Int)):=by cases e <;> rfl
theorem entryRow_len (e:VEntry):(Vbbhak.entryRow e).length≤4:=by cases e <;> simp [Vbbhak.entryRow]
theorem folded_snoc (e:VEntry):∀ (l kept:List VEntry),Vbbhak.folded kept (l++[e])=(if Vbbhak.isMark e=true then (Vbbhak.folded kept l).filter fun x=>decide (Vbbhak.entrySerial x≤Vbbhak.entrySerial e) else Vbbhak.folded kept l++[e])
 | [],kept=>by cases e <;> rfl
 | .mark n::l,kept=>folded_snoc e l _
 | .sheet a b c d f::l,kept=>folded_snoc e l _
section
variable {P:Program} {w:World} {K:PySem.W.Frag} {mg:Str->Option Value} {base:Heap}
noncomputable def sp_counting_sheets (_:Txt K mg):Sp:=fun vs H Q _=>∃ (p:Addr) (ps:List (Addr × VEntry)),vs=[.ref p]∧SqL K H p (ps.map fun x=>V.ref x.1)∧(∀ x ∈ ps,EntA H x.1 x.2)∧ps.length < sizeLine ∧
 ∀ q (qs:List (Addr × VEntry)) H',H q=none->Same H H'->H' q=some (.lst (qs.map fun x=>V.ref x.1))->(∀ x ∈ qs,EntA H' x.1 x.2)->qs.map (·.2)=Vbbhak.folded [] (ps.map (·.2))->Q (.ref q) H'
noncomputable def tr_counting_sheets {K:PySem.W.Frag} {mg:Str->Option Value} (T:Txt K mg):TS:=tSeq (tAsg (tLst tNil) (gName 1)) (tSeq (tFor (iList K (tVar 0)) (gName 2) (tIfS (tB (tCall (sp_is_mark T) [] E0 (tCons (tVar 2) tNil))) (tAsg (tLc (iList K (tVar 1)) (gName 3) (tTest (tOp rLe (tOp (rIxT K) (tVar 3) (tC (.int 0))) (tOp (rIxT K) (tVar 2) (tC (.int 0))))) (tVar 3) [3]) (gName 1)) (tDrop (tBM K "list" rAppend (tVar 1) (tCons (tVar 2) tNil))))) (tRet (tVar 1)))
theorem ok_counting_sheets (T:Txt K mg):FO P w base 2 T.counting_sheets (sp_counting_sheets T):=by
 o_headS (1 T.counting_sheets.F.ok sc_counting_sheets)
 obtain ⟨p,ps,rfl,h⟩:=h
 o_headS (2 (tr_counting_sheets T) (pss_cons (pst 1 sc_counting_sheets (pe_lst pa_nil)) (pss_cons (ps_for PassesOwn.never rfl (pi_list (pv 0)) (pg_name (i:=2) sc_counting_sheets.nd rfl (Or.inr rfl)) (pss_one (ps_if (pt_val (pcf T.is_mark (ok_is_mark T) hr (pa1 (pv 2)))) (pss_one (ps_setLc (i:=1) rfl sc_counting_sheets.nd rfl rfl (sw_true rfl rfl rfl (by decide +kernel)) (pi_list (pv 1)) (own:=[("sheet",3)]) (blkOk_by (N:=["paper","sheets","entry","sheet"]) (sc:=defScope s_counting_sheets) (by decide +kernel)) (fun _ _ _ _ _=>pg_name (i:=3) sc_counting_sheets.nd rfl (Or.inl rfl)) (fun _ _ _ _ _=>pts_one (pt_cmpR op_le (pe_ix ix_tup (pv 3) pe_int (fun _ _=>rfl)) (pe_ix ix_tup (pv 2) pe_int (fun _ _=>rfl)) (nomark _))) (fun _ _ _ _ _=>pv 3))) (pss_one (ps_expr (pe_bm PySem.F.plainAttrs_list PySem.F.slot_list_append PySem.F.type_list_append mt_append (pv 1) (pa1 (pv 2)))))))) (pss_one (ps_ret (pv 1))))))
 obtain ⟨h1,h2,h3,h⟩:=h
 simp only [tr_counting_sheets]
 walk_at "ps"
 intro q0 hq0
 refine forL p (ps.map fun x=>V.ref x.1) (fun i σ H'=>Same H H'∧∃ (q:Addr) (qs:List (Addr × VEntry)) (v2 v3:Option V),σ=[some (.ref p),some (.ref q),v2,v3]∧H q=none∧H' q=some (.lst (qs.map fun x=>V.ref x.1))∧(∀ x ∈ qs,EntA H x.1 x.2)∧qs.map (·.2)=Vbbhak.folded [] ((ps.take i).map (·.2))∧qs.length≤i) (fun R h=>by walk_at "ps";exact h) ((same_new hq0).seq h1) ⟨same_new hq0,q0,[],none,none,rfl,hq0,upd_same,by simp,rfl,Nat.le_refl _⟩ (fun i σ H' _ z=>z.1.seq h1) (fun i x σ H' hi z=>?_) (fun σ H' z=>?_)
 ·obtain ⟨sH,q,qs,v2,v3,rfl,hq,e1,e2,e3,e4⟩:=z
  obtain ⟨x,hx,rfl⟩:=at_map hi
  have ex:=(h2 x (List.mem_of_getElem? hx)).same sH
  obtain ⟨r,er⟩:=ex.tup
  have il:i < ps.length:=(List.getElem?_eq_some_iff.mp hx).1
  have fs:=folded_snoc x.2 ((ps.take i).map (·.2)) []
  rw [show (ps.take i).map (·.2)++[x.2]=(ps.take (i + 1)).map (·.2) by rw [VB.take_snoc hx,List.map_append];rfl] at fs
  walk_at "ps"
  refine ⟨_,_,rfl,SqT.of er,_,rfl,?_⟩
  rw [entV_mark]
  split
  ·rename_i hm
   rw [if_pos hm] at fs
   refine lcLS q (qs.map fun x=>V.ref x.1) (fun i=>(((qs.take i).filter fun y=>decide (Vbbhak.entrySerial y.2≤Vbbhak.entrySerial x.2)).map fun x=>V.ref x.1)) (fun R h=>by walk_at "ps";exact h) (SqL.of e1) rfl (fun D hD j y H'' hj s p=>?_) (fun D H'' hD s e=>?_)
   ·obtain ⟨y,hy,rfl⟩:=at_map hj
    have ey:=(e2 y (List.mem_of_getElem? hy)).same (sH.trans s)
    obtain ⟨r',er'⟩:=ey.tup
    walk_at "ps"
    refine ⟨_,SqT.of er',_,entV_first _ _,_,SqT.of (s _ _ er),_,entV_first _ _,?_⟩
    walk_at "ps"
    split
    ·rename_i hle
     refine lc_put p hD Same.rfl' ?_ ?_
     ·rw [List.length_map]
      have:=List.length_filter_le (fun y:Addr × VEntry=>decide (Vbbhak.entrySerial y.2≤Vbbhak.entrySerial x.2)) (qs.take j)
      rw [List.length_take] at this
      omega
     ·rw [VB.take_snoc hy,List.filter_append,List.filter_cons,if_pos (decide_eq_true (by omega)),List.map_append]
      rfl
    ·rename_i hle
     refine lc_skip p Same.rfl' ?_
     rw [VB.take_snoc hy,List.filter_append,List.filter_cons,if_neg (fun z=>hle (by have:=of_decide_eq_true z;omega)),List.filter_nil,List.append_nil]
   ·rw [List.length_map,List.take_length] at e
    walk_at "ps"
    refine ⟨sH.trans s,sH.free hD,qs.filter fun y=>decide (Vbbhak.entrySerial y.2≤Vbbhak.entrySerial x.2),e,fun y hy=>e2 y ((List.mem_filter.mp hy).1),?_,?_⟩
    ·rw [fs,← e3,List.filter_map]
     rfl
    ·have:=List.length_filter_le (fun y:Addr × VEntry=>decide (Vbbhak.entrySerial y.2≤Vbbhak.entrySerial x.2)) qs
     omega
  ·rename_i hm
   rw [if_neg hm] at fs
   refine ⟨Or.inl ⟨rfl,_,SqL.of e1⟩,?_⟩
   simp only [rAppend]
   walk_at "ps"
   rw [e1]
   walk_at "ps"
   refine ⟨by rw [List.length_map];omega,fun b o e=>?_,hq,qs++[x],?_,?_,?_,?_⟩
   ·rw [upd_ne (ne_of_none e hq)];exact sH _ _ e
   ·rw [List.map_append];rfl
   ·intro y hy
    rcases List.mem_append.mp hy with hy | hy
    ·exact e2 y hy
    ·rw [List.mem_singleton.mp hy];exact h2 x (List.mem_of_getElem? hx)
   ·rw [fs,List.map_append,e3];rfl
   ·rw [List.length_append,List.length_singleton];omega
 ·obtain ⟨sH,q,qs,v2,v3,rfl,hq,e1,e2,e3,e4⟩:=z
  rw [List.length_map,List.take_length] at e3
  walk_at "ps"
  exact h q qs H' hq sH e1 (fun x hx=>(e2 x hx).same sH) e3
end
end
section
open TL
theorem log2_small {n:Nat} (h:n≤999999):n.log2 < 1920:=by
 by_cases h0:n=0
 ·rw [h0];decide
 ·have h1:n < 2 ^ 20:=by omega
  have h2:n.log2 < 20:=(Nat.log2_lt h0).mpr h1
  omega
theorem numL_len {n:Nat} (h:n≤999999):(numL n).length≤6:=by
 unfold numL
 rw [List.length_map]
 exact (Nat.length_toDigits_le_iff (by decide) (by decide)).mpr (by omega)
theorem ints_decimal (n:Nat):(numL n).map (fun (c:Nat)=>(c:Int))=VB.vints (Vbbhak.decimal n):=by
 unfold numL VB.vints Vbbhak.decimal
 rw [List.map_map,List.map_map]
 show _=List.map _ n.repr.toList
 rw [Nat.toList_repr]
 apply List.map_congr_left
 intro c hc
 have hd:=numL_digits n c.toNat (List.mem_map.mpr ⟨c,hc,rfl⟩)
 simp only [Function.comp]
 rw [UInt8.toNat_ofNat']
 have:c.toNat % 2 ^ 8=c.toNat:=Nat.mod_eq_of_lt (by omega)
 rw [this]
theorem tl_text (w:String) (n:Nat) (hw:(w.toList.map Char.toNat).map (fun (c:Nat)=>(c:Int))=VB.vints (Vbbhak.chars w)) :
  ((Str.ofString w++Str.ofString (toString ((n:Nat):Int))).cps.toList.map fun (c:Nat)=>(c:Int))=VB.vints (Vbbhak.chars w++Vbbhak.decimal n):=by
 show (tl _).map _=_
 rw [tl_append,tl_ofString,tl_num,List.map_append,hw,ints_decimal]
 unfold VB.vints
 rw [List.map_append]
theorem tl_size (w:String) (n:Nat) (h:n≤999999):(Str.ofString w++Str.ofString (toString ((n:Nat):Int))).cps.size≤w.toList.length + 6:=by
 have:(tl (Str.ofString w++Str.ofString (toString ((n:Nat):Int)))).length≤w.toList.length + 6:=by
  rw [tl_append,tl_ofString,tl_num,List.length_append,List.length_map]
  have:=numL_len h
  omega
 simpa [tl] using this
section
variable {P:Program} {w:World} {K:PySem.W.Frag} {mg:Str->Option Value} {base:Heap}
noncomputable def sp_separator (T:Txt K mg):Sp:=fun vs H Q _=>∃ (word:Str) (wb:Vbbhak.Bytes) (a dx:Addr) (f:Of) (nm:Addr) (nb:Vbbhak.Bytes) (k c:Nat),vs=[.str word,.ref a,.int (c:Int)] ∧
 (word.cps.toList.map fun (c:Nat)=>(c:Int))=VB.vints wb∧wb.length≤100∧H a=some (OO T dx f)∧f.num=(k:Int)∧f.name = .ref nm∧H nm=some (.lst (bvs nb))∧nb.length≤100∧k≤999999∧c≤999999 ∧
 ∀ p q1 q2 q3 H',H p=none->H q1=none->H q2=none->H q3=none->Same H H'->H' p=some (.lst [.ref q1,.ref q2,.ref q3])->H' q1=some (.lst (bvs (wb++nb)))->H' q2=some (.lst (bvs (Vbbhak.chars "OUTPUT " ++ Vbbhak.decimal k)))->H' q3=some (.lst (bvs (Vbbhak.chars "COPY " ++ Vbbhak.decimal c)))->Q (.ref p) H'
theorem ok_separator (T:Txt K mg):FO P w base 2 T.separator (sp_separator T):=by
 o_headS (1 T.separator.F.ok sc_separator)
 obtain ⟨word,wb,a,dx,f,nm,nb,k,c,rfl,h⟩:=h
 o_headS (2 (pss_one (ps_ret (pe_lst (pa_cons (pe_op op_cat (pcf T.bytes_of (ok_bytes_of T) hr (pa1 (pv 0))) (pf (pv 1))) (pa_cons (pcf T.bytes_of (ok_bytes_of T) hr (pa1 (pe_op (r:=rAddStr) op_add_str (pe_str) (pe_callTy (r:=rStr) call_str_int rfl T.n_str bt_str (pa1 (pf (pv 1))))))) (pa1 (pcf T.bytes_of (ok_bytes_of T) hr (pa1 (pe_op (r:=rAddStr) op_add_str (pe_str) (pe_callTy (r:=rStr) call_str_int rfl T.n_str bt_str (pa1 (pv 2)))))))))))))
 obtain ⟨h1,h2,h3,h4,h5,h6,h7,h8,h9,h⟩:=h
 have big:(1000:Nat) < sizeLine:=by decide
 have hws:word.cps.size=wb.length:=by
  have:=congrArg List.length h1
  rw [List.length_map,VB.ints_length,Array.length_toList] at this
  exact this
 walk_at "ps"
 refine ⟨word,rfl,by omega,fun t1 ht1=>?_⟩
 have s1:Same H (upd H t1 (.lst (ivs (word.cps.toList.map fun (c:Nat)=>(c:Int))))):=same_new ht1
 have e1:upd H t1 (.lst (ivs (word.cps.toList.map fun (c:Nat)=>(c:Int)))) t1=some (.lst (bvs wb)):=by rw [upd_same,h1];rfl
 generalize upd H t1 (.lst (ivs (word.cps.toList.map fun (c:Nat)=>(c:Int))))=H1 at s1 e1
 dsimp only
 rw [s1 _ _ h3]
 walk_at "ps"
 rw [h5]
 simp only [rCat]
 walk_at "ps"
 rw [s1 _ _ h6,e1]
 walk_at "ps"
 refine ⟨by rw [bvs_length,bvs_length];omega,fun q1 hq1=>?_⟩
 have s2:=same_new (o:=.lst (bvs wb++bvs nb)) hq1
 have e2:upd H1 q1 (.lst (bvs wb++bvs nb)) q1=some (.lst (bvs (wb++nb))):=by rw [upd_same,bvs_app]
 generalize upd H1 q1 (.lst (bvs wb++bvs nb))=H2 at s2 e2
 rw [s2 _ _ (s1 _ _ h3)]
 walk_at "ps"
 have sc:_≤11:=tl_size "COPY " c h9
 have so:_≤13:=tl_size "OUTPUT " k h8
 have tc:=tl_text "COPY " c rfl
 have to:=tl_text "OUTPUT " k rfl
 have lc:∀ (w:String) (n:Nat),n≤999999->w.toList.length≤10->(Str.ofString w).length + (Str.ofString (toString ((n:Nat):Int))).length≤sizeLine:=by
  intro w n hn hw
  rw [len_tl,len_tl,tl_ofString,tl_num,List.length_map]
  have:=numL_len hn
  omega
 rw [h4]
 refine ⟨_,rfl,by rw [Int.natAbs_natCast];exact log2_small h8,_,_,rfl,rfl,lc _ _ h8 (by decide),_,rfl,by omega,fun q2 hq2=>?_⟩
 have s3:=same_new (o:=.lst (ivs ((Str.ofString "OUTPUT " ++ Str.ofString (toString (k:Int))).cps.toList.map fun (c:Nat)=>(c:Int)))) hq2
 have e3:upd H2 q2 (.lst (ivs ((Str.ofString "OUTPUT " ++ Str.ofString (toString (k:Int))).cps.toList.map fun (c:Nat)=>(c:Int)))) q2=some (.lst (bvs (Vbbhak.chars "OUTPUT " ++ Vbbhak.decimal k))):=by rw [upd_same,to];rfl
 generalize upd H2 q2 (.lst (ivs ((Str.ofString "OUTPUT " ++ Str.ofString (toString (k:Int))).cps.toList.map fun (c:Nat)=>(c:Int))))=H3 at s3 e3
 refine ⟨_,rfl,by rw [Int.natAbs_natCast];exact log2_small h9,_,_,rfl,rfl,lc _ _ h9 (by decide),_,rfl,by omega,fun q3 hq3=>?_⟩
 have s4:=same_new (o:=.lst (ivs ((Str.ofString "COPY " ++ Str.ofString (toString (c:Int))).cps.toList.map fun (c:Nat)=>(c:Int)))) hq3
 have e4:upd H3 q3 (.lst (ivs ((Str.ofString "COPY " ++ Str.ofString (toString (c:Int))).cps.toList.map fun (c:Nat)=>(c:Int)))) q3=some (.lst (bvs (Vbbhak.chars "COPY " ++ Vbbhak.decimal c))):=by rw [upd_same,tc];rfl
 generalize upd H3 q3 (.lst (ivs ((Str.ofString "COPY " ++ Str.ofString (toString (c:Int))).cps.toList.map fun (c:Nat)=>(c:Int))))=H4 at s4 e4
 intro p hp
 have s5:=same_new (o:=.lst [.ref q1,.ref q2,.ref q3]) hp
 refine h p q1 q2 q3 _ ?_ (s1.free hq1) ((s1.trans s2).free hq2) (((s1.trans s2).trans s3).free hq3) ((((s1.trans s2).trans s3).trans s4).trans s5) upd_same (s5 _ _ (s4 _ _ (s3 _ _ e2))) (s5 _ _ (s4 _ _ e3)) (s5 _ _ e4)
 exact (((s1.trans s2).trans s3).trans s4).free hp
noncomputable def sp_first_row (T:Txt K mg):Sp:=fun vs H Q _=>∃ c m:Int,vs=[.int c,.int m]∧Q (.int (if m < (([(32,1),(48,2),(45,3)]:List (Int × Int)).lookup c).getD 1 then 1 else (([(32,1),(48,2),(45,3)]:List (Int × Int)).lookup c).getD 1)) H
theorem ok_first_row (T:Txt K mg):FO P w base 1 T.first_row (sp_first_row T):=by
 o_headS (1 T.first_row.F.ok sc_first_row)
 obtain ⟨c,m,rfl,h⟩:=h
 o_headS (2 (pss_cons (pst 2 sc_first_row (pe_dget2M (hu_of hr) (pgi T.g_ROWS_DOWN) (pv 0) pe_int ⟨rfl,rfl,rfl,rfl⟩)) (pss_cons (ps_if (pt_cmpR op_gt (pv 2) (pv 1) (nomark _)) (pss_one (ps_ret pe_int)) pss_nil) (pss_one (ps_ret (pv 2))))))
 try simp only [cxOf,Cx.wish,tDGet2M]
 walk_at "ps"
 refine ⟨_,_,rfl,T.d_ROWS_DOWN,?_⟩
 walk_at "ps"
 split at h
 ·rename_i hc;rw [if_pos hc];exact h
 ·rename_i hc;rw [if_neg hc];exact h
noncomputable def sp_row_of_hand (T:Txt K mg):Sp:=fun vs H Q _=>∃ a dx f,vs=[.ref a]∧H a=some (WO T dx f)∧(f.hand=0->∀ p,H p=none->Q (.ref p) (upd H p (.lst []))) ∧
 (f.hand ≠ 0->∃ c s,PlV K H f.place c s∧∀ p,H p=none->Q (.ref p) (upd H p (.lst (ivs [f.hand,c,s,f.since]))))
theorem ok_row_of_hand (T:Txt K mg):FO P w base 1 T.row_of_hand (sp_row_of_hand T):=by
 o_headS (1 T.row_of_hand.F.ok sc_row_of_hand)
 obtain ⟨a,dx,f,rfl,h⟩:=h
 o_headS (2 (pss_cons (ps_if (pt_cmpR op_eq (pf (pv 0)) pe_int (nomark _)) (pss_one (ps_ret (pe_lst pa_nil))) pss_nil) (pss_one (ps_ret (pe_lst (pa_cons (pf (pv 0)) (pa_cons (pe_ix ix_tup (pf (pv 0)) pe_int (fun _ _=>rfl)) (pa_cons (pe_ix ix_tup (pf (pv 0)) pe_int (fun _ _=>rfl)) (pa1 (pf (pv 0)))))))))))
 obtain ⟨h1,h2,h3⟩:=h
 (try refine seq1 ?_);walk_at "pq";(try (simp only [h1];(try walk_at "pq")));(repeat (refine seq1 ?_;(try walk_at "pq");(try (simp only [h1];(try walk_at "pq")))));(try walk_at "ps");(try (simp only [h1];(try walk_at "ps")))
 split
 ·rename_i h0
  exact h2 h0
 ·rename_i h0
  obtain ⟨c,st,⟨pl,e1,e2⟩,h⟩:=h3 h0
  rw [e1]
  walk_at "ps"
  exact ⟨_,e2,_,rfl,_,e2,_,rfl,h⟩
noncomputable def sp_Spool_is_in_hand (T:Txt K mg):Sp:=fun vs H Q _=>∃ (a:Addr) (dx:Addr) (f:Sf) (n:Int) (ws:List (Addr × Addr × Wf)),vs=[.ref a,.int n]∧H a=some (SO T dx f)∧SqL K H f.writers (ws.map fun x=>V.ref x.1)∧(∀ x ∈ ws,H x.1=some (WO T x.2.1 x.2.2))∧ws.length≤8 ∧
 ∀ H',Same H H'->Q (.bl (ws.any fun x=>decide (x.2.2.hand=n))) H'
noncomputable def tr_Spool_is_in_hand {K:PySem.W.Frag} {mg:Str->Option Value} (T:Txt K mg):TS:=tRet (tOp (rIn K false) (tVar 1) (tLc (iList K (tFld K (tVar 0) "writers")) (gName 2) (tYes) (tFld K (tVar 2) "hand") [2]))
theorem ok_Spool_is_in_hand (T:Txt K mg):MO P w base mg 1 T.Spool_is_in_hand (sp_Spool_is_in_hand T):=by
 o_headS (1 T.Spool_is_in_hand.F.ok sc_Spool_is_in_hand)
 obtain ⟨a,dx,f,n,ws,rfl,h⟩:=h
 o_headS (2 (tr_Spool_is_in_hand T) (pss_one (ps_ret (pe_cmpR op_in_seq (pv 1) (pe_lc rfl sc_Spool_is_in_hand.nd (pi_list (pf (pv 0))) (own:=[("writer",2)]) (blkOk_by (N:=["self","number","writer"]) (sc:=defScope s_Spool_is_in_hand) (by decide +kernel)) (fun _ _ _ _ _=>pg_name (i:=2) sc_Spool_is_in_hand.nd rfl (Or.inl rfl)) (fun _ _ _ _ _=>pts_nil) (fun _ _ _ _ _=>pe_fld (pv 2) rfl)) (by with_unfolding_all rfl)))))
 obtain ⟨h1,h2,h3,h4,h⟩:=h
 simp only [tr_Spool_is_in_hand]
 walk_at "ps"
 refine lcLS f.writers (ws.map fun x=>V.ref x.1) (fun i=>(ws.take i).map fun x=>V.int x.2.2.hand) (fun R h=>by walk_at "ps";simp only [h1];walk_at "ps";exact h) h2 rfl (fun D hD i x H' hi s p=>?_) (fun D H' hD s e=>?_)
 ·obtain ⟨x,hx,rfl⟩:=at_map hi
  have ex:=s _ _ (h3 x (List.mem_of_getElem? hx))
  walk_at "ps"
  rw [ex]
  walk_at "ps"
  refine lc_put p hD Same.rfl' ?_ ?_
  ·rw [List.length_map,List.length_take]
   have:(1000:Nat) < sizeLine:=by decide
   omega
  ·rw [VB.take_snoc hx,List.map_append];rfl
 ·rw [List.length_map,List.take_length] at e
  refine ⟨D,_,rfl,Or.inl (SqL.of e),rfl,?_,?_⟩
  ·rw [List.all_map];exact List.all_eq_true.mpr fun _ _=>rfl
  ·have:=h H' s
   rw [show inV (V.int n) (ws.map fun x=>V.int x.2.2.hand)=(ws.any fun x=>decide (x.2.2.hand=n)) from ?_]
   ·exact this
   ·unfold inV
    rw [List.any_map]
    congr 1
end
end
section
inductive Tag where
 | spool | outs | wr (i:Nat) | paper (i:Nat) | out (n:Nat) | pages (n:Nat) | last (n:Nat) | env (k:Nat) | lam
 deriving DecidableEq
noncomputable abbrev Tg:=Addr->Option Tag
noncomputable def Fz (tg:Tg) (H:Hp):Hp:=fun b=>if tg b=none then H b else none
section
variable {tg tg':Tg} {H H':Hp} {a b:Addr} {o:HO}
theorem Fz_of (h:tg b=none):Fz tg H b=H b:=if_pos h
theorem Fz_some (h:Fz tg H b=some o):tg b=none∧H b=some o:=by
 unfold Fz at h
 split at h
 ·rename_i e;exact ⟨e,h⟩
 ·cases h
theorem Fz_sub:Same (Fz tg H) H:=fun b o h=>(Fz_some h).2
theorem Fz_same (s:Same H H'):Same (Fz tg H) (Fz tg H'):=fun b o h=>by
 obtain ⟨e,h⟩:=Fz_some h
 rw [Fz_of e];exact s _ _ h
theorem Fz_upd (h:tg a ≠ none):Fz tg (upd H a o)=Fz tg H:=by
 funext b
 unfold Fz
 by_cases e:tg b=none
 ·rw [if_pos e,if_pos e,upd_ne (fun z=>h (by rw [← z];exact e))]
 ·rw [if_neg e,if_neg e]
end
noncomputable def Trk (tg:Tg) (H:Hp):Prop:=∀ a t,tg a=some t->∃ o,H a=some o
noncomputable def Kp (tg:Tg) (H:Hp) (tg':Tg) (H':Hp) (p:Tag->Prop):Prop:=∀ b t,tg b=some t->p t->tg' b=some t∧H' b=H b
theorem Trk.free {tg:Tg} {H:Hp} (h:Trk tg H) {a:Addr} (e:H a=none):tg a=none:=by
 cases q:tg a with
 | none=>rfl
 | some t=>obtain ⟨o,z⟩:=h a t q;rw [e] at z;cases z
theorem Trk.same {tg:Tg} {H H':Hp} (h:Trk tg H) (s:Same H H'):Trk tg H':=fun a t e=>let ⟨o,z⟩:=h a t e;⟨o,s _ _ z⟩
theorem Kp.same {tg:Tg} {H H':Hp} (h:Trk tg H) (s:Same H H') (p:Tag->Prop):Kp tg H tg H' p:=fun b t e _=>by
 obtain ⟨o,z⟩:=h b t e
 exact ⟨e,by rw [z];exact s _ _ z⟩
theorem Kp.ex {tg:Tg} {H H':Hp} (h:Trk tg H) {l:List Addr} (s:Ex l H H') {p:Tag->Prop} (hp:∀ b t,tg b=some t->p t->b ∉ l):Kp tg H tg H' p:=fun b t e q=>by
 obtain ⟨o,z⟩:=h b t e
 exact ⟨e,by rw [z];exact s _ _ z (hp b t e q)⟩
theorem Fz_ex {tg:Tg} {H H':Hp} {l:List Addr} (s:Ex l H H') (hl:∀ b ∈ l,tg b ≠ none):Same (Fz tg H) (Fz tg H'):=fun b o h=>by
 obtain ⟨e,h⟩:=Fz_some h
 rw [Fz_of e]
 exact s _ _ h fun z=>hl b z e
theorem Trk.ex {tg:Tg} {H H':Hp} (h:Trk tg H) {l:List Addr} (s:Ex l H H') (hl:∀ b ∈ l,∃ o,H' b=some o):Trk tg H':=fun a t e=>by
 obtain ⟨o,z⟩:=h a t e
 by_cases m:a ∈ l
 ·exact hl a m
 ·exact ⟨o,s _ _ z m⟩
section
variable {K:PySem.W.Frag} {mg:Str->Option Value}
structure WRel (K:PySem.W.Frag) (F:Hp) (x:Vbbhak.Writer) (f:Wf):Prop where
 serial:f.serial=(x.serial:Int)
 on:f.on=x.on
 form:f.form=(x.form:Int)
 drain:f.drain=x.draining
 sep:f.sep=(x.sep.toNat:Int)
 every:f.every=(x.every:Int)
 cls:∃ c,f.classes = .ref c∧F c=some (.lst (nvs x.classes))
 clen:x.classes.length≤8
 hand0:x.hand=none->f.hand=0
 hand1:∀ h,x.hand=some h->f.hand=(h.out:Int)∧PlV K F f.place (h.pos.copy:Int) (h.pos.step:Int)∧PlV K F f.nplace (h.noted.copy:Int) (h.noted.step:Int)∧f.since=(h.since:Int)∧f.first=(h.first:Int)∧f.noted=(x.noted:Int)
theorem WRel.same {F F':Hp} {x:Vbbhak.Writer} {f:Wf} (h:WRel K F x f) (s:Same F F'):WRel K F' x f:=
 ⟨h.serial,h.on,h.form,h.drain,h.sep,h.every,let ⟨c,e,z⟩:=h.cls;⟨c,e,s _ _ z⟩,h.clen,h.hand0,fun y e=>let ⟨a,b,c,d⟩:=h.hand1 y e;⟨a,b.same s,c.same s,d⟩⟩
structure WIn (T:Txt K mg) (tg:Tg) (H:Hp) (i:Nat) (x:Vbbhak.Writer) (a dx p:Addr) (f:Wf) (ps:List (Addr × VEntry)):Prop where
 ta:tg a=some (.wr i)
 tp:tg p=some (.paper i)
 ha:H a=some (WO T dx f)
 hp:H p=some (.lst (ps.map fun x=>V.ref x.1))
 pap:f.paper = .ref p
 ents:x.paper=ps.map (·.2)
 en:∀ q ∈ ps,EntA (Fz tg H) q.1 q.2
 rel:WRel K (Fz tg H) x f
noncomputable def WAt (T:Txt K mg) (tg:Tg) (H:Hp) (i:Nat) (x:Vbbhak.Writer) (a:Addr):Prop:=∃ dx p f ps,WIn T tg H i x a dx p f ps
theorem WAt.frame {T:Txt K mg} {tg tg':Tg} {H H':Hp} {i:Nat} {x:Vbbhak.Writer} {a:Addr} (h:WAt T tg H i x a) (k:Kp tg H tg' H' fun t=>t = .wr i∨t = .paper i) (s:Same (Fz tg H) (Fz tg' H')):WAt T tg' H' i x a:=by
 obtain ⟨dx,p,f,ps,h⟩:=h
 obtain ⟨k1,k2⟩:=k _ _ h.ta (.inl rfl)
 obtain ⟨k3,k4⟩:=k _ _ h.tp (.inr rfl)
 exact ⟨dx,p,f,ps,k1,k3,k2.trans h.ha,k4.trans h.hp,h.pap,h.ents,fun q hq=>(h.en q hq).same s,h.rel.same s⟩
noncomputable def PgAt (tg:Tg) (H:Hp) (n:Nat) (closed:Bool) (v:V) (Pg:List (List Vbbhak.Bytes)):Prop:=∃ (g:Addr) (as:List Addr),v = .ref g ∧
 if closed=true then Fz tg H g=some (.lst (as.map V.ref))∧All2 (RowsA (Fz tg H)) as Pg
 else tg g=some (.pages n)∧H g=some (.lst (as.map V.ref))∧((Pg=[]∧as=[])∨∃ as' a P' p rs,as=as'++[a]∧Pg=P'++[p]∧All2 (RowsA (Fz tg H)) as' P'∧tg a=some (.last n)∧H a=some (.lst ((rs:List Addr).map V.ref))∧All2 (fun r b=>Fz tg H r=some (.lst (bvs b))) rs p)
theorem PgAt.frame {tg tg':Tg} {H H':Hp} {n:Nat} {c:Bool} {v:V} {Pg:List (List Vbbhak.Bytes)} (h:PgAt tg H n c v Pg) (k:Kp tg H tg' H' fun t=>t = .pages n∨t = .last n) (s:Same (Fz tg H) (Fz tg' H')):PgAt tg' H' n c v Pg:=by
 obtain ⟨g,as,e,h⟩:=h
 refine ⟨g,as,e,?_⟩
 cases c with
 | true =>
  rw [if_pos rfl] at h ⊢
  exact ⟨s _ _ h.1,h.2.mono fun a b z=>z.same s⟩
 | false =>
  rw [if_neg (by decide)] at h ⊢
  obtain ⟨h1,h2,h3⟩:=h
  obtain ⟨k1,k2⟩:=k _ _ h1 (.inl rfl)
  refine ⟨k1,k2.trans h2,?_⟩
  rcases h3 with h3 | ⟨as',a,P',p,rs,e1,e2,e3,e4,e5,e6⟩
  ·exact .inl h3
  ·obtain ⟨k3,k4⟩:=k _ _ e4 (.inr rfl)
   exact .inr ⟨as',a,P',p,rs,e1,e2,e3.mono fun a b z=>z.same s,k3,k4.trans e5,e6.mono fun r b z=>s _ _ z⟩
theorem PgAt.read {tg:Tg} {H:Hp} {n:Nat} {c:Bool} {v:V} {Pg:List (List Vbbhak.Bytes)} (h:PgAt tg H n c v Pg):∃ (g:Addr) (as:List Addr),v = .ref g∧H g=some (.lst (as.map V.ref))∧All2 (RowsA H) as Pg:=by
 obtain ⟨g,as,e,h⟩:=h
 refine ⟨g,as,e,?_⟩
 cases c with
 | true =>
  rw [if_pos rfl] at h
  exact ⟨Fz_sub _ _ h.1,h.2.mono fun a b z=>z.same Fz_sub⟩
 | false =>
  rw [if_neg (by decide)] at h
  obtain ⟨h1,h2,h3⟩:=h
  refine ⟨h2,?_⟩
  rcases h3 with ⟨rfl,rfl⟩ | ⟨as',a,P',p,rs,rfl,rfl,e3,e4,e5,e6⟩
  ·exact All2.nil
  ·exact (e3.mono fun a b z=>z.same Fz_sub).snoc ⟨rs,e5,e6.mono fun r b z=>Fz_sub _ _ z⟩
structure OIn (T:Txt K mg) (tg:Tg) (H:Hp) (Pg:List (List Vbbhak.Bytes)) (o:Vbbhak.Out) (a dx:Addr) (f:Of):Prop where
 ta:tg a=some (.out o.num)
 ha:H a=some (OO T dx f)
 num:f.num=(o.num:Int)
 cls:f.cls=(o.cls:Int)
 form:f.form=(o.form:Int)
 copies:f.copies=(o.copies:Int)
 prio:f.prio=(o.prio:Int)
 held:f.held=o.held
 closed:f.closed=o.closed
 lines:f.lines=(o.lines.length:Int)
 name:∃ nm,f.name = .ref nm∧Fz tg H nm=some (.lst (bvs o.name))
 place:PlV K (Fz tg H) f.place (o.pos.copy:Int) (o.pos.step:Int)
 pages:PgAt tg H o.num o.closed f.pages Pg
noncomputable def OAt (T:Txt K mg) (tg:Tg) (H:Hp) (Pg:List (List Vbbhak.Bytes)) (o:Vbbhak.Out) (a:Addr):Prop:=∃ dx f,OIn T tg H Pg o a dx f
theorem OAt.frame {T:Txt K mg} {tg tg':Tg} {H H':Hp} {Pg:List (List Vbbhak.Bytes)} {o:Vbbhak.Out} {a:Addr} (h:OAt T tg H Pg o a) (k:Kp tg H tg' H' fun t=>t = .out o.num∨t = .pages o.num∨t = .last o.num) (s:Same (Fz tg H) (Fz tg' H')):OAt T tg' H' Pg o a:=by
 obtain ⟨dx,f,h⟩:=h
 obtain ⟨k1,k2⟩:=k _ _ h.ta (.inl rfl)
 exact ⟨dx,f,k1,k2.trans h.ha,h.num,h.cls,h.form,h.copies,h.prio,h.held,h.closed,h.lines,let ⟨nm,e,z⟩:=h.name;⟨nm,e,s _ _ z⟩,h.place.same s,h.pages.frame (fun b t e z=>k b t e (.inr z)) s⟩
noncomputable def lamPos:Pos:=⟨134,35,134,83⟩
noncomputable abbrev lamQ:Str:=(envOfC "Spool.waiting_outputs" (defScope s_Spool_waiting_outputs) 0 0 .none).qual ++ "<lambda>"
noncomputable def LamR (T:Txt K mg) (tg:Tg) (H:Hp):Prop:=tg T.a_LAM=some .lam∧(H T.a_LAM=some (.tbl #[])∨∃ c,H T.a_LAM=some (.tbl (lamTab lamPos c))∧Fz tg H c=some (codeO c lamQ))
theorem LamR.frame {T:Txt K mg} {tg tg':Tg} {H H':Hp} (h:LamR T tg H) (k:Kp tg H tg' H' fun t=>t = .lam) (s:Same (Fz tg H) (Fz tg' H')):LamR T tg' H':=by
 obtain ⟨h1,h2⟩:=h
 obtain ⟨k1,k2⟩:=k _ _ h1 rfl
 refine ⟨k1,?_⟩
 rw [k2]
 rcases h2 with h2 | ⟨c,h2,h3⟩
 ·exact .inl h2
 ·exact .inr ⟨c,h2,s _ _ h3⟩
theorem LamR.lamT {T:Txt K mg} {tg:Tg} {H:Hp} (h:LamR T tg H):LamT lamPos lamQ T.a_LAM H:=by
 obtain ⟨_,h2⟩:=h
 rcases h2 with h2 | ⟨c,h2,h3⟩
 ·exact .inl h2
 ·exact .inr ⟨c,h2,(Fz_some h3).2⟩
structure RIn (T:Txt K mg) (tg:Tg) (H:Hp) (sp:Addr) (s:Vbbhak.State) (dx:Addr) (f:Sf) (os:List (Vbbhak.Out × Addr)) (ws:List (Vbbhak.Writer × Addr)):Prop where
 trk:Trk tg H
 tsp:tg sp=some .spool
 lam:LamR T tg H
 hsp:H sp=some (SO T dx f)
 most:f.most=(s.most:Int)
 cap:f.cap=(s.cap:Int)
 room:f.room=(s.sheets:Int)
 last:f.last + 1=(s.next:Int)
 nle:s.next≤1000000
 tod:tg f.outs=some .outs
 hod:H f.outs=some (.dK (os.map fun p=>((Sum.inl (p.1.num:Int):Key),V.ref p.2)))
 outs:s.outs=os.map (·.1)
 oat:∀ p ∈ os,OAt T tg H (Vbbhak.pages s.most p.1.lines) p.1 p.2
 hwl:Fz tg H f.writers=some (.lst (ws.map fun p=>V.ref p.2))
 wrs:s.writers=ws.map (·.1)
 wat:∀ i x a,ws[i]? = some (x,a)->WAt T tg H i x a
noncomputable def Rep (T:Txt K mg) (tg:Tg) (H:Hp) (sp:Addr) (s:Vbbhak.State):Prop:=∃ dx f os ws,RIn T tg H sp s dx f os ws
section
variable {T:Txt K mg} {tg tg':Tg} {H H':Hp} {sp:Addr} {s:Vbbhak.State}
theorem Rep.trk (R:Rep T tg H sp s):Trk tg H:=let ⟨_,_,_,_,h⟩:=R;h.trk
theorem Rep.same (R:Rep T tg H sp s) (e:Same H H'):Rep T tg H' sp s:=by
 obtain ⟨dx,f,os,ws,h⟩:=R
 have k:∀ p,Kp tg H tg H' p:=fun p=>Kp.same h.trk e p
 have fz:Same (Fz tg H) (Fz tg H'):=Fz_same e
 exact ⟨dx,f,os,ws,h.trk.same e,h.tsp,h.lam.frame (k _) fz,e _ _ h.hsp,h.most,h.cap,h.room,h.last,h.nle,h.tod,e _ _ h.hod,h.outs,fun p hp=>(h.oat p hp).frame (k _) fz,fz _ _ h.hwl,h.wrs,fun i x a z=>(h.wat i x a z).frame (k _) fz⟩
theorem RIn.setW {dx:Addr} {f:Sf} {os:List (Vbbhak.Out × Addr)} {ws:List (Vbbhak.Writer × Addr)} (h:RIn T tg H sp s dx f os ws) {i:Nat} {x x':Vbbhak.Writer} {a:Addr} (hi:ws[i]? = some (x,a)) (trk:Trk tg' H')
  (k:Kp tg H tg' H' fun t=>t ≠ .wr i∧t ≠ .paper i) (fz:Same (Fz tg H) (Fz tg' H')) (new:WAt T tg' H' i x' a):RIn T tg' H' sp { s with writers:=s.writers.set i x' } dx f os (ws.set i (x',a)):=by
 obtain ⟨k1,k2⟩:=k _ _ h.tsp ⟨by simp,by simp⟩
 obtain ⟨k3,k4⟩:=k _ _ h.tod ⟨by simp,by simp⟩
 have il:i < ws.length:=(List.getElem?_eq_some_iff.mp hi).1
 refine ⟨trk,k1,h.lam.frame (fun b t e z=>k b t e (by rw [z];exact ⟨by simp,by simp⟩)) fz,k2.trans h.hsp,h.most,h.cap,h.room,h.last,h.nle,k3,k4.trans h.hod,h.outs,fun p hp=>(h.oat p hp).frame (fun b t e z=>k b t e ?_) fz,?_,?_,fun j y b hj=>?_⟩
 ·rcases z with rfl | rfl | rfl <;> exact ⟨by simp,by simp⟩
 ·rw [List.map_set,fz _ _ h.hwl]
  congr 2
  have e:(ws.map fun p=>V.ref p.2)[i]? = some (V.ref a):=by rw [List.getElem?_map,hi];rfl
  apply List.ext_getElem?
  intro j
  by_cases ej:j=i
  ·subst ej
   rw [e,List.getElem?_set_self (by rw [List.length_map];exact il)]
  ·rw [List.getElem?_set_ne (fun z=>ej z.symm)]
 ·show s.writers.set i x'=_
  rw [List.map_set,h.wrs]
 ·by_cases e:j=i
  ·subst e
   rw [List.getElem?_set_self il] at hj
   cases hj
   exact new
  ·rw [List.getElem?_set_ne (fun z=>e z.symm)] at hj
   refine (h.wat j y b hj).frame (fun c t e' z=>k c t e' ?_) fz
   rcases z with rfl | rfl
   ·exact ⟨by simpa using e,by simp⟩
   ·exact ⟨by simp,by simpa using e⟩
theorem RIn.setO {dx:Addr} {f:Sf} {os:List (Vbbhak.Out × Addr)} {ws:List (Vbbhak.Writer × Addr)} (h:RIn T tg H sp s dx f os ws) {o':Vbbhak.Out} {a:Addr} (hu:∀ p ∈ os,p.1.num=o'.num->p.2=a) (trk:Trk tg' H')
  (k:Kp tg H tg' H' fun t=>t ≠ .out o'.num∧t ≠ .pages o'.num∧t ≠ .last o'.num) (fz:Same (Fz tg H) (Fz tg' H')) (new:OAt T tg' H' (Vbbhak.pages s.most o'.lines) o' a) :
  RIn T tg' H' sp (Vbbhak.setOut s o') dx f (os.map fun p=>if p.1.num=o'.num then (o',p.2) else p) ws:=by
 obtain ⟨k1,k2⟩:=k _ _ h.tsp ⟨by simp,by simp,by simp⟩
 obtain ⟨k3,k4⟩:=k _ _ h.tod ⟨by simp,by simp,by simp⟩
 refine ⟨trk,k1,h.lam.frame (fun b t e z=>k b t e (by rw [z];exact ⟨by simp,by simp,by simp⟩)) fz,k2.trans h.hsp,h.most,h.cap,h.room,h.last,h.nle,k3,?_,?_,fun p hp=>?_,fz _ _ h.hwl,h.wrs,fun i x b hi=>(h.wat i x b hi).frame (fun c t e z=>k c t e ?_) fz⟩
 ·rw [k4,h.hod,List.map_map]
  congr 2
  apply List.map_congr_left
  intro p _
  simp only [Function.comp]
  split
  ·rename_i e;rw [e]
  ·rfl
 ·unfold Vbbhak.setOut
  dsimp only
  rw [h.outs,List.map_map,List.map_map]
  apply List.map_congr_left
  intro p _
  simp only [Function.comp]
  split <;> rfl
 ·obtain ⟨q,hq,rfl⟩:=List.mem_map.mp hp
  split
  ·rename_i e
   show OAt T tg' H' (Vbbhak.pages s.most o'.lines) o' q.2
   rw [hu q hq e]
   exact new
  ·rename_i e
   refine (h.oat q hq).frame (fun b t e' z=>k b t e' ?_) fz
   rcases z with rfl | rfl | rfl
   ·exact ⟨by simpa using e,by simp,by simp⟩
   ·exact ⟨by simp,by simpa using e,by simp⟩
   ·exact ⟨by simp,by simp,by simpa using e⟩
 ·rcases z with rfl | rfl <;> exact ⟨by simp,by simp,by simp⟩
end
end
end
section
theorem choose2 {α β:Type} {R:α->β->Prop}:∀ (l:List α),(∀ x ∈ l,∃ y,R x y)->∃ m,All2 R l m
 | [],_=>⟨[],All2.nil⟩
 | x::l,h=>by
  obtain ⟨y,hy⟩:=h x List.mem_cons_self
  obtain ⟨m,hm⟩:=choose2 l fun z hz=>h z (List.mem_cons_of_mem _ hz)
  exact ⟨y::m,All2.cons hy hm⟩
theorem valV_os:∀ (os:List (Vbbhak.Out × Addr)) (n:Int),valV (os.map fun p=>((Sum.inl (p.1.num:Int):Key),V.ref p.2)) (Sum.inl n)=(os.find? fun p=>(p.1.num:Int) == n).map fun p=>V.ref p.2
 | [],n=>rfl
 | p::os,n=>by
  rw [List.map_cons]
  by_cases e:(p.1.num:Int)=n
  ·rw [valV_pos (p:=((Sum.inl (p.1.num:Int):Key),V.ref p.2)) (by rw [e]),List.find?_cons_of_pos (by simpa using e)]
   rfl
  ·rw [valV_neg (p:=((Sum.inl (p.1.num:Int):Key),V.ref p.2)) (fun z=>e (Sum.inl.inj z)),valV_os os n,List.find?_cons_of_neg (by simpa using e)]
section
variable {P:Program} {w:World} {K:PySem.W.Frag} {mg:Str->Option Value} {base:Heap}
section
variable {T:Txt K mg} {tg:Tg} {H:Hp} {sp:Addr} {s:Vbbhak.State} {dx:Addr} {f:Sf} {os:List (Vbbhak.Out × Addr)} {ws:List (Vbbhak.Writer × Addr)} {Q:VK} {E:XK}
theorem RIn.find (R:RIn T tg H sp s dx f os ws) (n:Int):(os.find? fun p=>(p.1.num:Int) == n).map (·.1)=Vbbhak.outAt s n:=by
 unfold Vbbhak.outAt
 rw [R.outs,List.find?_map]
 rfl
theorem RIn.out_some (R:RIn T tg H sp s dx f os ws) {n:Int} {o:Vbbhak.Out} (h:Vbbhak.outAt s n=some o):∃ a,(o,a) ∈ os∧(o.num:Int)=n∧valV (os.map fun p=>((Sum.inl (p.1.num:Int):Key),V.ref p.2)) (Sum.inl n)=some (.ref a):=by
 rw [← R.find] at h
 cases e:os.find? fun p=>(p.1.num:Int) == n with
 | none=>rw [e] at h;cases h
 | some p =>
  rw [e] at h
  cases h
  refine ⟨p.2,List.mem_of_find?_eq_some e,by simpa using List.find?_some e,?_⟩
  rw [valV_os,e]
  rfl
theorem RIn.out_none (R:RIn T tg H sp s dx f os ws) {n:Int} (h:Vbbhak.outAt s n=none):valV (os.map fun p=>((Sum.inl (p.1.num:Int):Key),V.ref p.2)) (Sum.inl n)=none:=by
 rw [← R.find] at h
 rw [valV_os]
 cases e:os.find? fun p=>(p.1.num:Int) == n with
 | none=>rfl
 | some p=>rw [e] at h;cases h
theorem RIn.out_get (R:RIn T tg H sp s dx f os ws) {n:Int} {o:Vbbhak.Out} (h:Vbbhak.outAt s n=some o):∃ a,(o,a) ∈ os∧(o.num:Int)=n∧DGet H f.outs (.int n) (some (.ref a)):=by
 obtain ⟨a,h1,h2,h3⟩:=R.out_some h
 exact ⟨a,h1,h2,by rw [← h3];exact DGet.k (k:=Sum.inl n) R.hod⟩
theorem RIn.at_w (R:RIn T tg H sp s dx f os ws) (hl:s.writers.length=8) {n:Int} (hw:Vbbhak.isWriter n=true):∃ a,ws[n.toNat - 1]? = some (Vbbhak.writerAt s n,a)∧atI (ws.map fun p=>V.ref p.2) (n - 1)=some (.ref a):=by
 obtain ⟨_,h2,h3,h4,h5⟩:=VB.writerAt_mem hl hw
 rw [R.wrs,List.getElem?_map] at h2
 cases e:ws[n.toNat - 1]? with
 | none=>rw [e] at h2;cases h2
 | some p =>
  rw [e] at h2
  have h2:p.1=Vbbhak.writerAt s n:=Option.some.inj h2
  refine ⟨p.2,by rw [← h2],at_of (j:=n.toNat - 1) (by omega) ?_⟩
  rw [List.getElem?_map,e]
  rfl
theorem RIn.wl (R:RIn T tg H sp s dx f os ws):SqL K H f.writers (ws.map fun p=>V.ref p.2):=SqL.of (Fz_sub _ _ R.hwl)
theorem go_writer_at (R:RIn T tg H sp s dx f os ws) (hl:s.writers.length=8) {n:Int} (hw:Vbbhak.isWriter n=true) (h:∀ a,ws[n.toNat - 1]? = some (Vbbhak.writerAt s n,a)->Q (.ref a) H):sp_Spool_writer_at T [.ref sp,.int n] H Q E:=by
 obtain ⟨a,h1,h2⟩:=R.at_w hl hw
 exact ⟨sp,dx,f,n,_,_,rfl,R.hsp,R.wl,h2,h a h1⟩
theorem RIn.all_w0 {H0:Hp} (R:RIn T tg H0 sp s dx f os ws) (k:Kp tg H0 tg H fun t=>t ≠ .outs) (fz:Same (Fz tg H0) (Fz tg H)):∃ m:List (Addr × Wf),All2 (fun (p:Vbbhak.Writer × Addr) y=>H p.2=some (WO T y.1 y.2)∧WRel K (Fz tg H) p.1 y.2) ws m:=by
 refine choose2 ws fun p hp=>?_
 obtain ⟨i,hi⟩:=List.getElem?_of_mem hp
 obtain ⟨dx,q,f,ps,h⟩:=(R.wat i p.1 p.2 hi).frame (fun b t e z=>k b t e (by rcases z with rfl | rfl <;> simp)) fz
 exact ⟨(dx,f),h.ha,h.rel⟩
theorem any2 {α β:Type} {R:α->β->Prop} {p:α->Bool} {q:β->Bool}:∀ (l:List α) (m:List β),All2 R l m->(∀ x y,x ∈ l->R x y->p x=q y)->l.any p=m.any q
 | [],[],_,_=>rfl
 | x::l,y::m,h,e=>by
  rw [List.any_cons,List.any_cons,e x y List.mem_cons_self h.head,any2 l m h.tail fun a b ha=>e a b (List.mem_cons_of_mem _ ha)]
 | [],y::m,h,_=>by have:=h.1;simp at this
 | x::l,[],h,_=>by have:=h.1;simp at this
theorem go_is_in_hand0 {H0:Hp} (R:RIn T tg H0 sp s dx f os ws) (k:Kp tg H0 tg H fun t=>t ≠ .outs) (fz:Same (Fz tg H0) (Fz tg H)) (W:VB.WF s) {n:Nat} (hn:1≤n) (h:∀ H',Same H H'->Q (.bl (Vbbhak.inHand s n)) H'):sp_Spool_is_in_hand T [.ref sp,.int (n:Int)] H Q E:=by
 obtain ⟨m,hm⟩:=R.all_w0 k fz
 have hl:ws.length=8:=by have:=W.len;rw [R.wrs,List.length_map] at this;exact this
 refine ⟨sp,dx,f,n,(ws.zip m).map fun p=>(p.1.2,p.2),rfl,(k _ _ R.tsp (by simp)).2.trans R.hsp,?_,?_,?_,?_⟩
 ·have e:((ws.zip m).map fun p=>(p.1.2,p.2)).map (fun x=>V.ref x.1)=ws.map fun p=>V.ref p.2:=by
   rw [List.map_map]
   have:(ws.zip m).map ((fun p:Vbbhak.Writer × Addr=>V.ref p.2) ∘ Prod.fst)=ws.map fun p=>V.ref p.2:=by
    rw [← List.map_map,List.map_fst_zip (by rw [hm.1];exact Nat.le_refl _)]
   exact this
  rw [e]
  exact SqL.of (Fz_sub _ _ (fz _ _ R.hwl))
 ·intro x hx
  obtain ⟨p,hp,rfl⟩:=List.mem_map.mp hx
  obtain ⟨i,hi⟩:=List.getElem?_of_mem hp
  rw [List.getElem?_zip_eq_some] at hi
  exact (hm.2 i _ _ hi.1 hi.2).1
 ·rw [List.length_map,List.length_zip];omega
 ·intro H' hs
  have:=h H' hs
  have e:(((ws.zip m).map fun p=>(p.1.2,p.2)).any fun x=>decide (x.2.2.hand=(n:Int)))=Vbbhak.inHand s n:=by
   unfold Vbbhak.inHand
   rw [R.wrs,List.any_map,List.any_map]
   have e1:(ws.zip m).any ((fun x:Addr × Addr × Wf=>decide (x.2.2.hand=(n:Int))) ∘ fun p=>(p.1.2,p.2))=m.any fun y=>decide (y.2.hand=(n:Int)):=by
    have:m=(ws.zip m).map Prod.snd:=(List.map_snd_zip (by rw [hm.1];exact Nat.le_refl _)).symm
    conv=>rhs;rw [this]
    rw [List.any_map]
    rfl
   rw [e1]
   symm
   refine any2 ws m hm fun x y hx r=>?_
   have rel:=r.2
   simp only [Function.comp]
   cases e:x.1.hand with
   | none =>
    rw [rel.hand0 e]
    symm
    exact decide_eq_false (by omega)
   | some hh =>
    rw [(rel.hand1 hh e).1]
    show (hh.out == n)=_
    rw [Bool.eq_iff_iff]
    simp
    omega
  rw [e]
  exact this
theorem go_is_in_hand (R:RIn T tg H sp s dx f os ws) (W:VB.WF s) {n:Nat} (hn:1≤n) (h:∀ H',Same H H'->Q (.bl (Vbbhak.inHand s n)) H'):sp_Spool_is_in_hand T [.ref sp,.int (n:Int)] H Q E:=go_is_in_hand0 R (fun b t e _=>⟨e,rfl⟩) Same.rfl' W hn h
end
noncomputable def refO (s:Vbbhak.State) (n:Int):Int:=if Vbbhak.isNum n=false then -1 else if (Vbbhak.outAt s n).isNone=true then -4 else 0
noncomputable def sp_output_refusal (T:Txt K mg):Sp:=fun vs H Q _=>∃ sp n tg s,vs=[.ref sp,.int n]∧Rep T tg H sp s∧Q (.int (refO s n)) H
theorem ok_output_refusal (T:Txt K mg):FO P w base 2 T.output_refusal (sp_output_refusal T):=by
 o_headS (1 T.output_refusal.F.ok sc_output_refusal)
 obtain ⟨sp,n,tg,st,rfl,h⟩:=h
 o_headS (2 (pss_cons (ps_if (pt_not (pt_val (pcf T.within (ok_within T) hr (pa_cons (pv 1) (pa_cons pe_int (pa1 (pgi T.g_LAST_NUMBER))))))) (pss_one (ps_ret (pgi T.g_OUT_OF_RANGE))) pss_nil) (pss_cons (ps_if (pt_cmp (pc_dnotin (hu_of hr) (pv 1) (pf (pv 0))) (by with_unfolding_all rfl)) (pss_one (ps_ret (pgi T.g_NOT_THERE))) pss_nil) (pss_one (ps_ret pe_int)))))
 obtain ⟨⟨dx,f,os,ws,R⟩,h⟩:=h
 walk_at "ps"
 refine ⟨_,_,_,rfl,_,rfl,?_⟩
 unfold refO Vbbhak.isNum at h
 split
 ·rename_i hn
  rw [if_pos hn] at h
  exact h
 ·rename_i hn
  rw [if_neg hn] at h
  rw [R.hsp]
  walk_at "ps"
  refine ⟨_,DGet.k (k:=Sum.inl n) R.hod,?_⟩
  cases e:Vbbhak.outAt st n with
  | none =>
   rw [R.out_none e]
   rw [e] at h
   exact h
  | some o =>
   obtain ⟨a,_,_,ea⟩:=R.out_some e
   rw [ea]
   rw [e] at h
   exact h
noncomputable def refH (s:Vbbhak.State) (n:Int):Int:=if Vbbhak.isNum n=false then -1 else if (Vbbhak.outAt s n).isNone=true then -4 else if Vbbhak.inHand s n.toNat=true then -7 else 0
noncomputable def sp_hand_refusal (T:Txt K mg):Sp:=fun vs H Q _=>∃ sp n tg s,vs=[.ref sp,.int n]∧Rep T tg H sp s∧VB.WF s∧∀ H',Same H H'->Q (.int (refH s n)) H'
theorem ok_hand_refusal (T:Txt K mg):FO P w base 3 T.hand_refusal (sp_hand_refusal T):=by
 o_headS (1 T.hand_refusal.F.ok sc_hand_refusal)
 obtain ⟨sp,n,tg,st,rfl,h⟩:=h
 o_headS (2 (pss_cons (pst 2 sc_hand_refusal (pcf T.output_refusal (ok_output_refusal T) hr (pa_cons (pv 0) (pa1 (pv 1))))) (pss_cons (ps_if (PW.pt (pw_and (pt_cmpR op_eq (pv 2) pe_int (nomark _)) (pw_and1 (pt_val (pcm (pv 0) T.cl_Spool T.Spool_is_in_hand (ok_Spool_is_in_hand T) hr (pa1 (pv 1))))))) (pss_one (ps_ret (pgi T.g_IN_HAND))) pss_nil) (pss_one (ps_ret (pv 2))))))
 obtain ⟨R,W,h⟩:=h
 walk_at "ps"
 refine ⟨sp,n,tg,st,rfl,R,?_⟩
 obtain ⟨dx,f,os,ws,R⟩:=R
 unfold refO
 unfold refH at h
 by_cases h1:Vbbhak.isNum n=false
 ·rw [if_pos h1] at h ⊢
  walk_at "ps"
  exact h H Same.rfl'
 ·rw [if_neg h1] at h ⊢
  by_cases h2:(Vbbhak.outAt st n).isNone=true
  ·rw [if_pos h2] at h ⊢
   walk_at "ps"
   exact h H Same.rfl'
  ·rw [if_neg h2] at h ⊢
   walk_at "ps"
   rw [R.hsp]
   walk_at "ps"
   have hn:1≤n:=by
    have h1:Vbbhak.inside n 1 999999=true:=by simpa [Vbbhak.isNum] using h1
    exact (VB.inside_iff.mp h1).1
   rw [show n=((n.toNat:Nat):Int) by omega]
   refine go_is_in_hand R W (by omega) fun H' hs=>?_
   have:=h H' hs
   refine ⟨_,rfl,?_⟩
   split at this
   ·rename_i e;rw [if_pos e];exact this
   ·rename_i e;rw [if_neg e];exact this
noncomputable def refW (s:Vbbhak.State) (n:Int):Int:=if Vbbhak.isWriter n=false then -1 else if (Vbbhak.writerAt s n).on=false then -3 else 0
noncomputable def sp_writer_refusal (T:Txt K mg):Sp:=fun vs H Q _=>∃ sp n tg s,vs=[.ref sp,.int n]∧Rep T tg H sp s∧VB.WF s∧Q (.int (refW s n)) H
theorem ok_writer_refusal (T:Txt K mg):FO P w base 3 T.writer_refusal (sp_writer_refusal T):=by
 o_headS (1 T.writer_refusal.F.ok sc_writer_refusal)
 obtain ⟨sp,n,tg,st,rfl,h⟩:=h
 o_headS (2 (pss_cons (ps_if (pt_not (pt_val (pcf T.is_writer (ok_is_writer T) hr (pa1 (pv 1))))) (pss_one (ps_ret (pgi T.g_OUT_OF_RANGE))) pss_nil) (pss_cons (ps_if (pt_not (pt_val (pf (pcm (pv 0) T.cl_Spool T.Spool_writer_at (ok_Spool_writer_at T) hr (pa1 (pv 1)))))) (pss_one (ps_ret (pgi T.g_WRITER_OFF))) pss_nil) (pss_one (ps_ret pe_int)))))
 obtain ⟨R,W,h⟩:=h
 obtain ⟨dx,f,os,ws,R⟩:=R
 walk_at "ps"
 refine ⟨_,rfl,_,rfl,?_⟩
 unfold refW at h
 split
 ·rename_i hn
  rw [if_pos hn] at h
  exact h
 ·rename_i hn
  rw [if_neg hn] at h
  have hn:Vbbhak.isWriter n=true:=by simpa using hn
  rw [R.hsp]
  walk_at "ps"
  refine go_writer_at R W.len hn fun a ha=>?_
  obtain ⟨dy,p,g,ps,hw⟩:=R.wat _ _ _ ha
  walk_at "ps"
  rw [hw.ha]
  walk_at "ps"
  rw [hw.rel.on]
  split at h
  ·rename_i e;rw [if_pos e];exact h
  ·rename_i e;rw [if_neg e];exact h
noncomputable def refE (s:Vbbhak.State) (n:Int):Int:=if Vbbhak.isWriter n=false then -1 else if (Vbbhak.writerAt s n).on=false then -3 else if (Vbbhak.writerAt s n).hand.isNone=true then -6 else 0
theorem WRel.hand_iff {F:Hp} {x:Vbbhak.Writer} {f:Wf} (r:WRel K F x f) (h:∀ h,x.hand=some h->1≤h.out):f.hand=0 ↔ x.hand.isNone=true:=by
 cases e:x.hand with
 | none=>simp [r.hand0 e]
 | some y =>
  rw [(r.hand1 y e).1]
  have:=h y e
  simp
  omega
theorem hand_pos {s:Vbbhak.State} (W:VB.WF s) {n:Int} (hw:Vbbhak.isWriter n=true):∀ h,(Vbbhak.writerAt s n).hand=some h->1≤h.out:=fun h e=>by
 obtain ⟨o,h1,h2⟩:=VB.hand_out W hw e
 rw [← h2.num]
 exact (W.out o h2.mem).num1
noncomputable def sp_empty_hand_refusal (T:Txt K mg):Sp:=fun vs H Q _=>∃ sp n tg s,vs=[.ref sp,.int n]∧Rep T tg H sp s∧VB.WF s∧Q (.int (refE s n)) H
theorem ok_empty_hand_refusal (T:Txt K mg):FO P w base 4 T.empty_hand_refusal (sp_empty_hand_refusal T):=by
 o_headS (1 T.empty_hand_refusal.F.ok sc_empty_hand_refusal)
 obtain ⟨sp,n,tg,st,rfl,h⟩:=h
 o_headS (2 (pss_cons (pst 2 sc_empty_hand_refusal (pcf T.writer_refusal (ok_writer_refusal T) hr (pa_cons (pv 0) (pa1 (pv 1))))) (pss_cons (ps_if (PW.pt (pw_and (pt_cmpR op_eq (pv 2) pe_int (nomark _)) (pw_and1 (pt_cmpR op_eq (pf (pcm (pv 0) T.cl_Spool T.Spool_writer_at (ok_Spool_writer_at T) hr (pa1 (pv 1)))) pe_int (nomark _))))) (pss_one (ps_ret (pgi T.g_WRONG_STATE))) pss_nil) (pss_one (ps_ret (pv 2))))))
 obtain ⟨R,W,h⟩:=h
 walk_at "ps"
 refine ⟨sp,n,tg,st,rfl,R,W,?_⟩
 obtain ⟨dx,f,os,ws,R⟩:=R
 unfold refW
 unfold refE at h
 by_cases h1:Vbbhak.isWriter n=false
 ·rw [if_pos h1] at h ⊢
  walk_at "ps"
  exact h
 ·rw [if_neg h1] at h ⊢
  by_cases h2:(Vbbhak.writerAt st n).on=false
  ·rw [if_pos h2] at h ⊢
   walk_at "ps"
   exact h
  ·rw [if_neg h2] at h ⊢
   walk_at "ps"
   rw [R.hsp]
   walk_at "ps"
   have hn:Vbbhak.isWriter n=true:=by simpa using h1
   refine go_writer_at R W.len hn fun a ha=>?_
   obtain ⟨dy,p,g,ps,hw⟩:=R.wat _ _ _ ha
   walk_at "ps"
   rw [hw.ha]
   walk_at "ps"
   have hi:=hw.rel.hand_iff (hand_pos W hn)
   split at h
   ·rename_i e;rw [if_pos (hi.mpr e)];exact h
   ·rename_i e;rw [if_neg (fun z=>e (hi.mp z))];exact h
noncomputable def sp_Spool_is_waiting (T:Txt K mg):Sp:=fun vs H Q _=>∃ sp a tg s Pg o H0,vs=[.ref sp,.ref a]∧Rep T tg H0 sp s∧Kp tg H0 tg H (fun t=>t ≠ .outs)∧Same (Fz tg H0) (Fz tg H)∧VB.WF s∧OAt T tg H0 Pg o a∧1≤o.num∧∀ H',Same H H'->Q (.bl (o.closed && (!o.held && (!Vbbhak.isDone o && !Vbbhak.inHand s o.num)))) H'
theorem ok_Spool_is_waiting (T:Txt K mg):MO P w base mg 3 T.Spool_is_waiting (sp_Spool_is_waiting T):=by
 o_headS (1 T.Spool_is_waiting.F.ok sc_Spool_is_waiting)
 obtain ⟨sp,a,tg,st,Pg,o,H0,rfl,h⟩:=h
 o_headS (2 (pss_cons (ps_if (PW.pt (pw_or (pt_not (pt_val (pf (pv 1)))) (pw_or (pt_val (pf (pv 1))) (pw_or1 (pt_val (pcm0 (pv 1) T.cl_Output T.Output_is_done (ok_Output_is_done T) hr)))))) (pss_one (ps_ret (pe_bl))) pss_nil) (pss_one (ps_ret (pe_not (pcm (pv 0) T.cl_Spool T.Spool_is_in_hand (ok_Spool_is_in_hand T) hr (pa1 (pf (pv 1)))))))))
 obtain ⟨R,kp,fz,W,O,h1,h⟩:=h
 obtain ⟨da,fa,O⟩:=O.frame (fun b t e z=>kp b t e (by rcases z with rfl | rfl | rfl <;> simp)) fz
 obtain ⟨dx,f,os,ws,R⟩:=R
 walk_at "ps"
 rw [O.ha]
 walk_at "ps"
 rw [O.closed]
 cases ec:o.closed with
 | false =>
  have:=h H Same.rfl'
  rw [ec,Bool.false_and] at this
  exact this
 | true =>
  rw [if_neg (by decide),O.held]
  rw [ec,Bool.true_and] at h
  cases eh:o.held with
  | true =>
   have:=h H Same.rfl'
   rw [eh] at this
   exact this
  | false =>
   rw [if_neg (by decide)]
   rw [eh,Bool.not_false,Bool.true_and] at h
   refine ⟨_,_,_,_,_,rfl,O.ha,O.place.same Fz_sub,_,rfl,?_⟩
   rw [O.copies]
   have ed:decide ((o.copies:Int) < (o.pos.copy:Int))=Vbbhak.isDone o:=by unfold Vbbhak.isDone;exact decide_eq_decide.mpr (by omega)
   rw [ed]
   cases hd:Vbbhak.isDone o with
   | true =>
    have:=h H Same.rfl'
    rw [hd] at this
    exact this
   | false =>
    rw [if_neg (by decide)]
    rw [hd,Bool.not_false,Bool.true_and] at h
    rw [(kp _ _ R.tsp (by simp)).2,R.hsp]
    walk_at "ps"
    rw [O.ha]
    walk_at "ps"
    rw [O.num]
    exact go_is_in_hand0 R kp fz W h1 fun H' hs=>⟨_,rfl,h H' hs⟩
noncomputable def setN (n copies:Nat) (sep:Bool) (p:Vbbhak.Pos):Vbbhak.Pos:=if p.step=0∧sep=false∧0 < n then ⟨p.copy,1⟩ else if (if sep=true then p.step≤n + 1 else 1≤p.step∧p.step≤n) then p else if p.copy < copies∧(sep=true∨0 < n) then ⟨p.copy + 1,if sep=true then 0 else 1⟩ else ⟨copies + 1,0⟩
theorem settled_setN {s:Vbbhak.State} {sep:Bool} {o:Vbbhak.Out} {p:Vbbhak.Pos} (h:p.copy≤o.copies):Vbbhak.settled s sep o p=setN (Vbbhak.pagesOf s o).length o.copies sep p:=by
 unfold Vbbhak.settled setN
 dsimp only
 rw [if_neg (by omega)]
 split
 ·rfl
 ·by_cases hh:VB.okStep (Vbbhak.pagesOf s o).length sep p.step
  ·rw [if_pos (VB.sheetAt_some.mpr hh)]
   unfold VB.okStep at hh
   rw [if_pos hh]
  ·rw [if_neg (fun z=>hh (VB.sheetAt_some.mp z))]
   unfold VB.okStep at hh
   rw [if_neg hh]
noncomputable def sp_next_sheet (T:Txt K mg):Sp:=fun vs H Q _=>∃ (a pl dx:Addr) (f:Of) (g:Addr) (xs:List V) (n copies:Nat) (sep:Bool) (p:Vbbhak.Pos),vs=[.ref a,.ref pl,.int (sep.toNat:Int)]∧H a=some (OO T dx f)∧f.pages = .ref g∧SqL K H g xs∧xs.length=n∧f.copies=(copies:Int) ∧
 SqT K H pl [.int (p.copy:Int),.int (p.step:Int)]∧p.copy≤copies∧∀ q H',Same H H'->(∀ tg,Trk tg H->SqT K (Fz tg H) pl [.int (p.copy:Int),.int (p.step:Int)]->SqT K (Fz tg H') q [.int ((setN n copies sep p).copy:Int),.int ((setN n copies sep p).step:Int)])->SqT K H' q [.int ((setN n copies sep p).copy:Int),.int ((setN n copies sep p).step:Int)]->Q (.ref q) H'
theorem ok_next_sheet (T:Txt K mg):FO P w base 2 T.next_sheet (sp_next_sheet T):=by
 o_headS (1 T.next_sheet.F.ok sc_next_sheet)
 obtain ⟨a,pl,dx,f,g,xs,n,copies,sep,p,rfl,h⟩:=h
 o_headS (2 (pss_cons (pst 3 sc_next_sheet (pe_ix ix_tup (pv 1) pe_int (fun _ _=>rfl))) (pss_cons (pst 4 sc_next_sheet (pe_ix ix_tup (pv 1) pe_int (fun _ _=>rfl))) (pss_cons (pst 5 sc_next_sheet (pe_callB (r:=rLen K) call_len_seq rfl T.n_len bt_len (pa1 (pf (pv 0))))) (pss_cons (ps_if (pt_val (pcm (pv 0) T.cl_Output T.Output_is_behind_end (ok_Output_is_behind_end T) hr (pa1 (pv 1)))) (pss_one (ps_ret (pcm0 (pv 0) T.cl_Output T.Output_end (ok_Output_end T) hr))) pss_nil) (pss_cons (ps_if (pt_val (pcf T.is_sheet (ok_is_sheet T) hr (pa_cons (pv 4) (pa_cons (pv 5) (pa1 (pv 2)))))) (pss_one (ps_ret (pv 1))) pss_nil) (pss_cons (ps_if (PW.pt (pw_and (pt_cmpR op_eq (pv 4) pe_int (nomark _)) (pw_and1 (pt_cmpR op_gt (pv 5) pe_int (nomark _))))) (pss_one (ps_ret (pe_tup (pa_cons (pv 3) (pa1 pe_int))))) pss_nil) (pss_cons (ps_if (PW.pt (pw_and (pt_cmpR op_lt (pv 3) (pf (pv 0)) (nomark _)) (pw_and1 (PW.pt (pw_or (pt_cmpR op_eq (pv 2) pe_int (nomark _)) (pw_or1 (pt_cmpR op_gt (pv 5) pe_int (nomark _)))))))) (pss_one (ps_ret (pe_tup (pa_cons (pe_op op_add (pv 3) pe_int) (pa1 (pcf T.first_step (ok_first_step T) hr (pa1 (pv 2)))))))) pss_nil) (pss_one (ps_ret (pcm0 (pv 0) T.cl_Output T.Output_end (ok_Output_end T) hr)))))))))))
 obtain ⟨h1,h2,h3,h4,h5,h6,h7,h⟩:=h
 refine seq1 ?_
 walk_at "pq"
 refine ⟨_,h6,_,rfl,seq1 ?_⟩
 walk_at "pq"
 refine ⟨_,h6,_,rfl,seq1 ?_⟩
 walk_at "pq"
 rw [h1]
 walk_at "pq"
 rw [h2]
 walk_at "pq"
 refine ⟨xs,Or.inl h3,?_⟩
 walk_at "ps"
 rw [h1]
 walk_at "ps"
 refine ⟨_,_,_,_,_,_,rfl,h1,h6,_,rfl,?_⟩
 rw [h5,if_neg (by simp;omega),h4]
 refine ⟨_,_,_,rfl,_,rfl,?_⟩
 have new:∀ c st:Nat,setN n copies sep p=⟨c,st⟩->∀ q,H q=none->Q (.ref q) (upd H q (.tup [.int (c:Int),.int (st:Int)])):=by
  intro c st e q hq
  rw [e] at h
  refine h q _ (same_new hq) (fun tg tk _=>SqT.of ?_) (SqT.of upd_same)
  rw [Fz_of (tk.free hq),upd_same]
 have old:setN n copies sep p=p->Q (.ref pl) H:=by
  intro e
  rw [e] at h
  exact h pl H Same.rfl' (fun tg _ z=>z) h6
 have fend:setN n copies sep p=⟨copies + 1,0⟩->∃ x x_4,H a=some (HO.ins T.c_Output x x_4)∧List.lookup (Str.ofString "end") x_4=none∧sp_Output_end T [V.ref a] H Q E0:=by
  intro e
  refine ⟨_,_,h1,rfl,a,dx,f,rfl,h1,fun q hq=>?_⟩
  rw [h5]
  exact new (copies + 1) 0 e q hq
 cases sep with
 | true =>
  by_cases hs:p.step≤n + 1
  ·rw [if_pos (by by_cases z:(p.step:Int)=0∨(p.step:Int)=n + 1;(rw [if_pos z];rfl);(rw [if_neg z];exact decide_eq_true (by omega)))]
   exact old (by unfold setN;rw [if_neg (by simp),if_pos (by simpa using hs)])
  ·rw [if_neg (by rw [if_neg (by omega)];simp;omega),if_neg (by omega),h1]
   walk_at "ps"
   rw [h5]
   have e1:setN n copies true p=if p.copy < copies then ⟨p.copy + 1,0⟩ else ⟨copies + 1,0⟩:=by
    unfold setN
    rw [if_neg (by simp),if_neg (by simpa using hs)]
    simp
   by_cases hc:p.copy < copies
   ·rw [if_pos (by omega),if_pos (by rfl)]
    rw [if_pos hc] at e1
    exact ⟨_,rfl,new (p.copy + 1) 0 e1⟩
   ·rw [if_neg (by omega)]
    rw [if_neg hc] at e1
    obtain ⟨_,_,_,_,z⟩:=fend e1
    exact z
 | false =>
  by_cases hs:1≤p.step∧p.step≤n
  ·rw [if_pos (by rw [if_neg (by omega)];exact decide_eq_true (by omega))]
   exact old (by unfold setN;rw [if_neg (by omega),if_pos (by simpa using hs)])
  ·rw [if_neg (by
    by_cases z:(p.step:Int)=0∨(p.step:Int)=n + 1
    ·rw [if_pos z];simp
    ·rw [if_neg z];simp;omega)]
   have e0:¬ (p.step=0∧0 < n)->setN n copies false p=if p.copy < copies∧0 < n then ⟨p.copy + 1,1⟩ else ⟨copies + 1,0⟩:=by
    intro z
    unfold setN
    rw [if_neg (by simpa using z),if_neg (by simpa using hs)]
    simp
   have rest:¬ (p.step=0∧0 < n)->∃ x x_1 x_2,H a=some (HO.ins x x_1 x_2)∧Cls K x∧NoAttr K x (Str.ofString "copies")∧∃ x,List.lookup (Str.ofString "copies") x_2=some x∧∃ x_3,x=V.int x_3 ∧
     if (p.copy:Int) < x_3 then
      if ((false.toNat:Nat):Int)=1 then sp_first_step T [V.int ((false.toNat:Nat):Int)] H (fun x H1=>∀ (p_1:Addr),H1 p_1=none->Q (V.ref p_1) (upd H1 p_1 (HO.tup [V.int ((p.copy:Int) + 1),x]))) E0
      else if 0 < (n:Int) then sp_first_step T [V.int ((false.toNat:Nat):Int)] H (fun x H1=>∀ (p_1:Addr),H1 p_1=none->Q (V.ref p_1) (upd H1 p_1 (HO.tup [V.int ((p.copy:Int) + 1),x]))) E0
      else ∃ x x_4,H a=some (HO.ins T.c_Output x x_4)∧List.lookup (Str.ofString "end") x_4=none∧sp_Output_end T [V.ref a] H Q E0
     else ∃ x x_4,H a=some (HO.ins T.c_Output x x_4)∧List.lookup (Str.ofString "end") x_4=none∧sp_Output_end T [V.ref a] H Q E0:=by
    intro z
    have e1:=e0 z
    refine ⟨_,_,_,h1,T.cl_Output,T.no_Output_copies,_,lk_Output_copies,_,rfl,?_⟩
    rw [h5]
    by_cases hc:p.copy < copies
    ·rw [if_pos (by omega),if_neg (by simp)]
     by_cases h0:0 < n
     ·rw [if_pos (by omega)]
      rw [if_pos ⟨hc,h0⟩] at e1
      exact ⟨_,rfl,new (p.copy + 1) 1 e1⟩
     ·rw [if_neg (by omega)]
      rw [if_neg (fun y=>h0 y.2)] at e1
      exact fend e1
    ·rw [if_neg (by omega)]
     rw [if_neg (fun y=>hc y.1)] at e1
     exact fend e1
   by_cases h0:p.step=0
   ·rw [if_pos (by omega)]
    by_cases hn:0 < n
    ·rw [if_pos (by omega)]
     exact new p.copy 1 (by unfold setN;rw [if_pos ⟨h0,rfl,hn⟩])
    ·rw [if_neg (by omega)]
     exact rest fun z=>hn z.2
   ·rw [if_neg (by omega)]
    exact rest fun z=>h0 z.1
end
end
section
open Vbbhak (State Call Ans step onOut onWriter)
theorem flat_told (a:Ans):VB.flat a=told a.num (a.rows.map fun r=>r.map Int.ofNat):=by
 unfold VB.flat told
 rw [List.flatMap_map]
 simp
theorem nvs_ivs (l:List Nat):nvs l=ivs (l.map Int.ofNat):=by unfold nvs ivs;rw [List.map_map];rfl
structure Kept (tg:Tg) (H:Hp) (tg':Tg) (H':Hp):Prop where
 fz:Same (Fz tg H) (Fz tg' H')
 env:∀ b k,tg b=some (.env k)->tg' b=some (.env k)∧H' b=H b
theorem Kept.same {tg:Tg} {H H':Hp} (h:Trk tg H) (s:Same H H'):Kept tg H tg H':=⟨Fz_same s,fun b k e=>Kp.same h s (fun _=>True) b _ e trivial⟩
theorem Kept.trans {tg tg1 tg2:Tg} {H H1 H2:Hp} (a:Kept tg H tg1 H1) (b:Kept tg1 H1 tg2 H2):Kept tg H tg2 H2:=⟨a.fz.trans b.fz,fun c k e=>by
 obtain ⟨e1,e2⟩:=a.env c k e
 obtain ⟨e3,e4⟩:=b.env c k e1
 exact ⟨e3,e4.trans e2⟩⟩
theorem Kept.ex {tg:Tg} {H H':Hp} (h:Trk tg H) {l:List Addr} (s:Ex l H H') (hl:∀ b ∈ l,∃ t,tg b=some t∧∀ k,t ≠ .env k):Kept tg H tg H':=
 ⟨Fz_ex s (fun b hb=>by obtain ⟨t,e,_⟩:=hl b hb;rw [e];simp),fun b k e=>Kp.ex h s (p:=fun t=>t = .env k) (fun c t e z m=>by
  obtain ⟨t',e',n⟩:=hl c m
  rw [e'] at e
  exact n k ((Option.some.inj e).trans z)) b _ e rfl⟩
section
variable {P:Program} {w:World} {K:PySem.W.Frag} {mg:Str->Option Value} {base:Heap}
noncomputable def QSp (T:Txt K mg) (tg:Tg) (H:Hp) (sp:Addr) (s:State) (c:Call) (Q:VK):Prop:=Rep T tg H sp s∧VB.WF s ∧
 ∀ tg' H' p,Rep T tg' H' sp (step s c).1->Kept tg H tg' H'->H' p=some (.lst (ivs (VB.flat (step s c).2)))->tg' p=none->Q (.ref p) H'
section
variable {T:Txt K mg} {tg:Tg} {H H1:Hp} {sp:Addr} {s:State} {c:Call} {Q:VK}
theorem QSp.ret (h:QSp T tg H sp s c Q) (e:(step s c).1=s) {p:Addr} (s1:Same H H1) (hp:H1 p=some (.lst (ivs (VB.flat (step s c).2)))) (fr:H p=none):Q (.ref p) H1:=by
 obtain ⟨R,W,k⟩:=h
 refine k tg H1 p ?_ (Kept.same R.trk s1) hp (R.trk.free fr)
 rw [e]
 exact R.same s1
theorem QSp.one (h:QSp T tg H sp s c Q) {n:Int} (e:step s c=(s,{ num:=n })) (s1:Same H H1):∀ p,H1 p=none->Q (.ref p) (upd H1 p (.lst [.int n])):=fun p hp =>
 h.ret (by rw [e]) (s1.trans (same_new hp)) (by rw [upd_same,e];rfl) (s1.free hp)
end
theorem RIn.out_at {T:Txt K mg} {tg:Tg} {H:Hp} {sp:Addr} {s:State} {dx:Addr} {f:Sf} {os:List (Vbbhak.Out × Addr)} {ws:List (Vbbhak.Writer × Addr)} (R:RIn T tg H sp s dx f os ws) {o:Vbbhak.Out} {a:Addr} (h:(o,a) ∈ os):OAt T tg H (Vbbhak.pagesOf s o) o a:=R.oat _ h
theorem RIn.out_mem {T:Txt K mg} {tg:Tg} {H:Hp} {sp:Addr} {s:State} {dx:Addr} {f:Sf} {os:List (Vbbhak.Out × Addr)} {ws:List (Vbbhak.Writer × Addr)} (R:RIn T tg H sp s dx f os ws) {o:Vbbhak.Out} {a:Addr} (h:(o,a) ∈ os):o ∈ s.outs:=by rw [R.outs];exact List.mem_map.mpr ⟨_,h,rfl⟩
theorem told_len {B:Nat} (n:Int):∀ (rows:List (List Int)),(∀ l ∈ rows,l.length≤B)->(told n rows).length≤1 + (B + 1) * rows.length
 | [],_=>by simp [told]
 | l::rows,h=>by
  have ih:=told_len n rows fun x hx=>h x (List.mem_cons_of_mem _ hx)
  have hl:=h l List.mem_cons_self
  unfold told at ih ⊢
  simp only [List.flatMap_cons,List.length_cons,List.length_append] at ih ⊢
  rw [Nat.mul_add]
  omega
theorem ints_nums (b:Vbbhak.Bytes):VB.vints b=(Vbbhak.nums b).map Int.ofNat:=by unfold VB.vints Vbbhak.nums;rw [List.map_map];rfl
theorem go_rows {T:Txt K mg} {H:Hp} {Q:VK} {E:XK} {r:Addr} {l:List Vbbhak.Bytes} (hr:RowsA H r l) (hl:l.length≤300) (hb:∀ b ∈ l,b.length≤140) (n:Int) (h:∀ p,H p=none->Q (.ref p) (upd H p (.lst (ivs (told n (l.map fun b=>(Vbbhak.nums b).map Int.ofNat)))))):sp_with_rows T [.int n,.ref r] H Q E:=by
 obtain ⟨as,h1,h2⟩:=hr
 refine ⟨n,r,as,l.map fun b=>(Vbbhak.nums b).map Int.ofNat,rfl,SqL.of h1,⟨by rw [List.length_map];exact h2.1,fun i a x ha hx=>?_⟩,?_,h⟩
 ·rw [List.getElem?_map] at hx
  obtain ⟨b,hb,rb⟩:=h2.at_l ha
  rw [hb] at hx
  cases hx
  show H a=some (.lst (ivs ((Vbbhak.nums b).map Int.ofNat)))
  rw [rb,← ints_nums]
  rfl
 ·have:=told_len (B:=140) n (l.map fun b=>(Vbbhak.nums b).map Int.ofNat) (fun x hx=>by
   obtain ⟨b,h3,rfl⟩:=List.mem_map.mp hx
   unfold Vbbhak.nums
   simpa using hb b h3)
  rw [List.length_map] at this
  have big:(100000:Nat) < sizeLine:=by decide
  have:(140 + 1) * l.length≤141 * 300:=Nat.mul_le_mul_left _ hl
  omega
theorem page_size {s:State} (W:VB.WF s) {o:Vbbhak.Out} (ho:o ∈ s.outs):∀ p ∈ Vbbhak.pagesOf s o,p.length≤300∧∀ r ∈ p,r.length≤140:=fun p hp=>by
 have O:=W.out o ho
 obtain ⟨h1,h2⟩:=VB.pages_size s.most o.lines [] O.lin (by simp) p hp
 have:=O.few
 simp at h1
 exact ⟨by omega,fun r hr=>by have:=h2 r hr;omega⟩
theorem onOut_cases (s:State) (n:Int):(refO s n ≠ 0∧∀ f,onOut s n f=(s,{ num:=refO s n }))∨(refO s n=0∧∃ o,Vbbhak.outAt s n=some o∧∀ f,onOut s n f=f o):=by
 unfold refO onOut
 by_cases h1:Vbbhak.isNum n=false
 ·rw [if_pos h1]
  exact .inl ⟨by decide,fun f=>by rw [if_pos h1];rfl⟩
 ·rw [if_neg h1]
  cases e:Vbbhak.outAt s n with
  | none=>exact .inl ⟨by decide,fun f=>by rw [if_neg h1];rfl⟩
  | some o=>exact .inr ⟨rfl,o,rfl,fun f=>by rw [if_neg h1]⟩
theorem onWriter_cases (s:State) (n:Int):(refW s n ≠ 0∧∀ f,onWriter s n f=(s,{ num:=refW s n }))∨(refW s n=0∧Vbbhak.isWriter n=true∧(Vbbhak.writerAt s n).on=true∧∀ f,onWriter s n f=f (Vbbhak.writerAt s n)):=by
 unfold refW onWriter
 by_cases h1:Vbbhak.isWriter n=false
 ·rw [if_pos h1]
  exact .inl ⟨by decide,fun f=>by rw [if_pos h1];rfl⟩
 ·rw [if_neg h1]
  by_cases h2:(Vbbhak.writerAt s n).on=false
  ·rw [if_pos h2]
   exact .inl ⟨by decide,fun f=>by rw [if_neg h1,if_pos h2];rfl⟩
  ·rw [if_neg h2]
   exact .inr ⟨rfl,by simpa using h1,by simpa using h2,fun f=>by rw [if_neg h1,if_neg h2]⟩
noncomputable def sp_tell_pages (T:Txt K mg):Sp:=fun vs H Q _=>∃ sp n tg s,vs=[.ref sp,.int n]∧QSp T tg H sp s (.pages n) Q
theorem ok_tell_pages (T:Txt K mg):FO P w base 3 T.tell_pages (sp_tell_pages T):=by
 o_headS (1 T.tell_pages.F.ok sc_tell_pages)
 obtain ⟨sp,n,tg,st,rfl,h⟩:=h
 o_headS (2 (pss_cons (pst 2 sc_tell_pages (pcf T.output_refusal (ok_output_refusal T) hr (pa_cons (pv 0) (pa1 (pv 1))))) (pss_cons (ps_if (pt_cmpR op_ne (pv 2) pe_int (nomark _)) (prl (pv 2)) pss_nil) (prl (pe_callB (r:=rLen K) call_len_seq rfl T.n_len bt_len (pa1 (pf (pe_dget (hu_of hr) (pf (pv 0)) (pv 1) (fun _ _=>rfl)))))))))
 walk_at "ps"
 refine ⟨sp,n,tg,st,rfl,h.1,?_⟩
 walk_at "ps"
 rcases onOut_cases st n with ⟨h1,h2⟩ | ⟨h1,o,h2,h3⟩
 ·rw [if_pos h1]
  exact h.one (h2 _) Same.rfl'
 ·rw [if_neg (by simpa using h1)]
  obtain ⟨dx,f,os,ws,R⟩:=h.1
  rw [R.hsp]
  walk_at "ps"
  obtain ⟨a,e1,e2,e3⟩:=R.out_get h2
  obtain ⟨da,fa,O⟩:=R.out_at e1
  obtain ⟨g,as,e4,e5,e6⟩:=O.pages.read
  refine ⟨_,e3,?_⟩
  walk_at "ps"
  rw [O.ha]
  walk_at "ps"
  rw [e4]
  walk_at "ps"
  refine ⟨_,Or.inl (SqL.of e5),?_⟩
  rw [List.length_map,e6.1]
  exact h.one (h3 _) Same.rfl'
noncomputable def sp_tell_page (T:Txt K mg):Sp:=fun vs H Q _=>∃ sp n q tg s,vs=[.ref sp,.int n,.int q]∧QSp T tg H sp s (.page n q) Q
theorem ok_tell_page (T:Txt K mg):FO P w base 3 T.tell_page (sp_tell_page T):=by
 o_headS (1 T.tell_page.F.ok sc_tell_page)
 obtain ⟨sp,n,q,tg,st,rfl,h⟩:=h
 o_headS (2 (pss_cons (pst 3 sc_tell_page (pcf T.output_refusal (ok_output_refusal T) hr (pa_cons (pv 0) (pa1 (pv 1))))) (pss_cons (ps_if (pt_cmpR op_ne (pv 3) pe_int (nomark _)) (prl (pv 3)) pss_nil) (pss_cons (pst 4 sc_tell_page (pf (pe_dget (hu_of hr) (pf (pv 0)) (pv 1) (fun _ _=>rfl)))) (pss_cons (ps_if (pt_not (pt_val (pcf T.within (ok_within T) hr (pa_cons (pv 2) (pa_cons pe_int (pa1 (pe_callB (r:=rLen K) call_len_seq rfl T.n_len bt_len (pa1 (pv 4))))))))) (prg T.g_OUT_OF_RANGE) pss_nil) (pss_cons (pst 5 sc_tell_page (pe_ix ix_list (pv 4) (pe_op op_sub (pv 2) pe_int) (fun _ _=>rfl))) (pss_one (ps_ret (pcf T.with_rows (ok_with_rows T) hr (pa_cons (pe_callB (r:=rLen K) call_len_seq rfl T.n_len bt_len (pa1 (pv 5))) (pa1 (pv 5))))))))))))
 walk_at "ps"
 refine ⟨sp,n,tg,st,rfl,h.1,?_⟩
 walk_at "ps"
 rcases onOut_cases st n with ⟨h1,h2⟩ | ⟨h1,o,h2,h3⟩
 ·rw [if_pos h1]
  exact h.one (h2 _) Same.rfl'
 ·rw [if_neg (by simpa using h1)]
  obtain ⟨dx,f,os,ws,R⟩:=h.1
  rw [R.hsp]
  walk_at "ps"
  obtain ⟨a,e1,e2,e3⟩:=R.out_get h2
  obtain ⟨da,fa,O⟩:=R.out_at e1
  obtain ⟨g,as,e4,e5,e6⟩:=O.pages.read
  refine ⟨_,e3,?_⟩
  walk_at "ps"
  rw [O.ha]
  walk_at "ps"
  rw [e4]
  walk_at "ps"
  refine ⟨_,Or.inl (SqL.of e5),?_⟩
  rw [List.length_map,e6.1]
  refine ⟨_,_,_,rfl,_,rfl,?_⟩
  have e7:=h3 fun o=>if Vbbhak.inside q 1 (Vbbhak.pagesOf st o).length=false then Vbbhak.no st 1 else let l:=(Vbbhak.pagesOf st o).getD (q.toNat - 1) [];Vbbhak.yes st l.length (l.map Vbbhak.nums)
  split
  ·rename_i hf
   rw [if_pos hf] at e7
   exact h.one e7 Same.rfl'
  ·rename_i hf
   rw [if_neg hf] at e7
   have hf:Vbbhak.inside q 1 (Vbbhak.pagesOf st o).length=true:=by simpa using hf
   have hq:=VB.inside_iff.mp hf
   have hlt:q.toNat - 1 < (Vbbhak.pagesOf st o).length:=by omega
   obtain ⟨b,hb,rs,hr1,hr2⟩:=e6.at_r (List.getElem?_eq_getElem hlt)
   refine ⟨_,SqL.of e5,_,at_of (j:=q.toNat - 1) (by omega) (by rw [List.getElem?_map,hb];rfl),?_⟩
   walk_at "ps"
   refine ⟨_,Or.inl (SqL.of hr1),?_⟩
   have hmem:=List.getElem_mem hlt
   obtain ⟨hs1,hs2⟩:=page_size h.2.1 (R.out_mem e1) _ hmem
   refine go_rows ⟨rs,hr1,hr2⟩ hs1 hs2 _ fun p hp=>?_
   have e8:(Vbbhak.pagesOf st o).getD (q.toNat - 1) []=(Vbbhak.pagesOf st o)[q.toNat - 1]:=by rw [List.getD_eq_getElem?_getD,List.getElem?_eq_getElem hlt];rfl
   dsimp only at e7
   rw [e8] at e7
   have e9:step st (.page n q)=_:=e7
   refine h.ret (by rw [e9];rfl) (same_new hp) ?_ hp
   rw [upd_same,e9,flat_told]
   show _=some (HO.lst (ivs (told (((Vbbhak.pagesOf st o)[q.toNat - 1].length:Nat):Int) (List.map (fun r=>List.map Int.ofNat r) (List.map Vbbhak.nums (Vbbhak.pagesOf st o)[q.toNat - 1])))))
   rw [List.map_map,List.length_map,hr2.1]
   rfl
theorem same_upd {H X:Hp} {p:Addr} {o:HO} (s:Same H X) (hp:H p=none):Same H (upd X p o):=fun b u e=>by rw [upd_ne (ne_of_none e hp)];exact s _ _ e
noncomputable def b01 (b:Bool):Int:=if b then 1 else 0
theorem b01_nat (b:Bool):b01 b=(b.toNat:Int):=by cases b <;> rfl
noncomputable def sp_tell_output (T:Txt K mg):Sp:=fun vs H Q _=>∃ sp n tg s,vs=[.ref sp,.int n]∧QSp T tg H sp s (.output n) Q
theorem ok_tell_output (T:Txt K mg):FO P w base 3 T.tell_output (sp_tell_output T):=by
 o_headS (1 T.tell_output.F.ok sc_tell_output)
 obtain ⟨sp,n,tg,st,rfl,h⟩:=h
 o_headS (2 (pss_cons (pst 2 sc_tell_output (pcf T.output_refusal (ok_output_refusal T) hr (pa_cons (pv 0) (pa1 (pv 1))))) (pss_cons (ps_if (pt_cmpR op_ne (pv 2) pe_int (nomark _)) (prl (pv 2)) pss_nil) (pss_cons (pst 3 sc_tell_output (pe_dget (hu_of hr) (pf (pv 0)) (pv 1) (fun _ _=>rfl))) (pss_cons (pst 4 sc_tell_output (pe_lst (pa_cons (pf (pv 3)) (pa_cons (pf (pv 3)) (pa_cons (pf (pv 3)) (pa1 (pf (pv 3)))))))) (pss_cons (ps_expr (pe_bm PySem.F.plainAttrs_list PySem.F.slot_list_extend PySem.F.type_list_extend mt_extend (pv 4) (pa1 (pe_lst (pa_cons (pe_callTy (r:=rInt1) call_int1 rfl T.n_int bt_int (pa1 (pf (pv 3)))) (pa_cons (pe_callTy (r:=rInt1) call_int1 rfl T.n_int bt_int (pa1 (pf (pv 3)))) (pa_cons (pe_callTy (r:=rInt1) call_int1 rfl T.n_int bt_int (pa1 (pcm0 (pv 3) T.cl_Output T.Output_is_done (ok_Output_is_done T) hr))) (pa1 (pe_callTy (r:=rInt1) call_int1 rfl T.n_int bt_int (pa1 (pcm (pv 0) T.cl_Spool T.Spool_is_in_hand (ok_Spool_is_in_hand T) hr (pa1 (pv 1))))))))))))) (pss_cons (ps_expr (pe_bm PySem.F.plainAttrs_list PySem.F.slot_list_extend PySem.F.type_list_extend mt_extend (pv 4) (pa1 (pe_lst (pa_cons (pf (pv 3)) (pa_cons (pe_ix ix_tup (pf (pv 3)) pe_int (fun _ _=>rfl)) (pa1 (pe_ix ix_tup (pf (pv 3)) pe_int (fun _ _=>rfl))))))))) (pss_one (ps_ret (pcf T.with_rows (ok_with_rows T) hr (pa_cons pe_int (pa1 (pe_lst (pa_cons (pf (pv 3)) (pa1 (pv 4))))))))))))))))
 refine seq1 ?_
 walk_at "pq"
 refine ⟨sp,n,tg,st,rfl,h.1,seq1 ?_⟩
 walk_at "pq"
 rcases onOut_cases st n with ⟨h1,h2⟩ | ⟨h1,o,h2,h3⟩
 ·rw [if_pos h1]
  exact h.one (h2 _) Same.rfl'
 ·rw [if_neg (by simpa using h1)]
  obtain ⟨dx,f,os,ws,R⟩:=h.1
  refine seq1 ?_
  walk_at "pq"
  rw [R.hsp]
  walk_at "pq"
  obtain ⟨a,e1,e2,e3⟩:=R.out_get h2
  obtain ⟨da,fa,O⟩:=R.out_at e1
  refine ⟨_,e3,seq1 ?_⟩
  walk_at "pq"
  rw [O.ha]
  walk_at "pq"
  intro p hp
  refine seq1 ?_
  have s1:=same_new (o:=.lst [.int fa.cls,.int fa.form,.int fa.prio,.int fa.copies]) hp
  have ep:upd H p (.lst [.int fa.cls,.int fa.form,.int fa.prio,.int fa.copies]) p=some (.lst [.int fa.cls,.int fa.form,.int fa.prio,.int fa.copies]):=upd_same
  generalize upd H p (.lst [.int fa.cls,.int fa.form,.int fa.prio,.int fa.copies])=H1 at s1 ep
  walk_at "pq"
  refine ⟨Or.inl ⟨rfl,_,SqL.of ep⟩,?_⟩
  rw [s1 _ _ O.ha]
  walk_at "pq"
  have R1:=h.1.same s1
  obtain ⟨dx',f',os',ws',R1⟩:=R1
  have ea1:=s1 _ _ O.ha
  have ed:decide (fa.copies < (o.pos.copy:Int))=Vbbhak.isDone o:=by rw [O.copies];unfold Vbbhak.isDone;exact decide_eq_decide.mpr (by omega)
  have on1:=(h.2.1.out o (R.out_mem e1)).num1
  refine Or.inr ⟨_,rfl,_,_,_,ea1,T.cl_Output,T.no_Output_closed,_,lk_Output_closed,Or.inr ⟨_,rfl,_,_,ea1,rfl,a,da,fa,_,_,rfl,ea1,(O.place.same Fz_sub).same s1,Or.inr ⟨_,rfl,_,_,R1.hsp,rfl,?_⟩⟩⟩
  rw [← e2,ed]
  refine go_is_in_hand R1 h.2.1 on1 fun H2 s2=>Or.inr ⟨_,rfl,fun q hq=>?_⟩
  have ep2:=s2 _ _ ep
  have qp:p ≠ q:=ne_of_none ep2 hq
  have s3:=same_new (o:=.lst [.int (b01 fa.held),.int (b01 fa.closed),.int (b01 (Vbbhak.isDone o)),.int (b01 (Vbbhak.inHand st o.num))]) hq
  refine ⟨p,q,_,_,rfl,rfl,s3 _ _ ep2,upd_same,(by show 8≤sizeLine;decide),seq1 ?_⟩
  have s4:Same H (upd (upd H2 q (.lst [.int (b01 fa.held),.int (b01 fa.closed),.int (b01 (Vbbhak.isDone o)),.int (b01 (Vbbhak.inHand st o.num))])) p (.lst ([V.int fa.cls,V.int fa.form,V.int fa.prio,V.int fa.copies]++[.int (b01 fa.held),.int (b01 fa.closed),.int (b01 (Vbbhak.isDone o)),.int (b01 (Vbbhak.inHand st o.num))]))):=same_upd ((s1.trans s2).trans s3) hp
  have ep4:upd (upd H2 q (.lst [.int (b01 fa.held),.int (b01 fa.closed),.int (b01 (Vbbhak.isDone o)),.int (b01 (Vbbhak.inHand st o.num))])) p (.lst ([V.int fa.cls,V.int fa.form,V.int fa.prio,V.int fa.copies]++[.int (b01 fa.held),.int (b01 fa.closed),.int (b01 (Vbbhak.isDone o)),.int (b01 (Vbbhak.inHand st o.num))])) p=some (.lst ([V.int fa.cls,V.int fa.form,V.int fa.prio,V.int fa.copies]++[.int (b01 fa.held),.int (b01 fa.closed),.int (b01 (Vbbhak.isDone o)),.int (b01 (Vbbhak.inHand st o.num))])):=upd_same
  show tDrop _ _ _ (upd (upd H2 q (.lst [.int (b01 fa.held),.int (b01 fa.closed),.int (b01 (Vbbhak.isDone o)),.int (b01 (Vbbhak.inHand st o.num))])) p (.lst ([V.int fa.cls,V.int fa.form,V.int fa.prio,V.int fa.copies]++[.int (b01 fa.held),.int (b01 fa.closed),.int (b01 (Vbbhak.isDone o)),.int (b01 (Vbbhak.inHand st o.num))])))
  generalize upd (upd H2 q (.lst [.int (b01 fa.held),.int (b01 fa.closed),.int (b01 (Vbbhak.isDone o)),.int (b01 (Vbbhak.inHand st o.num))])) p (.lst ([V.int fa.cls,V.int fa.form,V.int fa.prio,V.int fa.copies]++[.int (b01 fa.held),.int (b01 fa.closed),.int (b01 (Vbbhak.isDone o)),.int (b01 (Vbbhak.inHand st o.num))]))=H4 at s4 ep4
  walk_at "pq"
  refine ⟨Or.inl ⟨rfl,_,SqL.of ep4⟩,?_⟩
  rw [s4 _ _ O.ha]
  walk_at "pq"
  obtain ⟨pl,epl,tpl⟩:=(O.place.same Fz_sub).same s4
  rw [epl]
  walk_at "pq"
  refine ⟨_,tpl,_,rfl,_,tpl,_,rfl,fun t ht=>?_⟩
  have s5:=same_new (o:=.lst [.int fa.lines,.int (o.pos.copy:Int),.int (o.pos.step:Int)]) ht
  refine ⟨p,t,_,_,rfl,rfl,s5 _ _ ep4,upd_same,(by show 11≤sizeLine;decide),?_⟩
  have s6:=same_upd (o:=.lst (([V.int fa.cls,V.int fa.form,V.int fa.prio,V.int fa.copies]++[.int (b01 fa.held),.int (b01 fa.closed),.int (b01 (Vbbhak.isDone o)),.int (b01 (Vbbhak.inHand st o.num))])++[.int fa.lines,.int (o.pos.copy:Int),.int (o.pos.step:Int)])) (s4.trans s5) hp
  have ep6:upd (upd H4 t (.lst [.int fa.lines,.int (o.pos.copy:Int),.int (o.pos.step:Int)])) p (.lst (([V.int fa.cls,V.int fa.form,V.int fa.prio,V.int fa.copies]++[.int (b01 fa.held),.int (b01 fa.closed),.int (b01 (Vbbhak.isDone o)),.int (b01 (Vbbhak.inHand st o.num))])++[.int fa.lines,.int (o.pos.copy:Int),.int (o.pos.step:Int)])) p=some (.lst (ivs [fa.cls,fa.form,fa.prio,fa.copies,b01 fa.held,b01 fa.closed,b01 (Vbbhak.isDone o),b01 (Vbbhak.inHand st o.num),fa.lines,(o.pos.copy:Int),(o.pos.step:Int)])):=upd_same
  generalize upd (upd H4 t (.lst [.int fa.lines,.int (o.pos.copy:Int),.int (o.pos.step:Int)])) p (.lst (([V.int fa.cls,V.int fa.form,V.int fa.prio,V.int fa.copies]++[.int (b01 fa.held),.int (b01 fa.closed),.int (b01 (Vbbhak.isDone o)),.int (b01 (Vbbhak.inHand st o.num))])++[.int fa.lines,.int (o.pos.copy:Int),.int (o.pos.step:Int)]))=H6 at s6 ep6
  walk_at "pq"
  rw [s6 _ _ O.ha]
  walk_at "pq"
  obtain ⟨nm,enm,fnm⟩:=O.name
  rw [enm]
  intro r hr'
  have s7:=same_new (o:=.lst [.ref nm,.ref p]) hr'
  have hno:=(h.2.1.out o (R.out_mem e1)).name
  refine ⟨0,r,[nm,p],[VB.vints o.name,[fa.cls,fa.form,fa.prio,fa.copies,b01 fa.held,b01 fa.closed,b01 (Vbbhak.isDone o),b01 (Vbbhak.inHand st o.num),fa.lines,(o.pos.copy:Int),(o.pos.step:Int)]],rfl,SqL.of upd_same,All2.cons (s7 _ _ (s6 _ _ (Fz_sub _ _ fnm))) (All2.one (s7 _ _ ep6)),?_,fun u hu=>?_⟩
  ·have big:(1000:Nat) < sizeLine:=by decide
   have:(VB.vints o.name).length≤8:=by rw [VB.ints_length];exact hno
   simp only [told,List.flatMap_cons,List.flatMap_nil,List.length_cons,List.length_append,List.length_nil]
   omega
  ·refine h.ret (by show (onOut st n _).1=st;rw [h3];rfl) ((s6.trans s7).trans (same_new hu)) ?_ ((s6.trans s7).free hu)
   rw [upd_same]
   show _=some (HO.lst (ivs (VB.flat (onOut st n _).2)))
   rw [h3,flat_told,O.cls,O.form,O.prio,O.copies,O.held,O.closed,O.lines,b01_nat,b01_nat,b01_nat,b01_nat,ints_nums]
   rfl
end
end
section
section
variable {K:PySem.W.Frag} {mg:Str->Option Value} {T:Txt K mg} {H:Hp} {Q:VK} {E:XK} {n:Int}
theorem e_is_switch:sp_is_switch T [.int n] H Q E=Q (.bl (Vbbhak.inside n 0 1)) H:=propext ⟨fun h=>by obtain ⟨v,e,h⟩:=h;cases e;exact h,fun h=>⟨n,rfl,h⟩⟩
theorem e_is_class:sp_is_class T [.int n] H Q E=Q (.bl (Vbbhak.isClass n)) H:=propext ⟨fun h=>by obtain ⟨v,e,h⟩:=h;cases e;exact h,fun h=>⟨n,rfl,h⟩⟩
theorem e_is_form:sp_is_form T [.int n] H Q E=Q (.bl (Vbbhak.isForm n)) H:=propext ⟨fun h=>by obtain ⟨v,e,h⟩:=h;cases e;exact h,fun h=>⟨n,rfl,h⟩⟩
theorem e_is_priority:sp_is_priority T [.int n] H Q E=Q (.bl (Vbbhak.inside n 0 15)) H:=propext ⟨fun h=>by obtain ⟨v,e,h⟩:=h;cases e;exact h,fun h=>⟨n,rfl,h⟩⟩
theorem e_is_copies:sp_is_copies T [.int n] H Q E=Q (.bl (Vbbhak.inside n 1 255)) H:=propext ⟨fun h=>by obtain ⟨v,e,h⟩:=h;cases e;exact h,fun h=>⟨n,rfl,h⟩⟩
theorem e_is_note_every:sp_is_note_every T [.int n] H Q E=Q (.bl (Vbbhak.inside n 1 1000)) H:=propext ⟨fun h=>by obtain ⟨v,e,h⟩:=h;cases e;exact h,fun h=>⟨n,rfl,h⟩⟩
theorem e_is_back:sp_is_back T [.int n] H Q E=Q (.bl (Vbbhak.inside n 1 1000)) H:=propext ⟨fun h=>by obtain ⟨v,e,h⟩:=h;cases e;exact h,fun h=>⟨n,rfl,h⟩⟩
theorem e_is_from:sp_is_from T [.int n] H Q E=Q (.bl (Vbbhak.inside n 1 1000000)) H:=propext ⟨fun h=>by obtain ⟨v,e,h⟩:=h;cases e;exact h,fun h=>⟨n,rfl,h⟩⟩
theorem e_is_most:sp_is_most T [.int n] H Q E=Q (.bl (Vbbhak.inside n 1 100)) H:=propext ⟨fun h=>by obtain ⟨v,e,h⟩:=h;cases e;exact h,fun h=>⟨n,rfl,h⟩⟩
theorem e_is_writer:sp_is_writer T [.int n] H Q E=Q (.bl (Vbbhak.isWriter n)) H:=propext ⟨fun h=>by obtain ⟨v,e,h⟩:=h;cases e;exact h,fun h=>⟨n,rfl,h⟩⟩
theorem e_within {l g:Int}:sp_within T [.int n,.int l,.int g] H Q E=Q (.bl (Vbbhak.inside n l g)) H:=propext ⟨fun h=>by obtain ⟨v,a,b,e,h⟩:=h;cases e;exact h,fun h=>⟨n,l,g,rfl,h⟩⟩
end
end
local macro_rules | `(tactic| walk_at "ps") => `(tactic| o_headS [tSeq, rInt1, e_is_switch, e_is_class, e_is_form, e_is_priority, e_is_copies, e_is_note_every, e_is_back, e_is_from, e_is_most, e_is_writer, e_within])
local macro_rules | `(tactic| walk_at "pq") => `(tactic| o_headS [tYes, e_is_switch, e_is_class, e_is_form, e_is_priority, e_is_copies, e_is_note_every, e_is_back, e_is_from, e_is_most, e_is_writer, e_within])
section
open Vbbhak (State Call Ans step onOut onWriter)
section
variable {P:Program} {w:World} {K:PySem.W.Frag} {mg:Str->Option Value} {base:Heap}
noncomputable def sp_tell_writer (T:Txt K mg):Sp:=fun vs H Q _=>∃ sp n tg s,vs=[.ref sp,.int n]∧QSp T tg H sp s (.writer n) Q
theorem ok_tell_writer (T:Txt K mg):FO P w base 3 T.tell_writer (sp_tell_writer T):=by
 o_headS (1 T.tell_writer.F.ok sc_tell_writer)
 obtain ⟨sp,n,tg,st,rfl,h⟩:=h
 o_headS (2 (pss_cons (ps_if (pt_not (pt_val (pcf T.is_writer (ok_is_writer T) hr (pa1 (pv 1))))) (prg T.g_OUT_OF_RANGE) pss_nil) (pss_cons (pst 2 sc_tell_writer (pcm (pv 0) T.cl_Spool T.Spool_writer_at (ok_Spool_writer_at T) hr (pa1 (pv 1)))) (pss_cons (pst 3 sc_tell_writer (pe_lst (pa_cons (pf (pv 2)) (pa_cons (pf (pv 2)) (pa_cons (pf (pv 2)) (pa_cons (pe_callTy (r:=rInt1) call_int1 rfl T.n_int bt_int (pa1 (pf (pv 2)))) (pa1 (pe_callB (r:=rLen K) call_len_seq rfl T.n_len bt_len (pa1 (pf (pv 2))))))))))) (pss_one (ps_ret (pcf T.with_rows (ok_with_rows T) hr (pa_cons (pe_callTy (r:=rInt1) call_int1 rfl T.n_int bt_int (pa1 (pf (pv 2)))) (pa1 (pe_lst (pa_cons (pf (pv 2)) (pa_cons (pv 3) (pa1 (pcf T.row_of_hand (ok_row_of_hand T) hr (pa1 (pv 2))))))))))))))))
 refine seq1 ?_
 walk_at "pq"
 by_cases hw:Vbbhak.isWriter n=false
 ·rw [if_pos hw]
  exact h.one (show (if Vbbhak.isWriter n=false then _ else _)=_ by rw [if_pos hw];rfl) Same.rfl'
 ·rw [if_neg hw]
  have hw':Vbbhak.isWriter n=true:=by simpa using hw
  obtain ⟨dx,f,os,ws,R⟩:=h.1
  refine seq1 ?_
  walk_at "pq"
  rw [R.hsp]
  walk_at "pq"
  refine go_writer_at R h.2.1.len hw' fun a ha=>seq1 ?_
  obtain ⟨dy,p,g,ps,W⟩:=R.wat _ _ _ ha
  walk_at "pq"
  rw [W.ha]
  walk_at "pq"
  refine Or.inr ⟨_,rfl,_,_,_,W.ha,T.cl_Writer,T.no_Writer_paper,_,lk_Writer_paper,p,W.pap,_,Or.inl (SqL.of W.hp),fun r hr'=>?_⟩
  have s1:=same_new (o:=.lst [.int g.form,.int g.sep,.int g.every,.int (b01 g.drain),.int ((ps.map fun x=>V.ref x.1).length:Int)]) hr'
  have er:upd H r (.lst [.int g.form,.int g.sep,.int g.every,.int (b01 g.drain),.int ((ps.map fun x=>V.ref x.1).length:Int)]) r=some (.lst (ivs [g.form,g.sep,g.every,b01 g.drain,(ps.length:Int)])):=by rw [upd_same,List.length_map];rfl
  show ∃ x_1 x_2 x_3,upd H r (.lst [.int g.form,.int g.sep,.int g.every,.int (b01 g.drain),.int ((ps.map fun x=>V.ref x.1).length:Int)]) a=some (HO.ins x_1 x_2 x_3)∧Cls K x_1∧NoAttr K x_1 (Str.ofString "on")∧∃ x_4,List.lookup (Str.ofString "on") x_3=some x_4 ∧
   rInt1 [x_4] (upd H r (.lst [.int g.form,.int g.sep,.int g.every,.int (b01 g.drain),.int ((ps.map fun x=>V.ref x.1).length:Int)])) _
  generalize upd H r (.lst [.int g.form,.int g.sep,.int g.every,.int (b01 g.drain),.int ((ps.map fun x=>V.ref x.1).length:Int)])=H1 at s1 er
  obtain ⟨cl,ecl,fcl⟩:=W.rel.cls
  have fin:∀ (H2:Hp) (t:Addr) (l:List Int),Same H1 H2->H1 t=none->H2 t=some (.lst (ivs l))->l.length≤4->l=(match (Vbbhak.writerAt st n).hand with | none=>[] | some h=>[h.out,h.pos.copy,h.pos.step,h.since]:List Nat).map Int.ofNat->∀ u,H2 u=none->sp_with_rows T [.int (b01 g.on),.ref u] (upd H2 u (HO.lst [.ref cl,.ref r,.ref t])) Q E0:=by
   intro H2 t l s2 ht et hl el u hu
   have s3:=same_new (o:=.lst [.ref cl,.ref r,.ref t]) hu
   refine ⟨_,u,[cl,r,t],[(Vbbhak.writerAt st n).classes.map Int.ofNat,[g.form,g.sep,g.every,b01 g.drain,(ps.length:Int)],l],rfl,SqL.of upd_same,All2.cons ?_ (All2.cons (s3 _ _ (s2 _ _ er)) (All2.one (s3 _ _ et))),?_,fun v hv=>?_⟩
   ·rw [s3 _ _ (s2 _ _ (s1 _ _ (Fz_sub _ _ fcl))),nvs_ivs]
   ·have big:(1000:Nat) < sizeLine:=by decide
    have:=W.rel.clen
    simp only [told,List.flatMap_cons,List.flatMap_nil,List.length_cons,List.length_append,List.length_nil,List.length_map]
    omega
   ·refine h.ret ?_ (((s1.trans s2).trans s3).trans (same_new hv)) ?_ (((s1.trans s2).trans s3).free hv)
    ·show (if Vbbhak.isWriter n=false then _ else _:State × Ans).1=st
     rw [if_neg hw];rfl
    ·rw [upd_same]
     show _=some (HO.lst (ivs (VB.flat (if Vbbhak.isWriter n=false then _ else _:State × Ans).2)))
     rw [if_neg hw,flat_told,W.rel.form,W.rel.sep,W.rel.every,W.rel.drain,W.rel.on,b01_nat,b01_nat,el]
     show _=some (HO.lst (ivs (told _ [_,[_,_,_,_,((Vbbhak.writerAt st n).paper.length:Int)],_])))
     rw [W.ents,List.length_map]
     rfl
  refine ⟨_,_,_,s1 _ _ W.ha,T.cl_Writer,T.no_Writer_on,_,lk_Writer_on,Or.inr ⟨_,rfl,_,_,_,s1 _ _ W.ha,T.cl_Writer,T.no_Writer_classes,_,lk_Writer_classes,a,dy,g,rfl,s1 _ _ W.ha,fun h0 t ht=>?_,fun h0=>?_⟩⟩
  ·rw [ecl]
   refine fin _ t [] (same_new ht) ht upd_same (by decide) ?_
   rw [W.rel.hand_iff (hand_pos h.2.1 hw')] at h0
   cases e:(Vbbhak.writerAt st n).hand with
   | none=>rfl
   | some y=>rw [e] at h0;cases h0
  ·cases e:(Vbbhak.writerAt st n).hand with
   | none=>exact absurd (W.rel.hand0 e) h0
   | some y =>
    obtain ⟨q1,q2,_,q4,_⟩:=W.rel.hand1 y e
    refine ⟨_,_,(q2.same Fz_sub).same s1,fun t ht=>?_⟩
    rw [ecl]
    refine fin _ t _ (same_new ht) ht upd_same (by show 4≤4;decide) ?_
    rw [e,q1,q4]
    rfl
theorem go_entries {T:Txt K mg} {H:Hp} {Q:VK} {E:XK} {e:Addr} {ps:List (Addr × VEntry)} {q m:Int} (h1:SqL K H e (ps.map fun x=>V.ref x.1)) (h2:∀ x ∈ ps,EntA H x.1 x.2) (hq:Vbbhak.inside q 1 1000000=true) (hm:Vbbhak.inside m 1 100=true)
  (h:∀ p H',H p=none->Same H H'->H' p=some (.lst (ivs (VB.flat (Vbbhak.toldOf Vbbhak.start (Vbbhak.slice (ps.map (·.2)) q m)).2)))->Q (.ref p) H'):sp_some_entries T [.ref e,.int q,.int m] H Q E:=by
 have hq:=VB.inside_iff.mp hq
 have hm:=VB.inside_iff.mp hm
 obtain ⟨vs,hv⟩:=choose2 (R:=fun (x:Addr × VEntry) (v:List V)=>SqT K H x.1 v∧v.take 4=ivs ((Vbbhak.entryRow x.2).map Int.ofNat)) ps fun x hx=>by
  obtain ⟨r,er⟩:=(h2 x hx).tup
  exact ⟨_,SqT.of er,entV_take _ _⟩
 have hz:(ps.zip vs).map Prod.fst=ps:=List.map_fst_zip (by rw [hv.1];exact Nat.le_refl _)
 refine ⟨e,q.toNat - 1,m.toNat,(ps.zip vs).map fun z=>(z.1.1,z.2,(Vbbhak.entryRow z.1.2).map Int.ofNat),by rw [show ((q.toNat - 1 + 1:Nat):Int)=q by omega,show ((m.toNat:Nat):Int)=m by omega],?_,?_,by omega,fun p H' hp s1 e1=>h p H' hp s1 ?_⟩
 ·rw [List.map_map]
  have:(ps.zip vs).map ((fun x:Addr × VEntry=>V.ref x.1) ∘ Prod.fst)=ps.map fun x=>V.ref x.1:=by rw [← List.map_map,hz]
  rw [show ((fun p:Addr × List V × List Int=>V.ref p.1) ∘ fun z:(Addr × VEntry) × List V=>(z.1.1,z.2,(Vbbhak.entryRow z.1.2).map Int.ofNat))=((fun x:Addr × VEntry=>V.ref x.1) ∘ Prod.fst) from rfl,this]
  exact h1
 ·intro x hx
  obtain ⟨z,hz,rfl⟩:=List.mem_map.mp hx
  obtain ⟨i,hi⟩:=List.getElem?_of_mem hz
  rw [List.getElem?_zip_eq_some] at hi
  obtain ⟨a,b⟩:=hv.2 i _ _ hi.1 hi.2
  exact ⟨a,b,by simpa using entryRow_len z.1.2⟩
 ·rw [e1,flat_told]
  congr 3
  unfold Vbbhak.toldOf Vbbhak.yes Vbbhak.slice
  have e2:(ps.map (·.2))=(ps.zip vs).map fun z=>z.1.2:=by
   conv=>lhs;rw [← hz]
   rw [List.map_map]
   rfl
  rw [e2,← List.map_drop,← List.map_drop,← List.map_take,← List.map_take,List.map_map,List.map_map,List.map_map,List.length_map,List.length_map]
  rfl
noncomputable def sp_tell_paper (T:Txt K mg):Sp:=fun vs H Q _=>∃ sp n q m tg s,vs=[.ref sp,.int n,.int q,.int m]∧QSp T tg H sp s (.paper n q m) Q
theorem ok_tell_paper (T:Txt K mg):FO P w base 3 T.tell_paper (sp_tell_paper T):=by
 o_headS (1 T.tell_paper.F.ok sc_tell_paper)
 obtain ⟨sp,n,q,m,tg,st,rfl,h⟩:=h
 o_headS (2 (pss_cons (ps_if (pt_not (PW.pt (pw_and (pt_val (pcf T.is_writer (ok_is_writer T) hr (pa1 (pv 1)))) (pw_and (pt_val (pcf T.is_from (ok_is_from T) hr (pa1 (pv 2)))) (pw_and1 (pt_val (pcf T.is_most (ok_is_most T) hr (pa1 (pv 3))))))))) (prg T.g_OUT_OF_RANGE) pss_nil) (pss_one (ps_ret (pcf T.some_entries (ok_some_entries T) hr (pa_cons (pf (pcm (pv 0) T.cl_Spool T.Spool_writer_at (ok_Spool_writer_at T) hr (pa1 (pv 1)))) (pa_cons (pv 2) (pa1 (pv 3)))))))))
 refine seq1 ?_
 walk_at "pq"
 have e0:step st (.paper n q m)=if Vbbhak.isWriter n=false∨Vbbhak.inside q 1 1000000=false∨Vbbhak.inside m 1 100=false then Vbbhak.no st 1 else Vbbhak.toldOf st (Vbbhak.slice (Vbbhak.writerAt st n).paper q m):=rfl
 have bad:(Vbbhak.isWriter n=false∨Vbbhak.inside q 1 1000000=false∨Vbbhak.inside m 1 100=false)->∀ (p:Addr),H p=none->Q (V.ref p) (upd H p (HO.lst [V.int (-1)])):=fun z=>h.one (by rw [e0,if_pos z];rfl) Same.rfl'
 split
 ·rename_i hw
  split
  ·rename_i hq
   split
   ·rename_i hm
    exact bad (.inr (.inr hm))
   ·rename_i hm
    have hm:Vbbhak.inside m 1 100=true:=by simpa using hm
    rw [if_neg (by rw [hw,hq,hm];simp)] at e0
    obtain ⟨dx,f,os,ws,R⟩:=h.1
    refine ⟨_,_,R.hsp,rfl,go_writer_at R h.2.1.len hw fun a ha=>?_⟩
    obtain ⟨dy,p,g,ps,W⟩:=R.wat _ _ _ ha
    refine ⟨a,rfl,_,_,_,W.ha,T.cl_Writer,T.no_Writer_paper,_,lk_Writer_paper,?_⟩
    rw [W.pap]
    refine go_entries (SqL.of W.hp) (fun x hx=>(W.en x hx).same Fz_sub) hq hm fun r H' hr' s1 e1=>?_
    rw [← W.ents] at e1
    exact h.ret (by rw [e0];rfl) s1 (by rw [e0];exact e1) hr'
  ·rename_i hq
   exact bad (.inr (.inl (by simpa using hq)))
 ·rename_i hw
  exact bad (.inl (by simpa using hw))
noncomputable def sp_tell_clean (T:Txt K mg):Sp:=fun vs H Q _=>∃ sp n q m tg s,vs=[.ref sp,.int n,.int q,.int m]∧QSp T tg H sp s (.clean n q m) Q
theorem ok_tell_clean (T:Txt K mg):FO P w base 3 T.tell_clean (sp_tell_clean T):=by
 o_headS (1 T.tell_clean.F.ok sc_tell_clean)
 obtain ⟨sp,n,q,m,tg,st,rfl,h⟩:=h
 o_headS (2 (pss_cons (ps_if (pt_not (PW.pt (pw_and (pt_val (pcf T.is_writer (ok_is_writer T) hr (pa1 (pv 1)))) (pw_and (pt_val (pcf T.is_from (ok_is_from T) hr (pa1 (pv 2)))) (pw_and1 (pt_val (pcf T.is_most (ok_is_most T) hr (pa1 (pv 3))))))))) (prg T.g_OUT_OF_RANGE) pss_nil) (pss_one (ps_ret (pcf T.some_entries (ok_some_entries T) hr (pa_cons (pcf T.counting_sheets (ok_counting_sheets T) hr (pa1 (pf (pcm (pv 0) T.cl_Spool T.Spool_writer_at (ok_Spool_writer_at T) hr (pa1 (pv 1)))))) (pa_cons (pv 2) (pa1 (pv 3)))))))))
 refine seq1 ?_
 walk_at "pq"
 have e0:step st (.clean n q m)=if Vbbhak.isWriter n=false∨Vbbhak.inside q 1 1000000=false∨Vbbhak.inside m 1 100=false then Vbbhak.no st 1 else Vbbhak.toldOf st (Vbbhak.slice (Vbbhak.clean (Vbbhak.writerAt st n)) q m):=rfl
 have bad:(Vbbhak.isWriter n=false∨Vbbhak.inside q 1 1000000=false∨Vbbhak.inside m 1 100=false)->∀ (p:Addr),H p=none->Q (V.ref p) (upd H p (HO.lst [V.int (-1)])):=fun z=>h.one (by rw [e0,if_pos z];rfl) Same.rfl'
 split
 ·rename_i hw
  split
  ·rename_i hq
   split
   ·rename_i hm
    exact bad (.inr (.inr hm))
   ·rename_i hm
    have hm:Vbbhak.inside m 1 100=true:=by simpa using hm
    rw [if_neg (by rw [hw,hq,hm];simp)] at e0
    obtain ⟨dx,f,os,ws,R⟩:=h.1
    refine ⟨_,_,R.hsp,rfl,go_writer_at R h.2.1.len hw fun a ha=>?_⟩
    obtain ⟨dy,p,g,ps,W⟩:=R.wat _ _ _ ha
    refine ⟨a,rfl,_,_,_,W.ha,T.cl_Writer,T.no_Writer_paper,_,lk_Writer_paper,?_⟩
    have hlen:ps.length≤5000:=by
     have:=(h.2.1.wr _ (VB.writerAt_mem h.2.1.len hw).1).pap1
     rw [W.ents,List.length_map] at this
     have:=h.2.1.p2
     omega
    rw [W.pap]
    refine ⟨p,ps,rfl,SqL.of W.hp,fun x hx=>(W.en x hx).same Fz_sub,Nat.lt_of_le_of_lt hlen (by decide),fun c qs H1 hc s1 ec en em=>?_⟩
    refine go_entries (SqL.of ec) en hq hm fun r H' hr' s2 e1=>?_
    rw [em,← W.ents] at e1
    exact h.ret (by rw [e0];rfl) (s1.trans s2) (by rw [e0];exact e1) (s1.free hr')
  ·rename_i hq
   exact bad (.inr (.inl (by simpa using hq)))
 ·rename_i hw
  exact bad (.inl (by simpa using hw))
noncomputable def sp_tell_sheet (T:Txt K mg):Sp:=fun vs H Q _=>∃ sp n q tg s,vs=[.ref sp,.int n,.int q]∧QSp T tg H sp s (.sheet n q) Q
theorem ok_tell_sheet (T:Txt K mg):FO P w base 3 T.tell_sheet (sp_tell_sheet T):=by
 o_headS (1 T.tell_sheet.F.ok sc_tell_sheet)
 obtain ⟨sp,n,q,tg,st,rfl,h⟩:=h
 o_headS (2 (pss_cons (ps_if (pt_not (PW.pt (pw_and (pt_val (pcf T.is_writer (ok_is_writer T) hr (pa1 (pv 1)))) (pw_and1 (pt_val (pcf T.is_from (ok_is_from T) hr (pa1 (pv 2)))))))) (prg T.g_OUT_OF_RANGE) pss_nil) (pss_cons (pst 3 sc_tell_sheet (pf (pcm (pv 0) T.cl_Spool T.Spool_writer_at (ok_Spool_writer_at T) hr (pa1 (pv 1))))) (pss_cons (ps_if (pt_cmpR op_gt (pv 2) (pe_callB (r:=rLen K) call_len_seq rfl T.n_len bt_len (pa1 (pv 3))) (nomark _)) (prg T.g_NOT_THERE) pss_nil) (pss_cons (pst 4 sc_tell_sheet (pe_ix ix_list (pv 3) (pe_op op_sub (pv 2) pe_int) (fun _ _=>rfl))) (pss_cons (ps_if (pt_val (pcf T.is_mark (ok_is_mark T) hr (pa1 (pv 4)))) (prg T.g_WRONG_STATE) pss_nil) (pss_one (ps_ret (pcf T.with_rows (ok_with_rows T) hr (pa_cons (pe_callB (r:=rLen K) call_len_seq rfl T.n_len bt_len (pa1 (pe_ix ix_tup (pv 4) pe_int (fun _ _=>rfl)))) (pa1 (pe_ix ix_tup (pv 4) pe_int (fun _ _=>rfl)))))))))))))
 refine seq1 ?_
 walk_at "pq"
 have e0:step st (.sheet n q)=if Vbbhak.isWriter n=false∨Vbbhak.inside q 1 1000000=false then Vbbhak.no st 1 else (match (Vbbhak.writerAt st n).paper[q.toNat - 1]? with
   | none=>Vbbhak.no st 4
   | some (.mark _)=>Vbbhak.no st 6
   | some (.sheet _ _ _ _ l)=>Vbbhak.yes st l.length (l.map Vbbhak.nums)):=rfl
 split
 ·rename_i hw
  split
  ·rename_i hq
   exact h.one (by rw [e0,if_pos (.inr hq)];rfl) Same.rfl'
  ·rename_i hq
   have hq:Vbbhak.inside q 1 1000000=true:=by simpa using hq
   have hq':=VB.inside_iff.mp hq
   rw [if_neg (by rw [hw,hq];simp)] at e0
   obtain ⟨dx,f,os,ws,R⟩:=h.1
   refine seq1 ?_
   walk_at "pq"
   rw [R.hsp]
   walk_at "pq"
   refine go_writer_at R h.2.1.len hw fun a ha=>?_
   obtain ⟨dy,p,g,ps,W⟩:=R.wat _ _ _ ha
   refine ⟨a,rfl,_,_,_,W.ha,T.cl_Writer,T.no_Writer_paper,_,lk_Writer_paper,seq1 ?_⟩
   rw [W.pap]
   walk_at "pq"
   refine ⟨_,Or.inl (SqL.of W.hp),?_⟩
   rw [List.length_map]
   rw [W.ents,List.getElem?_map] at e0
   split
   ·rename_i hl
    rw [List.getElem?_eq_none (by omega)] at e0
    exact h.one e0 Same.rfl'
   ·rename_i hl
    have hlt:q.toNat - 1 < ps.length:=by omega
    rw [List.getElem?_eq_getElem hlt,Option.map_some] at e0
    have en:=(W.en _ (List.getElem_mem hlt)).same Fz_sub
    obtain ⟨r,er⟩:=en.tup
    refine seq1 ?_
    walk_at "pq"
    refine ⟨_,SqL.of W.hp,_,at_of (j:=q.toNat - 1) (by omega) (by rw [List.getElem?_map,List.getElem?_eq_getElem hlt];rfl),seq1 ?_⟩
    walk_at "pq"
    refine ⟨_,_,rfl,SqT.of er,_,rfl,?_⟩
    rw [entV_mark]
    cases ee:(ps[q.toNat - 1]).2 with
    | mark k =>
     rw [ee] at e0
     exact h.one e0 Same.rfl'
    | sheet k1 k2 k3 k4 l =>
     rw [ee] at e0 en er
     rw [if_neg (by simp [Vbbhak.isMark])]
     obtain ⟨r',er',hr2⟩:=en
     have hsz:=(h.2.1.wr _ (VB.writerAt_mem h.2.1.len hw).1).ent (.sheet k1 k2 k3 k4 l) (by rw [W.ents,← ee];exact List.mem_map.mpr ⟨_,List.getElem_mem hlt,rfl⟩)
     obtain ⟨rs,hr3,hr4⟩:=id hr2
     refine ⟨_,SqT.of er',_,rfl,_,rfl,_,Or.inl (SqL.of hr3),_,SqT.of er',_,rfl,?_⟩
     refine go_rows hr2 hsz.1 hsz.2 _ fun u hu=>h.ret (by rw [e0];rfl) (same_new hu) ?_ hu
     rw [upd_same,e0,flat_told]
     show _=some (HO.lst (ivs (told ((l.length:Nat):Int) (List.map (fun r=>List.map Int.ofNat r) (List.map Vbbhak.nums l)))))
     rw [List.map_map,List.length_map,hr4.1]
     rfl
 ·rename_i hw
  exact h.one (by rw [e0,if_pos (.inl (by simpa using hw))];rfl) Same.rfl'
end
end
section
open Vbbhak (State Call Ans step onOut onWriter)
theorem os_inj:∀ {l:List (Vbbhak.Out × Addr)},((l.map (·.1)).map (·.num)).Nodup->∀ {p q:Vbbhak.Out × Addr},p ∈ l->q ∈ l->p.1.num=q.1.num->p=q
 | [],_,_,_,ho,_,_=>by cases ho
 | a::l,h,o,p,ho,hp,e=>by
  obtain ⟨h1,h2⟩:=List.nodup_cons.mp (show (a.1.num::(l.map (·.1)).map (·.num)).Nodup from h)
  have mem:∀ q ∈ l,q.1.num ∈ (l.map (·.1)).map (·.num):=fun q hq=>List.mem_map.mpr ⟨q.1,List.mem_map.mpr ⟨q,hq,rfl⟩,rfl⟩
  rcases List.mem_cons.mp ho with e1 | ho <;> rcases List.mem_cons.mp hp with e2 | hp
  ·rw [e1,e2]
  ·exact absurd (by rw [← e1,e];exact mem p hp) h1
  ·exact absurd (by rw [← e2,← e];exact mem o ho) h1
  ·exact os_inj h2 ho hp e
theorem Trk.upd {tg:Tg} {H:Hp} {a:Addr} {o:HO} (h:Trk tg H):Trk tg (upd H a o):=fun b t e=>by
 by_cases z:b=a
 ·exact ⟨o,by rw [z,upd_same]⟩
 ·rw [upd_ne z];exact h b t e
theorem Kp.upd {tg:Tg} {H:Hp} {a:Addr} {o:HO} {t0:Tag} {p:Tag->Prop} (ta:tg a=some t0) (hp:¬ p t0):Kp tg H tg (upd H a o) p:=fun b t e z=>⟨e,upd_ne fun y=>by
 rw [y,ta] at e
 cases e
 exact hp z⟩
theorem Kept.upd {tg:Tg} {H:Hp} {a:Addr} {o:HO} {t0:Tag} (ta:tg a=some t0) (n:∀ k,t0 ≠ .env k):Kept tg H tg (upd H a o):=⟨by rw [Fz_upd (by rw [ta];simp)];exact Same.rfl',fun b k e=>Kp.upd (p:=fun t=>t = .env k) ta (n k) b _ e rfl⟩
section
variable {P:Program} {w:World} {K:PySem.W.Frag} {mg:Str->Option Value} {base:Heap}
section
variable {T:Txt K mg} {tg tg':Tg} {H H':Hp} {sp:Addr} {s:State} {dx:Addr} {f:Sf} {os:List (Vbbhak.Out × Addr)} {ws:List (Vbbhak.Writer × Addr)} {Q:VK} {E:XK}
theorem RIn.uniq (R:RIn T tg H sp s dx f os ws) (W:VB.WF s) {o o':Vbbhak.Out} {a:Addr} (hm:(o,a) ∈ os) (hn:o'.num=o.num):∀ p ∈ os,p.1.num=o'.num->p.2=a:=fun p hp e=>by
 have nd:=W.nd
 rw [R.outs] at nd
 rw [os_inj nd hp hm (e.trans hn)]
theorem OIn.upd {Pg:List (List Vbbhak.Bytes)} {o o':Vbbhak.Out} {a da:Addr} {fa fa':Of} (O:OIn T tg H Pg o a da fa) (n0:o'.num=o.num) (n1:fa'.num=fa.num) (n2:fa'.cls=(o'.cls:Int)) (n3:fa'.form=(o'.form:Int)) (n4:fa'.copies=(o'.copies:Int)) (n5:fa'.prio=(o'.prio:Int)) (n6:fa'.held=o'.held) (n7:fa'.closed=fa.closed) (n8:o'.closed=o.closed) (n9:fa'.lines=fa.lines) (n10:o'.lines=o.lines) (n11:fa'.name=fa.name) (n12:o'.name=o.name) (n13:fa'.pages=fa.pages)
  (pl:PlV K (Fz tg H) fa'.place (o'.pos.copy:Int) (o'.pos.step:Int)):OIn T tg (upd H a (OO T da fa')) Pg o' a da fa':=by
 have fz:Fz tg (L2.upd H a (OO T da fa'))=Fz tg H:=Fz_upd (by rw [O.ta];simp)
 refine ⟨by rw [n0];exact O.ta,upd_same,by rw [n1,n0];exact O.num,n2,n3,n4,n5,n6,by rw [n7,n8];exact O.closed,by rw [n9,n10];exact O.lines,?_,by rw [fz];exact pl,?_⟩
 ·obtain ⟨nm,e1,e2⟩:=O.name
  exact ⟨nm,n11.trans e1,by rw [fz,n12];exact e2⟩
 ·rw [n13,n8,n0]
  refine O.pages.frame (fun b t e z=>⟨e,upd_ne fun y=>?_⟩) (by rw [fz];exact Same.rfl')
  rw [y,O.ta] at e
  cases e
  rcases z with z | z <;> cases z
theorem RIn.putO (R:RIn T tg H sp s dx f os ws) (W:VB.WF s) {o o':Vbbhak.Out} {a da:Addr} {fa fa':Of} (hm:(o,a) ∈ os) (O:OIn T tg H (Vbbhak.pagesOf s o) o a da fa) (hn:o'.num=o.num) (N:OIn T tg (upd H a (OO T da fa')) (Vbbhak.pagesOf s o') o' a da fa') :
  Rep T tg (upd H a (OO T da fa')) sp (Vbbhak.setOut s o')∧Kept tg H tg (upd H a (OO T da fa')):=by
 have ta:tg a=some (.out o'.num):=by rw [hn];exact O.ta
 exact ⟨⟨_,_,_,_,R.setO (R.uniq W hm hn) R.trk.upd (Kp.upd ta fun z=>z.1 rfl) (by rw [Fz_upd (by rw [ta];simp)];exact Same.rfl') ⟨da,fa',N⟩⟩,Kept.upd ta (by simp)⟩
theorem RIn.chgO (R:RIn T tg H sp s dx f os ws) (W:VB.WF s) {o:Vbbhak.Out} {a da:Addr} {fa:Of} (hm:(o,a) ∈ os) (O:OIn T tg H (Vbbhak.pagesOf s o) o a da fa) (o':Vbbhak.Out) (fa':Of) (n0:o'.num=o.num) (n1:fa'.num=fa.num) (n2:fa'.cls=(o'.cls:Int)) (n3:fa'.form=(o'.form:Int)) (n4:fa'.copies=(o'.copies:Int)) (n5:fa'.prio=(o'.prio:Int)) (n6:fa'.held=o'.held) (n7:fa'.closed=fa.closed) (n8:o'.closed=o.closed) (n9:fa'.lines=fa.lines) (n10:o'.lines=o.lines) (n11:fa'.name=fa.name) (n12:o'.name=o.name) (n13:fa'.pages=fa.pages)
  (pl:PlV K (Fz tg H) fa'.place (o'.pos.copy:Int) (o'.pos.step:Int)):Rep T tg (L2.upd H a (OO T da fa')) sp (Vbbhak.setOut s o')∧Kept tg H tg (L2.upd H a (OO T da fa')):=by
 refine R.putO W hm O n0 ?_
 have e:Vbbhak.pagesOf s o'=Vbbhak.pagesOf s o:=by unfold Vbbhak.pagesOf;rw [n10]
 rw [e]
 exact O.upd n0 n1 n2 n3 n4 n5 n6 n7 n8 n9 n10 n11 n12 n13 pl
theorem QSp.done {c:Call} {n:Int} {s':State} (h:QSp T tg H sp s c Q) (e:step s c=(s',{ num:=n })) (R:Rep T tg' H' sp s') (k:Kept tg H tg' H'):∀ p,H' p=none->Q (.ref p) (upd H' p (.lst [.int n])):=fun p hp=>by
 refine h.2.2 tg' _ p ?_ (k.trans (Kept.same R.trk (same_new hp))) ?_ (R.trk.free hp)
 ·rw [e];exact R.same (same_new hp)
 ·rw [upd_same,e];rfl
end
noncomputable def sp_hold (T:Txt K mg):Sp:=fun vs H Q _=>∃ sp n tg s,vs=[.ref sp,.int n]∧QSp T tg H sp s (.hold n) Q
theorem refH_cases (s:State) (n:Int):(refH s n ≠ 0∧∀ f:Vbbhak.Out->State × Ans,onOut s n (fun o=>if Vbbhak.inHand s o.num=true then Vbbhak.no s 7 else f o)=(s,{ num:=refH s n }))∨(refH s n=0∧∃ o,Vbbhak.outAt s n=some o∧Vbbhak.inHand s o.num=false∧∀ f:Vbbhak.Out->State × Ans,onOut s n (fun o=>if Vbbhak.inHand s o.num=true then Vbbhak.no s 7 else f o)=f o):=by
 have e0:refH s n=if refO s n ≠ 0 then refO s n else if Vbbhak.inHand s n.toNat=true then -7 else 0:=by
  unfold refH refO
  split
  ·rfl
  ·split <;> rfl
 rcases onOut_cases s n with ⟨h1,h2⟩ | ⟨h1,o,h2,h3⟩
 ·rw [e0,if_pos h1]
  exact .inl ⟨h1,fun f=>h2 _⟩
 ·rw [e0,if_neg (by simpa using h1)]
  have en:n.toNat=o.num:=by have:=(VB.outAt_some h2).2;omega
  rw [en]
  by_cases hh:Vbbhak.inHand s o.num=true
  ·rw [if_pos hh]
   exact .inl ⟨by decide,fun f=>by rw [h3,if_pos hh];rfl⟩
  ·rw [if_neg hh]
   exact .inr ⟨rfl,o,h2,by simpa using hh,fun f=>by rw [h3,if_neg hh]⟩
theorem ok_hold (T:Txt K mg):FO P w base 4 T.hold (sp_hold T):=by
 o_headS (1 T.hold.F.ok sc_hold)
 obtain ⟨sp,n,tg,st,rfl,h⟩:=h
 o_headS (2 (pss_cons (pst 2 sc_hold (pcf T.hand_refusal (ok_hand_refusal T) hr (pa_cons (pv 0) (pa1 (pv 1))))) (pss_cons (ps_if (pt_cmpR op_ne (pv 2) pe_int (nomark _)) (prl (pv 2)) pss_nil) (pss_cons (pst 3 sc_hold (pe_dget (hu_of hr) (pf (pv 0)) (pv 1) (fun _ _=>rfl))) (pss_cons (ps_if (pt_val (pf (pv 3))) (prg T.g_SO_ALREADY) pss_nil) (pss_cons (ps_fld (pv 3) (pe_bl) rfl) (prl pe_int)))))))
 refine seq1 ?_
 walk_at "pq"
 refine ⟨sp,n,tg,st,rfl,h.1,h.2.1,fun H1 s1=>seq1 ?_⟩
 walk_at "pq"
 rcases refH_cases st n with ⟨h1,h2⟩ | ⟨h1,o,h2,h3,h4⟩
 ·rw [if_pos h1]
  exact h.one (h2 _) s1
 ·rw [if_neg (by simpa using h1)]
  obtain ⟨dx,f,os,ws,R⟩:=h.1.same s1
  refine seq1 ?_
  walk_at "pq"
  rw [R.hsp]
  walk_at "pq"
  obtain ⟨a,e1,e2,e3⟩:=R.out_get h2
  obtain ⟨da,fa,O⟩:=R.out_at e1
  refine ⟨_,e3,seq1 ?_⟩
  walk_at "pq"
  rw [O.ha]
  walk_at "pq"
  have e4:=h4 fun o=>if o.held=true then Vbbhak.no st 5 else Vbbhak.yes (Vbbhak.setOut st { o with held:=true }) 0
  rw [O.held]
  split
  ·rename_i hh
   rw [if_pos hh] at e4
   exact h.one e4 s1
  ·rename_i hh
   rw [if_neg hh] at e4
   refine seq1 ?_
   walk_at "pq"
   rw [O.ha]
   walk_at "pq"
   obtain ⟨r1,r2⟩:=R.chgO h.2.1 e1 O { o with held:=true } { fa with held:=true } rfl rfl O.cls O.form O.copies O.prio rfl rfl rfl rfl rfl rfl rfl rfl O.place
   exact h.done e4 r1 ((Kept.same h.1.trk s1).trans r2)
noncomputable def sp_letgo (T:Txt K mg):Sp:=fun vs H Q _=>∃ sp n tg s,vs=[.ref sp,.int n]∧QSp T tg H sp s (.letgo n) Q
theorem ok_letgo (T:Txt K mg):FO P w base 3 T.letgo (sp_letgo T):=by
 o_headS (1 T.letgo.F.ok sc_letgo)
 obtain ⟨sp,n,tg,st,rfl,h⟩:=h
 o_headS (2 (pss_cons (pst 2 sc_letgo (pcf T.output_refusal (ok_output_refusal T) hr (pa_cons (pv 0) (pa1 (pv 1))))) (pss_cons (ps_if (pt_cmpR op_ne (pv 2) pe_int (nomark _)) (prl (pv 2)) pss_nil) (pss_cons (pst 3 sc_letgo (pe_dget (hu_of hr) (pf (pv 0)) (pv 1) (fun _ _=>rfl))) (pss_cons (ps_if (pt_not (pt_val (pf (pv 3)))) (prg T.g_SO_ALREADY) pss_nil) (pss_cons (ps_fld (pv 3) (pe_bl) rfl) (prl pe_int)))))))
 refine seq1 ?_
 walk_at "pq"
 refine ⟨sp,n,tg,st,rfl,h.1,seq1 ?_⟩
 walk_at "pq"
 rcases onOut_cases st n with ⟨h1,h2⟩ | ⟨h1,o,h2,h3⟩
 ·rw [if_pos h1]
  exact h.one (h2 _) Same.rfl'
 ·rw [if_neg (by simpa using h1)]
  obtain ⟨dx,f,os,ws,R⟩:=h.1
  refine seq1 ?_
  walk_at "pq"
  rw [R.hsp]
  walk_at "pq"
  obtain ⟨a,e1,e2,e3⟩:=R.out_get h2
  obtain ⟨da,fa,O⟩:=R.out_at e1
  refine ⟨_,e3,seq1 ?_⟩
  walk_at "pq"
  rw [O.ha]
  walk_at "pq"
  have e4:=h3 fun o=>if o.held=false then Vbbhak.no st 5 else Vbbhak.yes (Vbbhak.setOut st { o with held:=false }) 0
  rw [O.held]
  split
  ·rename_i hh
   rw [if_pos hh] at e4
   exact h.one e4 Same.rfl'
  ·rename_i hh
   rw [if_neg hh] at e4
   refine seq1 ?_
   walk_at "pq"
   rw [O.ha]
   walk_at "pq"
   obtain ⟨r1,r2⟩:=R.chgO h.2.1 e1 O { o with held:=false } { fa with held:=false } rfl rfl O.cls O.form O.copies O.prio rfl rfl rfl rfl rfl rfl rfl rfl O.place
   exact h.done e4 r1 r2
noncomputable def sp_change (T:Txt K mg):Sp:=fun vs H Q _=>∃ sp n c fm p tg s,vs=[.ref sp,.int n,.int c,.int fm,.int p]∧QSp T tg H sp s (.change n c fm p) Q
theorem ok_change (T:Txt K mg):FO P w base 4 T.change (sp_change T):=by
 o_headS (1 T.change.F.ok sc_change)
 obtain ⟨sp,n,c,fm,p,tg,st,rfl,h⟩:=h
 o_headS (2 (pss_cons (ps_if (pt_not (PW.pt (pw_and (pt_val (pcf T.is_class (ok_is_class T) hr (pa1 (pv 2)))) (pw_and (pt_val (pcf T.is_form (ok_is_form T) hr (pa1 (pv 3)))) (pw_and1 (pt_val (pcf T.is_priority (ok_is_priority T) hr (pa1 (pv 4))))))))) (prg T.g_OUT_OF_RANGE) pss_nil) (pss_cons (pst 5 sc_change (pcf T.hand_refusal (ok_hand_refusal T) hr (pa_cons (pv 0) (pa1 (pv 1))))) (pss_cons (ps_if (pt_cmpR op_ne (pv 5) pe_int (nomark _)) (prl (pv 5)) pss_nil) (pss_cons (pst 6 sc_change (pe_dget (hu_of hr) (pf (pv 0)) (pv 1) (fun _ _=>rfl))) (pss_cons (ps_fld (pv 6) (pv 2) rfl) (pss_cons (ps_fld (pv 6) (pv 3) rfl) (pss_cons (ps_fld (pv 6) (pv 4) rfl) (prl pe_int)))))))))
 refine seq1 ?_
 walk_at "pq"
 have e0:step st (.change n c fm p)=if Vbbhak.isClass c=false∨Vbbhak.isForm fm=false∨Vbbhak.inside p 0 15=false then Vbbhak.no st 1
  else onOut st n fun o=>if Vbbhak.inHand st o.num=true then Vbbhak.no st 7 else Vbbhak.yes (Vbbhak.setOut st { o with cls:=c.toNat,form:=fm.toNat,prio:=p.toNat }) 0:=rfl
 have bad:(Vbbhak.isClass c=false∨Vbbhak.isForm fm=false∨Vbbhak.inside p 0 15=false)->∀ (p:Addr),H p=none->Q (V.ref p) (upd H p (HO.lst [V.int (-1)])):=fun z=>h.one (by rw [e0,if_pos z];rfl) Same.rfl'
 split
 ·rename_i hc
  split
  ·rename_i hf
   split
   ·rename_i hp
    exact bad (.inr (.inr hp))
   ·rename_i hp
    have hp:Vbbhak.inside p 0 15=true:=by simpa using hp
    rw [if_neg (by rw [hc,hf,hp];simp)] at e0
    refine seq1 ?_
    walk_at "pq"
    refine ⟨sp,n,tg,st,rfl,h.1,h.2.1,fun H1 s1=>seq1 ?_⟩
    walk_at "pq"
    rcases refH_cases st n with ⟨h1,h2⟩ | ⟨h1,o,h2,h3,h4⟩
    ·rw [if_pos h1]
     exact h.one (e0.trans (h2 _)) s1
    ·rw [if_neg (by simpa using h1)]
     rw [h4] at e0
     obtain ⟨dx,f,os,ws,R⟩:=h.1.same s1
     refine seq1 ?_
     walk_at "pq"
     rw [R.hsp]
     walk_at "pq"
     obtain ⟨a,e1,e2,e3⟩:=R.out_get h2
     obtain ⟨da,fa,O⟩:=R.out_at e1
     refine ⟨_,e3,?_⟩
     walk_at "ps"
     rw [O.ha]
     walk_at "ps"
     have hc':=VB.inside_iff.mp hc
     have hf':=VB.inside_iff.mp hf
     have hp':=VB.inside_iff.mp hp
     obtain ⟨r1,r2⟩:=R.chgO h.2.1 e1 O { o with cls:=c.toNat,form:=fm.toNat,prio:=p.toNat } { fa with cls:=c,form:=fm,prio:=p } rfl rfl (by show c=((c.toNat:Nat):Int);omega) (by show fm=((fm.toNat:Nat):Int);omega) O.copies (by show p=((p.toNat:Nat):Int);omega) O.held rfl rfl rfl rfl rfl rfl rfl O.place
     exact h.done e0 r1 ((Kept.same h.1.trk s1).trans r2)
  ·rename_i hf
   exact bad (.inr (.inl (by simpa using hf)))
 ·rename_i hc
  exact bad (.inl (by simpa using hc))
noncomputable def sp_set_copies (T:Txt K mg):Sp:=fun vs H Q _=>∃ sp n c tg s,vs=[.ref sp,.int n,.int c]∧QSp T tg H sp s (.copies n c) Q
theorem ok_set_copies (T:Txt K mg):FO P w base 4 T.set_copies (sp_set_copies T):=by
 o_headS (1 T.set_copies.F.ok sc_set_copies)
 obtain ⟨sp,n,c,tg,st,rfl,h⟩:=h
 o_headS (2 (pss_cons (ps_if (pt_not (pt_val (pcf T.is_copies (ok_is_copies T) hr (pa1 (pv 2))))) (prg T.g_OUT_OF_RANGE) pss_nil) (pss_cons (pst 3 sc_set_copies (pcf T.hand_refusal (ok_hand_refusal T) hr (pa_cons (pv 0) (pa1 (pv 1))))) (pss_cons (ps_if (pt_cmpR op_ne (pv 3) pe_int (nomark _)) (prl (pv 3)) pss_nil) (pss_cons (pst 4 sc_set_copies (pe_dget (hu_of hr) (pf (pv 0)) (pv 1) (fun _ _=>rfl))) (pss_cons (ps_if (pt_cmpR op_lt (pv 2) (pcm0 (pv 4) T.cl_Output T.Output_copies_begun (ok_Output_copies_begun T) hr) (nomark _)) (prg T.g_WRONG_STATE) pss_nil) (pss_cons (ps_fld (pv 4) (pv 2) rfl) (prl pe_int))))))))
 refine seq1 ?_
 walk_at "pq"
 have e0:step st (.copies n c)=if Vbbhak.inside c 1 255=false then Vbbhak.no st 1
  else onOut st n fun o=>if Vbbhak.inHand st o.num=true then Vbbhak.no st 7
   else if c < ((if o.pos.step=0 then o.pos.copy - 1 else o.pos.copy:Nat):Int) then Vbbhak.no st 6
   else Vbbhak.yes (Vbbhak.setOut st { o with copies:=c.toNat }) 0:=rfl
 split
 ·rename_i hc
  exact h.one (by rw [e0,if_pos hc];rfl) Same.rfl'
 ·rename_i hc
  rw [if_neg hc] at e0
  have hc':=VB.inside_iff.mp (show Vbbhak.inside c 1 255=true by simpa using hc)
  refine seq1 ?_
  walk_at "pq"
  refine ⟨sp,n,tg,st,rfl,h.1,h.2.1,fun H1 s1=>seq1 ?_⟩
  walk_at "pq"
  rcases refH_cases st n with ⟨h1,h2⟩ | ⟨h1,o,h2,h3,h4⟩
  ·rw [if_pos h1]
   exact h.one (e0.trans (h2 _)) s1
  ·rw [if_neg (by simpa using h1)]
   rw [h4] at e0
   obtain ⟨dx,f,os,ws,R⟩:=h.1.same s1
   refine seq1 ?_
   walk_at "pq"
   rw [R.hsp]
   walk_at "pq"
   obtain ⟨a,e1,e2,e3⟩:=R.out_get h2
   obtain ⟨da,fa,O⟩:=R.out_at e1
   refine ⟨_,e3,seq1 ?_⟩
   walk_at "pq"
   rw [O.ha]
   walk_at "pq"
   refine ⟨a,da,fa,_,_,rfl,O.ha,O.place.same Fz_sub,?_⟩
   have p1:=(h.2.1.out o (R.out_mem e1)).pos1
   have ec:(if (o.pos.step:Int)=0 then (o.pos.copy:Int) - 1 else (o.pos.copy:Int))=((if o.pos.step=0 then o.pos.copy - 1 else o.pos.copy:Nat):Int):=by
    by_cases z:o.pos.step=0
    ·rw [if_pos (by omega),if_pos z];omega
    ·rw [if_neg (by omega),if_neg z]
   rw [ec]
   generalize ((if o.pos.step=0 then o.pos.copy - 1 else o.pos.copy:Nat):Int)=cb at e0 ⊢
   walk_at "pq"
   split
   ·rename_i hl
    rw [if_pos hl] at e0
    exact h.one e0 s1
   ·rename_i hl
    rw [if_neg hl] at e0
    refine seq1 ?_
    walk_at "pq"
    rw [O.ha]
    walk_at "pq"
    obtain ⟨r1,r2⟩:=R.chgO h.2.1 e1 O { o with copies:=c.toNat } { fa with copies:=c } rfl rfl O.cls O.form (by show c=((c.toNat:Nat):Int);omega) O.prio O.held rfl rfl rfl rfl rfl rfl rfl O.place
    exact h.done e0 r1 ((Kept.same h.1.trk s1).trans r2)
noncomputable def sp_purge (T:Txt K mg):Sp:=fun vs H Q _=>∃ sp n tg s,vs=[.ref sp,.int n]∧QSp T tg H sp s (.purge n) Q
theorem ok_purge (T:Txt K mg):FO P w base 4 T.purge (sp_purge T):=by
 o_headS (1 T.purge.F.ok sc_purge)
 obtain ⟨sp,n,tg,st,rfl,h⟩:=h
 o_headS (2 (pss_cons (pst 2 sc_purge (pcf T.hand_refusal (ok_hand_refusal T) hr (pa_cons (pv 0) (pa1 (pv 1))))) (pss_cons (ps_if (pt_cmpR op_ne (pv 2) pe_int (nomark _)) (prl (pv 2)) pss_nil) (pss_cons (ps_expr (pe_dpop1 (pf (pv 0)) (pv 1) ⟨rfl,rfl,rfl,rfl⟩)) (prl pe_int)))))
 refine seq1 ?_
 walk_at "pq"
 refine ⟨sp,n,tg,st,rfl,h.1,h.2.1,fun H1 s1=>seq1 ?_⟩
 walk_at "pq"
 rcases refH_cases st n with ⟨h1,h2⟩ | ⟨h1,o,h2,h3,h4⟩
 ·rw [if_pos h1]
  exact h.one (h2 _) s1
 ·rw [if_neg (by simpa using h1)]
  obtain ⟨dx,f,os,ws,R⟩:=h.1.same s1
  refine seq1 ?_
  walk_at "pq"
  rw [R.hsp]
  walk_at "pq"
  obtain ⟨a,e1,e2,e3⟩:=R.out_some h2
  have e4:=h4 fun o=>Vbbhak.yes { st with outs:=st.outs.filter fun x=>x.num != o.num } 0
  refine ⟨.inl ⟨_,.inl R.hod⟩,_,R.hod,Sum.inl n,rfl,_,e3,?_⟩
  refine h.done (tg':=tg) e4 ⟨dx,f,os.filter fun p=>p.1.num != o.num,ws,?_⟩ ((Kept.same h.1.trk s1).trans (Kept.upd R.tod (by simp)))
  have fz:Fz tg (upd H1 f.outs (.dK (dropK (os.map fun p=>((Sum.inl (p.1.num:Int):Key),V.ref p.2)) (Sum.inl n))))=Fz tg H1:=Fz_upd (by rw [R.tod];simp)
  have k:∀ p:Tag->Prop,¬ p .outs->Kp tg H1 tg (upd H1 f.outs (.dK (dropK (os.map fun p=>((Sum.inl (p.1.num:Int):Key),V.ref p.2)) (Sum.inl n)))) p:=fun p hp=>Kp.upd R.tod hp
  obtain ⟨k1,k2⟩:=k (fun t=>t = .spool) (by simp) _ _ R.tsp rfl
  refine ⟨R.trk.upd,k1,R.lam.frame (k _ (by simp)) (by rw [fz];exact Same.rfl'),k2.trans R.hsp,R.most,R.cap,R.room,R.last,R.nle,R.tod,?_,?_,fun p hp=>(R.oat p (List.mem_filter.mp hp).1).frame (k _ (by simp)) (by rw [fz];exact Same.rfl'),by rw [fz];exact R.hwl,R.wrs,fun i x b hi=>(R.wat i x b hi).frame (k _ (by simp)) (by rw [fz];exact Same.rfl')⟩
  ·rw [upd_same]
   unfold dropK
   rw [List.filter_map]
   congr 3
   apply List.filter_congr
   intro p _
   simp only [Function.comp]
   rw [Bool.eq_iff_iff]
   rw [← e2]
   simp
   omega
  ·show st.outs.filter _=_
   rw [R.outs,List.filter_map]
   rfl
end
end
section
open Vbbhak (State Call Ans step onOut onWriter)
noncomputable def cGap (c:Int):Option Int:=([(32,1),(48,2),(45,3)]:List (Int × Int)).lookup c
noncomputable def CodeOk (c:UInt8):Prop:=c=32∨c=43∨c=45∨c=48∨c=49
theorem code_int {c:UInt8} (h:CodeOk c):((c.toNat:Int)=43 ↔ c=43)∧((c.toNat:Int)=49 ↔ c=49):=by
 rcases h with rfl | rfl | rfl | rfl | rfl <;> decide
theorem code_gap {c:UInt8} (h:CodeOk c) (h1:c ≠ 43) (h2:c ≠ 49):cGap (c.toNat:Int)=some (Vbbhak.gap c:Int)∧1≤Vbbhak.gap c∧Vbbhak.gap c≤3:=by
 rcases h with rfl | rfl | rfl | rfl | rfl
 ·decide
 ·exact absurd rfl h1
 ·decide
 ·decide
 ·exact absurd rfl h2
theorem code_first {c:UInt8} (h:CodeOk c) {most:Nat} (hm:1≤most):(if (most:Int) < (cGap (c.toNat:Int)).getD 1 then 1 else (cGap (c.toNat:Int)).getD 1)=((VB.firstRow most c - 1 + 1:Nat):Int)∧VB.firstRow most c≤3:=by
 unfold VB.firstRow
 rcases h with rfl | rfl | rfl | rfl | rfl
 ·rw [show cGap ((32:UInt8).toNat:Int)=some 1 from rfl,show Vbbhak.gap 32=1 from rfl]
  simp only [Option.getD_some]
  rw [if_neg (by omega),if_neg (by simp;omega)]
  omega
 ·rw [show cGap ((43:UInt8).toNat:Int)=none from rfl]
  simp only [Option.getD_none]
  rw [if_neg (by omega),if_pos (by simp)]
  omega
 ·rw [show cGap ((45:UInt8).toNat:Int)=some 3 from rfl,show Vbbhak.gap 45=3 from rfl]
  simp only [Option.getD_some]
  by_cases z:most < 3
  ·rw [if_pos (by omega),if_pos (.inr (.inr z))];omega
  ·rw [if_neg (by omega),if_neg (by simp;omega)];omega
 ·rw [show cGap ((48:UInt8).toNat:Int)=some 2 from rfl,show Vbbhak.gap 48=2 from rfl]
  simp only [Option.getD_some]
  by_cases z:most < 2
  ·rw [if_pos (by omega),if_pos (.inr (.inr z))];omega
  ·rw [if_neg (by omega),if_neg (by simp;omega)];omega
 ·rw [show cGap ((49:UInt8).toNat:Int)=none from rfl]
  simp only [Option.getD_none]
  rw [if_neg (by omega),if_pos (by simp)]
  omega
noncomputable def retg (tg:Tg) (u:Addr) (n:Nat):Tg:=fun b=>if b=u then some (.last n) else if tg b=some (.last n) then none else tg b
section
variable {tg:Tg} {H H':Hp} {u g:Addr} {n:Nat}
theorem retg_u:retg tg u n u=some (.last n):=if_pos rfl
theorem retg_none {b:Addr} (h:b ≠ u) (e:tg b=none∨tg b=some (.last n)):retg tg u n b=none:=by
 unfold retg
 rw [if_neg h]
 rcases e with e | e
 ·rw [e];rfl
 ·rw [if_pos e]
theorem retg_tag {b:Addr} {t:Tag} (h:b ≠ u) (e:tg b=some t) (ht:t ≠ .last n):retg tg u n b=some t:=by
 unfold retg
 rw [if_neg h,if_neg (by rw [e];simpa using ht),e]
theorem retag (tk:Trk tg H) (fr:H u=none) (ex:Ex [g] H H') (tgg:tg g=some (.pages n)) (hu:∃ o,H' u=some o) (hg:∃ o,H' g=some o) :
  Trk (retg tg u n) H'∧Kp tg H (retg tg u n) H' (fun t=>t ≠ .pages n∧t ≠ .last n)∧Same (Fz tg H) (Fz (retg tg u n) H')∧retg tg u n g=some (.pages n):=by
 have tu:=tk.free fr
 have gu:g ≠ u:=fun z=>by rw [z,tu] at tgg;cases tgg
 refine ⟨fun b t e=>?_,fun b t e z=>?_,fun b o e=>?_,retg_tag gu tgg (by simp)⟩
 ·by_cases h1:b=u
  ·rw [h1];exact hu
  ·by_cases h2:b=g
   ·rw [h2];exact hg
   ·unfold retg at e
    rw [if_neg h1] at e
    split at e
    ·cases e
    ·obtain ⟨o,z⟩:=tk b t e
     exact ⟨o,ex _ _ z (by simpa using h2)⟩
 ·have bu:b ≠ u:=fun y=>by rw [y,tu] at e;cases e
  have bg:b ≠ g:=fun y=>by rw [y,tgg] at e;cases e;exact z.1 rfl
  obtain ⟨o,y⟩:=tk b t e
  exact ⟨retg_tag bu e z.2,by rw [y];exact ex _ _ y (by simpa using bg)⟩
 ·obtain ⟨e1,e2⟩:=Fz_some e
  have bu:b ≠ u:=ne_of_none e2 fr
  rw [Fz_of (retg_none bu (.inl e1))]
  exact ex _ _ e2 (fun y=>by rw [List.mem_singleton.mp y,tgg] at e1;cases e1)
end
theorem all2_rep {α β:Type} {R:α->β->Prop} {y:β} {as:List α} {k:Nat} (h:∀ a ∈ as,R a y) (e:as.length=k):All2 R as (List.replicate k y):=
 ⟨by rw [List.length_replicate];exact e,fun i a b ha hb=>by
  rw [List.getElem?_replicate] at hb
  split at hb
  ·cases hb;exact h a (List.mem_of_getElem? ha)
  ·cases hb⟩
section
variable {P:Program} {w:World} {K:PySem.W.Frag} {mg:Str->Option Value} {base:Heap}
noncomputable def sp_put_line (T:Txt K mg):Sp:=fun vs H Q _=>∃ (g t:Addr) (most n:Nat) (tg:Tg) (Pg:List (List Vbbhak.Bytes)) (x:Vbbhak.Line),vs=[.ref g,.int (x.code.toNat:Int),.ref t,.int (most:Int)]∧SqL K H t (bvs x.text)∧CodeOk x.code∧x.text.length≤132 ∧
 1≤most∧Trk tg H∧PgAt tg H n false (.ref g) Pg∧(∀ p ∈ Pg,p ≠ [])∧Pg.length≤1000∧(∀ p ∈ Pg,p.length≤1000∧∀ r ∈ p,r.length≤1000) ∧
 ∀ tg' H',Trk tg' H'->Kp tg H tg' H' (fun t=>t ≠ .pages n∧t ≠ .last n)->Same (Fz tg H) (Fz tg' H')->PgAt tg' H' n false (.ref g) (VB.addLine most Pg x)->Q .non H'
theorem ok_put_line (T:Txt K mg):FO P w base 3 T.put_line (sp_put_line T):=by
 o_headS (1 T.put_line.F.ok sc_put_line)
 obtain ⟨g,t,most,n,tg,Pg,x,rfl,h⟩:=h
 o_headS (2 (pss_cons (pst 4 sc_put_line (pcf T.without_end_blanks (ok_without_end_blanks T) hr (pa1 (pv 2)))) (pss_cons (ps_if (pt_cmpR op_eq (pe_callB (r:=rLen K) call_len_seq rfl T.n_len bt_len (pa1 (pv 0))) pe_int (nomark _)) (pss_cons (ps_expr (pe_bm PySem.F.plainAttrs_list PySem.F.slot_list_append PySem.F.type_list_append mt_append (pv 0) (pa1 (pcf T.rows_down_to (ok_rows_down_to T) hr (pa_cons (pcf T.first_row (ok_first_row T) hr (pa_cons (pv 1) (pa1 (pv 3)))) (pa1 (pv 4))))))) (pss_one (ps_retN))) pss_nil) (pss_cons (pst 5 sc_put_line (pe_ix ix_list (pv 0) (pe_un un_neg pe_int) (fun _ _=>rfl))) (pss_one (ps_if (pt_cmpR op_eq (pv 1) (pgi T.g_OVER) (nomark _)) (pss_one (ps_asg (pcf T.put_over (ok_put_over T) hr (pa_cons (pe_ix ix_list (pv 5) (pe_un un_neg pe_int) (fun _ _=>rfl)) (pa1 (pv 4)))) (pg_sub (pv 5) (pe_un un_neg pe_int) set_list))) (pss_one (ps_if (PW.pt (pw_or (pt_cmpR op_eq (pv 1) (pgi T.g_NEW_PAGE) (nomark _)) (pw_or1 (pt_cmpR op_gt (pe_op op_add (pe_callB (r:=rLen K) call_len_seq rfl T.n_len bt_len (pa1 (pv 5))) (pe_dgetM (hu_of hr) (pgi T.g_ROWS_DOWN) (pv 1) (fun _ _=>rfl))) (pv 3) (nomark _))))) (pss_one (ps_expr (pe_bm PySem.F.plainAttrs_list PySem.F.slot_list_append PySem.F.type_list_append mt_append (pv 0) (pa1 (pe_lst (pa1 (pv 4))))))) (pss_one (ps_expr (pe_bm PySem.F.plainAttrs_list PySem.F.slot_list_extend PySem.F.type_list_extend mt_extend (pv 5) (pa1 (pcf T.rows_down_to (ok_rows_down_to T) hr (pa_cons (pe_dgetM (hu_of hr) (pgi T.g_ROWS_DOWN) (pv 1) (fun _ _=>rfl)) (pa1 (pv 4))))))))))))))))
 obtain ⟨h1,h2,h3,h4,h5,⟨g',as,eg,hpg⟩,h7,h8,h9,h⟩:=h
 cases eg
 rw [if_neg (by decide)] at hpg
 obtain ⟨hg1,hg2,hg3⟩:=hpg
 have big:(10000:Nat) < sizeLine:=by decide
 refine seq1 ?_
 walk_at "pq"
 refine ⟨t,x.text,rfl,h1,fun q hq=>seq1 ?_⟩
 have s1:=same_new (o:=.lst (bvs (Vbbhak.trimmed x.text))) hq
 have eq1:upd H q (.lst (bvs (Vbbhak.trimmed x.text))) q=some (.lst (bvs (Vbbhak.trimmed x.text))):=upd_same
 generalize upd H q (.lst (bvs (Vbbhak.trimmed x.text)))=H1 at s1 eq1
 have tq:=h5.free hq
 have lt:(Vbbhak.trimmed x.text).length≤132:=Nat.le_trans (VB.trimmed_length _) h3
 have hg1':=s1 _ _ hg2
 walk_at "pq"
 refine ⟨_,Or.inl (SqL.of hg1'),?_⟩
 rcases hg3 with ⟨rfl,rfl⟩ | ⟨as',a,P',p,rs,rfl,rfl,e3,e4,e5,e6⟩
 ·rw [if_pos (by rfl)]
  refine seq1 ?_
  walk_at "pq"
  refine ⟨Or.inl ⟨rfl,_,SqL.of hg1'⟩,_,_,rfl,?_⟩
  obtain ⟨f1,f2⟩:=code_first h2 (most:=most) h4
  have f1':(if (most:Int) < (([(32,1),(48,2),(45,3)]:List (Int × Int)).lookup (x.code.toNat:Int)).getD 1 then 1 else (([(32,1),(48,2),(45,3)]:List (Int × Int)).lookup (x.code.toNat:Int)).getD 1)=((VB.firstRow most x.code - 1 + 1:Nat):Int):=f1
  rw [f1']
  refine ⟨_,_,rfl,by omega,fun u bs H2 hu s2 eu el eb fb=>?_⟩
  have gu:g ≠ u:=ne_of_none hg1' hu
  simp only [rAppend]
  walk_at "pq"
  rw [s2 _ _ hg1']
  walk_at "pq"
  refine ⟨by show 0 < sizeLine;decide,?_⟩
  have hu0:=s1.free hu
  have ex:Ex [g] H (upd H2 g (.lst [.ref u])):=(Ex.of_same (s1.trans s2)).then (by simp)
  obtain ⟨r1,r2,r3,r4⟩:=retag h5 hu0 ex hg1 ⟨_,by rw [upd_ne gu.symm];exact eu⟩ ⟨_,upd_same⟩
  refine h (retg tg u n) _ r1 r2 r3 ⟨g,[u],rfl,?_⟩
  rw [if_neg (by decide)]
  refine ⟨r4,upd_same,.inr ⟨[],u,[],_,bs++[q],rfl,VB.addLine_first most x,All2.nil,retg_u,by rw [upd_ne gu.symm,List.map_append];exact eu,?_⟩⟩
  have fr:∀ b,H b=none->b ≠ u->∀ l,H2 b=some (.lst l)->Fz (retg tg u n) (upd H2 g (.lst [.ref u])) b=some (.lst l):=fun b hb bu l e=>by
   rw [Fz_of (retg_none bu (.inl (h5.free hb))),upd_ne (ne_of_none hg2 hb).symm]
   exact e
  have big2:∀ b l,H2 b=some (.lst l)->l=[]->b ≠ u:=fun b l e el z=>by
   rw [z,eu] at e
   cases e
   simp at el
  refine All2.snoc (all2_rep (fun b hb=>?_) el) ?_
  ·exact fr b (s1.free (fb b hb)) (big2 b [] (eb b hb) rfl) _ (eb b hb)
  ·exact fr q hq (fun z=>by rw [z] at eq1;rw [hu] at eq1;cases eq1) _ (s2 _ _ eq1)
 ·have ane:(as'++[a]).map V.ref=as'.map V.ref++[V.ref a]:=by rw [List.map_append];rfl
  rw [if_neg (by rw [List.length_map,List.length_append];simp;omega)]
  have ag:a ≠ g:=fun z=>by rw [z,hg1] at e4;cases e4
  have qa:q ≠ a:=fun z=>by rw [z,e5] at hq;cases hq
  have qg:q ≠ g:=fun z=>by rw [z,hg2] at hq;cases hq
  have ha1:=s1 _ _ e5
  have hpne:=h7 p (by simp)
  obtain ⟨hpl,hpr⟩:=h9 p (by simp)
  refine seq1 ?_
  walk_at "pq"
  refine ⟨_,SqL.of hg1',V.ref a,by rw [ane];exact atI_last _ _,?_⟩
  by_cases c43:x.code=43
  ·rw [if_pos ((code_int h2).1.mpr c43)]
   obtain ⟨p',pl,rfl⟩:∃ p' pl,p=p'++[pl]:=⟨p.dropLast,p.getLast hpne,(List.dropLast_concat_getLast hpne).symm⟩
   obtain ⟨rs',rl,rfl,e7,e8⟩:=e6.snoc_r
   have rne:(rs'++[rl]).map V.ref=rs'.map V.ref++[V.ref rl]:=by rw [List.map_append];rfl
   obtain ⟨trl,hrl⟩:=Fz_some e8
   walk_at "pq"
   refine ⟨_,SqL.of ha1,V.ref rl,by rw [rne];exact atI_last _ _,?_⟩
   refine ⟨rl,q,pl,Vbbhak.trimmed x.text,rfl,SqL.of (s1 _ _ hrl),SqL.of eq1,hpr pl (by simp),by omega,fun v hv=>?_⟩
   simp only [gSub,rSetL]
   walk_at "pq"
   have av:a ≠ v:=ne_of_none ha1 hv
   rw [upd_ne av,ha1]
   walk_at "pq"
   refine ⟨rs'.length,by rw [rne,List.length_append,List.length_map];unfold ixN;simp;omega,?_⟩
   rw [rne,show (rs'.map V.ref++[V.ref rl]).set rs'.length (V.ref v)=(rs'++[v]).map V.ref by rw [List.map_append,List.set_append_right _ _ (by rw [List.length_map];exact Nat.le_refl _),List.length_map,Nat.sub_self];rfl]
   have hv0:=s1.free hv
   have ex:Ex [a] H (upd (upd H1 v (.lst (bvs (Vbbhak.overlaid pl (Vbbhak.trimmed x.text))))) a (.lst ((rs'++[v]).map V.ref))):=((Ex.of_same s1).new hv).then (by simp)
   have fz:=Fz_ex (tg:=tg) ex (fun b hb=>by rw [List.mem_singleton.mp hb,e4];simp)
   have gv:g ≠ v:=ne_of_none hg1' hv
   refine h tg _ (h5.ex ex (fun b hb=>by rw [List.mem_singleton.mp hb];exact ⟨_,upd_same⟩)) (Kp.ex h5 ex fun b t e z m=>?_) fz ⟨g,as'++[a],rfl,?_⟩
   ·rw [List.mem_singleton.mp m,e4] at e
    cases e
    exact z.2 rfl
   ·rw [if_neg (by decide)]
    refine ⟨hg1,by rw [upd_ne ag.symm,upd_ne gv];exact hg1',.inr ⟨as',a,P',_,rs'++[v],rfl,VB.addLine_over most P' p' pl x c43,e3.mono fun a b z=>z.same fz,e4,upd_same,(e7.mono fun a b z=>fz _ _ z).snoc ?_⟩⟩
    rw [Fz_of (h5.free hv0),upd_ne av.symm,upd_same]
  ·rw [if_neg (fun z=>c43 ((code_int h2).1.mp z))]
   walk_at "pq"
   have nine:∀ u,H1 u=none->Q V.non (upd (upd H1 u (.lst [.ref q])) g (.lst ((as'++[a]).map V.ref++[.ref u])))->True:=fun _ _ _=>trivial
   have newp:(x.code=49∨most < p.length + Vbbhak.gap x.code)->∀ u,H1 u=none->Q V.non (upd (upd H1 u (.lst [.ref q])) g (.lst ((as'++[a]).map V.ref++[.ref u]))):=by
    intro hc u hu
    have hu0:=s1.free hu
    have gu:g ≠ u:=ne_of_none hg1' hu
    have au:a ≠ u:=ne_of_none ha1 hu
    have qu:q ≠ u:=ne_of_none eq1 hu
    have ex:Ex [g] H (upd (upd H1 u (.lst [.ref q])) g (.lst ((as'++[a]).map V.ref++[.ref u]))):=((Ex.of_same s1).new hu).then (by simp)
    obtain ⟨r1,r2,r3,r4⟩:=retag h5 hu0 ex hg1 ⟨_,by rw [upd_ne gu.symm];exact upd_same⟩ ⟨_,upd_same⟩
    refine h (retg tg u n) _ r1 r2 r3 ⟨g,(as'++[a])++[u],rfl,?_⟩
    rw [if_neg (by decide)]
    refine ⟨r4,by rw [upd_same];simp,.inr ⟨as'++[a],u,P'++[p],_,[q],rfl,VB.addLine_page most P' p x hpne c43 hc,?_,retg_u,by rw [upd_ne gu.symm,upd_same];rfl,All2.one ?_⟩⟩
    ·refine (e3.mono fun a b z=>z.same r3).snoc ⟨rs,?_,e6.mono fun r b z=>r3 _ _ z⟩
     rw [Fz_of (retg_none au (.inr e4)),upd_ne ag,upd_ne au]
     exact ha1
    ·rw [Fz_of (retg_none qu (.inl tq)),upd_ne qg,upd_ne qu]
     exact eq1
   have addp:(x.code=49∨most < p.length + Vbbhak.gap x.code)->tyV K "list" (.ref g) H1∧∀ u,H1 u=none->rAppend (.ref g) [.ref u] (upd H1 u (.lst [.ref q])) fun _ H2=>Q V.non H2:=by
    intro hc
    refine ⟨Or.inl ⟨rfl,_,SqL.of hg1'⟩,fun u hu=>⟨g,_,_,rfl,rfl,by rw [upd_ne (ne_of_none hg1' hu)];exact hg1',?_,newp hc u hu⟩⟩
    rw [List.length_map,List.length_append,e3.1]
    simp only [List.length_append,List.length_singleton] at h8 ⊢
    omega
   by_cases c49:x.code=49
   ·rw [if_pos ((code_int h2).2.mpr c49)]
    obtain ⟨q1,q2⟩:=addp (.inl c49)
    exact ⟨q1,fun u hu=>q2 u hu⟩
   ·rw [if_neg (fun z=>c49 ((code_int h2).2.mp z))]
    obtain ⟨g1,g2,g3⟩:=code_gap h2 c43 c49
    refine ⟨_,Or.inl (SqL.of ha1),_,rfl,_,_,_,_,rfl,rfl,T.d_ROWS_DOWN,g1,?_⟩
    walk_at "pq"
    rw [List.length_map,e6.1]
    by_cases hb:most < p.length + Vbbhak.gap x.code
    ·rw [if_pos (by omega)]
     obtain ⟨q1,q2⟩:=addp (.inr hb)
     exact ⟨q1,fun u hu=>q2 u hu⟩
    ·rw [if_neg (by omega)]
     refine ⟨Or.inl ⟨rfl,_,SqL.of ha1⟩,_,rfl,_,_,_,_,rfl,rfl,T.d_ROWS_DOWN,g1,?_⟩
     refine ⟨Vbbhak.gap x.code - 1,_,by rw [show Vbbhak.gap x.code - 1 + 1=Vbbhak.gap x.code by omega],by omega,fun u bs H2 hu s2 eu el eb fb=>?_⟩
     have ha2:=s2 _ _ ha1
     have au:a ≠ u:=ne_of_none ha1 hu
     have gu:g ≠ u:=ne_of_none hg1' hu
     refine ⟨a,u,_,_,rfl,rfl,ha2,eu,?_,?_⟩
     ·rw [List.length_map,List.length_append,List.length_map,el,e6.1,List.length_singleton];omega
     ·rw [show rs.map V.ref++(bs.map V.ref++[V.ref q])=(rs++(bs++[q])).map V.ref by simp]
      have ex:Ex [a] H (upd H2 a (.lst ((rs++(bs++[q])).map V.ref))):=(Ex.of_same (s1.trans s2)).then (by simp)
      have fz:=Fz_ex (tg:=tg) ex (fun b hb=>by rw [List.mem_singleton.mp hb,e4];simp)
      refine h tg _ (h5.ex ex (fun b hb=>by rw [List.mem_singleton.mp hb];exact ⟨_,upd_same⟩)) (Kp.ex h5 ex fun b t e z m=>?_) fz ⟨g,as'++[a],rfl,?_⟩
      ·rw [List.mem_singleton.mp m,e4] at e
       cases e
       exact z.2 rfl
      ·rw [if_neg (by decide)]
       have fr:∀ b,H b=none->∀ l,H2 b=some (.lst l)->Fz tg (upd H2 a (.lst ((rs++(bs++[q])).map V.ref))) b=some (.lst l):=fun b hb l e=>by
        rw [Fz_of (h5.free hb),upd_ne (ne_of_none e5 hb).symm]
        exact e
       refine ⟨hg1,by rw [upd_ne ag.symm];exact s2 _ _ hg1',.inr ⟨as',a,P',_,rs++(bs++[q]),rfl,VB.addLine_down most P' p x hpne c43 (by simp [c49];omega),e3.mono fun a b z=>z.same fz,e4,upd_same,(e6.mono fun a b z=>fz _ _ z).app ((all2_rep (fun b hb=>?_) el).snoc ?_)⟩⟩
       ·exact fr b (s1.free (fb b hb)) _ (eb b hb)
       ·exact fr q hq _ (s2 _ _ eq1)
noncomputable def sp_add_line (T:Txt K mg):Sp:=fun vs H Q _=>∃ sp n c t b tg s,vs=[.ref sp,.int n,.int c,.ref t]∧SqL K H t (bvs b)∧QSp T tg H sp s (.line n c b) Q
theorem ok_add_line (T:Txt K mg):FO P w base 4 T.add_line (sp_add_line T):=by
 o_headS (1 T.add_line.F.ok sc_add_line)
 obtain ⟨sp,n,c,t,b,tg,st,rfl,h⟩:=h
 o_headS (2 (pss_cons (pst 4 sc_add_line (pcf T.output_refusal (ok_output_refusal T) hr (pa_cons (pv 0) (pa1 (pv 1))))) (pss_cons (ps_if (pt_cmpR op_ne (pv 4) pe_int (nomark _)) (prl (pv 4)) pss_nil) (pss_cons (ps_if (PW.pt (pw_or (pt_cmpR op_notIn_seq (pv 2) (pgi T.g_CODES) (by with_unfolding_all rfl)) (pw_or1 (pt_not (pt_val (pcf T.is_text (ok_is_text T) hr (pa1 (pv 3)))))))) (prg T.g_WRONG_FORM) pss_nil) (pss_cons (pst 5 sc_add_line (pe_dget (hu_of hr) (pf (pv 0)) (pv 1) (fun _ _=>rfl))) (pss_cons (ps_if (pt_val (pf (pv 5))) (prg T.g_WRONG_STATE) pss_nil) (pss_cons (ps_if (pt_cmpR op_eq (pf (pv 5)) (pgi T.g_MOST_LINES) (nomark _)) (prg T.g_NO_ROOM) pss_nil) (pss_cons (ps_fldaug (pv 5) pe_int in_add) (pss_cons (ps_expr (pcf T.put_line (ok_put_line T) hr (pa_cons (pf (pv 5)) (pa_cons (pv 2) (pa_cons (pv 3) (pa1 (pf (pv 0)))))))) (prl (pf (pv 5))))))))))))
 obtain ⟨ht,h⟩:=h
 refine seq1 ?_
 walk_at "pq"
 refine ⟨sp,n,tg,st,rfl,h.1,seq1 ?_⟩
 walk_at "pq"
 rcases onOut_cases st n with ⟨h1,h2⟩ | ⟨h1,o,h2,h3⟩
 ·rw [if_pos h1]
  exact h.one (h2 _) Same.rfl'
 ·rw [if_neg (by simpa using h1)]
  have e0:=h3 fun o=>if (c=32∨c=43∨c=45∨c=48∨c=49)=false∨Vbbhak.isText b=false then Vbbhak.no st 2
   else if o.closed=true then Vbbhak.no st 6
   else if Vbbhak.MOSTLINES≤o.lines.length then Vbbhak.no st 8
   else Vbbhak.yes (Vbbhak.setOut st { o with lines:=o.lines++[⟨UInt8.ofNat c.toNat,b⟩] }) (o.lines.length + 1)
  refine seq1 ?_
  simp only [rIn]
  walk_at "pq"
  refine ⟨_,_,rfl,Or.inr (T.t_CODES.sq _),rfl,rfl,?_⟩
  have ein:inV (V.int c) [.int 32,.int 48,.int 45,.int 43,.int 49]=decide (c=32∨c=43∨c=45∨c=48∨c=49):=by
   rw [Bool.eq_iff_iff]
   simp [inV,eqV]
   omega
  refine ⟨_,rfl,?_⟩
  rw [if_pos rfl,ein]
  by_cases hc:c=32∨c=43∨c=45∨c=48∨c=49
  ·rw [if_neg (by rw [decide_eq_true hc];decide)]
   refine ⟨t,b,rfl,ht,fun H1 s1=>⟨_,rfl,?_⟩⟩
   by_cases hb:Vbbhak.isText b=false
   ·rw [if_pos hb]
    rw [if_pos (.inr hb)] at e0
    exact h.one e0 s1
   ·rw [if_neg hb]
    rw [if_neg (by
     rintro (z | z)
     ·exact absurd (z ▸ hc) (by simp)
     ·exact hb z)] at e0
    have hlen:=VB.isText_len hb
    obtain ⟨dx,f,os,ws,R⟩:=h.1.same s1
    refine seq1 ?_
    walk_at "pq"
    rw [R.hsp]
    walk_at "pq"
    obtain ⟨a,e1,e2,e3⟩:=R.out_get h2
    obtain ⟨da,fa,O⟩:=R.out_at e1
    have OK:=h.2.1.out o (R.out_mem e1)
    refine ⟨_,e3,seq1 ?_⟩
    walk_at "pq"
    rw [O.ha]
    walk_at "pq"
    rw [O.closed]
    by_cases hcl:o.closed=true
    ·rw [if_pos hcl] at e0 ⊢
     exact h.one e0 s1
    ·rw [if_neg hcl] at e0 ⊢
     refine seq1 ?_
     walk_at "pq"
     rw [O.ha]
     walk_at "pq"
     rw [O.lines]
     have few:=OK.few
     by_cases hm:Vbbhak.MOSTLINES≤o.lines.length
     ·rw [if_pos (by have:Vbbhak.MOSTLINES=100:=rfl;omega)]
      rw [if_pos hm] at e0
      exact h.one e0 s1
     ·rw [if_neg (by have:Vbbhak.MOSTLINES=100:=rfl;omega)]
      rw [if_neg hm] at e0
      refine seq1 ?_
      walk_at "pq"
      rw [O.ha]
      walk_at "pq"
      have hcl':o.closed=false:=by simpa using hcl
      have ta:=O.ta
      have fz1:Fz tg (upd H1 a (OO T da { fa with lines:=fa.lines + 1 }))=Fz tg H1:=Fz_upd (by rw [ta];simp)
      have fo:f.outs ≠ a:=fun z=>by rw [← z,R.tod] at ta;cases ta
      have sa:sp ≠ a:=fun z=>by rw [← z,R.tsp] at ta;cases ta
      have pg1:PgAt tg (upd H1 a (OO T da { fa with lines:=fa.lines + 1 })) o.num false fa.pages (Vbbhak.pagesOf st o):=by
       have:=O.pages
       rw [hcl'] at this
       refine this.frame (Kp.upd ta ?_) (by rw [fz1];exact Same.rfl')
       rintro (z | z) <;> cases z
      have ea1:upd H1 a (OO T da { fa with lines:=fa.lines + 1 }) a=some (OO T da { fa with lines:=fa.lines + 1 }):=upd_same
      have tk1:Trk tg (upd H1 a (OO T da { fa with lines:=fa.lines + 1 })):=R.trk.upd
      have esp:upd H1 a (OO T da { fa with lines:=fa.lines + 1 }) sp=some (SO T dx f):=by rw [upd_ne sa];exact R.hsp
      have et1:SqL K (upd H1 a (OO T da { fa with lines:=fa.lines + 1 })) t (bvs b):=by
       have:=s1.seq ht
       rcases this with (z | ⟨o',z⟩) | z
       ·refine .inl (.inl ?_)
        rw [upd_ne (ne_of z O.ha (by intro y;cases y))];exact z
       ·refine .inl (.inr ⟨o',?_⟩)
        rw [upd_ne (ne_of z O.ha (by intro y;cases y))];exact z
       ·exact .inr z
      obtain ⟨g,as,eg,_⟩:=id pg1
      have k1:∀ p:Tag->Prop,¬ p (.out o.num)->Kp tg H1 tg (upd H1 a (OO T da { fa with lines:=fa.lines + 1 })) p:=fun p hp=>Kp.upd ta hp
      show tSeq _ _ _ _ (upd H1 a (OO T da { fa with lines:=fa.lines + 1 }))
      generalize upd H1 a (OO T da { fa with lines:=fa.lines + 1 })=H2 at fz1 pg1 ea1 tk1 esp et1 k1
      refine seq1 ?_
      walk_at "pq"
      rw [ea1]
      walk_at "pq"
      rw [esp]
      walk_at "pq"
      rw [R.most,eg]
      rw [eg] at pg1
      have hcode:((UInt8.ofNat c.toNat).toNat:Int)=c:=by
       rw [UInt8.toNat_ofNat']
       omega
      have cok:CodeOk (UInt8.ofNat c.toNat):=by
       rcases hc with rfl | rfl | rfl | rfl | rfl
       ·exact .inl rfl
       ·exact .inr (.inl rfl)
       ·exact .inr (.inr (.inl rfl))
       ·exact .inr (.inr (.inr (.inl rfl)))
       ·exact .inr (.inr (.inr (.inr rfl)))
      have hps:(Vbbhak.pagesOf st o).length≤1000:=by
       have:=VB.pages_count st.most o.lines []
       have e:Vbbhak.pagesOf st o=Vbbhak.pagesFrom st.most [] o.lines:=rfl
       rw [e];omega
      refine ⟨g,t,st.most,o.num,tg,Vbbhak.pagesOf st o,⟨UInt8.ofNat c.toNat,b⟩,by rw [hcode],et1,cok,hlen,h.2.1.m1,tk1,pg1,VB.page_ne st.most o.lines [],hps,fun p hp=>?_,fun tg' H3 tk3 k3 fz3 pg3=>?_⟩
      ·obtain ⟨z1,z2⟩:=page_size h.2.1 (R.out_mem e1) p hp
       exact ⟨by omega,fun r hr=>by have:=z2 r hr;omega⟩
      ·obtain ⟨k4,k5⟩:=k3 _ _ ta ⟨by simp,by simp⟩
       have ea3:H3 a=some (OO T da { fa with lines:=fa.lines + 1 }):=k5.trans ea1
       rw [ea3]
       walk_at "pq"
       rw [O.lines]
       rw [fz1] at fz3
       have e4:step st (.line n c b)=_:=e0
       refine h.done (tg':=tg') (H':=H3) e4 ⟨_,_,_,_,R.setO (o':={ o with lines:=o.lines++[⟨UInt8.ofNat c.toNat,b⟩] }) (a:=a) (R.uniq h.2.1 e1 rfl) tk3 (fun b' t' e z=>?_) fz3 ⟨da,{ fa with lines:=fa.lines + 1 },k4,ea3,O.num,O.cls,O.form,O.copies,O.prio,O.held,O.closed,?_,?_,O.place.same fz3,?_⟩⟩ ((Kept.same h.1.trk s1).trans ⟨fz3,fun b' k' e=>?_⟩)
       ·obtain ⟨y1,y2⟩:=k1 (fun t=>t ≠ .out o.num) (by simp) b' t' e z.1
        obtain ⟨y3,y4⟩:=k3 b' t' y1 ⟨z.2.1,z.2.2⟩
        exact ⟨y3,y4.trans y2⟩
       ·show fa.lines + 1=(((o.lines++[_]).length:Nat):Int)
        rw [O.lines,List.length_append]
        simp
       ·obtain ⟨nm,z1,z2⟩:=O.name
        exact ⟨nm,z1,fz3 _ _ z2⟩
       ·show PgAt tg' H3 o.num o.closed fa.pages (Vbbhak.pages st.most (o.lines++[_]))
        rw [VB.pages_snoc,hcl',eg]
        exact pg3
       ·obtain ⟨y1,y2⟩:=k1 (fun t=>t = .env k') (by simp) b' _ e rfl
        obtain ⟨y3,y4⟩:=k3 b' _ y1 ⟨by simp,by simp⟩
        exact ⟨y3,y4.trans y2⟩
  ·rw [if_pos (by rw [decide_eq_false hc];rfl)]
   rw [if_pos (.inl (by simp [hc]))] at e0
   exact h.one e0 Same.rfl'
noncomputable def shut (tg:Tg) (n:Nat):Tg:=fun b=>if tg b=some (.pages n)∨tg b=some (.last n) then none else tg b
theorem shut_none {tg:Tg} {n:Nat} {b:Addr} (h:tg b=none∨tg b=some (.pages n)∨tg b=some (.last n)):shut tg n b=none:=by
 unfold shut
 rcases h with h | h
 ·rw [h];simp
 ·rw [if_pos h]
theorem shut_tag {tg:Tg} {n:Nat} {b:Addr} {t:Tag} (e:tg b=some t) (h1:t ≠ .pages n) (h2:t ≠ .last n):shut tg n b=some t:=by
 unfold shut
 rw [if_neg (by rw [e];simp [h1,h2]),e]
noncomputable def sp_close (T:Txt K mg):Sp:=fun vs H Q _=>∃ sp n tg s,vs=[.ref sp,.int n]∧QSp T tg H sp s (.close n) Q
theorem ok_close (T:Txt K mg):FO P w base 3 T.close (sp_close T):=by
 o_headS (1 T.close.F.ok sc_close)
 obtain ⟨sp,n,tg,st,rfl,h⟩:=h
 o_headS (2 (pss_cons (pst 2 sc_close (pcf T.output_refusal (ok_output_refusal T) hr (pa_cons (pv 0) (pa1 (pv 1))))) (pss_cons (ps_if (pt_cmpR op_ne (pv 2) pe_int (nomark _)) (prl (pv 2)) pss_nil) (pss_cons (pst 3 sc_close (pe_dget (hu_of hr) (pf (pv 0)) (pv 1) (fun _ _=>rfl))) (pss_cons (ps_if (pt_val (pf (pv 3))) (prg T.g_SO_ALREADY) pss_nil) (pss_cons (ps_fld (pv 3) (pe_bl) rfl) (prl (pe_callB (r:=rLen K) call_len_seq rfl T.n_len bt_len (pa1 (pf (pv 3)))))))))))
 refine seq1 ?_
 walk_at "pq"
 refine ⟨sp,n,tg,st,rfl,h.1,seq1 ?_⟩
 walk_at "pq"
 rcases onOut_cases st n with ⟨h1,h2⟩ | ⟨h1,o,h2,h3⟩
 ·rw [if_pos h1]
  exact h.one (h2 _) Same.rfl'
 ·rw [if_neg (by simpa using h1)]
  obtain ⟨dx,f,os,ws,R⟩:=h.1
  refine seq1 ?_
  walk_at "pq"
  rw [R.hsp]
  walk_at "pq"
  obtain ⟨a,e1,e2,e3⟩:=R.out_get h2
  obtain ⟨da,fa,O⟩:=R.out_at e1
  refine ⟨_,e3,seq1 ?_⟩
  walk_at "pq"
  rw [O.ha]
  walk_at "pq"
  have e4:=h3 fun o=>if o.closed=true then Vbbhak.no st 5 else Vbbhak.yes (Vbbhak.setOut st { o with closed:=true }) (Vbbhak.pagesOf st o).length
  rw [O.closed]
  by_cases hcl:o.closed=true
  ·rw [if_pos hcl] at e4 ⊢
   exact h.one e4 Same.rfl'
  ·rw [if_neg hcl] at e4 ⊢
   refine seq1 ?_
   walk_at "pq"
   rw [O.ha]
   walk_at "pq"
   have hcl':o.closed=false:=by simpa using hcl
   have pg:=O.pages
   rw [hcl'] at pg
   obtain ⟨g,as,eg,hpg⟩:=pg
   rw [if_neg (by decide)] at hpg
   obtain ⟨tg1,hg,hrest⟩:=hpg
   have ta:=O.ta
   have ga:g ≠ a:=fun z=>by rw [z,ta] at tg1;cases tg1
   refine ⟨g,eg,_,Or.inl (SqL.of (by rw [upd_ne ga];exact hg)),?_⟩
   rw [List.length_map]
   have rd:=O.pages.read
   obtain ⟨g',as',eg',hg',all'⟩:=rd
   rw [eg] at eg'
   cases eg'
   rw [hg] at hg'
   have eas:as=as':=by
    have:=Option.some.inj hg'
    injection this with this
    exact (List.map_inj_right (fun x y z=>by cases z;rfl)).mp this
   subst eas
   rw [all'.1]
   have fz:Same (Fz tg H) (Fz (shut tg o.num) (upd H a (OO T da { fa with closed:=true }))):=fun b o' e=>by
    obtain ⟨z1,z2⟩:=Fz_some e
    rw [Fz_of (shut_none (.inl z1)),upd_ne (fun y=>by rw [y,ta] at z1;cases z1)]
    exact z2
   have ta':shut tg o.num a=some (.out o.num):=shut_tag ta (by simp) (by simp)
   have fzg:∀ b l,(tg b=some (.pages o.num)∨tg b=some (.last o.num))->H b=some (.lst l)->Fz (shut tg o.num) (upd H a (OO T da { fa with closed:=true })) b=some (.lst l):=fun b l z e=>by
    rw [Fz_of (shut_none (.inr z)),upd_ne (fun y=>by rw [y,ta] at z;rcases z with z | z <;> cases z)]
    exact e
   have kk:∀ b t,tg b=some t->t ≠ .out o.num->t ≠ .pages o.num->t ≠ .last o.num->shut tg o.num b=some t∧upd H a (OO T da { fa with closed:=true }) b=H b:=fun b t e z1 z2 z3 =>
    ⟨shut_tag e z2 z3,upd_ne fun y=>by rw [y,ta] at e;cases e;exact z1 rfl⟩
   have e5:step st (.close n)=_:=e4
   refine h.done (tg':=shut tg o.num) e5 ⟨_,_,_,_,R.setO (o':={ o with closed:=true }) (a:=a) (R.uniq h.2.1 e1 rfl) (fun b t e=>?_) (fun b t e z=>kk b t e z.1 z.2.1 z.2.2) fz ⟨da,{ fa with closed:=true },ta',upd_same,O.num,O.cls,O.form,O.copies,O.prio,O.held,rfl,O.lines,?_,O.place.same fz,g,as,eg,?_⟩⟩ ⟨fz,fun b k e=>kk b _ e (by simp) (by simp) (by simp)⟩
   ·unfold shut at e
    split at e
    ·cases e
    ·exact R.trk.upd b t e
   ·obtain ⟨nm,z1,z2⟩:=O.name
    exact ⟨nm,z1,fz _ _ z2⟩
   ·rw [if_pos rfl]
    refine ⟨fzg g _ (.inl tg1) hg,?_⟩
    show All2 _ as (Vbbhak.pagesOf st o)
    rcases hrest with ⟨z1,z2⟩ | ⟨as',a',P',p,rs,z1,z2,z3,z4,z5,z6⟩
    ·rw [z1,z2];exact All2.nil
    ·rw [z1,z2]
     exact (z3.mono fun _ _ y=>y.same fz).snoc ⟨rs,fzg a' _ (.inr z4) z5,z6.mono fun _ _ y=>fz _ _ y⟩
end
end
section
open Vbbhak (State Call Ans step onOut onWriter)
section
variable {P:Program} {w:World} {K:PySem.W.Frag} {mg:Str->Option Value} {base:Heap}
noncomputable def sp_Output_init (T:Txt K mg):Sp:=fun vs H Q _=>∃ a dx num nm cls form copies prio held,vs=[.ref a,.int num,nm,.int cls,.int form,.int copies,.int prio,.bl held]∧H a=some (.ins T.c_Output dx []) ∧
 ∀ p H',H p=none->H' p=some (.lst [])->H' a=some (OO T dx ⟨num,nm,cls,form,copies,prio,held,false,0,.ref p,.ref T.a_FIRST_PLACE⟩)->Ex [a] H H'->Q .non H'
theorem ok_Output_init (T:Txt K mg):NO P w base mg 1 T.Output_init (sp_Output_init T):=by
 o_headS (1 T.Output_init.F.ok sc_Output_init)
 obtain ⟨a,dx,num,nm,cls,form,copies,prio,held,rfl,h⟩:=h
 o_headS (2 (pss_cons (ps_fld (pv 0) (pv 1) rfl) (pss_cons (ps_fld (pv 0) (pv 2) rfl) (pss_cons (ps_fld (pv 0) (pv 3) rfl) (pss_cons (ps_fld (pv 0) (pv 4) rfl) (pss_cons (ps_fld (pv 0) (pv 5) rfl) (pss_cons (ps_fld (pv 0) (pv 6) rfl) (pss_cons (ps_fld (pv 0) (pv 7) rfl) (pss_cons (ps_fld (pv 0) (pe_bl) rfl) (pss_cons (ps_fld (pv 0) pe_int rfl) (pss_cons (ps_fld (pv 0) (pe_lst pa_nil) rfl) (pss_one (ps_fld (pv 0) (pgi T.g_FIRST_PLACE) rfl)))))))))))))
 obtain ⟨h1,h⟩:=h
 refine seq1 ?_
 walk_at "pq"
 rw [h1]
 walk_at "pq"
 iterate 8 (refine ⟨of_decide_eq_true rfl,seq1 ?_⟩;walk_at "pq")
 refine ⟨of_decide_eq_true rfl,seq1 ?_⟩
 walk_at "pq"
 refine fun p hp=>?_
 obtain ⟨hp,pa⟩:=upd_none hp
 rw [upd_ne pa.symm,upd_same]
 walk_at "ps"
 refine ⟨by show 9 < 1000;decide,by show 10 < 1000;decide,h p _ hp ?_ upd_same ?_⟩
 ·rw [upd_ne pa,upd_same]
 ·exact (((Ex.of_same Same.rfl').then (by simp)).new (by rw [upd_ne pa];exact hp)).then (by simp)
noncomputable def RnI (T:Txt K mg) (H1:Hp) (D:Addr) (i:Nat) (H':Hp):Prop:=Same H1 H'∧∃ ws:List (Addr × Addr × Addr × Addr),ws.length=i∧H' D=some (.lst (ws.map fun x=>V.ref x.1))∧(ws.map (·.1)).Nodup∧(ws.map (·.2.2.1)).Nodup ∧
   ∀ x ∈ ws,(H1 x.1=none∧H1 x.2.2.1=none∧H1 x.2.2.2=none)∧(x.1 ≠ D∧x.2.2.1 ≠ D∧x.2.2.2 ≠ D)∧H' x.1=some (WO T x.2.1 ⟨.ref x.2.2.1,0,0,false,0,false,0,0,.ref x.2.2.2,0,.ref T.a_NO_PLACE,.ref T.a_NO_PLACE,0,0⟩)∧H' x.2.2.1=some (.lst [])∧H' x.2.2.2=some (.lst [])∧∀ y ∈ ws,x.2.2.2 ≠ y.2.2.1
noncomputable def sp_Spool_renew (T:Txt K mg):Sp:=fun vs H Q _=>∃ a dx fs m c p,vs=[.ref a,.int m,.int c,.int p]∧H a=some (.ins T.c_Spool dx fs)∧(fs=[]∨∃ f:Sf,fs=f.fs) ∧
 ∀ (d l:Addr) (ws:List (Addr × Addr × Addr × Addr)) (H':Hp),H d=none->H l=none->ws.length=8->(∀ x ∈ ws,H x.1=none∧H x.2.2.1=none)->(ws.map (·.1)).Nodup->(ws.map (·.2.2.1)).Nodup →
  H' a=some (SO T dx ⟨m,c,p,0,d,l⟩)->H' d=some (.dK [])->H' l=some (.lst (ws.map fun x=>V.ref x.1)) →
  (∀ x ∈ ws,H' x.1=some (WO T x.2.1 ⟨.ref x.2.2.1,0,0,false,0,false,0,0,.ref x.2.2.2,0,.ref T.a_NO_PLACE,.ref T.a_NO_PLACE,0,0⟩)∧H' x.2.2.1=some (.lst [])∧H' x.2.2.2=some (.lst [])∧H x.2.2.2=none∧x.2.2.2 ≠ x.2.2.1∧∀ y ∈ ws,x.2.2.2 ≠ y.2.2.1)->Ex [a] H H'->Q .non H'
noncomputable def tr_Spool_renew {K:PySem.W.Frag} {mg:Str->Option Value} (T:Txt K mg):TS:=tSeq (sFld K (tVar 0) (tVar 1) "most_rows") (tSeq (sFld K (tVar 0) (tVar 2) "cap") (tSeq (sFld K (tVar 0) (tVar 3) "paper_room") (tSeq (sFld K (tVar 0) (tC (.int 0)) "last_number") (tSeq (sFld K (tVar 0) (tDNewK) "outputs") (sFld K (tVar 0) (tLc (iRng1 (tCons (tC (.int (8))) tNil)) (gName 4) (tYes) (tMake T.c_Writer (sp_Writer_init T) [] E0 tNil) [4]) "writers")))))
theorem ok_Spool_renew (T:Txt K mg):MO P w base mg 5 T.Spool_renew (sp_Spool_renew T):=by
 o_headS (1 T.Spool_renew.F.ok sc_Spool_renew)
 obtain ⟨a,dx,fs,m,c,p,rfl,h⟩:=h
 o_headS (2 (tr_Spool_renew T) (pss_cons (ps_fld (pv 0) (pv 1) rfl) (pss_cons (ps_fld (pv 0) (pv 2) rfl) (pss_cons (ps_fld (pv 0) (pv 3) rfl) (pss_cons (ps_fld (pv 0) pe_int rfl) (pss_cons (ps_fld (pv 0) (pe_dnewK) rfl) (pss_one (ps_fld (pv 0) (pe_lc rfl sc_Spool_renew.nd (pi_range1 rfl T.n_range (pa1 (pgi T.g_WRITERS))) (own:=[("writer",4)]) (blkOk_by (N:=["self","most_rows","cap","paper_room","writer"]) (sc:=defScope s_Spool_renew) (by decide +kernel)) (fun _ _ _ _ _=>pg_name (i:=4) sc_Spool_renew.nd rfl (Or.inl rfl)) (fun _ _ _ _ _=>pts_nil) (fun _ _ _ _ _=>pe_make0 T.Writer_init.mak (ok_Writer_init T) hr rfl T.mgc_Writer T.Writer_init.b .nil pass0)) rfl))))))))
 obtain ⟨h1,h2,h⟩:=h
 have lfs:fs.length≤6:=by
  rcases h2 with rfl | ⟨f,rfl⟩
  ·decide
  ·exact Nat.le_refl _
 have e6:∀ d l,putF "writers" (.ref l) (putF "outputs" (.ref d) (putF "last_number" (.int 0) (putF "paper_room" (.int p) (putF "cap" (.int c) (putF "most_rows" (.int m) fs)))))=Sf.fs ⟨m,c,p,0,d,l⟩:=fun d l=>by
  rcases h2 with rfl | ⟨f,rfl⟩ <;> rfl
 have l1:=putF_len "most_rows" (.int m) fs
 have l2:=putF_len "cap" (.int c) (putF "most_rows" (.int m) fs)
 have l3:=putF_len "paper_room" (.int p) (putF "cap" (.int c) (putF "most_rows" (.int m) fs))
 have l4:=putF_len "last_number" (.int 0) (putF "paper_room" (.int p) (putF "cap" (.int c) (putF "most_rows" (.int m) fs)))
 simp only [tr_Spool_renew]
 refine seq1 ?_
 walk_at "pq"
 simp only [h1]
 walk_at "pq"
 refine ⟨by omega,seq1 ?_⟩
 walk_at "pq"
 refine ⟨by omega,seq1 ?_⟩
 walk_at "pq"
 refine ⟨by omega,seq1 ?_⟩
 walk_at "pq"
 refine ⟨by omega,seq1 ?_⟩
 simp only [tDNewK]
 walk_at "pq"
 intro d hd
 obtain ⟨hd,da⟩:=upd_none hd
 rw [upd_ne da.symm,upd_same]
 walk_at "pq"
 have l5:=putF_len "outputs" (.ref d) (putF "last_number" (.int 0) (putF "paper_room" (.int p) (putF "cap" (.int c) (putF "most_rows" (.int m) fs))))
 refine ⟨by omega,?_⟩
 have ex1:Ex [a] H (upd (upd (upd H a (HO.ins T.c_Spool dx (putF "last_number" (.int 0) (putF "paper_room" (.int p) (putF "cap" (.int c) (putF "most_rows" (.int m) fs)))))) d (.dK [])) a (HO.ins T.c_Spool dx (putF "outputs" (.ref d) (putF "last_number" (.int 0) (putF "paper_room" (.int p) (putF "cap" (.int c) (putF "most_rows" (.int m) fs))))))):=
  (((Ex.of_same Same.rfl').then (by simp)).new (by rw [upd_ne da];exact hd)).then (by simp)
 have ea1:upd (upd (upd H a (HO.ins T.c_Spool dx (putF "last_number" (.int 0) (putF "paper_room" (.int p) (putF "cap" (.int c) (putF "most_rows" (.int m) fs)))))) d (.dK [])) a (HO.ins T.c_Spool dx (putF "outputs" (.ref d) (putF "last_number" (.int 0) (putF "paper_room" (.int p) (putF "cap" (.int c) (putF "most_rows" (.int m) fs)))))) a=some (HO.ins T.c_Spool dx (putF "outputs" (.ref d) (putF "last_number" (.int 0) (putF "paper_room" (.int p) (putF "cap" (.int c) (putF "most_rows" (.int m) fs)))))):=upd_same
 have ed1:upd (upd (upd H a (HO.ins T.c_Spool dx (putF "last_number" (.int 0) (putF "paper_room" (.int p) (putF "cap" (.int c) (putF "most_rows" (.int m) fs)))))) d (.dK [])) a (HO.ins T.c_Spool dx (putF "outputs" (.ref d) (putF "last_number" (.int 0) (putF "paper_room" (.int p) (putF "cap" (.int c) (putF "most_rows" (.int m) fs)))))) d=some (.dK []):=by rw [upd_ne da,upd_same]
 generalize upd (upd (upd H a (HO.ins T.c_Spool dx (putF "last_number" (.int 0) (putF "paper_room" (.int p) (putF "cap" (.int c) (putF "most_rows" (.int m) fs)))))) d (.dK [])) a (HO.ins T.c_Spool dx (putF "outputs" (.ref d) (putF "last_number" (.int 0) (putF "paper_room" (.int p) (putF "cap" (.int c) (putF "most_rows" (.int m) fs))))))=H1 at ex1 ea1 ed1
 have fr1:∀ b,H1 b=none->H b=none:=fun b e=>by
  cases q:H b with
  | none=>rfl
  | some o =>
   by_cases z:b=a
   ·rw [z,ea1] at e;cases e
   ·rw [ex1 _ _ q (by simpa using z)] at e;cases e
 refine lcR 8 (RnI T H1) (fun R h=>by walk_at "pq";exact h) (by decide) (fun D hD=>⟨same_new hD,[],rfl,upd_same,by simp,by simp,by simp⟩) (fun D hD i H' hi z=>?_) (fun D hD H' z=>?_)
 ·obtain ⟨sH,ws,e1,e2,e3,e4,e5⟩:=z
  walk_at "pq"
  simp only [tMake]
  walk_at "pq"
  intro x dy hx hdy ne
  have sx:Same H' (upd (upd H' dy (.own x)) x (.ins T.c_Writer dy [])):=fun b o e=>by rw [upd_ne (ne_of_none e hx),upd_ne (ne_of_none e hdy)];exact e
  refine ⟨x,dy,rfl,upd_same,fun pp cc H'' hpp hcc npc ex ep ec exx=>?_⟩
  obtain ⟨hpp,ppx⟩:=upd_none hpp
  obtain ⟨hpp,ppd⟩:=upd_none hpp
  obtain ⟨hcc,ccx⟩:=upd_none hcc
  obtain ⟨hcc,ccd⟩:=upd_none hcc
  have s2:Same H' H'':=fun b o e=>exx _ _ (sx _ _ e) (by simpa using ne_of_none e hx)
  refine ⟨rfl,_,s2 _ _ e2,by rw [List.length_map];have:(1000:Nat) < sizeLine:=(by decide);omega,?_⟩
  have Dx:D ≠ x:=ne_of_none e2 hx
  have Dp:D ≠ pp:=ne_of_none e2 hpp
  have Dc:D ≠ cc:=ne_of_none e2 hcc
  refine ⟨fun b o e=>by rw [upd_ne (ne_of_none e hD)];exact s2 _ _ (sH _ _ e),ws++[(x,dy,pp,cc)],by simp [e1],by rw [upd_same,List.map_append];rfl,?_,?_,?_⟩
  ·rw [List.map_append]
   refine List.nodup_append.mpr ⟨e3,by simp,fun u hu v hv=>?_⟩
   obtain ⟨y,hy,rfl⟩:=List.mem_map.mp hu
   have:v=x:=by simpa using hv
   rw [this]
   exact ne_of_none (e5 y hy).2.2.1 hx
  ·rw [List.map_append]
   refine List.nodup_append.mpr ⟨e4,by simp,fun u hu v hv=>?_⟩
   obtain ⟨y,hy,rfl⟩:=List.mem_map.mp hu
   have:v=pp:=by simpa using hv
   rw [this]
   exact ne_of_none (e5 y hy).2.2.2.1 hpp
  ·intro y hy
   rcases List.mem_append.mp hy with hy | hy
   ·obtain ⟨f1,f2,f3,f4,f5,f6⟩:=e5 y hy
    refine ⟨f1,f2,by rw [upd_ne f2.1];exact s2 _ _ f3,by rw [upd_ne f2.2.1];exact s2 _ _ f4,by rw [upd_ne f2.2.2];exact s2 _ _ f5,fun z hz=>?_⟩
    rcases List.mem_append.mp hz with hz | hz
    ·exact f6 z hz
    ·rw [List.mem_singleton.mp hz]
     exact ne_of_none f5 hpp
   ·rw [List.mem_singleton.mp hy]
    refine ⟨⟨sH.free hx,sH.free hpp,sH.free hcc⟩,⟨Dx.symm,Dp.symm,Dc.symm⟩,by rw [upd_ne Dx.symm];exact ex,by rw [upd_ne Dp.symm];exact ep,by rw [upd_ne Dc.symm];exact ec,fun z hz=>?_⟩
    rcases List.mem_append.mp hz with hz | hz
    ·exact (ne_of_none (e5 z hz).2.2.2.1 hcc).symm
    ·rw [List.mem_singleton.mp hz]
     exact npc
 ·obtain ⟨sH,ws,e1,e2,e3,e4,e5⟩:=z
  rw [sH _ _ ea1]
  walk_at "pq"
  refine ⟨by omega,?_⟩
  rw [e6]
  have aD:D ≠ a:=(ne_of_none ea1 hD).symm
  have fa:∀ b,H1 b=none->b ≠ a:=fun b e z=>by rw [z,ea1] at e;cases e
  refine h d D ws _ hd (fr1 _ hD) e1 (fun x hx=>⟨fr1 _ (e5 x hx).1.1,fr1 _ (e5 x hx).1.2.1⟩) e3 e4 upd_same (by rw [upd_ne da];exact sH _ _ ed1) (by rw [upd_ne aD];exact e2) (fun x hx=>?_) ?_
  ·obtain ⟨f1,f2,f3,f4,f5,f6⟩:=e5 x hx
   exact ⟨by rw [upd_ne (fa _ f1.1)];exact f3,by rw [upd_ne (fa _ f1.2.1)];exact f4,by rw [upd_ne (fa _ f1.2.2)];exact f5,fr1 _ f1.2.2,f6 x hx,f6⟩
  ·exact (ex1.trans (Ex.of_same sH)).then (by simp)
noncomputable def posn:List Addr->Addr->Option Nat
 | [],_=>none
 | a::l,b=>if a=b then some 0 else (posn l b).map (· + 1)
theorem posn_none:∀ {l:List Addr} {b:Addr},b ∉ l->posn l b=none
 | [],_,_=>rfl
 | a::l,b,h=>by
  unfold posn
  rw [if_neg (fun z=>h (by rw [z];exact List.mem_cons_self)),posn_none (fun z=>h (List.mem_cons_of_mem _ z))]
  rfl
theorem posn_at:∀ {l:List Addr},l.Nodup->∀ {i:Nat} {b:Addr},l[i]? = some b->posn l b=some i
 | a::l,nd,0,b,h=>by
  cases h
  unfold posn
  rw [if_pos rfl]
 | a::l,nd,i + 1,b,h=>by
  obtain ⟨n1,n2⟩:=List.nodup_cons.mp nd
  have h':l[i]? = some b:=by simpa using h
  unfold posn
  rw [if_neg (fun z=>n1 (by rw [z];exact List.mem_of_getElem? h')),posn_at n2 h']
  rfl
 | [],_,i,b,h=>by simp at h
theorem posn_some:∀ {l:List Addr} {b:Addr} {i:Nat},posn l b=some i->b ∈ l
 | [],_,_,h=>by cases h
 | a::l,b,i,h=>by
  unfold posn at h
  split at h
  ·rename_i z;rw [z];exact List.mem_cons_self
  ·cases e:posn l b with
   | none=>rw [e] at h;cases h
   | some j=>exact List.mem_cons_of_mem _ (posn_some e)
noncomputable def tgN (tg:Tg) (d:Addr) (ws:List (Addr × Addr × Addr × Addr)):Tg:=fun b=>if b=d then some .outs else match posn (ws.map (·.1)) b with
 | some i=>some (.wr i)
 | none=>match posn (ws.map (·.2.2.1)) b with
  | some i=>some (.paper i)
  | none=>tg b
theorem rep_new {T:Txt K mg} {tg:Tg} {H H':Hp} {sp dx d l:Addr} {m c p:Nat} {ws:List (Addr × Addr × Addr × Addr)} (tk:Trk tg H) (tsp:tg sp=some .spool) (lm:LamR T tg H) (hd:H d=none) (hl:H l=none) (wl:ws.length=8) (hw:∀ x ∈ ws,H x.1=none∧H x.2.2.1=none) (n1:(ws.map (·.1)).Nodup) (n2:(ws.map (·.2.2.1)).Nodup)
  (e1:H' sp=some (SO T dx ⟨(m:Int),(c:Int),(p:Int),0,d,l⟩)) (e2:H' d=some (.dK [])) (e3:H' l=some (.lst (ws.map fun x=>V.ref x.1)))
  (e4:∀ x ∈ ws,H' x.1=some (WO T x.2.1 ⟨.ref x.2.2.1,0,0,false,0,false,0,0,.ref x.2.2.2,0,.ref T.a_NO_PLACE,.ref T.a_NO_PLACE,0,0⟩)∧H' x.2.2.1=some (.lst [])∧H' x.2.2.2=some (.lst [])∧H x.2.2.2=none∧x.2.2.2 ≠ x.2.2.1∧∀ y ∈ ws,x.2.2.2 ≠ y.2.2.1) (ex:Ex [sp] H H') :
  Rep T (tgN tg d ws) H' sp (Vbbhak.newHouse m c p)∧Kept tg H (tgN tg d ws) H':=by
 have old:∀ b o,H b=some o->tgN tg d ws b=tg b:=fun b o e=>by
  unfold tgN
  rw [if_neg (ne_of_none e hd),posn_none (fun z=>?_),posn_none (fun z=>?_)]
  ·obtain ⟨x,hx,rfl⟩:=List.mem_map.mp z
   rw [(hw x hx).2] at e;cases e
  ·obtain ⟨x,hx,rfl⟩:=List.mem_map.mp z
   rw [(hw x hx).1] at e;cases e
 obtain ⟨osp,hsp⟩:=tk sp _ tsp
 have tsp':tgN tg d ws sp=some .spool:=by rw [old _ _ hsp];exact tsp
 have td:tgN tg d ws d=some .outs:=if_pos rfl
 have tw:∀ i x,ws[i]? = some x->tgN tg d ws x.1=some (.wr i):=fun i x hi=>by
  have hx:=List.mem_of_getElem? hi
  unfold tgN
  rw [if_neg (ne_of (e4 x hx).1 e2 (by intro z;cases z)),posn_at n1 (i:=i) (by rw [List.getElem?_map,hi];rfl)]
 have notw:∀ b li,H' b=some (.lst li)->posn (ws.map (·.1)) b=none:=fun b li e=>posn_none fun z=>by
  obtain ⟨x,hx,rfl⟩:=List.mem_map.mp z
  rw [(e4 x hx).1] at e;cases e
 have tp:∀ i x,ws[i]? = some x->tgN tg d ws x.2.2.1=some (.paper i):=fun i x hi=>by
  have hx:=List.mem_of_getElem? hi
  unfold tgN
  rw [if_neg (ne_of (e4 x hx).2.1 e2 (by intro z;cases z)),notw _ _ (e4 x hx).2.1,posn_at n2 (i:=i) (by rw [List.getElem?_map,hi];rfl)]
 have tc:∀ x ∈ ws,tgN tg d ws x.2.2.2=none:=fun x hx=>by
  unfold tgN
  rw [if_neg (ne_of (e4 x hx).2.2.1 e2 (by intro z;cases z)),notw _ _ (e4 x hx).2.2.1,posn_none (fun z=>?_)]
  ·exact tk.free (e4 x hx).2.2.2.1
  ·obtain ⟨y,hy,e⟩:=List.mem_map.mp z
   exact (e4 x hx).2.2.2.2.2 y hy e.symm
 have tl:tgN tg d ws l=none:=by
  unfold tgN
  rw [if_neg (ne_of e3 e2 (by intro z;cases z)),notw _ _ e3,posn_none (fun z=>?_)]
  ·exact tk.free hl
  ·obtain ⟨y,hy,e⟩:=List.mem_map.mp z
   have h1:=(e4 y hy).2.1
   rw [e,e3] at h1
   have:ws.map (fun x=>V.ref x.1)=[]:=by
    have:=Option.some.inj h1
    injection this
   rw [List.map_eq_nil_iff.mp this] at wl
   cases wl
 have fz:Same (Fz tg H) (Fz (tgN tg d ws) H'):=fun b o e=>by
  obtain ⟨z1,z2⟩:=Fz_some e
  rw [Fz_of (by rw [old _ _ z2];exact z1)]
  exact ex _ _ z2 (fun z=>by rw [List.mem_singleton.mp z,tsp] at z1;cases z1)
 have kl:Kp tg H (tgN tg d ws) H' fun t=>t = .lam:=fun b t e z=>by
  obtain ⟨o,y⟩:=tk b t e
  refine ⟨by rw [old _ _ y];exact e,?_⟩
  rw [y]
  exact ex _ _ y (fun q=>by rw [List.mem_singleton.mp q,tsp,z] at e;cases e)
 refine ⟨⟨dx,_,[],(ws.map fun x=>(({}:Vbbhak.Writer),x.1)),?_,tsp',lm.frame kl fz,e1,rfl,rfl,rfl,rfl,by show 1≤1000000;decide,td,e2,rfl,by simp,?_,?_,fun i x a hi=>?_⟩,fz,fun b k e=>?_⟩
 ·intro b t e
  unfold tgN at e
  split at e
  ·rename_i z;exact ⟨_,by rw [z];exact e2⟩
  ·split at e
   ·rename_i i hi
    obtain ⟨x,hx,rfl⟩:=List.mem_map.mp (posn_some hi)
    exact ⟨_,(e4 x hx).1⟩
   ·split at e
    ·rename_i i hi
     obtain ⟨x,hx,rfl⟩:=List.mem_map.mp (posn_some hi)
     exact ⟨_,(e4 x hx).2.1⟩
    ·obtain ⟨o,z⟩:=tk b t e
     by_cases y:b=sp
     ·exact ⟨_,by rw [y];exact e1⟩
     ·exact ⟨o,ex _ _ z (by simpa using y)⟩
 ·rw [Fz_of tl,e3,List.map_map]
  rfl
 ·show List.replicate Vbbhak.WRITERS ({}:Vbbhak.Writer)=_
  rw [List.map_map]
  have:ws.map ((fun p:Vbbhak.Writer × Addr=>p.1) ∘ fun x:Addr × Addr × Addr × Addr=>(({}:Vbbhak.Writer),x.1))=List.replicate ws.length ({}:Vbbhak.Writer):=List.map_eq_replicate_iff.mpr fun x _=>rfl
  rw [this,wl]
  rfl
 ·obtain ⟨y,hy,e⟩:∃ y,ws[i]? = some y∧(({}:Vbbhak.Writer),y.1)=(x,a):=by
   rw [List.getElem?_map] at hi
   cases q:ws[i]? with
   | none=>rw [q] at hi;cases hi
   | some y=>rw [q] at hi;exact ⟨y,rfl,Option.some.inj hi⟩
  cases e
  have hm:=List.mem_of_getElem? hy
  obtain ⟨f1,f2,f3,f4,f5,f6⟩:=e4 y hm
  refine ⟨y.2.1,y.2.2.1,_,[],tw i y hy,tp i y hy,f1,f2,rfl,rfl,by simp,rfl,rfl,rfl,rfl,rfl,rfl,⟨y.2.2.2,rfl,by rw [Fz_of (tc y hm)];exact f3⟩,by decide,fun _=>rfl,fun h e=>by cases e⟩
 ·obtain ⟨o,z⟩:=tk b _ e
  refine ⟨by rw [old _ _ z];exact e,?_⟩
  rw [z]
  exact ex _ _ z (fun y=>by rw [List.mem_singleton.mp y,tsp] at e;cases e)
noncomputable def sp_begin (T:Txt K mg):Sp:=fun vs H Q _=>∃ sp m c p tg s,vs=[.ref sp,.int m,.int c,.int p]∧QSp T tg H sp s (.begin m c p) Q
theorem ok_begin (T:Txt K mg):FO P w base 6 T.begin (sp_begin T):=by
 o_headS (1 T.begin.F.ok sc_begin)
 obtain ⟨sp,m,c,p,tg,st,rfl,h⟩:=h
 o_headS (2 (pss_cons (ps_if (pt_not (PW.pt (pw_and (pt_val (pcf T.within (ok_within T) hr (pa_cons (pv 1) (pa_cons pe_int (pa1 pe_int))))) (pw_and (pt_val (pcf T.within (ok_within T) hr (pa_cons (pv 2) (pa_cons pe_int (pa1 pe_int))))) (pw_and1 (pt_val (pcf T.within (ok_within T) hr (pa_cons (pv 3) (pa_cons pe_int (pa1 pe_int)))))))))) (prg T.g_OUT_OF_RANGE) pss_nil) (pss_cons (ps_expr (pcm (pv 0) T.cl_Spool T.Spool_renew (ok_Spool_renew T) hr (pa_cons (pv 1) (pa_cons (pv 2) (pa1 (pv 3)))))) (prl pe_int))))
 refine seq1 ?_
 walk_at "pq"
 have e0:step st (.begin m c p)=if Vbbhak.inside m 1 100=false∨Vbbhak.inside c 1 200=false∨Vbbhak.inside p 2 5000=false then Vbbhak.no st 1 else Vbbhak.yes (Vbbhak.newHouse m.toNat c.toNat p.toNat) 0:=rfl
 have bad:(Vbbhak.inside m 1 100=false∨Vbbhak.inside c 1 200=false∨Vbbhak.inside p 2 5000=false)->∀ (p:Addr),H p=none->Q (V.ref p) (upd H p (HO.lst [V.int (-1)])):=fun z=>h.one (by rw [e0,if_pos z];rfl) Same.rfl'
 split
 ·rename_i hm
  split
  ·rename_i hc
   split
   ·rename_i hp
    exact bad (.inr (.inr hp))
   ·rename_i hp
    have hp:Vbbhak.inside p 2 5000=true:=by simpa using hp
    rw [if_neg (by rw [hm,hc,hp];simp)] at e0
    have hm':=VB.inside_iff.mp hm
    have hc':=VB.inside_iff.mp hc
    have hp':=VB.inside_iff.mp hp
    obtain ⟨dx,f,os,ws,R⟩:=h.1
    refine seq1 ?_
    walk_at "pq"
    refine ⟨_,_,R.hsp,rfl,sp,dx,_,m,c,p,rfl,R.hsp,.inr ⟨f,rfl⟩,fun d l ws' H1 z1 z2 z3 z4 z5 z6 z7 z8 z9 z10 z11=>?_⟩
    rw [show m=((m.toNat:Nat):Int) by omega,show c=((c.toNat:Nat):Int) by omega,show p=((p.toNat:Nat):Int) by omega] at z7
    obtain ⟨r1,r2⟩:=rep_new R.trk R.tsp R.lam z1 z2 z3 z4 z5 z6 z7 z8 z9 z10 z11
    exact h.done e0 r1 r2
  ·rename_i hc
   exact bad (.inr (.inl (by simpa using hc)))
 ·rename_i hm
  exact bad (.inl (by simpa using hm))
end
end
section
open Vbbhak (State Call Ans step onOut onWriter)
noncomputable def tgO (tg:Tg) (a p:Addr) (n:Nat):Tg:=fun b=>if b=a then some (.out n) else if b=p then some (.pages n) else tg b
section
variable {P:Program} {w:World} {K:PySem.W.Frag} {mg:Str->Option Value} {base:Heap}
theorem RIn.no_next {T:Txt K mg} {tg:Tg} {H:Hp} {sp:Addr} {s:State} {dx:Addr} {f:Sf} {os:List (Vbbhak.Out × Addr)} {ws:List (Vbbhak.Writer × Addr)} (R:RIn T tg H sp s dx f os ws) (W:VB.WF s):Vbbhak.outAt s (s.next:Int)=none:=by
 cases e:Vbbhak.outAt s (s.next:Int) with
 | none=>rfl
 | some o =>
  obtain ⟨h1,h2⟩:=VB.outAt_some e
  have:=(W.out o h1).num2
  omega
noncomputable def sp_open_output (T:Txt K mg):Sp:=fun vs H Q _=>∃ sp c f n p h nm b tg s,vs=[.ref sp,.int c,.int f,.int n,.int p,.int h,.ref nm]∧Fz tg H nm=some (.lst (bvs b))∧QSp T tg H sp s (.open_ c f n p h b) Q
theorem ok_open_output (T:Txt K mg):FO P w base 4 T.open_output (sp_open_output T):=by
 o_headS (1 T.open_output.F.ok sc_open_output)
 obtain ⟨sp,c,fm,n,pr,hd,nm,b,tg,st,rfl,h⟩:=h
 o_headS (2 (pss_cons (ps_if (pt_not (PW.pt (pw_and (pt_val (pcf T.is_class (ok_is_class T) hr (pa1 (pv 1)))) (pw_and (pt_val (pcf T.is_form (ok_is_form T) hr (pa1 (pv 2)))) (pw_and1 (pt_val (pcf T.is_copies (ok_is_copies T) hr (pa1 (pv 3))))))))) (prg T.g_OUT_OF_RANGE) pss_nil) (pss_cons (ps_if (pt_not (PW.pt (pw_and (pt_val (pcf T.is_priority (ok_is_priority T) hr (pa1 (pv 4)))) (pw_and1 (pt_val (pcf T.is_switch (ok_is_switch T) hr (pa1 (pv 5)))))))) (prg T.g_OUT_OF_RANGE) pss_nil) (pss_cons (ps_if (pt_not (pt_val (pcf T.is_name (ok_is_name T) hr (pa1 (pv 6))))) (prg T.g_WRONG_FORM) pss_nil) (pss_cons (ps_if (PW.pt (pw_or (pt_cmpR op_ge (pe_callB (r:=rLenD) call_lenD rfl T.n_len bt_len (pa1 (pf (pv 0)))) (pf (pv 0)) (nomark _)) (pw_or1 (pt_cmpR op_eq (pf (pv 0)) (pgi T.g_LAST_NUMBER) (nomark _))))) (prg T.g_NO_ROOM) pss_nil) (pss_cons (pst 7 sc_open_output (pe_op op_add (pf (pv 0)) pe_int)) (pss_cons (ps_fld (pv 0) (pv 7) rfl) (pss_cons (ps_dput (hu_of hr) (pf (pv 0)) (pv 7) (pe_make T.Output_init.mak (ok_Output_init T) (hr.mono (by decide)) rfl T.mgc_Output T.Output_init.b .nil pass0 (pa_cons (pv 7) (pa_cons (pv 6) (pa_cons (pv 1) (pa_cons (pv 2) (pa_cons (pv 3) (pa_cons (pv 4) (pa1 (pe_cmpR op_eq (pv 5) pe_int (nomark _)))))))))) rfl) (prl (pv 7))))))))))
 obtain ⟨hnm,h⟩:=h
 refine seq1 ?_
 walk_at "pq"
 have e0:step st (.open_ c fm n pr hd b)=if Vbbhak.isClass c=false∨Vbbhak.isForm fm=false∨Vbbhak.inside n 1 255=false∨Vbbhak.inside pr 0 15=false∨Vbbhak.inside hd 0 1=false then Vbbhak.no st 1
  else if Vbbhak.isName b=false then Vbbhak.no st 2
  else if st.cap≤st.outs.length∨Vbbhak.LASTNUM < st.next then Vbbhak.no st 8
  else Vbbhak.yes { st with next:=st.next + 1,outs:=st.outs++[{ num:=st.next,name:=b,cls:=c.toNat,form:=fm.toNat,prio:=pr.toNat,copies:=n.toNat,held:=hd == 1 }] } st.next:=rfl
 have bad:(Vbbhak.isClass c=false∨Vbbhak.isForm fm=false∨Vbbhak.inside n 1 255=false∨Vbbhak.inside pr 0 15=false∨Vbbhak.inside hd 0 1=false)->∀ (p:Addr),H p=none->Q (V.ref p) (upd H p (HO.lst [V.int (-1)])):=fun z=>h.one (by rw [e0,if_pos z];rfl) Same.rfl'
 by_cases hc:Vbbhak.isClass c=true
 ·rw [if_pos hc]
  by_cases hf:Vbbhak.isForm fm=true
  ·rw [if_pos hf]
   by_cases hn:Vbbhak.inside n 1 255=false
   ·rw [if_pos hn]
    exact bad (.inr (.inr (.inl hn)))
   ·rw [if_neg hn]
    have hn:Vbbhak.inside n 1 255=true:=by simpa using hn
    refine seq1 ?_
    walk_at "pq"
    by_cases hpr:Vbbhak.inside pr 0 15=true
    ·rw [if_pos hpr]
     by_cases hh:Vbbhak.inside hd 0 1=false
     ·rw [if_pos hh]
      exact bad (.inr (.inr (.inr (.inr hh))))
     ·rw [if_neg hh]
      have hh:Vbbhak.inside hd 0 1=true:=by simpa using hh
      rw [if_neg (by rw [hc,hf,hn,hpr,hh];simp)] at e0
      refine seq1 ?_
      walk_at "pq"
      refine ⟨nm,b,rfl,SqL.of (Fz_sub _ _ hnm),fun H1 s1=>⟨_,rfl,?_⟩⟩
      by_cases hb:Vbbhak.isName b=false
      ·rw [if_pos hb] at e0 ⊢
       exact h.one e0 s1
      ·rw [if_neg hb] at e0 ⊢
       obtain ⟨dx,f,os,ws,R⟩:=h.1.same s1
       refine seq1 ?_
       walk_at "pq"
       rw [R.hsp]
       walk_at "pq"
       rw [R.hod]
       walk_at "pq"
       rw [List.length_map,R.cap]
       have ol:os.length=st.outs.length:=by rw [R.outs,List.length_map]
       have full:(st.cap≤st.outs.length∨Vbbhak.LASTNUM < st.next)->∀ (p:Addr),H1 p=none->Q (V.ref p) (upd H1 p (HO.lst [V.int (-8)])):=fun z=>h.one (by rw [e0,if_pos z];rfl) s1
       have hlast:=R.last
       have hnle:=R.nle
       have hLN:Vbbhak.LASTNUM=999999:=rfl
       by_cases hcap:st.cap≤st.outs.length
       ·rw [if_pos (by omega)]
        exact full (.inl hcap)
       ·rw [if_neg (by omega)]
        by_cases hnx:Vbbhak.LASTNUM < st.next
        ·rw [if_pos (by omega)]
         exact full (.inr hnx)
        ·rw [if_neg (by omega)]
         rw [if_neg (fun z=>z.elim hcap hnx)] at e0
         refine seq1 ?_
         walk_at "pq"
         rw [R.hsp]
         walk_at "pq"
         refine seq1 ?_
         walk_at "pq"
         rw [R.hsp]
         walk_at "pq"
         refine seq1 ?_
         rw [hlast]
         walk_at "pq"
         simp only [tMake]
         walk_at "pq"
         have hsp2:upd H1 sp (SO T dx { f with last:=(st.next:Int) }) sp=some (SO T dx { f with last:=(st.next:Int) }):=upd_same
         have ospne:f.outs ≠ sp:=fun z=>by have:=R.tod;rw [z,R.tsp] at this;cases this
         have k2:∀ b',b' ≠ sp->upd H1 sp (SO T dx { f with last:=(st.next:Int) }) b'=H1 b':=fun b' z=>upd_ne z
         show ∀ (x dx_1:Addr),upd H1 sp (SO T dx { f with last:=(st.next:Int) }) x=none->upd H1 sp (SO T dx { f with last:=(st.next:Int) }) dx_1=none->dx_1 ≠ x->sp_Output_init T _ (upd (upd (upd H1 sp (SO T dx { f with last:=(st.next:Int) })) dx_1 (.own x)) x (.ins T.c_Output dx_1 [])) _ _
         generalize upd H1 sp (SO T dx { f with last:=(st.next:Int) })=H2 at hsp2 k2
         intro x dy hx hdy ndx
         refine ⟨x,dy,_,_,_,_,_,_,_,rfl,upd_same,fun p H3 hp ep ex exx=>⟨rfl,?_⟩⟩
         obtain ⟨hp,px⟩:=upd_none hp
         obtain ⟨hp,pd⟩:=upd_none hp
         have k3:∀ b' o',H2 b'=some o'->H3 b'=some o':=fun b' o' e=>exx _ _ (by rw [upd_ne (ne_of_none e hx),upd_ne (ne_of_none e hdy)];exact e) (by simpa using ne_of_none e hx)
         have hsp3:=k3 _ _ hsp2
         have hod2:H2 f.outs=some (.dK (os.map fun p=>((Sum.inl (p.1.num:Int):Key),V.ref p.2))):=(k2 _ ospne).trans R.hod
         have hod3:=k3 _ _ hod2
         rw [hsp3]
         walk_at "pq"
         have nn:=R.out_none (R.no_next h.2.1)
         have lend:(os.map fun p=>((Sum.inl (p.1.num:Int):Key),V.ref p.2)).length < sizeLine:=by
          rw [List.length_map,ol]
          have:=h.2.1.few
          have:=h.2.1.c2
          have:(1000:Nat) < sizeLine:=by decide
          omega
         refine ⟨_,DPut.k (k:=Sum.inl (st.next:Int)) hod3 lend,?_⟩
         rw [putK_new _ nn]
         -- the frame
         have fresh:∀ b',H2 b'=none->H1 b'=none:=fun b' e=>by
          by_cases z:b'=sp
          ·rw [z,hsp2] at e;cases e
          ·rw [← k2 _ z];exact e
         have hx1:=fresh _ hx
         have hp1:=fresh _ hp
         have tgx:=R.trk.free hx1
         have tgp:=R.trk.free hp1
         have old:∀ b' o',H1 b'=some o'->tgO tg x p st.next b'=tg b':=fun b' o' e=>by
          unfold tgO
          rw [if_neg (ne_of_none e hx1),if_neg (ne_of_none e hp1)]
         have tx:tgO tg x p st.next x=some (.out st.next):=if_pos rfl
         have tp:tgO tg x p st.next p=some (.pages st.next):=by unfold tgO;rw [if_neg px,if_pos rfl]
         have xo:x ≠ f.outs:=(ne_of_none hod2 hx).symm
         have po:p ≠ f.outs:=(ne_of_none hod2 hp).symm
         have kk:∀ b' o',H1 b'=some o'->b' ≠ sp->b' ≠ f.outs->upd H3 f.outs (.dK (os.map (fun p=>((Sum.inl (p.1.num:Int):Key),V.ref p.2))++[((Sum.inl (st.next:Int):Key),V.ref x)])) b'=some o':=fun b' o' e z1 z2=>by
          rw [upd_ne z2]
          exact k3 _ _ (by rw [k2 _ z1];exact e)
         have kp:Kp tg H1 (tgO tg x p st.next) (upd H3 f.outs (.dK (os.map (fun p=>((Sum.inl (p.1.num:Int):Key),V.ref p.2))++[((Sum.inl (st.next:Int):Key),V.ref x)]))) (fun t=>t ≠ .spool∧t ≠ .outs):=fun b' t' e z=>by
          obtain ⟨o',y⟩:=R.trk b' t' e
          refine ⟨by rw [old _ _ y];exact e,?_⟩
          rw [y]
          exact kk _ _ y (fun q=>by rw [q,R.tsp] at e;cases e;exact z.1 rfl) (fun q=>by rw [q,R.tod] at e;cases e;exact z.2 rfl)
         have fz:Same (Fz tg H1) (Fz (tgO tg x p st.next) (upd H3 f.outs (.dK (os.map (fun p=>((Sum.inl (p.1.num:Int):Key),V.ref p.2))++[((Sum.inl (st.next:Int):Key),V.ref x)])))):=fun b' o' e=>by
          obtain ⟨z1,z2⟩:=Fz_some e
          rw [Fz_of (by rw [old _ _ z2];exact z1)]
          exact kk _ _ z2 (fun q=>by rw [q,R.tsp] at z1;cases z1) (fun q=>by rw [q,R.tod] at z1;cases z1)
         have hc':=VB.inside_iff.mp hc
         have hf':=VB.inside_iff.mp hf
         have hn':=VB.inside_iff.mp hn
         have hp':=VB.inside_iff.mp hpr
         refine h.done (tg':=tgO tg x p st.next) e0 ⟨dx,{ f with last:=(st.next:Int) },os++[({ num:=st.next,name:=b,cls:=c.toNat,form:=fm.toNat,prio:=pr.toNat,copies:=n.toNat,held:=hd == 1 },x)],ws,?_⟩ ((Kept.same h.1.trk s1).trans ⟨fz,fun b' k' e=>kp b' _ e ⟨by simp,by simp⟩⟩)
         refine ⟨fun b' t' e=>?_,by rw [old _ _ R.hsp];exact R.tsp,R.lam.frame (fun b' t' e z=>kp b' t' e (by rw [z];exact ⟨by simp,by simp⟩)) fz,by rw [upd_ne ospne.symm];exact hsp3,R.most,R.cap,R.room,rfl,by show st.next + 1≤1000000;omega,by show tgO tg x p st.next f.outs=_;rw [old _ _ R.hod];exact R.tod,?_,?_,fun q hq=>?_,fz _ _ R.hwl,R.wrs,fun i y a hi=>(R.wat i y a hi).frame (fun b' t' e z=>kp b' t' e ?_) fz⟩
         ·unfold tgO at e
          split at e
          ·rename_i z;exact ⟨_,by rw [z,upd_ne xo];exact ex⟩
          ·split at e
           ·rename_i z;exact ⟨_,by rw [z,upd_ne po];exact ep⟩
           ·obtain ⟨o',y⟩:=R.trk b' t' e
            by_cases z1:b'=f.outs
            ·exact ⟨_,by rw [z1];exact upd_same⟩
            ·by_cases z2:b'=sp
             ·exact ⟨_,by rw [z2,upd_ne ospne.symm];exact hsp3⟩
             ·exact ⟨_,kk _ _ y z2 z1⟩
         ·rw [upd_same,List.map_append]
          rfl
         ·show st.outs++_=_
          rw [R.outs,List.map_append]
          rfl
         ·rcases List.mem_append.mp hq with hq | hq
          ·refine (R.oat q hq).frame (fun b' t' e z=>kp b' t' e ?_) fz
           rcases z with rfl | rfl | rfl <;> exact ⟨by simp,by simp⟩
          ·rw [List.mem_singleton.mp hq]
           refine ⟨dy,_,tx,by rw [upd_ne xo];exact ex,rfl,by show c=((c.toNat:Nat):Int);omega,by show fm=((fm.toNat:Nat):Int);omega,by show n=((n.toNat:Nat):Int);omega,by show pr=((pr.toNat:Nat):Int);omega,?_,rfl,rfl,⟨nm,rfl,fz _ _ (Fz_same s1 _ _ hnm)⟩,⟨_,rfl,T.t_FIRST_PLACE.sq _⟩,p,[],rfl,?_⟩
           ·show decide (hd=1)=(hd == 1)
            rw [Bool.eq_iff_iff];simp
           ·rw [if_neg (show ¬ (false=true) by decide)]
            exact ⟨tp,by rw [upd_ne po];exact ep,.inl ⟨rfl,rfl⟩⟩
         ·rcases z with rfl | rfl <;> exact ⟨by simp,by simp⟩
    ·rw [if_neg hpr]
     exact bad (.inr (.inr (.inr (.inl (by simpa using hpr)))))
  ·rw [if_neg hf]
   exact bad (.inr (.inl (by simpa using hf)))
 ·rw [if_neg hc]
  exact bad (.inl (by simpa using hc))
end
end
section
open Vbbhak (State Call Ans step onOut onWriter setWriter writerAt)
section
variable {P:Program} {w:World} {K:PySem.W.Frag} {mg:Str->Option Value} {base:Heap}
section
variable {T:Txt K mg} {tg:Tg} {H H':Hp} {sp:Addr} {s:State} {dx:Addr} {f:Sf} {os:List (Vbbhak.Out × Addr)} {ws:List (Vbbhak.Writer × Addr)} {Q:VK} {E:XK}
theorem RIn.putW (R:RIn T tg H sp s dx f os ws) {i:Nat} {x x':Vbbhak.Writer} {a dy p:Addr} {g g':Wf} {ps ps':List (Addr × VEntry)} (hi:ws[i]? = some (x,a)) (W:WIn T tg H i x a dy p g ps) (ex:Ex [a,p] H H') (ha:H' a=some (WO T dy g')) (hp:H' p=some (.lst (ps'.map fun x=>V.ref x.1))) (pap:g'.paper = .ref p) (ents:x'.paper=ps'.map (·.2)) (en:∀ q ∈ ps',EntA (Fz tg H') q.1 q.2) (rel:WRel K (Fz tg H') x' g') :
  Rep T tg H' sp { s with writers:=s.writers.set i x' }∧Kept tg H tg H':=by
 have mem:∀ b ∈ [a,p],∃ t,tg b=some t∧(t = .wr i∨t = .paper i):=fun b hb=>by
  rcases List.mem_cons.mp hb with rfl | hb
  ·exact ⟨_,W.ta,.inl rfl⟩
  ·rw [List.mem_singleton.mp hb];exact ⟨_,W.tp,.inr rfl⟩
 refine ⟨⟨_,_,_,_,R.setW hi (R.trk.ex ex fun b hb=>?_) (Kp.ex R.trk ex fun b t e z m=>?_) (Fz_ex ex fun b hb=>?_) ⟨dy,p,g',ps',W.ta,W.tp,ha,hp,pap,ents,en,rel⟩⟩,Kept.ex R.trk ex fun b hb=>?_⟩
 ·rcases List.mem_cons.mp hb with rfl | hb
  ·exact ⟨_,ha⟩
  ·rw [List.mem_singleton.mp hb];exact ⟨_,hp⟩
 ·obtain ⟨t',e',y⟩:=mem b m
  rw [e] at e'
  cases e'
  rcases y with rfl | rfl
  ·exact z.1 rfl
  ·exact z.2 rfl
 ·obtain ⟨t',e',y⟩:=mem b hb
  rw [e'];simp
 ·obtain ⟨t',e',y⟩:=mem b hb
  exact ⟨t',e',fun k z=>by rcases y with rfl | rfl <;> cases z⟩
theorem RIn.updW (R:RIn T tg H sp s dx f os ws) {i:Nat} {x x':Vbbhak.Writer} {a dy p:Addr} {g g':Wf} {ps:List (Addr × VEntry)} (hi:ws[i]? = some (x,a)) (W:WIn T tg H i x a dy p g ps) (pap:g'.paper=g.paper) (ents:x'.paper=x.paper) (rel:WRel K (Fz tg H) x' g') :
  Rep T tg (upd H a (WO T dy g')) sp { s with writers:=s.writers.set i x' }∧Kept tg H tg (upd H a (WO T dy g')):=by
 have fz:Fz tg (upd H a (WO T dy g'))=Fz tg H:=Fz_upd (by rw [W.ta];simp)
 have pa:p ≠ a:=ne_of W.hp W.ha (by intro z;cases z)
 exact R.putW hi W (Ex.upd (by simp)) upd_same (by rw [upd_ne pa];exact W.hp) (pap.trans W.pap) (ents.trans W.ents) (fun q hq=>by rw [fz];exact W.en q hq) (by rw [fz];exact rel)
end
noncomputable def sp_mount (T:Txt K mg):Sp:=fun vs H Q _=>∃ sp n fm tg s,vs=[.ref sp,.int n,.int fm]∧QSp T tg H sp s (.mount n fm) Q
theorem ok_mount (T:Txt K mg):FO P w base 4 T.mount (sp_mount T):=by
 o_headS (1 T.mount.F.ok sc_mount)
 obtain ⟨sp,n,fm,tg,st,rfl,h⟩:=h
 o_headS (2 (pss_cons (ps_if (pt_not (pt_val (pcf T.is_form (ok_is_form T) hr (pa1 (pv 2))))) (prg T.g_OUT_OF_RANGE) pss_nil) (pss_cons (pst 3 sc_mount (pcf T.writer_refusal (ok_writer_refusal T) hr (pa_cons (pv 0) (pa1 (pv 1))))) (pss_cons (ps_if (pt_cmpR op_ne (pv 3) pe_int (nomark _)) (prl (pv 3)) pss_nil) (pss_cons (pst 4 sc_mount (pcm (pv 0) T.cl_Spool T.Spool_writer_at (ok_Spool_writer_at T) hr (pa1 (pv 1)))) (pss_cons (ps_if (pt_cmpR op_ne (pf (pv 4)) pe_int (nomark _)) (prg T.g_WRONG_STATE) pss_nil) (pss_cons (pst 5 sc_mount (pf (pv 4))) (pss_cons (ps_fld (pv 4) (pv 2) rfl) (prl (pv 5))))))))))
 refine seq1 ?_
 walk_at "pq"
 have e0:step st (.mount n fm)=if Vbbhak.isForm fm=false then Vbbhak.no st 1 else onWriter st n fun x=>if x.hand.isSome=true then Vbbhak.no st 6 else Vbbhak.yes (setWriter st n { x with form:=fm.toNat }) x.form:=rfl
 by_cases hf:Vbbhak.isForm fm=false
 ·rw [if_pos hf] at e0 ⊢
  exact h.one e0 Same.rfl'
 ·rw [if_neg hf] at e0 ⊢
  have hf':=VB.inside_iff.mp (show Vbbhak.inside fm 1 99=true by simpa [Vbbhak.isForm] using hf)
  refine seq1 ?_
  walk_at "pq"
  refine ⟨sp,n,tg,st,rfl,h.1,h.2.1,seq1 ?_⟩
  walk_at "pq"
  rcases onWriter_cases st n with ⟨h1,h2⟩ | ⟨h1,hw,hon,h3⟩
  ·rw [if_pos h1]
   exact h.one (e0.trans (h2 _)) Same.rfl'
  ·rw [if_neg (by simpa using h1)]
   rw [h3] at e0
   obtain ⟨dx,f,os,ws,R⟩:=h.1
   refine seq1 ?_
   walk_at "pq"
   rw [R.hsp]
   walk_at "pq"
   refine go_writer_at R h.2.1.len hw fun a ha=>seq1 ?_
   obtain ⟨dy,p,g,ps,W⟩:=R.wat _ _ _ ha
   walk_at "pq"
   rw [W.ha]
   walk_at "pq"
   have hi:=W.rel.hand_iff (hand_pos h.2.1 hw)
   by_cases hh:(writerAt st n).hand.isSome=true
   ·rw [if_pos hh] at e0
    rw [if_pos (fun z=>by rw [hi] at z;simp_all)]
    exact h.one e0 Same.rfl'
   ·rw [if_neg hh] at e0
    have h0:g.hand=0:=hi.mpr (by simpa using hh)
    rw [if_neg (by simpa using h0)]
    refine seq1 ?_
    walk_at "pq"
    rw [W.ha]
    walk_at "pq"
    refine seq1 ?_
    walk_at "pq"
    rw [W.ha]
    walk_at "pq"
    obtain ⟨r1,r2⟩:=R.updW (x':={ writerAt st n with form:=fm.toNat }) (g':={ g with form:=fm }) ha W rfl rfl ⟨W.rel.serial,W.rel.on,by show fm=((fm.toNat:Nat):Int);omega,W.rel.drain,W.rel.sep,W.rel.every,W.rel.cls,W.rel.clen,W.rel.hand0,W.rel.hand1⟩
    rw [W.rel.form]
    exact h.done e0 r1 r2
noncomputable def sp_note (T:Txt K mg):Sp:=fun vs H Q _=>∃ sp n tg s,vs=[.ref sp,.int n]∧QSp T tg H sp s (.note n) Q
theorem refE_cases (s:State) (n:Int):(refE s n ≠ 0∧∀ f:Vbbhak.Writer->Vbbhak.Hand->State × Ans,onWriter s n (fun x=>match x.hand with | none=>Vbbhak.no s 6 | some h=>f x h)=(s,{ num:=refE s n }))∨(refE s n=0∧Vbbhak.isWriter n=true∧(writerAt s n).on=true∧∃ hd,(writerAt s n).hand=some hd∧∀ f:Vbbhak.Writer->Vbbhak.Hand->State × Ans,onWriter s n (fun x=>match x.hand with | none=>Vbbhak.no s 6 | some h=>f x h)=f (writerAt s n) hd):=by
 have e0:refE s n=if refW s n ≠ 0 then refW s n else if (writerAt s n).hand.isNone=true then -6 else 0:=by
  unfold refE refW
  split
  ·rfl
  ·split <;> rfl
 rcases onWriter_cases s n with ⟨h1,h2⟩ | ⟨h1,hw,hon,h3⟩
 ·rw [e0,if_pos h1]
  exact .inl ⟨h1,fun f=>h2 _⟩
 ·rw [e0,if_neg (by simpa using h1)]
  cases e:(writerAt s n).hand with
  | none=>exact .inl ⟨by decide,fun f=>by rw [h3,e];rfl⟩
  | some hd=>exact .inr ⟨rfl,hw,hon,hd,rfl,fun f=>by rw [h3,e]⟩
theorem WRel.note {F:Hp} {x:Vbbhak.Writer} {g:Wf} {hd:Vbbhak.Hand} (r:WRel K F x g) (e:x.hand=some hd):WRel K F (Vbbhak.noteHand x) g.note:=by
 obtain ⟨q1,q2,q3,q4,q5,q6⟩:=r.hand1 hd e
 unfold Vbbhak.noteHand
 rw [e]
 refine ⟨r.serial,r.on,r.form,r.drain,r.sep,r.every,r.cls,r.clen,(fun z=>by cases z),fun h' z=>?_⟩
 cases z
 exact ⟨q1,q2,q2,rfl,q5,r.serial⟩
theorem ok_note (T:Txt K mg):FO P w base 5 T.note (sp_note T):=by
 o_headS (1 T.note.F.ok sc_note)
 obtain ⟨sp,n,tg,st,rfl,h⟩:=h
 o_headS (2 (pss_cons (pst 2 sc_note (pcf T.empty_hand_refusal (ok_empty_hand_refusal T) hr (pa_cons (pv 0) (pa1 (pv 1))))) (pss_cons (ps_if (pt_cmpR op_ne (pv 2) pe_int (nomark _)) (prl (pv 2)) pss_nil) (pss_cons (pst 3 sc_note (pcm (pv 0) T.cl_Spool T.Spool_writer_at (ok_Spool_writer_at T) hr (pa1 (pv 1)))) (pss_cons (pst 4 sc_note (pf (pv 3))) (pss_cons (ps_expr (pcm0 (pv 3) T.cl_Writer T.Writer_note (ok_Writer_note T) hr)) (prl (pv 4))))))))
 refine seq1 ?_
 walk_at "pq"
 refine ⟨sp,n,tg,st,rfl,h.1,h.2.1,seq1 ?_⟩
 walk_at "pq"
 rcases refE_cases st n with ⟨h1,h2⟩ | ⟨h1,hw,hon,hd,hhd,h3⟩
 ·rw [if_pos h1]
  exact h.one (h2 fun x h=>Vbbhak.yes (setWriter st n (Vbbhak.noteHand x)) h.since) Same.rfl'
 ·rw [if_neg (by simpa using h1)]
  have e0:step st (.note n)=_:=h3 fun x h=>Vbbhak.yes (setWriter st n (Vbbhak.noteHand x)) h.since
  obtain ⟨dx,f,os,ws,R⟩:=h.1
  refine seq1 ?_
  walk_at "pq"
  rw [R.hsp]
  walk_at "pq"
  refine go_writer_at R h.2.1.len hw fun a ha=>seq1 ?_
  obtain ⟨dy,p,g,ps,W⟩:=R.wat _ _ _ ha
  walk_at "pq"
  rw [W.ha]
  walk_at "pq"
  refine seq1 ?_
  walk_at "pq"
  rw [W.ha]
  walk_at "pq"
  refine ⟨a,dy,g,rfl,W.ha,?_⟩
  rw [(W.rel.hand1 hd hhd).2.2.2.1]
  obtain ⟨r1,r2⟩:=R.updW (x':=Vbbhak.noteHand (writerAt st n)) (g':=g.note) ha W rfl (by unfold Vbbhak.noteHand;rw [hhd]) (W.rel.note hhd)
  exact h.done e0 r1 r2
theorem classes_nat {l:List Int} (h:Vbbhak.areClasses l=true):ivs l=nvs (l.map Int.toNat)∧l.length≤8:=by
 unfold Vbbhak.areClasses at h
 simp only [Bool.and_eq_true,decide_eq_true_eq] at h
 refine ⟨?_,h.1.2⟩
 unfold ivs nvs
 rw [List.map_map]
 apply List.map_congr_left
 intro x hx
 have:=List.all_eq_true.mp h.2.1 x hx
 have:=VB.inside_iff.mp this
 simp only [Function.comp]
 congr 1
 omega
theorem sep_nat {x:Int} (h:Vbbhak.inside x 0 1=true):x=(((x == 1).toNat:Nat):Int):=by
 have:=VB.inside_iff.mp h
 rcases (show x=0∨x=1 by omega) with rfl | rfl <;> rfl
noncomputable def sp_start (T:Txt K mg):Sp:=fun vs H Q _=>∃ sp n fm sep e c l tg s,vs=[.ref sp,.int n,.int fm,.int sep,.int e,.ref c]∧Fz tg H c=some (.lst (ivs l))∧QSp T tg H sp s (.start n fm sep e l) Q
theorem ok_start (T:Txt K mg):FO P w base 4 T.start (sp_start T):=by
 o_headS (1 T.start.F.ok sc_start)
 obtain ⟨sp,n,fm,sep,e,c,l,tg,st,rfl,h⟩:=h
 o_headS (2 (pss_cons (ps_if (pt_not (PW.pt (pw_and (pt_val (pcf T.is_writer (ok_is_writer T) hr (pa1 (pv 1)))) (pw_and (pt_val (pcf T.is_form (ok_is_form T) hr (pa1 (pv 2)))) (pw_and (pt_val (pcf T.is_switch (ok_is_switch T) hr (pa1 (pv 3)))) (pw_and1 (pt_val (pcf T.is_note_every (ok_is_note_every T) hr (pa1 (pv 4)))))))))) (prg T.g_OUT_OF_RANGE) pss_nil) (pss_cons (ps_if (pt_not (pt_val (pcf T.is_class_list (ok_is_class_list T) hr (pa1 (pv 5))))) (prg T.g_WRONG_FORM) pss_nil) (pss_cons (pst 6 sc_start (pcm (pv 0) T.cl_Spool T.Spool_writer_at (ok_Spool_writer_at T) hr (pa1 (pv 1)))) (pss_cons (ps_if (pt_val (pf (pv 6))) (prg T.g_SO_ALREADY) pss_nil) (pss_cons (ps_expr (pcm (pv 6) T.cl_Writer T.Writer_switch_on (ok_Writer_switch_on T) hr (pa1 (pv 2)))) (pss_cons (ps_expr (pcm (pv 6) T.cl_Writer T.Writer_be_told (ok_Writer_be_told T) hr (pa_cons (pv 3) (pa_cons (pv 4) (pa1 (pv 5)))))) (prl pe_int))))))))
 obtain ⟨hc,h⟩:=h
 refine seq1 ?_
 walk_at "pq"
 have e0:step st (.start n fm sep e l)=if Vbbhak.isWriter n=false∨Vbbhak.isForm fm=false∨Vbbhak.inside sep 0 1=false∨Vbbhak.inside e 1 1000=false then Vbbhak.no st 1
  else if Vbbhak.areClasses l=false then Vbbhak.no st 2
  else if (writerAt st n).on=true then Vbbhak.no st 5
  else Vbbhak.yes (setWriter st n { writerAt st n with on:=true,classes:=l.map Int.toNat,form:=fm.toNat,sep:=sep == 1,every:=e.toNat }) 0:=rfl
 have bad:(Vbbhak.isWriter n=false∨Vbbhak.isForm fm=false∨Vbbhak.inside sep 0 1=false∨Vbbhak.inside e 1 1000=false)->∀ (p:Addr),H p=none->Q (V.ref p) (upd H p (HO.lst [V.int (-1)])):=fun z=>h.one (by rw [e0,if_pos z];rfl) Same.rfl'
 by_cases hw:Vbbhak.isWriter n=true
 ·rw [if_pos hw]
  by_cases hf:Vbbhak.isForm fm=true
  ·rw [if_pos hf]
   by_cases hs:Vbbhak.inside sep 0 1=true
   ·rw [if_pos hs]
    by_cases he:Vbbhak.inside e 1 1000=false
    ·rw [if_pos he]
     exact bad (.inr (.inr (.inr he)))
    ·rw [if_neg he]
     have he:Vbbhak.inside e 1 1000=true:=by simpa using he
     rw [if_neg (by rw [hw,hf,hs,he];simp)] at e0
     have hf':=VB.inside_iff.mp hf
     have he':=VB.inside_iff.mp he
     refine seq1 ?_
     walk_at "pq"
     refine ⟨c,l,rfl,SqL.of (Fz_sub _ _ hc),fun H1 s1=>⟨_,rfl,?_⟩⟩
     by_cases hl:Vbbhak.areClasses l=false
     ·rw [if_pos hl] at e0 ⊢
      exact h.one e0 s1
     ·rw [if_neg hl] at e0 ⊢
      obtain ⟨cn,cl⟩:=classes_nat (show Vbbhak.areClasses l=true by simpa using hl)
      obtain ⟨dx,f,os,ws,R⟩:=h.1.same s1
      refine seq1 ?_
      walk_at "pq"
      rw [R.hsp]
      walk_at "pq"
      refine go_writer_at R h.2.1.len hw fun a ha=>seq1 ?_
      obtain ⟨dy,p,g,ps,W⟩:=R.wat _ _ _ ha
      walk_at "pq"
      rw [W.ha]
      walk_at "pq"
      rw [W.rel.on]
      by_cases hon:(writerAt st n).on=true
      ·rw [if_pos hon] at e0 ⊢
       exact h.one e0 s1
      ·rw [if_neg hon] at e0 ⊢
       refine seq1 ?_
       walk_at "pq"
       rw [W.ha]
       walk_at "pq"
       refine ⟨a,dy,g,fm,rfl,W.ha,seq1 ?_⟩
       walk_at "pq"
       refine ⟨a,dy,_,_,_,_,rfl,upd_same,by show 14 < 900;decide,?_⟩
       rw [upd_upd]
       obtain ⟨r1,r2⟩:=R.updW (x':={ writerAt st n with on:=true,classes:=l.map Int.toNat,form:=fm.toNat,sep:=sep == 1,every:=e.toNat }) (g':={ g with on:=true,form:=fm,sep:=sep,every:=e,classes:=.ref c }) ha W rfl rfl ⟨W.rel.serial,rfl,by show fm=((fm.toNat:Nat):Int);omega,W.rel.drain,sep_nat hs,by show e=((e.toNat:Nat):Int);omega,⟨c,rfl,by rw [Fz_same s1 _ _ hc,cn]⟩,by rw [List.length_map];exact cl,W.rel.hand0,W.rel.hand1⟩
       exact h.done e0 r1 ((Kept.same h.1.trk s1).trans r2)
   ·rw [if_neg hs]
    exact bad (.inr (.inr (.inl (by simpa using hs))))
  ·rw [if_neg hf]
   exact bad (.inr (.inl (by simpa using hf)))
 ·rw [if_neg hw]
  exact bad (.inl (by simpa using hw))
noncomputable def sp_serve (T:Txt K mg):Sp:=fun vs H Q _=>∃ sp n sep e c l tg s,vs=[.ref sp,.int n,.int sep,.int e,.ref c]∧Fz tg H c=some (.lst (ivs l))∧QSp T tg H sp s (.serve n sep e l) Q
theorem ok_serve (T:Txt K mg):FO P w base 4 T.serve (sp_serve T):=by
 o_headS (1 T.serve.F.ok sc_serve)
 obtain ⟨sp,n,sep,e,c,l,tg,st,rfl,h⟩:=h
 o_headS (2 (pss_cons (ps_if (pt_not (PW.pt (pw_and (pt_val (pcf T.is_switch (ok_is_switch T) hr (pa1 (pv 2)))) (pw_and1 (pt_val (pcf T.is_note_every (ok_is_note_every T) hr (pa1 (pv 3)))))))) (prg T.g_OUT_OF_RANGE) pss_nil) (pss_cons (pst 5 sc_serve (pcf T.writer_refusal (ok_writer_refusal T) hr (pa_cons (pv 0) (pa1 (pv 1))))) (pss_cons (ps_if (pt_cmpR op_ne (pv 5) pe_int (nomark _)) (prl (pv 5)) pss_nil) (pss_cons (ps_if (pt_not (pt_val (pcf T.is_class_list (ok_is_class_list T) hr (pa1 (pv 4))))) (prg T.g_WRONG_FORM) pss_nil) (pss_cons (pst 6 sc_serve (pcm (pv 0) T.cl_Spool T.Spool_writer_at (ok_Spool_writer_at T) hr (pa1 (pv 1)))) (pss_cons (ps_if (pt_cmpR op_ne (pf (pv 6)) pe_int (nomark _)) (prg T.g_WRONG_STATE) pss_nil) (pss_cons (ps_expr (pcm (pv 6) T.cl_Writer T.Writer_be_told (ok_Writer_be_told T) hr (pa_cons (pv 2) (pa_cons (pv 3) (pa1 (pv 4)))))) (prl pe_int)))))))))
 obtain ⟨hc,h⟩:=h
 refine seq1 ?_
 walk_at "pq"
 have e0:step st (.serve n sep e l)=if Vbbhak.inside sep 0 1=false∨Vbbhak.inside e 1 1000=false then Vbbhak.no st 1
  else onWriter st n fun x=>if Vbbhak.areClasses l=false then Vbbhak.no st 2 else if x.hand.isSome=true then Vbbhak.no st 6
   else Vbbhak.yes (setWriter st n { x with classes:=l.map Int.toNat,sep:=sep == 1,every:=e.toNat }) 0:=rfl
 have bad:(Vbbhak.inside sep 0 1=false∨Vbbhak.inside e 1 1000=false)->∀ (p:Addr),H p=none->Q (V.ref p) (upd H p (HO.lst [V.int (-1)])):=fun z=>h.one (by rw [e0,if_pos z];rfl) Same.rfl'
 by_cases hs:Vbbhak.inside sep 0 1=true
 ·rw [if_pos hs]
  by_cases he:Vbbhak.inside e 1 1000=false
  ·rw [if_pos he]
   exact bad (.inr he)
  ·rw [if_neg he]
   have he:Vbbhak.inside e 1 1000=true:=by simpa using he
   rw [if_neg (by rw [hs,he];simp)] at e0
   have he':=VB.inside_iff.mp he
   refine seq1 ?_
   walk_at "pq"
   refine ⟨sp,n,tg,st,rfl,h.1,h.2.1,seq1 ?_⟩
   walk_at "pq"
   rcases onWriter_cases st n with ⟨h1,h2⟩ | ⟨h1,hw,hon,h3⟩
   ·rw [if_pos h1]
    exact h.one (e0.trans (h2 _)) Same.rfl'
   ·rw [if_neg (by simpa using h1)]
    rw [h3] at e0
    refine seq1 ?_
    walk_at "pq"
    refine ⟨c,l,rfl,SqL.of (Fz_sub _ _ hc),fun H1 s1=>⟨_,rfl,?_⟩⟩
    by_cases hl:Vbbhak.areClasses l=false
    ·rw [if_pos hl] at e0 ⊢
     exact h.one e0 s1
    ·rw [if_neg hl] at e0 ⊢
     obtain ⟨cn,cl⟩:=classes_nat (show Vbbhak.areClasses l=true by simpa using hl)
     obtain ⟨dx,f,os,ws,R⟩:=h.1.same s1
     refine seq1 ?_
     walk_at "pq"
     rw [R.hsp]
     walk_at "pq"
     refine go_writer_at R h.2.1.len hw fun a ha=>seq1 ?_
     obtain ⟨dy,p,g,ps,W⟩:=R.wat _ _ _ ha
     walk_at "pq"
     rw [W.ha]
     walk_at "pq"
     have hi:=W.rel.hand_iff (hand_pos h.2.1 hw)
     by_cases hh:(writerAt st n).hand.isSome=true
     ·rw [if_pos hh] at e0
      rw [if_pos (fun z=>by rw [hi] at z;simp_all)]
      exact h.one e0 s1
     ·rw [if_neg hh] at e0
      have h0:g.hand=0:=hi.mpr (by simpa using hh)
      rw [if_neg (by simpa using h0)]
      refine seq1 ?_
      walk_at "pq"
      rw [W.ha]
      walk_at "pq"
      refine ⟨a,dy,_,_,_,_,rfl,W.ha,by show 14 < 900;decide,?_⟩
      obtain ⟨r1,r2⟩:=R.updW (x':={ writerAt st n with classes:=l.map Int.toNat,sep:=sep == 1,every:=e.toNat }) (g':={ g with sep:=sep,every:=e,classes:=.ref c }) ha W rfl rfl ⟨W.rel.serial,W.rel.on,W.rel.form,W.rel.drain,sep_nat hs,by show e=((e.toNat:Nat):Int);omega,⟨c,rfl,by rw [Fz_same s1 _ _ hc,cn]⟩,by rw [List.length_map];exact cl,W.rel.hand0,W.rel.hand1⟩
      exact h.done e0 r1 ((Kept.same h.1.trk s1).trans r2)
 ·rw [if_neg hs]
  exact bad (.inl (by simpa using hs))
theorem WRel.off {F:Hp} {x:Vbbhak.Writer} {g:Wf} {c:Addr} (r:WRel K F x g) (h0:g.hand=0) (hc:F c=some (.lst [])):WRel K F { paper:=x.paper,serial:=x.serial,noted:=x.serial } (g.off (.ref c)):=
 ⟨r.serial,rfl,rfl,rfl,rfl,rfl,⟨c,rfl,hc⟩,by show 0≤8;decide,fun _=>h0,fun h' z=>by cases z⟩
noncomputable def sp_stop (T:Txt K mg):Sp:=fun vs H Q _=>∃ sp n tg s,vs=[.ref sp,.int n]∧QSp T tg H sp s (.halt_ n) Q
theorem ok_stop (T:Txt K mg):FO P w base 4 T.stop (sp_stop T):=by
 o_headS (1 T.stop.F.ok sc_stop)
 obtain ⟨sp,n,tg,st,rfl,h⟩:=h
 o_headS (2 (pss_cons (pst 2 sc_stop (pcf T.writer_refusal (ok_writer_refusal T) hr (pa_cons (pv 0) (pa1 (pv 1))))) (pss_cons (ps_if (pt_cmpR op_ne (pv 2) pe_int (nomark _)) (prl (pv 2)) pss_nil) (pss_cons (pst 3 sc_stop (pcm (pv 0) T.cl_Spool T.Spool_writer_at (ok_Spool_writer_at T) hr (pa1 (pv 1)))) (pss_cons (ps_if (pt_val (pf (pv 3))) (prg T.g_SO_ALREADY) pss_nil) (pss_cons (ps_if (pt_cmpR op_eq (pf (pv 3)) pe_int (nomark _)) (pss_one (ps_expr (pcm0 (pv 3) T.cl_Writer T.Writer_switch_off (ok_Writer_switch_off T) hr))) (pss_cons (ps_fld (pv 3) (pe_bl) rfl) (pss_one (ps_expr (pcm0 (pv 3) T.cl_Writer T.Writer_note (ok_Writer_note T) hr))))) (prl (pf (pv 3)))))))))
 refine seq1 ?_
 walk_at "pq"
 refine ⟨sp,n,tg,st,rfl,h.1,h.2.1,seq1 ?_⟩
 walk_at "pq"
 have e0:step st (.halt_ n)=onWriter st n fun x=>if x.draining=true then Vbbhak.no st 5 else match x.hand with
  | none=>Vbbhak.yes (setWriter st n { paper:=x.paper,serial:=x.serial,noted:=x.serial }) 0
  | some h=>Vbbhak.yes (setWriter st n (Vbbhak.noteHand { x with draining:=true })) h.out:=rfl
 rcases onWriter_cases st n with ⟨h1,h2⟩ | ⟨h1,hw,hon,h3⟩
 ·rw [if_pos h1]
  exact h.one (e0.trans (h2 _)) Same.rfl'
 ·rw [if_neg (by simpa using h1)]
  rw [h3] at e0
  obtain ⟨dx,f,os,ws,R⟩:=h.1
  refine seq1 ?_
  walk_at "pq"
  rw [R.hsp]
  walk_at "pq"
  refine go_writer_at R h.2.1.len hw fun a ha=>seq1 ?_
  obtain ⟨dy,p,g,ps,W⟩:=R.wat _ _ _ ha
  walk_at "pq"
  rw [W.ha]
  walk_at "pq"
  rw [W.rel.drain]
  by_cases hd:(writerAt st n).draining=true
  ·rw [if_pos hd] at e0 ⊢
   exact h.one e0 Same.rfl'
  ·rw [if_neg hd] at e0 ⊢
   refine seq1 ?_
   walk_at "pq"
   rw [W.ha]
   walk_at "pq"
   have hi:=W.rel.hand_iff (hand_pos h.2.1 hw)
   cases hh:(writerAt st n).hand with
   | none =>
    have e1:step st (.halt_ n)=Vbbhak.yes (setWriter st n { paper:=(writerAt st n).paper,serial:=(writerAt st n).serial,noted:=(writerAt st n).serial }) 0:=by
     rw [e0]
     split
     ·rfl
     ·rename_i z;rw [hh] at z;cases z
    have h0:g.hand=0:=W.rel.hand0 hh
    rw [if_pos h0]
    refine ⟨a,dy,_,rfl,W.ha,by show 14 < 800;decide,rfl,fun c hc=>?_⟩
    refine ⟨_,_,_,upd_same,T.cl_Writer,T.no_Writer_hand,.int g.hand,rfl,?_⟩
    have ca:c ≠ a:=fun z=>by rw [z,W.ha] at hc;cases hc
    have cp:c ≠ p:=fun z=>by rw [z,W.hp] at hc;cases hc
    have pa:p ≠ a:=ne_of W.hp W.ha (by intro z;cases z)
    have tc:=R.trk.free hc
    have ex:Ex [a,p] H (upd (upd H c (.lst [])) a (WO T dy (g.off (.ref c)))):=((Ex.of_same Same.rfl').new hc).then (by simp)
    have fz:=Fz_ex (tg:=tg) ex (fun b hb=>by
     rcases List.mem_cons.mp hb with rfl | hb
     ·rw [W.ta];simp
     ·rw [List.mem_singleton.mp hb,W.tp];simp)
    obtain ⟨r1,r2⟩:=R.putW (x':={ paper:=(writerAt st n).paper,serial:=(writerAt st n).serial,noted:=(writerAt st n).serial }) (g':=g.off (.ref c)) ha W ex upd_same (by rw [upd_ne pa,upd_ne cp.symm];exact W.hp) W.pap W.ents (fun q hq=>(W.en q hq).same fz) ((W.rel.same fz).off h0 (by rw [Fz_of tc,upd_ne ca,upd_same]))
    rw [h0]
    exact h.done e1 r1 r2
   | some hd' =>
    have e1:step st (.halt_ n)=Vbbhak.yes (setWriter st n (Vbbhak.noteHand { writerAt st n with draining:=true })) hd'.out:=by
     rw [e0]
     split
     ·rename_i z;rw [hh] at z;cases z
     ·rename_i z;rw [hh] at z;cases z;rfl
    have h0:¬ g.hand=0:=fun z=>by rw [hi,hh] at z;cases z
    rw [if_neg h0]
    refine seq1 ?_
    walk_at "pq"
    rw [W.ha]
    walk_at "pq"
    refine ⟨a,dy,{ g with drain:=true },rfl,upd_same,?_⟩
    rw [upd_upd]
    refine ⟨_,_,_,upd_same,T.cl_Writer,T.no_Writer_hand,.int (hd'.out:Int),by show some (V.int g.hand)=_;rw [(W.rel.hand1 hd' hh).1],?_⟩
    have rel:WRel K (Fz tg H) { writerAt st n with draining:=true } { g with drain:=true }:=⟨W.rel.serial,W.rel.on,W.rel.form,rfl,W.rel.sep,W.rel.every,W.rel.cls,W.rel.clen,W.rel.hand0,W.rel.hand1⟩
    obtain ⟨r1,r2⟩:=R.updW (x':=Vbbhak.noteHand { writerAt st n with draining:=true }) (g':=Wf.note { g with drain:=true }) ha W rfl (by unfold Vbbhak.noteHand;rw [hh]) (rel.note hh)
    exact h.done e1 r1 r2
noncomputable def sp_back (T:Txt K mg):Sp:=fun vs H Q _=>∃ sp n k tg s,vs=[.ref sp,.int n,.int k]∧QSp T tg H sp s (.back n k) Q
theorem ok_back (T:Txt K mg):FO P w base 5 T.back (sp_back T):=by
 o_headS (1 T.back.F.ok sc_back)
 obtain ⟨sp,n,k,tg,st,rfl,h⟩:=h
 o_headS (2 (pss_cons (ps_if (pt_not (pt_val (pcf T.is_back (ok_is_back T) hr (pa1 (pv 2))))) (prg T.g_OUT_OF_RANGE) pss_nil) (pss_cons (pst 3 sc_back (pcf T.empty_hand_refusal (ok_empty_hand_refusal T) hr (pa_cons (pv 0) (pa1 (pv 1))))) (pss_cons (ps_if (pt_cmpR op_ne (pv 3) pe_int (nomark _)) (prl (pv 3)) pss_nil) (pss_cons (pst 4 sc_back (pcm (pv 0) T.cl_Spool T.Spool_writer_at (ok_Spool_writer_at T) hr (pa1 (pv 1)))) (pss_cons (ps_if (pt_val (pcf T.is_paper_full (ok_is_paper_full T) hr (pa_cons (pv 0) (pa1 (pv 4))))) (prg T.g_NO_ROOM) pss_nil) (prl (pcm (pv 4) T.cl_Writer T.Writer_go_back (ok_Writer_go_back T) hr (pa1 (pv 2))))))))))
 refine seq1 ?_
 walk_at "pq"
 have e0:step st (.back n k)=if Vbbhak.inside k 1 1000=false then Vbbhak.no st 1 else onWriter st n fun x=>Vbbhak.doBack st n k x:=rfl
 by_cases hk:Vbbhak.inside k 1 1000=false
 ·rw [if_pos hk] at e0 ⊢
  exact h.one e0 Same.rfl'
 ·rw [if_neg hk] at e0 ⊢
  have hk':=VB.inside_iff.mp (show Vbbhak.inside k 1 1000=true by simpa using hk)
  refine seq1 ?_
  walk_at "pq"
  refine ⟨sp,n,tg,st,rfl,h.1,h.2.1,seq1 ?_⟩
  walk_at "pq"
  have fb:∀ x,Vbbhak.doBack st n k x=match x.hand with | none=>Vbbhak.no st 6 | some h=>(fun x h=>if Vbbhak.roomy st x=false then Vbbhak.no st 8
   else
    let p:=max h.first (h.pos.step - k.toNat)
    let m:=h.pos.step - p
    if m=0 then Vbbhak.yes (setWriter st n (Vbbhak.noteHand x)) 0
    else
     let y:Vbbhak.Writer:={ x with serial:=x.serial - m,hand:=some { h with pos:=⟨h.pos.copy,p⟩ } }
     Vbbhak.yes (setWriter st n (Vbbhak.noteHand { y with paper:=x.paper++[.mark (x.serial - m)] })) m) x h:=fun x=>rfl
  rw [show (fun x=>Vbbhak.doBack st n k x)=_ from funext fb] at e0
  rcases refE_cases st n with ⟨h1,h2⟩ | ⟨h1,hw,hon,hd,hhd,h3⟩
  ·rw [if_pos h1]
   exact h.one (e0.trans (h2 _)) Same.rfl'
  ·rw [if_neg (by simpa using h1)]
   have e1:=e0.trans (h3 _)
   obtain ⟨dx,f,os,ws,R⟩:=h.1
   refine seq1 ?_
   walk_at "pq"
   rw [R.hsp]
   walk_at "pq"
   refine go_writer_at R h.2.1.len hw fun a ha=>seq1 ?_
   obtain ⟨dy,p,g,ps,W⟩:=R.wat _ _ _ ha
   walk_at "pq"
   refine ⟨sp,a,dx,f,dy,g,p,_,rfl,R.hsp,W.ha,W.pap,W.hp,_,rfl,?_⟩
   rw [R.room,List.length_map]
   have hroom:Vbbhak.roomy st (writerAt st n)=false ↔ (st.sheets:Int) - 2 < (ps.length:Int):=by
    unfold Vbbhak.roomy
    rw [W.ents,List.length_map]
    simp
    omega
   by_cases hr:Vbbhak.roomy st (writerAt st n)=false
   ·rw [if_pos hr] at e1
    rw [if_pos (decide_eq_true (hroom.mp hr))]
    exact h.one e1 Same.rfl'
   ·rw [if_neg hr] at e1
    rw [if_neg (by rw [decide_eq_true_eq];exact fun z=>hr (hroom.mpr z))]
    rw [W.ha]
    walk_at "pq"
    obtain ⟨q1,q2,q3,q4,q5,q6⟩:=W.rel.hand1 hd hhd
    obtain ⟨o,ho,HO⟩:=VB.hand_out h.2.1 hw hhd
    have sz:ps.length≤5000:=by
     have:=(h.2.1.wr _ (VB.writerAt_mem h.2.1.len hw).1).pap1
     rw [W.ents,List.length_map] at this
     have:=h.2.1.p2
     omega
    have hfp:=HO.fp
    have hsp:=HO.sp
    refine ⟨a,dy,g,k,_,_,p,_,rfl,W.ha,q2.same Fz_sub,W.pap,W.hp,by rw [List.length_map];exact Nat.lt_of_le_of_lt sz (by decide),((hd.pos.step - max hd.first (hd.pos.step - k.toNat):Nat):Int),by rw [q5];split <;> omega,fun hn=>?_,fun hn t q H' ht hq e't e'q e'p e'a ex=>?_⟩
    ·dsimp only at e1
     rw [if_pos (by omega)] at e1
     rw [show ((hd.pos.step - max hd.first (hd.pos.step - k.toNat):Nat):Int)=0 by omega]
     obtain ⟨r1,r2⟩:=R.updW (x':=Vbbhak.noteHand (writerAt st n)) (g':=g.note) ha W rfl (by unfold Vbbhak.noteHand;rw [hhd]) (W.rel.note hhd)
     exact h.done e1 r1 r2
    ·dsimp only at e1
     rw [if_neg (by omega)] at e1
     have tt:=R.trk.free ht
     have tq:=R.trk.free hq
     have fz:=Fz_ex (tg:=tg) ex (fun b hb=>by
      rcases List.mem_cons.mp hb with rfl | hb
      ·rw [W.ta];simp
      ·rw [List.mem_singleton.mp hb,W.tp];simp)
     generalize hm:hd.pos.step - max hd.first (hd.pos.step - k.toNat)=m at *
     have pq:PlV K (Fz tg H') (.ref q) (hd.pos.copy:Int) ((max hd.first (hd.pos.step - k.toNat):Nat):Int):=⟨q,rfl,SqT.of (by rw [Fz_of tq,e'q];congr 3;congr 1;congr 1;omega)⟩
     have es:g.serial - (m:Int)=(((writerAt st n).serial - m:Nat):Int):=by rw [W.rel.serial];omega
     obtain ⟨r1,r2⟩:=R.putW (x':=Vbbhak.noteHand { writerAt st n with serial:=(writerAt st n).serial - m,hand:=some { hd with pos:=⟨hd.pos.copy,max hd.first (hd.pos.step - k.toNat)⟩ },paper:=(writerAt st n).paper++[.mark ((writerAt st n).serial - m)] }) (ps':=ps++[(t,.mark ((writerAt st n).serial - m))]) ha W ex e'a (by rw [e'p,List.map_append];rfl) W.pap (by
      show (writerAt st n).paper++_=_
      rw [W.ents,List.map_append];rfl) (fun y hy=>by
      rcases List.mem_append.mp hy with hy | hy
      ·exact (W.en y hy).same fz
      ·rw [List.mem_singleton.mp hy]
       show Fz tg H' t=some (.tup [.int _])
       rw [Fz_of tt,e't,es]) ⟨es,W.rel.on,W.rel.form,W.rel.drain,W.rel.sep,W.rel.every,(W.rel.same fz).cls,W.rel.clen,(fun z=>by cases z),fun h' z=>by
        cases z
        exact ⟨q1,pq,pq,rfl,q5,es⟩⟩
     exact h.done e1 r1 r2
end
end
section
open Vbbhak (State Call Ans step onOut onWriter setWriter writerAt)
section
variable {P:Program} {w:World} {K:PySem.W.Frag} {mg:Str->Option Value} {base:Heap}
theorem RIn.chgR {T:Txt K mg} {tg:Tg} {H:Hp} {sp:Addr} {s:State} {dx:Addr} {f:Sf} {os:List (Vbbhak.Out × Addr)} {ws:List (Vbbhak.Writer × Addr)} (R:RIn T tg H sp s dx f os ws) (W:VB.WF s) {o:Vbbhak.Out} {a da:Addr} {fa:Of} (hm:(o,a) ∈ os) (O:OIn T tg H (Vbbhak.pagesOf s o) o a da fa) (p:Vbbhak.Pos) (v:V) (pl:PlV K (Fz tg H) v (p.copy:Int) (p.step:Int)) :
  RIn T tg (upd H a (OO T da { fa with place:=v })) sp (Vbbhak.setOut s { o with pos:=p }) dx f (os.map fun q=>if q.1.num=o.num then ({ o with pos:=p },q.2) else q) ws∧Kept tg H tg (upd H a (OO T da { fa with place:=v })):=
 ⟨R.setO (o':={ o with pos:=p }) (R.uniq W hm rfl) R.trk.upd (Kp.upd O.ta fun z=>z.1 rfl) (by rw [Fz_upd (by rw [O.ta];simp)];exact Same.rfl') ⟨da,_,O.upd rfl rfl O.cls O.form O.copies O.prio O.held rfl rfl rfl rfl rfl rfl rfl pl⟩,Kept.upd O.ta (by simp)⟩
theorem RIn.same {T:Txt K mg} {tg:Tg} {H H':Hp} {sp:Addr} {s:State} {dx:Addr} {f:Sf} {os:List (Vbbhak.Out × Addr)} {ws:List (Vbbhak.Writer × Addr)} (h:RIn T tg H sp s dx f os ws) (e:Same H H'):RIn T tg H' sp s dx f os ws:=by
 have k:∀ p,Kp tg H tg H' p:=fun p=>Kp.same h.trk e p
 have fz:Same (Fz tg H) (Fz tg H'):=Fz_same e
 exact ⟨h.trk.same e,h.tsp,h.lam.frame (k _) fz,e _ _ h.hsp,h.most,h.cap,h.room,h.last,h.nle,h.tod,e _ _ h.hod,h.outs,fun p hp=>(h.oat p hp).frame (k _) fz,fz _ _ h.hwl,h.wrs,fun i x a z=>(h.wat i x a z).frame (k _) fz⟩
theorem WIn.frame {T:Txt K mg} {tg tg':Tg} {H H':Hp} {i:Nat} {x:Vbbhak.Writer} {a dx p:Addr} {f:Wf} {ps:List (Addr × VEntry)} (h:WIn T tg H i x a dx p f ps) (k:Kp tg H tg' H' fun t=>t = .wr i∨t = .paper i) (s:Same (Fz tg H) (Fz tg' H')):WIn T tg' H' i x a dx p f ps:=by
 obtain ⟨k1,k2⟩:=k _ _ h.ta (.inl rfl)
 obtain ⟨k3,k4⟩:=k _ _ h.tp (.inr rfl)
 exact ⟨k1,k3,k2.trans h.ha,k4.trans h.hp,h.pap,h.ents,fun q hq=>(h.en q hq).same s,h.rel.same s⟩
theorem WIn.same {T:Txt K mg} {tg:Tg} {H H':Hp} {i:Nat} {x:Vbbhak.Writer} {a dx p:Addr} {f:Wf} {ps:List (Addr × VEntry)} (h:WIn T tg H i x a dx p f ps) (tk:Trk tg H) (e:Same H H'):WIn T tg H' i x a dx p f ps:=h.frame (Kp.same tk e _) (Fz_same e)
noncomputable def sp_hand_back (T:Txt K mg):Sp:=fun vs H Q _=>∃ sp a pl n tg s hd p dx f os ws,vs=[.ref sp,.ref a,.ref pl]∧RIn T tg H sp s dx f os ws∧VB.WF s∧Vbbhak.isWriter n=true∧ws[n.toNat - 1]? = some (writerAt s n,a)∧(writerAt s n).hand=some hd∧SqT K (Fz tg H) pl [.int ((p:Vbbhak.Pos).copy:Int),.int (p.step:Int)] ∧
 ∀ H',Rep T tg H' sp (Vbbhak.letGo s n p)->Kept tg H tg H'->Q .non H'
theorem ok_hand_back (T:Txt K mg):FO P w base 3 T.hand_back (sp_hand_back T):=by
 o_headS (1 T.hand_back.F.ok sc_hand_back)
 obtain ⟨sp,a,pl,n,tg,st,hd,p,dx,f,os,ws,rfl,h⟩:=h
 o_headS (2 (pss_cons (ps_if (PW.pt (pw_and (pt_cmpR op_eq (pf (pv 1)) pe_int (nomark _)) (pw_and1 (pt_cmpR op_eq (pe_ix ix_tup (pv 2) pe_int (fun _ _=>rfl)) pe_int (nomark _))))) (pss_one (pst 2 sc_hand_back (pe_tup (pa_cons (pe_ix ix_tup (pv 2) pe_int (fun _ _=>rfl)) (pa1 pe_int))))) pss_nil) (pss_cons (pst 3 sc_hand_back (pe_dget (hu_of hr) (pf (pv 0)) (pf (pv 1)) (fun _ _=>rfl))) (pss_cons (ps_fld (pv 3) (pv 2) rfl) (pss_cons (ps_expr (pcm0 (pv 1) T.cl_Writer T.Writer_empty_hand (ok_Writer_empty_hand T) hr)) (pss_cons (ps_fld (pv 1) (pf (pv 1)) rfl) (pss_one (ps_if (pt_val (pf (pv 1))) (pss_one (ps_expr (pcm0 (pv 1) T.cl_Writer T.Writer_switch_off (ok_Writer_switch_off T) hr))) pss_nil))))))))
 obtain ⟨R,WF,hw,ha,hhd,hpl,h⟩:=h
 obtain ⟨dy,pp,g,ps,W⟩:=R.wat _ _ _ ha
 obtain ⟨o,ho,HD⟩:=VB.hand_out WF hw hhd
 obtain ⟨q1,_⟩:=W.rel.hand1 hd hhd
 have hpl':=Same.seqT Fz_sub hpl
 have main:∀ q H1,Same H H1->SqT K (Fz tg H1) q [.int ((Vbbhak.keptPlace (writerAt st n).sep p).copy:Int),.int ((Vbbhak.keptPlace (writerAt st n).sep p).step:Int)] →
   (tSeq (tAsg (tDGet (tFld K (tVar 0) "outputs") (tFld K (tVar 1) "hand")) (gName 3))
    (tSeq (sFld K (tVar 3) (tVar 2) "place")
    (tSeq (tDrop (tMeth T.c_Writer "empty_hand" (sp_Writer_empty_hand T) [] E0 (tVar 1) tNil))
    (tSeq (sFld K (tVar 1) (tFld K (tVar 1) "serial") "noted_serial")
    (tIfS (tB (tFld K (tVar 1) "draining")) (tDrop (tMeth T.c_Writer "switch_off" (sp_Writer_switch_off T) [] E0 (tVar 1) tNil)) (tNext)))))) { nx:=fun _ H'=>Q .non H',rt:=Q } [some (.ref sp),some (.ref a),some (.ref q),none] H1:=by
  intro q H1 s1 hq
  obtain ⟨dx',f',os',ws',R0⟩:Rep T tg H1 sp st:=(show Rep T tg H sp st from ⟨dx,f,os,ws,R⟩).same s1
  have R1:RIn T tg H1 sp st dx f os ws:=R.same s1
  have W1:=(show WIn T tg H (n.toNat - 1) (writerAt st n) a dy pp g ps from W).same R.trk s1
  refine seq1 ?_
  walk_at "pq"
  rw [R1.hsp]
  walk_at "pq"
  rw [W1.ha]
  walk_at "pq"
  obtain ⟨b,e1,e2,e3⟩:=R1.out_get ho
  obtain ⟨da,fa,O⟩:=R1.out_at e1
  rw [q1]
  refine ⟨_,e3,seq1 ?_⟩
  walk_at "pq"
  rw [O.ha]
  walk_at "pq"
  obtain ⟨R2,K2⟩:=R1.chgR WF e1 O (Vbbhak.keptPlace (writerAt st n).sep p) (.ref q) ⟨q,rfl,hq⟩
  have ab:a ≠ b:=fun z=>by have:=O.ta;rw [← z,W1.ta] at this;cases this
  have W2:WIn T tg (upd H1 b (OO T da { fa with place:=.ref q })) (n.toNat - 1) (writerAt st n) a dy pp g ps:=W1.frame (Kp.upd O.ta (by rintro (z | z) <;> cases z)) K2.fz
  show tSeq _ _ _ _ (upd H1 b (OO T da { fa with place:=.ref q }))
  generalize upd H1 b (OO T da { fa with place:=.ref q })=H2 at R2 K2 W2
  have fin:∀ (g':Wf) (y:Vbbhak.Writer) (H3:Hp),(y=if (writerAt st n).draining=true then { paper:=(writerAt st n).paper,serial:=(writerAt st n).serial,noted:=(writerAt st n).serial } else { writerAt st n with hand:=none,noted:=(writerAt st n).serial })->Rep T tg H3 sp { Vbbhak.setOut st { o with pos:=Vbbhak.keptPlace (writerAt st n).sep p } with writers:=(Vbbhak.setOut st { o with pos:=Vbbhak.keptPlace (writerAt st n).sep p }).writers.set (n.toNat - 1) y }->Kept tg H2 tg H3->Q .non H3:=by
   intro g' y H3 hy r1 r2
   refine h H3 ?_ (((Kept.same R.trk s1).trans K2).trans r2)
   have el:Vbbhak.letGo st n p={ Vbbhak.setOut st { o with pos:=Vbbhak.keptPlace (writerAt st n).sep p } with writers:=(Vbbhak.setOut st { o with pos:=Vbbhak.keptPlace (writerAt st n).sep p }).writers.set (n.toNat - 1) y }:=by
    unfold Vbbhak.letGo
    dsimp only
    rw [← hy]
    split
    ·rename_i h' e'
     rw [hhd] at e'
     cases e'
     rw [ho]
     rfl
    ·rename_i e'
     rw [hhd] at e';cases e'
   rw [el]
   exact r1
  refine seq1 ?_
  walk_at "pq"
  rw [W2.ha]
  walk_at "pq"
  refine ⟨a,dy,_,rfl,W2.ha,by show 14 < 900;decide,seq1 ?_⟩
  have rel0:WRel K (Fz tg H2) { writerAt st n with hand:=none,noted:=(writerAt st n).serial } { g.empty (.ref T.a_NO_PLACE) with noted:=g.serial }:=⟨W2.rel.serial,W2.rel.on,W2.rel.form,W2.rel.drain,W2.rel.sep,W2.rel.every,W2.rel.cls,W2.rel.clen,fun _=>rfl,fun h' z=>by cases z⟩
  show sFld K _ _ _ _ _ (upd H2 a (WO T dy (g.empty (.ref T.a_NO_PLACE))))
  walk_at "pq"
  show (if g.drain=true then sp_Writer_switch_off T [.ref a] (upd H2 a (WO T dy { g.empty (.ref T.a_NO_PLACE) with noted:=g.serial })) (fun _ H=>Q .non H) E0 else Q .non (upd H2 a (WO T dy { g.empty (.ref T.a_NO_PLACE) with noted:=g.serial })))
  rw [W2.rel.drain]
  by_cases hd':(writerAt st n).draining=true
  ·rw [if_pos hd']
   refine ⟨a,dy,_,rfl,upd_same,by show 14 < 800;decide,rfl,fun c hc=>?_⟩
   obtain ⟨hc,ca⟩:=upd_none hc
   rw [upd_comm ca,upd_upd]
   have cp:c ≠ pp:=fun z=>by rw [z,W2.hp] at hc;cases hc
   have pa:pp ≠ a:=ne_of W2.hp W2.ha (by intro z;cases z)
   have tc:=R2.trk.free hc
   have ex:Ex [a,pp] H2 (upd (upd H2 c (.lst [])) a (WO T dy ({ g.empty (.ref T.a_NO_PLACE) with noted:=g.serial }.off (.ref c)))):=((Ex.of_same Same.rfl').new hc).then (by simp)
   have fz:=Fz_ex (tg:=tg) ex (fun b hb=>by
    rcases List.mem_cons.mp hb with rfl | hb
    ·rw [W2.ta];simp
    ·rw [List.mem_singleton.mp hb,W2.tp];simp)
   obtain ⟨r1,r2⟩:=R2.putW (x':={ paper:=(writerAt st n).paper,serial:=(writerAt st n).serial,noted:=(writerAt st n).serial }) (g':=Wf.off { g.empty (.ref T.a_NO_PLACE) with noted:=g.serial } (.ref c)) ha W2 ex upd_same (by rw [upd_ne pa,upd_ne cp.symm];exact W2.hp) W2.pap W2.ents (fun q hq=>(W2.en q hq).same fz) ((rel0.same fz).off rfl (by rw [Fz_of tc,upd_ne ca,upd_same]))
   exact fin g _ _ (by rw [if_pos hd']) r1 r2
  ·rw [if_neg hd']
   obtain ⟨r1,r2⟩:=R2.updW (x':={ writerAt st n with hand:=none,noted:=(writerAt st n).serial }) (g':={ g.empty (.ref T.a_NO_PLACE) with noted:=g.serial }) ha W2 rfl rfl rel0
   exact fin g _ _ (by rw [if_neg hd']) r1 r2
 refine seq1 ?_
 walk_at "pq"
 rw [W.ha]
 walk_at "pq"
 rw [W.rel.sep]
 have kp:∀ sep,Vbbhak.keptPlace sep p=if sep=false∧p.step=1 then ⟨p.copy,0⟩ else p:=fun _=>rfl
 cases hs:(writerAt st n).sep with
 | true =>
  rw [if_neg (by simp)]
  refine main pl H Same.rfl' ?_
  rw [kp,hs,if_neg (by simp)]
  exact hpl
 | false =>
  rw [if_pos (by rfl)]
  refine ⟨_,hpl',_,rfl,rfl,?_⟩
  by_cases h1:p.step=1
  ·rw [if_pos (by rw [h1];rfl)]
   refine ⟨_,hpl',_,rfl,fun q hq=>main q _ (same_new hq) ?_⟩
   rw [kp,hs,if_pos ⟨rfl,h1⟩]
   exact SqT.of (by rw [Fz_of (R.trk.free hq),upd_same];rfl)
  ·rw [if_neg (fun z=>h1 (by injection z with z;omega))]
   refine main pl H Same.rfl' ?_
   rw [kp,hs,if_neg (fun z=>h1 z.2)]
   exact hpl
noncomputable def sp_interrupt (T:Txt K mg):Sp:=fun vs H Q _=>∃ sp n tg s,vs=[.ref sp,.int n]∧QSp T tg H sp s (.interrupt n) Q
theorem ok_interrupt (T:Txt K mg):FO P w base 5 T.interrupt (sp_interrupt T):=by
 o_headS (1 T.interrupt.F.ok sc_interrupt)
 obtain ⟨sp,n,tg,st,rfl,h⟩:=h
 o_headS (2 (pss_cons (pst 2 sc_interrupt (pcf T.empty_hand_refusal (ok_empty_hand_refusal T) hr (pa_cons (pv 0) (pa1 (pv 1))))) (pss_cons (ps_if (pt_cmpR op_ne (pv 2) pe_int (nomark _)) (prl (pv 2)) pss_nil) (pss_cons (pst 3 sc_interrupt (pcm (pv 0) T.cl_Spool T.Spool_writer_at (ok_Spool_writer_at T) hr (pa1 (pv 1)))) (pss_cons (pst 4 sc_interrupt (pf (pv 3))) (pss_cons (ps_expr (pcf T.hand_back (ok_hand_back T) hr (pa_cons (pv 0) (pa_cons (pv 3) (pa1 (pf (pv 3))))))) (prl (pv 4))))))))
 refine seq1 ?_
 walk_at "pq"
 refine ⟨sp,n,tg,st,rfl,h.1,h.2.1,seq1 ?_⟩
 walk_at "pq"
 rcases refE_cases st n with ⟨h1,h2⟩ | ⟨h1,hw,hon,hd,hhd,h3⟩
 ·rw [if_pos h1]
  exact h.one (h2 fun x h=>Vbbhak.yes (Vbbhak.letGo st n h.pos) h.out) Same.rfl'
 ·rw [if_neg (by simpa using h1)]
  have e0:step st (.interrupt n)=_:=h3 fun x h=>Vbbhak.yes (Vbbhak.letGo st n h.pos) h.out
  obtain ⟨dx,f,os,ws,R⟩:=h.1
  refine seq1 ?_
  walk_at "pq"
  rw [R.hsp]
  walk_at "pq"
  refine go_writer_at R h.2.1.len hw fun a ha=>seq1 ?_
  obtain ⟨dy,p,g,ps,W⟩:=R.wat _ _ _ ha
  walk_at "pq"
  rw [W.ha]
  walk_at "pq"
  refine seq1 ?_
  walk_at "pq"
  rw [W.ha]
  walk_at "pq"
  obtain ⟨q1,⟨pl,q2,q3⟩,_⟩:=W.rel.hand1 hd hhd
  rw [q2]
  refine ⟨sp,a,pl,n,tg,st,hd,hd.pos,dx,f,os,ws,rfl,R,h.2.1,hw,ha,hhd,q3,fun H' r1 r2=>?_⟩
  rw [q1]
  exact h.done e0 r1 r2
end
end
section
open Vbbhak (State Call Ans step onOut onWriter setWriter writerAt)
section
variable {P:Program} {w:World} {K:PySem.W.Frag} {mg:Str->Option Value} {base:Heap}
theorem sheet_start {s:State} {sep:Bool} {o:Vbbhak.Out} {p:Vbbhak.Pos} (h:VB.okStep (Vbbhak.pagesOf s o).length sep p.step) (h0:p.step=0):(Vbbhak.sheetAt s sep o p).getD []=Vbbhak.separator "START" o p.copy:=by
 unfold Vbbhak.sheetAt VB.okStep at *
 dsimp only
 rw [if_pos h0]
 cases sep with
 | true=>rfl
 | false=>simp at h;omega
theorem sheet_page {s:State} {sep:Bool} {o:Vbbhak.Out} {p:Vbbhak.Pos} (h0:p.step ≠ 0) (h1:p.step≤(Vbbhak.pagesOf s o).length):(Vbbhak.sheetAt s sep o p).getD []=((Vbbhak.pagesOf s o)[p.step - 1]?).getD []:=by
 unfold Vbbhak.sheetAt
 dsimp only
 rw [if_neg h0,if_pos h1]
theorem sheet_end {s:State} {sep:Bool} {o:Vbbhak.Out} {p:Vbbhak.Pos} (h:VB.okStep (Vbbhak.pagesOf s o).length sep p.step) (h0:p.step ≠ 0) (h1:¬ p.step≤(Vbbhak.pagesOf s o).length):(Vbbhak.sheetAt s sep o p).getD []=Vbbhak.separator "END" o p.copy:=by
 unfold Vbbhak.sheetAt VB.okStep at *
 dsimp only
 rw [if_neg h0,if_neg h1]
 cases sep with
 | true =>
  have:p.step=(Vbbhak.pagesOf s o).length + 1:=by simp at h;omega
  rw [if_pos ⟨this,rfl⟩]
  rfl
 | false=>simp at h;omega
noncomputable def sp_rows_of_sheet (T:Txt K mg):Sp:=fun vs H Q _=>∃ (a pl:Addr) (tg:Tg) (s:State) (o:Vbbhak.Out) (p:Vbbhak.Pos) (sep:Bool),vs=[.ref a,.ref pl]∧Trk tg H∧OAt T tg H (Vbbhak.pagesOf s o) o a∧o.closed=true∧o.num≤999999∧o.name.length≤8∧p.copy≤999999∧SqT K H pl [.int (p.copy:Int),.int (p.step:Int)]∧VB.okStep (Vbbhak.pagesOf s o).length sep p.step ∧
 ∀ r H',Same H H'->RowsA (Fz tg H') r ((Vbbhak.sheetAt s sep o p).getD [])->Q (.ref r) H'
theorem ok_rows_of_sheet (T:Txt K mg):FO P w base 3 T.rows_of_sheet (sp_rows_of_sheet T):=by
 o_headS (1 T.rows_of_sheet.F.ok sc_rows_of_sheet)
 obtain ⟨a,pl,tg,st,o,p,sep,rfl,h⟩:=h
 o_headS (2 (pss_cons (ps_if (pt_cmpR op_eq (pe_ix ix_tup (pv 1) pe_int (fun _ _=>rfl)) pe_int (nomark _)) (pss_one (ps_ret (pcf T.separator (ok_separator T) hr (pa_cons (pe_str) (pa_cons (pv 0) (pa1 (pe_ix ix_tup (pv 1) pe_int (fun _ _=>rfl)))))))) pss_nil) (pss_cons (ps_if (pt_cmpR op_gt (pe_ix ix_tup (pv 1) pe_int (fun _ _=>rfl)) (pe_callB (r:=rLen K) call_len_seq rfl T.n_len bt_len (pa1 (pf (pv 0)))) (nomark _)) (pss_one (ps_ret (pcf T.separator (ok_separator T) hr (pa_cons (pe_str) (pa_cons (pv 0) (pa1 (pe_ix ix_tup (pv 1) pe_int (fun _ _=>rfl)))))))) pss_nil) (pss_one (ps_ret (pe_ix ix_list (pf (pv 0)) (pe_op op_sub (pe_ix ix_tup (pv 1) pe_int (fun _ _=>rfl)) pe_int) (fun _ _=>rfl)))))))
 obtain ⟨tk,⟨da,fa,O⟩,hcl,hnum,hnam,hcop,hpl,hok,h⟩:=h
 have sepd:∀ (wd:String) (wd':String),(Str.ofString wd').cps.toList.map (fun (c:Nat)=>(c:Int))=VB.vints (Vbbhak.chars wd++[32])->(Vbbhak.chars wd++[32]).length≤100->(Vbbhak.sheetAt st sep o p).getD []=Vbbhak.separator wd o p.copy->sp_separator T [.str (Str.ofString wd'),.ref a,.int (p.copy:Int)] H Q E0:=by
  intro wd wd' h1 h2 h3
  obtain ⟨nm,enm,fnm⟩:=O.name
  refine ⟨_,_,a,da,fa,nm,o.name,o.num,p.copy,rfl,h1,h2,O.ha,O.num,enm,Fz_sub _ _ fnm,by omega,hnum,hcop,fun u q1 q2 q3 H' hu hq1 hq2 hq3 s1 eu e1 e2 e3=>h u H' s1 ?_⟩
  rw [h3]
  refine ⟨[q1,q2,q3],by rw [Fz_of (tk.free hu)];exact eu,?_⟩
  refine All2.cons ?_ (All2.cons ?_ (All2.one ?_))
  ·rw [Fz_of (tk.free hq1),e1,List.append_assoc];rfl
  ·rw [Fz_of (tk.free hq2),e2]
  ·rw [Fz_of (tk.free hq3),e3]
 refine seq1 ?_
 walk_at "pq"
 refine ⟨_,hpl,_,rfl,rfl,?_⟩
 by_cases h0:p.step=0
 ·rw [if_pos (by rw [h0];rfl)]
  refine ⟨_,hpl,_,rfl,?_⟩
  exact sepd "START" "START " (by decide +kernel) (by decide +kernel) (sheet_start hok h0)
 ·rw [if_neg (fun z=>h0 (by injection z with z;omega))]
  have pg:=O.pages
  rw [hcl] at pg
  obtain ⟨g,as,eg,hpg⟩:=pg
  rw [if_pos rfl] at hpg
  obtain ⟨hg,hall⟩:=hpg
  refine seq1 ?_
  walk_at "pq"
  refine ⟨_,hpl,_,rfl,?_⟩
  rw [O.ha]
  walk_at "pq"
  rw [eg]
  walk_at "pq"
  refine ⟨_,Or.inl (SqL.of (Fz_sub _ _ hg)),?_⟩
  rw [List.length_map,hall.1]
  by_cases h1:p.step≤(Vbbhak.pagesOf st o).length
  ·rw [if_neg (by omega)]
   obtain ⟨b,hb,rb⟩:=hall.at_r (List.getElem?_eq_getElem (show p.step - 1 < (Vbbhak.pagesOf st o).length by omega))
   refine ⟨_,hpl,_,rfl,_,rfl,_,SqL.of (Fz_sub _ _ hg),V.ref b,at_of (j:=p.step - 1) (by omega) (by rw [List.getElem?_map,hb];rfl),h b H Same.rfl' ?_⟩
   rw [sheet_page h0 h1,List.getElem?_eq_getElem (show p.step - 1 < (Vbbhak.pagesOf st o).length by omega)]
   exact rb
  ·rw [if_pos (by omega)]
   refine ⟨_,hpl,_,rfl,?_⟩
   exact sepd "END" "END " (by decide +kernel) (by decide +kernel) (sheet_end hok h0 h1)
theorem RIn.putWR {T:Txt K mg} {tg:Tg} {H H':Hp} {sp:Addr} {s:State} {dx:Addr} {f:Sf} {os:List (Vbbhak.Out × Addr)} {ws:List (Vbbhak.Writer × Addr)} (R:RIn T tg H sp s dx f os ws) {i:Nat} {x x':Vbbhak.Writer} {a dy p:Addr} {g g':Wf} {ps ps':List (Addr × VEntry)} (hi:ws[i]? = some (x,a)) (W:WIn T tg H i x a dy p g ps) (ex:Ex [a,p] H H') (ha:H' a=some (WO T dy g')) (hp:H' p=some (.lst (ps'.map fun x=>V.ref x.1))) (pap:g'.paper = .ref p) (ents:x'.paper=ps'.map (·.2)) (en:∀ q ∈ ps',EntA (Fz tg H') q.1 q.2) (rel:WRel K (Fz tg H') x' g') :
  RIn T tg H' sp { s with writers:=s.writers.set i x' } dx f os (ws.set i (x',a))∧Kept tg H tg H':=by
 have mem:∀ b ∈ [a,p],∃ t,tg b=some t∧(t = .wr i∨t = .paper i):=fun b hb=>by
  rcases List.mem_cons.mp hb with rfl | hb
  ·exact ⟨_,W.ta,.inl rfl⟩
  ·rw [List.mem_singleton.mp hb];exact ⟨_,W.tp,.inr rfl⟩
 refine ⟨R.setW hi (R.trk.ex ex fun b hb=>?_) (Kp.ex R.trk ex fun b t e z m=>?_) (Fz_ex ex fun b hb=>?_) ⟨dy,p,g',ps',W.ta,W.tp,ha,hp,pap,ents,en,rel⟩,Kept.ex R.trk ex fun b hb=>?_⟩
 ·rcases List.mem_cons.mp hb with rfl | hb
  ·exact ⟨_,ha⟩
  ·rw [List.mem_singleton.mp hb];exact ⟨_,hp⟩
 ·obtain ⟨t',e',y⟩:=mem b m
  rw [e] at e'
  cases e'
  rcases y with rfl | rfl
  ·exact z.1 rfl
  ·exact z.2 rfl
 ·obtain ⟨t',e',y⟩:=mem b hb
  rw [e'];simp
 ·obtain ⟨t',e',y⟩:=mem b hb
  exact ⟨t',e',fun k z=>by rcases y with rfl | rfl <;> cases z⟩
noncomputable def sp_print_sheet (T:Txt K mg):Sp:=fun vs H Q _=>∃ sp a n tg s hd o dx f os ws,vs=[.ref sp,.ref a]∧RIn T tg H sp s dx f os ws∧VB.WF s∧Vbbhak.isWriter n=true∧ws[n.toNat - 1]? = some (writerAt s n,a)∧(writerAt s n).hand=some hd∧Vbbhak.outAt s (hd.out:Int)=some o∧VB.HandOk s (writerAt s n) hd o ∧
 ∀ H' p ws',RIn T tg H' sp (Vbbhak.printed s n hd o) dx f os ws'->ws'[n.toNat - 1]? = some (writerAt (Vbbhak.printed s n hd o) n,a)->Kept tg H tg H'->H' p=some (.lst (ivs (told 1 [[(o.num:Int),(hd.pos.copy:Int),(hd.pos.step:Int)]])))->H p=none->Q (.ref p) H'
theorem ok_print_sheet (T:Txt K mg):FO P w base 4 T.print_sheet (sp_print_sheet T):=by
 o_headS (1 T.print_sheet.F.ok sc_print_sheet)
 obtain ⟨sp,a,n,tg,st,hd,o,dx,f,os,ws,rfl,h⟩:=h
 o_headS (2 (pss_cons (pst 2 sc_print_sheet (pe_dget (hu_of hr) (pf (pv 0)) (pf (pv 1)) (fun _ _=>rfl))) (pss_cons (pst 3 sc_print_sheet (pe_ix ix_tup (pf (pv 1)) pe_int (fun _ _=>rfl))) (pss_cons (pst 4 sc_print_sheet (pe_ix ix_tup (pf (pv 1)) pe_int (fun _ _=>rfl))) (pss_cons (ps_fldaug (pv 1) pe_int in_add) (pss_cons (ps_expr (pe_bm PySem.F.plainAttrs_list PySem.F.slot_list_append PySem.F.type_list_append mt_append (pf (pv 1)) (pa1 (pe_tup (pa_cons (pf (pv 1)) (pa_cons (pf (pv 2)) (pa_cons (pv 3) (pa_cons (pv 4) (pa1 (pcf T.rows_of_sheet (ok_rows_of_sheet T) hr (pa_cons (pv 2) (pa1 (pf (pv 1)))))))))))))) (pss_one (ps_ret (pcf T.with_rows (ok_with_rows T) hr (pa_cons (pgi T.g_PRINTED) (pa1 (pe_lst (pa1 (pe_lst (pa_cons (pf (pv 2)) (pa_cons (pv 3) (pa1 (pv 4))))))))))))))))))
 obtain ⟨R,WF,hw,ha,hhd,ho,HD,h⟩:=h
 obtain ⟨dy,pp,g,ps,W⟩:=R.wat _ _ _ ha
 obtain ⟨q1,⟨pl,q2,q3⟩,_⟩:=W.rel.hand1 hd hhd
 have q3':=Same.seqT Fz_sub q3
 obtain ⟨b,e1,e2,e3⟩:=R.out_get ho
 obtain ⟨da,fa,O⟩:=R.out_at e1
 have OK:=WF.out o (R.out_mem e1)
 refine seq1 ?_
 walk_at "pq"
 rw [R.hsp]
 walk_at "pq"
 rw [W.ha]
 walk_at "pq"
 rw [q1]
 refine ⟨_,e3,seq1 ?_⟩
 walk_at "pq"
 rw [W.ha]
 walk_at "pq"
 rw [q2]
 walk_at "pq"
 refine ⟨_,q3',_,rfl,seq1 ?_⟩
 walk_at "pq"
 rw [W.ha]
 walk_at "pq"
 rw [q2]
 walk_at "pq"
 refine ⟨_,q3',_,rfl,seq1 ?_⟩
 walk_at "pq"
 rw [W.ha]
 walk_at "pq"
 have ta:=W.ta
 have fz1:Fz tg (upd H a (WO T dy { g with serial:=g.serial + 1 }))=Fz tg H:=Fz_upd (by rw [ta];simp)
 have ba:b ≠ a:=fun z=>by have:=O.ta;rw [z,ta] at this;cases this
 have pa:pp ≠ a:=ne_of W.hp W.ha (by intro z;cases z)
 have O1:OAt T tg (upd H a (WO T dy { g with serial:=g.serial + 1 })) (Vbbhak.pagesOf st o) o b:=(show OAt T tg H (Vbbhak.pagesOf st o) o b from ⟨da,fa,O⟩).frame (Kp.upd ta (by rintro (z | z | z) <;> cases z)) (by rw [fz1];exact Same.rfl')
 have tk1:Trk tg (upd H a (WO T dy { g with serial:=g.serial + 1 })):=R.trk.upd
 have ea1:upd H a (WO T dy { g with serial:=g.serial + 1 }) a=some (WO T dy { g with serial:=g.serial + 1 }):=upd_same
 have ep1:upd H a (WO T dy { g with serial:=g.serial + 1 }) pp=some (.lst (ps.map fun x=>V.ref x.1)):=by rw [upd_ne pa];exact W.hp
 have eb1:upd H a (WO T dy { g with serial:=g.serial + 1 }) b=some (OO T da fa):=by rw [upd_ne ba];exact O.ha
 have epl1:SqT K (upd H a (WO T dy { g with serial:=g.serial + 1 })) pl [.int (hd.pos.copy:Int),.int (hd.pos.step:Int)]:=by
  have:SqT K (Fz tg (upd H a (WO T dy { g with serial:=g.serial + 1 }))) pl [.int (hd.pos.copy:Int),.int (hd.pos.step:Int)]:=by rw [fz1];exact q3
  exact Same.seqT Fz_sub this
 have ex1:Ex [a,pp] H (upd H a (WO T dy { g with serial:=g.serial + 1 })):=Ex.upd (by simp)
 have fr1:∀ c,upd H a (WO T dy { g with serial:=g.serial + 1 }) c=none->H c=none:=fun c z=>(upd_none z).1
 show tSeq _ _ _ _ (upd H a (WO T dy { g with serial:=g.serial + 1 }))
 generalize upd H a (WO T dy { g with serial:=g.serial + 1 })=H1 at fz1 O1 tk1 ea1 ep1 eb1 epl1 ex1 fr1
 refine seq1 ?_
 walk_at "pq"
 rw [ea1]
 walk_at "pq"
 rw [W.pap,eb1]
 walk_at "pq"
 refine ⟨Or.inl ⟨rfl,_,SqL.of ep1⟩,?_⟩
 rw [q2]
 refine ⟨b,pl,tg,st,o,hd.pos,(writerAt st n).sep,rfl,tk1,O1,HD.closed,OK.num3,OK.name,by have:=HD.c2;have:=OK.cop2;omega,epl1,HD.ps,fun r H2 s2 hr2=>?_⟩
 intro t ht
 have s3:=same_new (o:=.tup [.int (g.serial + 1),.int fa.num,.int (hd.pos.copy:Int),.int (hd.pos.step:Int),.ref r]) ht
 have et:upd H2 t (.tup [.int (g.serial + 1),.int fa.num,.int (hd.pos.copy:Int),.int (hd.pos.step:Int),.ref r]) t=some (.tup [.int (g.serial + 1),.int fa.num,.int (hd.pos.copy:Int),.int (hd.pos.step:Int),.ref r]):=upd_same
 generalize upd H2 t (.tup [.int (g.serial + 1),.int fa.num,.int (hd.pos.copy:Int),.int (hd.pos.step:Int),.ref r])=H3 at s3 et
 have ht0:H t=none:=fr1 _ (s2.free ht)
 have tt:=R.trk.free ht0
 have s13:=s2.trans s3
 have pl5:ps.length≤5000:=by
  have:=(WF.wr _ (VB.writerAt_mem WF.len hw).1).pap1
  rw [W.ents,List.length_map] at this
  have:=WF.p2
  omega
 refine ⟨pp,_,_,rfl,rfl,s13 _ _ ep1,by rw [List.length_map];exact Nat.lt_of_le_of_lt pl5 (by decide),?_⟩
 have ex4:Ex [a,pp] H (upd H3 pp (.lst (ps.map (fun x=>V.ref x.1)++[.ref t]))):=(ex1.trans (Ex.of_same s13)).then (by simp)
 have tpp:t ≠ pp:=fun z=>by rw [z,W.hp] at ht0;cases ht0
 have ea4:upd H3 pp (.lst (ps.map (fun x=>V.ref x.1)++[.ref t])) a=some (WO T dy { g with serial:=g.serial + 1 }):=by rw [upd_ne pa.symm];exact s13 _ _ ea1
 have et4:upd H3 pp (.lst (ps.map (fun x=>V.ref x.1)++[.ref t])) t=some (.tup [.int (g.serial + 1),.int fa.num,.int (hd.pos.copy:Int),.int (hd.pos.step:Int),.ref r]):=by rw [upd_ne tpp];exact et
 have ep4:upd H3 pp (.lst (ps.map (fun x=>V.ref x.1)++[.ref t])) pp=some (.lst (ps.map (fun x=>V.ref x.1)++[.ref t])):=upd_same
 have bp:b ≠ pp:=fun z=>by have:=O.ta;rw [z,W.tp] at this;cases this
 have eb4:upd H3 pp (.lst (ps.map (fun x=>V.ref x.1)++[.ref t])) b=some (OO T da fa):=by rw [upd_ne bp];exact s13 _ _ eb1
 have hr4:RowsA (Fz tg (upd H3 pp (.lst (ps.map (fun x=>V.ref x.1)++[.ref t])))) r ((Vbbhak.sheetAt st (writerAt st n).sep o hd.pos).getD []):=by
  rw [Fz_upd (by rw [W.tp];simp)]
  exact hr2.same (Fz_same s3)
 have fr4:∀ c,upd H3 pp (.lst (ps.map (fun x=>V.ref x.1)++[.ref t])) c=none->H c=none:=fun c z=>fr1 _ (s13.free (upd_none z).1)
 generalize upd H3 pp (.lst (ps.map (fun x=>V.ref x.1)++[.ref t]))=H4 at ex4 ea4 et4 ep4 eb4 hr4 fr4 ⊢
 refine ⟨_,_,_,eb4,T.cl_Output,T.no_Output_number,_,lk_Output_number,fun l1 hl1 l2 hl2=>?_⟩
 have s5:=same_new (o:=.lst [.int fa.num,.int (hd.pos.copy:Int),.int (hd.pos.step:Int)]) hl1
 have el1:upd H4 l1 (.lst [.int fa.num,.int (hd.pos.copy:Int),.int (hd.pos.step:Int)]) l1=some (.lst (ivs [fa.num,(hd.pos.copy:Int),(hd.pos.step:Int)])):=upd_same
 have s6:=same_new (o:=.lst [.ref l1]) hl2
 refine ⟨1,l2,[l1],[[fa.num,(hd.pos.copy:Int),(hd.pos.step:Int)]],rfl,SqL.of upd_same,All2.one (s6 _ _ el1),(by show 5 < sizeLine;decide),fun u hu=>?_⟩
 have s7:=same_new (o:=.lst (ivs (told 1 [[fa.num,(hd.pos.copy:Int),(hd.pos.step:Int)]]))) hu
 have s47:=(s5.trans s6).trans s7
 have fz4:=Fz_ex (tg:=tg) ex4 (fun b hb=>by
  rcases List.mem_cons.mp hb with rfl | hb
  ·rw [W.ta];simp
  ·rw [List.mem_singleton.mp hb,W.tp];simp)
 have fz7:=Fz_same (tg:=tg) s47
 obtain ⟨r1,r2⟩:=R.putWR (x':={ writerAt st n with serial:=(writerAt st n).serial + 1,paper:=(writerAt st n).paper++[.sheet ((writerAt st n).serial + 1) o.num hd.pos.copy hd.pos.step ((Vbbhak.sheetAt st (writerAt st n).sep o hd.pos).getD [])] }) (g':={ g with serial:=g.serial + 1 }) (ps':=ps++[(t,.sheet ((writerAt st n).serial + 1) o.num hd.pos.copy hd.pos.step ((Vbbhak.sheetAt st (writerAt st n).sep o hd.pos).getD []))]) ha W (ex4.trans (Ex.of_same s47)) (s47 _ _ ea4) (by rw [s47 _ _ ep4,List.map_append];rfl) W.pap (by
   show (writerAt st n).paper++_=_
   rw [W.ents,List.map_append];rfl) (fun y hy=>by
   rcases List.mem_append.mp hy with hy | hy
   ·exact (W.en y hy).same (fz4.trans fz7)
   ·rw [List.mem_singleton.mp hy]
    refine ⟨r,?_,hr4.same fz7⟩
    rw [Fz_of tt,s47 _ _ et4,W.rel.serial,O.num]
    rfl) ⟨by show g.serial + 1=(((writerAt st n).serial + 1:Nat):Int);rw [W.rel.serial];rfl,W.rel.on,W.rel.form,W.rel.drain,W.rel.sep,W.rel.every,(W.rel.same (fz4.trans fz7)).cls,W.rel.clen,W.rel.hand0,(W.rel.same (fz4.trans fz7)).hand1⟩
 refine h _ u _ r1 ?_ r2 (by rw [upd_same,O.num]) (fr4 _ ((s5.trans s6).free hu))
 have il:n.toNat - 1 < ws.length:=(List.getElem?_eq_some_iff.mp ha).1
 rw [List.getElem?_set_self il,VB.printed_at WF hw]
end
end
section
open Vbbhak (State Call Ans step onOut onWriter setWriter writerAt)
section
variable {P:Program} {w:World} {K:PySem.W.Frag} {mg:Str->Option Value} {base:Heap}
noncomputable def sp_go_on (T:Txt K mg):Sp:=fun vs H Q _=>∃ sp a n tg s hd o dx f os ws,vs=[.ref sp,.ref a]∧RIn T tg H sp s dx f os ws∧VB.WF s∧Vbbhak.isWriter n=true∧ws[n.toNat - 1]? = some (writerAt s n,a)∧(writerAt s n).hand=some hd∧Vbbhak.outAt s (hd.out:Int)=some o∧VB.HandOk s (writerAt s n) hd o ∧
 ∀ H',Rep T tg H' sp (Vbbhak.goesOn s n hd o)->Kept tg H tg H'->Q .non H'
theorem ok_go_on (T:Txt K mg):FO P w base 4 T.go_on (sp_go_on T):=by
 o_headS (1 T.go_on.F.ok sc_go_on)
 obtain ⟨sp,a,n,tg,st,hd,o,dx,f,os,ws,rfl,h⟩:=h
 o_headS (2 (pss_cons (pst 2 sc_go_on (pe_dget (hu_of hr) (pf (pv 0)) (pf (pv 1)) (fun _ _=>rfl))) (pss_cons (pst 3 sc_go_on (pe_ix ix_tup (pf (pv 1)) pe_int (fun _ _=>rfl))) (pss_cons (pst 4 sc_go_on (pcf T.next_sheet (ok_next_sheet T) hr (pa_cons (pv 2) (pa_cons (pe_tup (pa_cons (pv 3) (pa1 (pe_op op_add (pe_ix ix_tup (pf (pv 1)) pe_int (fun _ _=>rfl)) pe_int)))) (pa1 (pf (pv 1))))))) (pss_one (ps_if (pt_val (pcm (pv 2) T.cl_Output T.Output_is_behind_end (ok_Output_is_behind_end T) hr (pa1 (pv 4)))) (pss_one (ps_expr (pcf T.hand_back (ok_hand_back T) hr (pa_cons (pv 0) (pa_cons (pv 1) (pa1 (pv 4))))))) (pss_one (ps_if (pt_cmpR op_eq (pe_ix ix_tup (pv 4) pe_int (fun _ _=>rfl)) (pv 3) (nomark _)) (pss_one (ps_expr (pcf T.go_on_in_copy (ok_go_on_in_copy T) hr (pa_cons (pv 1) (pa1 (pv 4)))))) (pss_one (ps_if (pt_val (pf (pv 1))) (pss_one (ps_expr (pcf T.hand_back (ok_hand_back T) hr (pa_cons (pv 0) (pa_cons (pv 1) (pa1 (pv 4))))))) (pss_one (ps_expr (pcm (pv 1) T.cl_Writer T.Writer_begin_copy (ok_Writer_begin_copy T) hr (pa1 (pv 4)))))))))))))))
 obtain ⟨R,WF,hw,ha,hhd,ho,HD,h⟩:=h
 obtain ⟨dy,pp,g,ps,W⟩:=R.wat _ _ _ ha
 obtain ⟨q1,⟨pl,q2,q3⟩,q4,q5,q6,q7⟩:=W.rel.hand1 hd hhd
 have q3':=Same.seqT Fz_sub q3
 obtain ⟨b,e1,e2,e3⟩:=R.out_get ho
 obtain ⟨da,fa,O⟩:=R.out_at e1
 refine seq1 ?_
 walk_at "pq"
 rw [R.hsp]
 walk_at "pq"
 rw [W.ha]
 walk_at "pq"
 rw [q1]
 refine ⟨_,e3,seq1 ?_⟩
 walk_at "pq"
 rw [W.ha]
 walk_at "pq"
 rw [q2]
 walk_at "pq"
 refine ⟨_,q3',_,rfl,seq1 ?_⟩
 walk_at "pq"
 rw [W.ha]
 walk_at "pq"
 rw [q2]
 walk_at "pq"
 refine ⟨_,q3',_,rfl,_,rfl,fun t ht=>?_⟩
 have s1:=same_new (o:=.tup [.int (hd.pos.copy:Int),.int ((hd.pos.step:Int) + 1)]) ht
 have et:upd H t (.tup [.int (hd.pos.copy:Int),.int ((hd.pos.step:Int) + 1)]) t=some (.tup [.int (hd.pos.copy:Int),.int ((hd.pos.step + 1:Nat):Int)]):=upd_same
 generalize upd H t (.tup [.int (hd.pos.copy:Int),.int ((hd.pos.step:Int) + 1)])=H1 at s1 et
 rw [s1 _ _ W.ha]
 walk_at "pq"
 rw [W.rel.sep]
 obtain ⟨gp,as,egp,hgp,hall⟩:=O.pages.read
 have esN:=settled_setN (s:=st) (sep:=(writerAt st n).sep) (o:=o) (p:=⟨hd.pos.copy,hd.pos.step + 1⟩) HD.c2
 refine ⟨b,t,da,fa,gp,_,(Vbbhak.pagesOf st o).length,o.copies,(writerAt st n).sep,⟨hd.pos.copy,hd.pos.step + 1⟩,rfl,s1 _ _ O.ha,egp,SqL.of (s1 _ _ hgp),by rw [List.length_map];exact hall.1,O.copies,SqT.of et,HD.c2,fun q H2 s2 hq2 hq2'=>?_⟩
 rw [← esN] at hq2 hq2'
 have s12:=s1.trans s2
 have hqF:=hq2 tg (R.trk.same s1) (SqT.of (by rw [Fz_of (R.trk.free ht)];exact et))
 generalize hp:Vbbhak.settled st (writerAt st n).sep o ⟨hd.pos.copy,hd.pos.step + 1⟩=p at hq2 hq2' hqF
 have R2:=R.same s12
 have W2:=W.same R.trk s12
 have k2:=Kept.same R.trk s12
 have eg:Vbbhak.goesOn st n hd o=if Vbbhak.isDone { o with pos:=p }=true then Vbbhak.letGo st n p
  else if p.copy ≠ hd.pos.copy then (if (writerAt st n).draining=true then Vbbhak.letGo st n p else setWriter st n (Vbbhak.noteHand { writerAt st n with hand:=some ⟨o.num,p,p,0,p.step⟩ }))
  else setWriter st n (if (writerAt st n).every≤hd.since + 1 then Vbbhak.noteHand { writerAt st n with hand:=some { hd with pos:=p,since:=hd.since + 1 } } else { writerAt st n with hand:=some { hd with pos:=p,since:=hd.since + 1 } }):=by
  unfold Vbbhak.goesOn
  dsimp only
  rw [hp]
 have back:Vbbhak.goesOn st n hd o=Vbbhak.letGo st n p->sp_hand_back T [.ref sp,.ref a,.ref q] H2 (fun _ H=>Q .non H) E0:=by
  intro e
  refine ⟨sp,a,q,n,tg,st,hd,p,dx,f,os,ws,rfl,R2,WF,hw,ha,hhd,hqF,fun H' r1 r2=>?_⟩
  rw [← e] at r1
  exact h H' r1 (k2.trans r2)
 walk_at "pq"
 rw [s12 _ _ O.ha]
 walk_at "pq"
 refine ⟨b,q,da,fa,_,_,rfl,s12 _ _ O.ha,hq2',_,rfl,?_⟩
 rw [O.copies]
 have ed:decide ((o.copies:Int) < (p.copy:Int))=Vbbhak.isDone { o with pos:=p }:=by unfold Vbbhak.isDone;exact decide_eq_decide.mpr (by show _ ↔ o.copies < p.copy;omega)
 rw [ed]
 by_cases hdn:Vbbhak.isDone { o with pos:=p }=true
 ·rw [if_pos hdn] at eg ⊢
  exact back eg
 ·rw [if_neg hdn] at eg ⊢
  refine ⟨_,hq2',_,rfl,rfl,?_⟩
  by_cases hc:p.copy=hd.pos.copy
  ·rw [if_neg (by simpa using hc)] at eg
   rw [if_pos (by rw [hc])]
   refine ⟨a,dy,g,.ref q,rfl,W2.ha,?_⟩
   have ev:=W2.rel.every
   have rel1:WRel K (Fz tg H2) { writerAt st n with hand:=some { hd with pos:=p,since:=hd.since + 1 } } { g with place:=.ref q,since:=g.since + 1 }:=⟨W2.rel.serial,W2.rel.on,W2.rel.form,W2.rel.drain,W2.rel.sep,W2.rel.every,W2.rel.cls,W2.rel.clen,(fun z=>by cases z),fun h' z=>by
    cases z
    exact ⟨q1,⟨q,rfl,hqF⟩,q4.same k2.fz,by show g.since + 1=((hd.since + 1:Nat):Int);omega,q6,q7⟩⟩
   by_cases hv:(writerAt st n).every≤hd.since + 1
   ·rw [if_pos hv] at eg
    rw [if_pos (by omega)]
    obtain ⟨r1,r2⟩:=R2.updW (x':=Vbbhak.noteHand { writerAt st n with hand:=some { hd with pos:=p,since:=hd.since + 1 } }) (g':=Wf.note { g with place:=.ref q,since:=g.since + 1 }) ha W2 rfl rfl (rel1.note rfl)
    exact h _ (by rw [eg];exact r1) (k2.trans r2)
   ·rw [if_neg hv] at eg
    rw [if_neg (by omega)]
    obtain ⟨r1,r2⟩:=R2.updW (x':={ writerAt st n with hand:=some { hd with pos:=p,since:=hd.since + 1 } }) (g':={ g with place:=.ref q,since:=g.since + 1 }) ha W2 rfl rfl rel1
    exact h _ (by rw [eg];exact r1) (k2.trans r2)
  ·rw [if_pos hc] at eg
   rw [if_neg (fun z=>hc (by injection z with z;omega))]
   rw [W2.ha]
   walk_at "pq"
   rw [W2.rel.drain]
   by_cases hdr:(writerAt st n).draining=true
   ·rw [if_pos hdr] at eg ⊢
    exact back eg
   ·rw [if_neg hdr] at eg ⊢
    have hqa:SqT K (upd H2 a (WO T dy { g with place:=.ref q })) q [.int (p.copy:Int),.int (p.step:Int)]:=by
     have:SqT K (Fz tg (upd H2 a (WO T dy { g with place:=.ref q }))) q [.int (p.copy:Int),.int (p.step:Int)]:=by rw [Fz_upd (by rw [W2.ta];simp)];exact hqF
     exact Same.seqT Fz_sub this
    have rel1:WRel K (Fz tg H2) (Vbbhak.noteHand { writerAt st n with hand:=some ⟨o.num,p,p,0,p.step⟩ }) { g with place:=.ref q,first:=(p.step:Int),noted:=g.serial,nplace:=.ref q,since:=0 }:=⟨W2.rel.serial,W2.rel.on,W2.rel.form,W2.rel.drain,W2.rel.sep,W2.rel.every,W2.rel.cls,W2.rel.clen,(fun z=>by cases z),fun h' z=>by
     cases z
     exact ⟨by show g.hand=(o.num:Int);rw [q1,HD.num],⟨q,rfl,hqF⟩,⟨q,rfl,hqF⟩,rfl,rfl,W2.rel.serial⟩⟩
    obtain ⟨r1,r2⟩:=R2.updW (x':=Vbbhak.noteHand { writerAt st n with hand:=some ⟨o.num,p,p,0,p.step⟩ }) (g':={ g with place:=.ref q,first:=(p.step:Int),noted:=g.serial,nplace:=.ref q,since:=0 }) ha W2 rfl rfl rel1
    exact ⟨a,dy,g,q,_,_,rfl,W2.ha,hqa,h _ (by rw [eg];exact r1) (k2.trans r2)⟩
end
end
section
open Vbbhak (State Call Ans step onOut onWriter setWriter writerAt)
theorem upto_step {α:Type} {g:α->α} {l:List α} {i:Nat} {x:α} (h:l[i]? = some x):(l.take (i + 1)).map g++l.drop (i + 1)=((l.take i).map g++l.drop i).set i (g x):=by
 have hi:i < l.length:=(List.getElem?_eq_some_iff.mp h).1
 rw [VB.take_snoc h,List.map_append,List.append_assoc,List.set_append_right _ _ (by rw [List.length_map,List.length_take];omega)]
 rw [List.length_map,List.length_take,Nat.min_eq_left (by omega),Nat.sub_self]
 have e:l.drop i=x::l.drop (i + 1):=by
  rw [List.drop_eq_getElem_cons hi]
  rw [List.getElem?_eq_getElem hi] at h
  rw [Option.some.inj h]
 rw [e]
 rfl
theorem upto_at {α:Type} {g:α->α} {l:List α} {i:Nat} {x:α} (h:l[i]? = some x):((l.take i).map g++l.drop i)[i]? = some x:=by
 have hi:i < l.length:=(List.getElem?_eq_some_iff.mp h).1
 rw [List.getElem?_append_right (by rw [List.length_map,List.length_take];omega),List.length_map,List.length_take,Nat.min_eq_left (by omega),Nat.sub_self,List.getElem?_drop]
 exact h
section
variable {P:Program} {w:World} {K:PySem.W.Frag} {mg:Str->Option Value} {base:Heap}
noncomputable def LpI (T:Txt K mg) (tg:Tg) (H:Hp) (sp:Addr) (s:State) (dx:Addr) (f:Sf) (os:List (Vbbhak.Out × Addr)) (ws:List (Vbbhak.Writer × Addr)) (i:Nat) (σ:L2.St) (H':Hp):Prop:=(∃ v,σ=[some (.ref sp),v])∧(∃ ws',RIn T tg H' sp { s with writers:=(s.writers.take i).map Vbbhak.comesBack++s.writers.drop i } dx f os ws'∧ws'.map (·.2)=ws.map (·.2))∧Kept tg H tg H'
noncomputable def sp_Spool_lose_power (T:Txt K mg):Sp:=fun vs H Q _=>∃ sp tg s,vs=[.ref sp]∧Rep T tg H sp s∧VB.WF s∧∀ H',Rep T tg H' sp (Vbbhak.power s)->Kept tg H tg H'->Q .non H'
theorem ok_Spool_lose_power (T:Txt K mg):MO P w base mg 4 T.Spool_lose_power (sp_Spool_lose_power T):=by
 o_headS (1 T.Spool_lose_power.F.ok sc_Spool_lose_power)
 obtain ⟨sp,tg,st,rfl,h⟩:=h
 o_headS (2 (pss_one (ps_for PassesOwn.never rfl (pi_list (pf (pv 0))) (pg_name (i:=1) sc_Spool_lose_power.nd rfl (Or.inl rfl)) (pss_one (ps_if (pt_cmpR op_ne (pf (pv 1)) pe_int (nomark _)) (pss_one (ps_expr (pcm0 (pv 1) T.cl_Writer T.Writer_return_to_noted (ok_Writer_return_to_noted T) hr))) pss_nil)))))
 obtain ⟨⟨dx,f,os,ws,R⟩,WF,h⟩:=h
 walk_at "pq"
 refine forL f.writers (ws.map fun p=>V.ref p.2) (LpI T tg H sp st dx f os ws) (fun R' h=>by walk_at "pq";rw [R.hsp];walk_at "pq";exact h) R.wl ⟨⟨none,rfl⟩,⟨ws,by simpa using R,rfl⟩,⟨Same.rfl',fun b k e=>⟨e,rfl⟩⟩⟩ (fun i σ H' hi z=>?_) (fun i x σ H' hi z=>?_) (fun σ H' z=>?_)
 ·obtain ⟨_,⟨ws',R',ew⟩,_⟩:=z
  have:=R'.wl
  rw [show ws'.map (fun p=>V.ref p.2)=ws.map fun p=>V.ref p.2 by
   have:=congrArg (List.map V.ref) ew
   rw [List.map_map,List.map_map] at this
   exact this] at this
  exact this
 ·obtain ⟨⟨v,rfl⟩,⟨ws',R',ew⟩,kk⟩:=z
  obtain ⟨y,hy,rfl⟩:=at_map hi
  obtain ⟨x,a⟩:=y
  have hx:st.writers[i]? = some x:=by rw [R.wrs,List.getElem?_map,hy];rfl
  have hy':ws'[i]? = some (x,a):=by
   have e1:(ws'.map (·.2))[i]? = some a:=by rw [ew,List.getElem?_map,hy];rfl
   have e2:(ws'.map (·.1))[i]? = some x:=by rw [← R'.wrs];exact upto_at hx
   rw [List.getElem?_map] at e1 e2
   cases q:ws'[i]? with
   | none=>rw [q] at e1;cases e1
   | some z =>
    rw [q] at e1 e2
    obtain ⟨z1,z2⟩:=z
    cases e1;cases e2;rfl
  obtain ⟨dy,pp,g,ps,W⟩:=R'.wat _ _ _ hy'
  have xm:x ∈ st.writers:=List.mem_of_getElem? hx
  have WX:=WF.wr x xm
  have hpos:∀ h,x.hand=some h->1≤h.out:=fun h e=>by
   obtain ⟨_,o,HO⟩:=WX.hand h e
   rw [← HO.num]
   exact (WF.out o HO.mem).num1
  have hi0:=W.rel.hand_iff hpos
  have step:∀ H2,Rep T tg H2 sp st->True:=fun _ _=>trivial
  have next:∀ (x':Vbbhak.Writer) H2,x'=Vbbhak.comesBack x->RIn T tg H2 sp { { st with writers:=(st.writers.take i).map Vbbhak.comesBack++st.writers.drop i } with writers:=((st.writers.take i).map Vbbhak.comesBack++st.writers.drop i).set i x' } dx f os (ws'.set i (x',a))->Kept tg H' tg H2->LpI T tg H sp st dx f os ws (i + 1) [some (.ref sp),some (.ref a)] H2:=by
   intro x' H2 ex r1 r2
   refine ⟨⟨_,rfl⟩,⟨ws'.set i (x',a),?_,?_⟩,kk.trans r2⟩
   ·rw [upto_step hx,← ex]
    exact r1
   ·rw [List.map_set,ew]
    apply List.ext_getElem?
    intro j
    by_cases ej:j=i
    ·subst ej
     have hl:j < ws.length:=(List.getElem?_eq_some_iff.mp hy).1
     rw [List.getElem?_set_self (by rw [List.length_map];exact hl),List.getElem?_map,hy]
     rfl
    ·rw [List.getElem?_set_ne (fun z=>ej z.symm)]
  walk_at "pq"
  rw [W.ha]
  walk_at "pq"
  cases hh:x.hand with
  | none =>
   rw [if_neg (by simpa using W.rel.hand0 hh)]
   exact next x H' (by unfold Vbbhak.comesBack;rw [hh]) (R'.setW hy' R'.trk (fun b t e _=>⟨e,rfl⟩) Same.rfl' (R'.wat _ _ _ hy')) ⟨Same.rfl',fun b k e=>⟨e,rfl⟩⟩
  | some hd =>
   have hn0:¬ g.hand=0:=fun z=>by rw [hi0,hh] at z;cases z
   rw [if_pos hn0]
   obtain ⟨q1,q2,q3,q4,q5,q6⟩:=W.rel.hand1 hd hh
   have ecb:Vbbhak.comesBack x={ Vbbhak.marked x x.noted with hand:=some { hd with pos:=hd.noted,since:=0 },serial:=x.noted }:=by unfold Vbbhak.comesBack;rw [hh]
   have pl5:ps.length≤5000:=by
    have:=WX.pap1
    rw [W.ents,List.length_map] at this
    have:=WF.p2
    omega
   have pa:pp ≠ a:=ne_of W.hp W.ha (by intro z;cases z)
   have emk:Vbbhak.marked x x.noted=if (x.paper.getLast?).any Vbbhak.isMark=true then x else { x with paper:=x.paper++[.mark x.noted] }:=rfl
   have rel1:∀ F,Same (Fz tg H') F->∀ pg,WRel K F { x with hand:=some { hd with pos:=hd.noted,since:=0 },serial:=x.noted,paper:=pg } { g with place:=g.nplace,serial:=g.noted,since:=0 }:=fun F sF pg=>⟨q6,W.rel.on,W.rel.form,W.rel.drain,W.rel.sep,W.rel.every,(W.rel.same sF).cls,W.rel.clen,(fun z=>by cases z),fun h' z=>by
    cases z
    exact ⟨q1,q3.same sF,q3.same sF,rfl,q5,q6⟩⟩
   refine ⟨a,dy,g,pp,_,rfl,W.ha,W.pap,W.hp,by rw [List.length_map];exact Nat.lt_of_le_of_lt pl5 (by decide),(x.paper.getLast?).any Vbbhak.isMark,?_,fun hb=>?_,fun hb t H2 ht e't e'p e'a ex=>?_⟩
   ·rcases List.eq_nil_or_concat ps with rfl | ⟨ps',y,rfl⟩
    ·refine .inl ⟨rfl,?_⟩
     rw [W.ents];rfl
    ·rw [List.concat_eq_append] at *
     refine .inr ?_
     obtain ⟨r,er⟩:=(W.en y (by simp)).tup
     refine ⟨ps'.map (fun x=>V.ref x.1),y.1,entV y.2 r,by rw [List.map_append];rfl,SqT.of (Fz_sub _ _ er),fun H2 ex=>SqT.of (ex _ _ (Fz_sub _ _ er) (by
      rw [List.mem_singleton]
      exact ne_of (Fz_sub _ _ er) W.ha (by intro z;cases z))),?_⟩
     rw [entV_mark,W.ents,List.map_append]
     simp
   ·rw [emk,if_pos hb] at ecb
    have ex:Ex [a,pp] H' (upd H' a (WO T dy { g with place:=g.nplace,serial:=g.noted,since:=0 })):=Ex.upd (by simp)
    have fz:Fz tg (upd H' a (WO T dy { g with place:=g.nplace,serial:=g.noted,since:=0 }))=Fz tg H':=Fz_upd (by rw [W.ta];simp)
    obtain ⟨r1,r2⟩:=R'.putWR (x':={ x with hand:=some { hd with pos:=hd.noted,since:=0 },serial:=x.noted }) (g':={ g with place:=g.nplace,serial:=g.noted,since:=0 }) (ps':=ps) hy' W ex upd_same (by rw [upd_ne pa];exact W.hp) W.pap W.ents (fun q hq=>by rw [fz];exact W.en q hq) (rel1 _ (by rw [fz];exact Same.rfl') x.paper)
    exact next _ _ ecb.symm r1 r2
   ·rw [emk,if_neg (by rw [hb];decide)] at ecb
    have fz:=Fz_ex (tg:=tg) ex (fun b hb=>by
     rcases List.mem_cons.mp hb with rfl | hb
     ·rw [W.ta];simp
     ·rw [List.mem_singleton.mp hb,W.tp];simp)
    obtain ⟨r1,r2⟩:=R'.putWR (x':={ x with hand:=some { hd with pos:=hd.noted,since:=0 },serial:=x.noted,paper:=x.paper++[.mark x.noted] }) (g':={ g with place:=g.nplace,serial:=g.noted,since:=0 }) (ps':=ps++[(t,.mark x.noted)]) hy' W ex e'a (by rw [e'p,List.map_append];rfl) W.pap (by
     show x.paper++_=_
     rw [W.ents,List.map_append];rfl) (fun q hq=>by
     rcases List.mem_append.mp hq with hq | hq
     ·exact (W.en q hq).same fz
     ·rw [List.mem_singleton.mp hq]
      show Fz tg H2 t=some (.tup [.int _])
      rw [Fz_of (R'.trk.free ht),e't,q6]) (rel1 _ fz _)
    exact next _ _ ecb.symm r1 r2
 ·obtain ⟨⟨v,rfl⟩,⟨ws',R',ew⟩,kk⟩:=z
  rw [List.length_map] at R'
  have hl:ws.length=st.writers.length:=by rw [R.wrs,List.length_map]
  rw [hl,List.take_length,List.drop_length,List.append_nil] at R'
  exact h H' ⟨_,_,_,_,R'⟩ kk
noncomputable def sp_power (T:Txt K mg):Sp:=fun vs H Q _=>∃ sp tg s,vs=[.ref sp]∧QSp T tg H sp s .power Q
theorem ok_power (T:Txt K mg):FO P w base 5 T.power (sp_power T):=by
 o_headS (1 T.power.F.ok sc_power)
 obtain ⟨sp,tg,st,rfl,h⟩:=h
 o_headS (2 (pss_cons (ps_expr (pcm0 (pv 0) T.cl_Spool T.Spool_lose_power (ok_Spool_lose_power T) hr)) (prl pe_int)))
 refine seq1 ?_
 walk_at "pq"
 obtain ⟨dx,f,os,ws,R⟩:=h.1
 refine ⟨_,_,R.hsp,rfl,sp,tg,st,rfl,h.1,h.2.1,fun H' r1 r2=>?_⟩
 exact h.done (show step st .power=_ from rfl) r1 r2
noncomputable def sp_cut_turn (T:Txt K mg):Sp:=fun vs H Q _=>∃ sp a n tg s dx f os ws,vs=[.ref sp,.ref a]∧RIn T tg H sp s dx f os ws∧VB.WF s∧Vbbhak.isWriter n=true∧ws[n.toNat - 1]? = some (writerAt s n,a) ∧
 ∀ H' p,Rep T tg H' sp (Vbbhak.doCut s n (writerAt s n)).1->Kept tg H tg H'->H' p=some (.lst (ivs (VB.flat (Vbbhak.doCut s n (writerAt s n)).2)))->tg p=none->Q (.ref p) H'
theorem roomy_iff {T:Txt K mg} {tg:Tg} {H:Hp} {i:Nat} {x:Vbbhak.Writer} {a dy p:Addr} {g:Wf} {ps:List (Addr × VEntry)} (W:WIn T tg H i x a dy p g ps) (s:State):Vbbhak.roomy s x=false ↔ (s.sheets:Int) - 2 < (ps.length:Int):=by
 unfold Vbbhak.roomy
 rw [W.ents,List.length_map]
 simp
 omega
theorem ok_cut_turn (T:Txt K mg):FO P w base 5 T.cut_turn (sp_cut_turn T):=by
 o_headS (1 T.cut_turn.F.ok sc_cut_turn)
 obtain ⟨sp,a,n,tg,st,dx,f,os,ws,rfl,h⟩:=h
 o_headS (2 (pss_cons (pst 2 sc_cut_turn (pe_lst (pa1 (pgi T.g_NOTHING_PRINTED)))) (pss_cons (ps_if (pt_cmpR op_ne (pf (pv 1)) pe_int (nomark _)) (pss_cons (ps_if (pt_val (pcf T.is_paper_full (ok_is_paper_full T) hr (pa_cons (pv 0) (pa1 (pv 1))))) (prg T.g_NO_ROOM) pss_nil) (pss_one (pst 2 sc_cut_turn (pcf T.print_sheet (ok_print_sheet T) hr (pa_cons (pv 0) (pa1 (pv 1))))))) pss_nil) (pss_cons (ps_expr (pcm0 (pv 0) T.cl_Spool T.Spool_lose_power (ok_Spool_lose_power T) hr)) (pss_one (ps_ret (pv 2)))))))
 obtain ⟨R,WF,hw,ha,h⟩:=h
 obtain ⟨dy,pp,g,ps,W⟩:=R.wat _ _ _ ha
 refine seq1 ?_
 walk_at "pq"
 intro l hl
 have s1:=same_new (o:=.lst [.int 0]) hl
 have el:upd H l (.lst [.int 0]) l=some (.lst [.int 0]):=upd_same
 have fr:∀ c,upd H l (.lst [.int 0]) c=none->H c=none:=fun c z=>(upd_none z).1
 generalize upd H l (.lst [.int 0])=H1 at s1 el fr
 have R1:=R.same s1
 have W1:=W.same R.trk s1
 have tl:=R.trk.free hl
 refine seq1 ?_
 walk_at "pq"
 rw [W1.ha]
 walk_at "pq"
 have hi0:=W.rel.hand_iff (hand_pos WF hw)
 cases hh:(writerAt st n).hand with
 | none =>
  have ec:Vbbhak.doCut st n (writerAt st n)=Vbbhak.yes (Vbbhak.power st) 0:=by
   unfold Vbbhak.doCut
   have:∀ h o,Vbbhak.turnOf st (writerAt st n) ≠ .prints h o∧Vbbhak.turnOf st (writerAt st n) ≠ .full:=by
    intro h o
    unfold Vbbhak.turnOf
    rw [hh]
    dsimp only
    split
    ·exact ⟨by simp,by simp⟩
    ·split <;> exact ⟨by simp,by simp⟩
   split
   ·rename_i e;exact absurd e (this ⟨0,⟨0,0⟩,⟨0,0⟩,0,0⟩ { num:=0,name:=[],cls:=0,form:=0,prio:=0,copies:=0,held:=false }).2
   ·rename_i h' o' e;exact absurd e (this h' o').1
   ·rfl
  rw [if_neg (by simpa using W.rel.hand0 hh)]
  refine seq1 ?_
  walk_at "pq"
  refine ⟨_,_,R1.hsp,rfl,sp,tg,st,rfl,⟨_,_,_,_,R1⟩,WF,fun H' r1 r2=>?_⟩
  refine h H' l (by rw [ec];exact r1) ((Kept.same R.trk s1).trans r2) ?_ tl
  rw [ec]
  exact Fz_sub _ _ (r2.fz _ _ (by rw [Fz_of tl];exact el))
 | some hd =>
  obtain ⟨o,ho,HD⟩:=VB.hand_out WF hw hh
  have hn0:¬ g.hand=0:=fun z=>by rw [hi0,hh] at z;cases z
  rw [if_pos hn0]
  refine seq1 ?_
  walk_at "pq"
  refine ⟨sp,a,dx,f,dy,g,pp,_,rfl,R1.hsp,W1.ha,W1.pap,W1.hp,_,rfl,?_⟩
  rw [R.room,List.length_map]
  have hroom:=roomy_iff W st
  have et:Vbbhak.turnOf st (writerAt st n)=if Vbbhak.roomy st (writerAt st n)=true then .prints hd o else .full:=by
   unfold Vbbhak.turnOf
   rw [hh]
   dsimp only
   rw [ho]
  by_cases hr:Vbbhak.roomy st (writerAt st n)=false
  ·rw [if_pos (decide_eq_true (hroom.mp hr))]
   rw [if_neg (by rw [hr];decide)] at et
   have ec:Vbbhak.doCut st n (writerAt st n)=Vbbhak.no st 8:=by unfold Vbbhak.doCut;rw [et]
   intro u hu
   refine h _ u ?_ ((Kept.same R.trk s1).trans (Kept.same R1.trk (same_new hu))) (by rw [upd_same,ec];rfl) (R1.trk.free hu)
   rw [ec]
   exact ⟨_,_,_,_,R1.same (same_new hu)⟩
  ·rw [if_neg (by rw [decide_eq_true_eq];exact fun z=>hr (hroom.mpr z))]
   rw [if_pos (by simpa using hr)] at et
   have ec:Vbbhak.doCut st n (writerAt st n)=Vbbhak.yes (Vbbhak.power (Vbbhak.printed st n hd o)) 1 [[o.num,hd.pos.copy,hd.pos.step]]:=by unfold Vbbhak.doCut;rw [et]
   refine ⟨sp,a,n,tg,st,hd,o,dx,f,os,ws,rfl,R1,WF,hw,ha,hh,ho,HD,fun H2 u ws' R2 _ k2 eu fu=>seq1 ?_⟩
   walk_at "pq"
   have tu:=R1.trk.free fu
   refine ⟨_,_,R2.hsp,rfl,sp,tg,_,rfl,⟨_,_,_,_,R2⟩,VB.wf_printed WF hw hh HD (by simpa using hr),fun H3 r1 r2=>?_⟩
   refine h H3 u (by rw [ec];exact r1) (((Kept.same R.trk s1).trans k2).trans r2) ?_ tu
   rw [ec]
   exact Fz_sub _ _ (r2.fz _ _ (by rw [Fz_of tu];exact eu))
noncomputable def sp_cut (T:Txt K mg):Sp:=fun vs H Q _=>∃ sp n tg s,vs=[.ref sp,.int n]∧QSp T tg H sp s (.cut n) Q
theorem ok_cut (T:Txt K mg):FO P w base 6 T.cut (sp_cut T):=by
 o_headS (1 T.cut.F.ok sc_cut)
 obtain ⟨sp,n,tg,st,rfl,h⟩:=h
 o_headS (2 (pss_cons (pst 2 sc_cut (pcf T.writer_refusal (ok_writer_refusal T) hr (pa_cons (pv 0) (pa1 (pv 1))))) (pss_cons (ps_if (pt_cmpR op_ne (pv 2) pe_int (nomark _)) (prl (pv 2)) pss_nil) (pss_one (ps_ret (pcf T.cut_turn (ok_cut_turn T) hr (pa_cons (pv 0) (pa1 (pcm (pv 0) T.cl_Spool T.Spool_writer_at (ok_Spool_writer_at T) hr (pa1 (pv 1)))))))))))
 refine seq1 ?_
 walk_at "pq"
 refine ⟨sp,n,tg,st,rfl,h.1,h.2.1,seq1 ?_⟩
 walk_at "pq"
 rcases onWriter_cases st n with ⟨h1,h2⟩ | ⟨h1,hw,hon,h3⟩
 ·rw [if_pos h1]
  exact h.one (h2 _) Same.rfl'
 ·rw [if_neg (by simpa using h1)]
  have e0:step st (.cut n)=_:=h3 fun x=>Vbbhak.doCut st n x
  obtain ⟨dx,f,os,ws,R⟩:=h.1
  rw [R.hsp]
  walk_at "pq"
  refine go_writer_at R h.2.1.len hw fun a ha=>?_
  refine ⟨sp,a,n,tg,st,dx,f,os,ws,rfl,R,h.2.1,hw,ha,fun H' p r1 r2 e t=>?_⟩
  exact h.2.2 tg H' p (by rw [e0];exact r1) r2 (by rw [e0];exact e) t
end
end
section
open Vbbhak (State Call Ans step onOut onWriter setWriter writerAt)
section
variable {P:Program} {w:World} {K:PySem.W.Frag} {mg:Str->Option Value} {base:Heap} [BOk mg base]
noncomputable def waits (s:State) (o:Vbbhak.Out):Bool:=o.closed && (!o.held && (!Vbbhak.isDone o && !Vbbhak.inHand s o.num))
structure SameL (T:Txt K mg) (tg:Tg) (H H':Hp):Prop where
 old:∀ b o,b ≠ T.a_LAM->H b=some o->H' b=some o
 lam:LamR T tg H'
section
variable {T:Txt K mg} {tg:Tg} {H H1 H':Hp} {sp:Addr} {s:State} {dx:Addr} {f:Sf} {os:List (Vbbhak.Out × Addr)} {ws:List (Vbbhak.Writer × Addr)}
theorem LamR.some (h:LamR T tg H):∃ o,H T.a_LAM=some o:=by
 obtain ⟨_,h | ⟨c,h,_⟩⟩:=h
 ·exact ⟨_,h⟩
 ·exact ⟨_,h⟩
theorem SameL.kp (x:SameL T tg H H') (tk:Trk tg H):Kp tg H tg H' fun t=>t ≠ .lam:=fun b t e z=>by
 obtain ⟨o,y⟩:=tk b t e
 exact ⟨e,by rw [y];exact x.old _ _ (fun q=>by rw [q,x.lam.1] at e;cases e;exact z rfl) y⟩
theorem SameL.fz (x:SameL T tg H H'):Same (Fz tg H) (Fz tg H'):=fun b o e=>by
 obtain ⟨z1,z2⟩:=Fz_some e
 rw [Fz_of z1]
 exact x.old _ _ (fun q=>by rw [q,x.lam.1] at z1;cases z1) z2
theorem SameL.rin (x:SameL T tg H H') (R:RIn T tg H sp s dx f os ws):RIn T tg H' sp s dx f os ws:=by
 have k:∀ p:Tag->Prop,¬ p .lam->Kp tg H tg H' p:=fun p hp b t e z=>x.kp R.trk b t e (fun y=>hp (y ▸ z))
 refine ⟨fun b t e=>?_,R.tsp,x.lam,(x.kp R.trk _ _ R.tsp (by simp)).2.trans R.hsp,R.most,R.cap,R.room,R.last,R.nle,R.tod,(x.kp R.trk _ _ R.tod (by simp)).2.trans R.hod,R.outs,fun p hp=>(R.oat p hp).frame (k _ (by simp)) x.fz,x.fz _ _ R.hwl,R.wrs,fun i y a z=>(R.wat i y a z).frame (k _ (by simp)) x.fz⟩
 by_cases q:b=T.a_LAM
 ·rw [q];exact x.lam.some
 ·obtain ⟨o,y⟩:=R.trk b t e
  exact ⟨o,x.old _ _ q y⟩
theorem SameL.kept (x:SameL T tg H H') (tk:Trk tg H):Kept tg H tg H':=⟨x.fz,fun b k e=>x.kp tk b _ e (by simp)⟩
theorem SameL.tr (x:SameL T tg H H1) (e:Same H1 H'):SameL T tg H H':=⟨fun b o n q=>e _ _ (x.old b o n q),by
 obtain ⟨h1,h2⟩:=x.lam
 refine ⟨h1,?_⟩
 rcases h2 with h2 | ⟨c,h2,h3⟩
 ·exact .inl (e _ _ h2)
 ·exact .inr ⟨c,e _ _ h2,Fz_same e _ _ h3⟩⟩
theorem SameL.free (x:SameL T tg H H') {b:Addr} (h:H' b=none):H b=none:=by
 cases e:H b with
 | none=>rfl
 | some o =>
  by_cases q:b=T.a_LAM
  ·obtain ⟨u,y⟩:=x.lam.some
   rw [q,y] at h;cases h
  ·rw [x.old _ _ q e] at h;cases h
theorem SameL.win (x:SameL T tg H H') (tk:Trk tg H) {i:Nat} {y:Vbbhak.Writer} {a dx p:Addr} {f:Wf} {ps:List (Addr × VEntry)} (h:WIn T tg H i y a dx p f ps):WIn T tg H' i y a dx p f ps:=
 h.frame (fun b t e z=>x.kp tk b t e (by rcases z with rfl | rfl <;> simp)) x.fz
end
theorem perm_of_map {α β:Type} {F:α->β} {l:List α} {ps:List β} (h:ps.Perm (l.map F)):∃ qs:List α,qs.Perm l∧ps=qs.map F:=by
 have p0:∀ l:List α,Paired (fun a b=>b=F a) l (l.map F):=fun l=>by
  induction l with
  | nil=>exact .nil
  | cons a l ih=>exact .cons rfl ih
 obtain ⟨qs,h1,h2⟩:=paired_perm h.symm (p0 l)
 refine ⟨qs,h1,?_⟩
 clear h1 h
 induction h2 with
 | nil=>rfl
 | cons a _ ih=>rw [a,ih];rfl
theorem lc_vals {d:Addr} {od:Obj} {kvs:List (Key × V)} {g:TG} {tt:TT} {te:TE} {vs:List Nat} {σ:L2.St} {H1:Hp} {D:Addr} {Qd:Hp->Prop} (Pv:Nat->Hp->Prop) (h0:Pv 0 (upd H1 D (.lst []))) (hl:∀ i H,i≤kvs.length->Pv i H->H d=some (.frz od (.dK kvs)))
  (hs:∀ i k x H,kvs[i]? = some (k,x)->Pv i H->g x (wipe σ vs) H fun σ2 H2=>wipe σ2 vs=wipe σ vs∧tt σ2 H2 fun b H3 =>
   if b=true then te σ2 H3 fun y H4=>∃ acc,H4 D=some (.lst acc)∧acc.length < sizeLine∧Pv (i + 1) (upd H4 D (.lst (acc++[y]))) else Pv (i + 1) H3) (hd:∀ H,Pv kvs.length H->Qd H) :
  ∃ W:Nat->Nat->Hp->Prop,(∃ m,W 0 m (upd H1 D (.lst [])))∧∀ i m H,W i m H →
   ((Itd d od kvs).stop i H∧Qd H)∨((Itd d od kvs).go i H∧∃ Nx:Hp->Prop,(∀ H',Nx H'->∃ m',m' < m∧W (i + 1) m' H')∧∀ x H',(Itd d od kvs).yld i H x H'->g x (wipe σ vs) H' fun σ2 H2=>wipe σ2 vs=wipe σ vs∧tt σ2 H2 fun b H3 =>
    if b=true then te σ2 H3 fun y H4=>∃ acc,H4 D=some (.lst acc)∧acc.length < sizeLine∧Nx (upd H4 D (.lst (acc++[y]))) else Nx H3):=by
 refine ⟨fun i m H=>m=kvs.length - i∧i≤kvs.length∧Pv i H,⟨kvs.length,by simp,Nat.zero_le _,h0⟩,?_⟩
 rintro i m H ⟨rfl,hi,p⟩
 have q:=hl i H hi p
 by_cases hlt:i < kvs.length
 ·refine .inr ⟨⟨q,hlt⟩,Pv (i + 1),fun H' p'=>⟨kvs.length - (i + 1),by omega,rfl,hlt,p'⟩,fun x H' y=>?_⟩
  obtain ⟨e,k,y⟩:=y
  subst e
  exact hs i k x _ y p
 ·have e:i=kvs.length:=by omega
  subst e
  exact .inl ⟨⟨q,Nat.le_refl _⟩,hd H p⟩
theorem fun_okC {x qual:Str} {st:Stmt} {f:Addr} {fd:FuncData} {N ps:List Str} {k:Nat} {sp:Sp} {c:Addr} (F:Fun K x qual st f fd) (S:FnScope N ps (defScope st)) (len:∀ vs H Q E,sp vs H Q E->vs.length=ps.length) (hc:fd.code = .ref c)
  (hbody:∀ (A:Around) (outer:List Env) (s:Shared) (H:Hp) (vs:List V) (Q:VK) (E:XK),Room k (A.deeper (envOfC qual (defScope st) s.heap.objs.size f (.ref c)))->sp vs H Q E →
   ∃ t,PSs (cxOf CX0 P w K mg base N qual (defScope st) f (.ref c) A outer s H E).nox (defBody st) t∧t { nx:=fun _ H'=>Q .non H',rt:=Q } (start N vs) H):FnOk P w K mg base CX0 (k + 1) f fd ps sp:=by
 obtain ⟨oc,od,kV,doc,pm,an,cdv,ct,osl,rfl,lk,hcd⟩:=F.ex
 obtain rfl:cdv = .ref c:=hc
 refine fn_of lk hcd S len fun A outer s H vs Q E hr hsp=>?_
 obtain ⟨t,h,q⟩:=hbody A outer s H vs Q E hr hsp
 exact ⟨t,h.nox,q⟩
noncomputable def lamTr (K:PySem.W.Frag):TE:=tTup (tCons (tUn (rU fun i=>.int (-i)) (tFld K (tVar 0) "priority")) (tCons (tFld K (tVar 0) "number") tNil))
noncomputable def tr_Spool_waiting_outputs (T:Txt K mg) (sp_Spool_is_waiting:Sp):TS:=tSeq (tLock (tAsg (tLc (iVals (tFld K (tVar 0) "outputs")) (gName 2) (tB (tMeth T.c_Spool "is_waiting" sp_Spool_is_waiting [] E0 (tVar 0) (tCons (tVar 2) tNil))) (tVar 2) [2]) (gName 1)))
  (tRet (tSL K lamPos lamQ T.a_LAM ["output"] (lamTr K) (tVar 1)))
theorem tm_Spool_waiting_outputs (T:Txt K mg) {sp_Spool_is_waiting:Sp} (G_Spool_is_waiting:FnOk P w K mg base CX0 3 T.Spool_is_waiting.f T.Spool_is_waiting.fd ["self","output"] sp_Spool_is_waiting) {A:Around} {outer:List Env} {s:Shared} {H:Hp} {E:XK} (hr:Room 3 (A.deeper (envOfC "Spool.waiting_outputs" (defScope s_Spool_waiting_outputs) s.heap.objs.size T.Spool_waiting_outputs.f (.ref T.c_LAM)))) :
  PSs (cxOf CX0 P w K mg base ["self","waiting","output"] "Spool.waiting_outputs" (defScope s_Spool_waiting_outputs) T.Spool_waiting_outputs.f (.ref T.c_LAM) A outer s H E).nox (defBody s_Spool_waiting_outputs) (tr_Spool_waiting_outputs T sp_Spool_is_waiting):=
 pss_cons (ps_lock (ps_setLc (i:=1) rfl sc_Spool_waiting_outputs.nd rfl rfl (sw_true rfl rfl rfl (by decide +kernel)) (pi_values (pf (pv 0))) (own:=[("output",2)]) (blkOk_by (N:=["self","waiting","output"]) (sc:=defScope s_Spool_waiting_outputs) (by decide +kernel)) (fun _ _ _ _ _=>pg_name (i:=2) sc_Spool_waiting_outputs.nd rfl (Or.inl rfl)) (fun _ _ _ _ _=>pts_one (pt_val (pe_meth (pv 0) T.cl_Spool T.Spool_is_waiting.me G_Spool_is_waiting hr T.Spool_is_waiting.b .nil pass0 (pa1 (pv 2))))) (fun _ _ _ _ _=>pv 2)))
   (pss_one (ps_ret (pe_sortedLam (N:=["output"]) (pn := "output") hr (show BOk mg base from inferInstance) rfl T.n_sorted rfl T.lam_hd rfl rfl ⟨rfl,rfl,rfl,by decide +kernel,rfl,by decide +kernel,by decide +kernel⟩ (fun _ _ _ _=>rfl) (pv 1)
    (fun _ _ _ _ _ _=>pe_tup (pa_cons (pe_un un_neg (pf (pv 0))) (pa1 (pf (pv 0))))))))
noncomputable def sp_Spool_waiting_outputs (T:Txt K mg):Sp:=fun vs H Q _=>∃ sp tg s dx f os ws,vs=[.ref sp]∧RIn T tg H sp s dx f os ws∧VB.WF s ∧
 ∀ D (qs:List (Vbbhak.Out × Addr)) H',H D=none->SameL T tg H H'->H' D=some (.lst (qs.map fun q=>V.ref q.2))->qs.map (·.1)=VB.ord (s.outs.filter (waits s))->(∀ q ∈ qs,q ∈ os)->Q (.ref D) H'
theorem ok_Spool_waiting_outputs (T:Txt K mg):MO P w base mg 4 T.Spool_waiting_outputs (sp_Spool_waiting_outputs T):=by
 refine fun_okC T.Spool_waiting_outputs.F sc_Spool_waiting_outputs (fun vs H Q E h=>?_) T.lam_code (fun A outer s H vs Q E hr h=>⟨_,tm_Spool_waiting_outputs T (ok_Spool_is_waiting T) hr,?_⟩)
 ·obtain ⟨sp,tg,st,dx,f,os,ws,rfl,_⟩:=h;rfl
 ·obtain ⟨sp,tg,st,dx,f,os,ws,rfl,R,WF,h⟩:=h
  simp only [tr_Spool_waiting_outputs]
  have spo:sp ≠ f.outs:=fun z=>by have:=R.tsp;rw [z,R.tod] at this;cases this
  have few:os.length≤200:=by
   have h1:=congrArg List.length R.outs
   rw [List.length_map] at h1
   have:=WF.few
   have:=WF.c2
   omega
  refine seq1 ⟨f.outs,_,R.hod,trivial,fun od=>?_⟩
  have hso:∀ b o,H b=some o->b ≠ f.outs->upd H f.outs (.frz od (.dK (os.map fun p=>((Sum.inl (p.1.num:Int):Key),V.ref p.2)))) b=some o:=fun b o e n=>by rw [upd_ne n];exact e
  have hfz:upd H f.outs (.frz od (.dK (os.map fun p=>((Sum.inl (p.1.num:Int):Key),V.ref p.2)))) f.outs=some (.frz od (.dK (os.map fun p=>((Sum.inl (p.1.num:Int):Key),V.ref p.2)))):=upd_same
  have back:∀ b o,b ≠ f.outs->upd H f.outs (.frz od (.dK (os.map fun p=>((Sum.inl (p.1.num:Int):Key),V.ref p.2)))) b=some o->H b=some o:=fun b o n e=>by rw [upd_ne n] at e;exact e
  generalize upd H f.outs (.frz od (.dK (os.map fun p=>((Sum.inl (p.1.num:Int):Key),V.ref p.2))))=Hd at hso hfz back
  have hspd:Hd sp=some (SO T dx f):=hso _ _ R.hsp spo
  refine ⟨_,rfl,sp,_,dx,_,_,rfl,hspd,T.cl_Spool,T.no_Spool_outputs,lk_Spool_outputs,f.outs,od,_,rfl,hfz,fun D hD=>?_⟩
  refine lc_vals (fun i H'=>LcI Hd D (fun i=>((os.take i).filter fun q=>waits st q.1).map fun q=>V.ref q.2) i H') (lc_start hD rfl) (fun i H' _ p=>p.1 _ _ hfz) (fun i k x H' hi p=>?_) (fun H' p=>?_)
  ·obtain ⟨q,hq,e⟩:∃ q,os[i]? = some q∧x=V.ref q.2:=by
    rw [List.getElem?_map] at hi
    cases z:os[i]? with
    | none=>rw [z] at hi;cases hi
    | some q=>rw [z] at hi;cases hi;exact ⟨q,rfl,rfl⟩
   subst e
   have hqm:=List.mem_of_getElem? hq
   walk_at "pq"
   rw [p.1 _ _ hspd]
   walk_at "pq"
   refine ⟨sp,q.2,tg,st,_,q.1,H,rfl,⟨dx,f,os,ws,R⟩,fun b t e z=>?_,fun b o e=>?_,WF,R.oat q hqm,(WF.out _ (by rw [R.outs];exact List.mem_map.mpr ⟨_,hqm,rfl⟩)).num1,fun H2 s2=>?_⟩
   ·obtain ⟨y,hy⟩:=R.trk b t e
    exact ⟨e,by rw [hy];exact p.1 _ _ (hso _ _ hy (fun q=>by rw [q,R.tod] at e;cases e;exact z rfl))⟩
   ·obtain ⟨z1,z2⟩:=Fz_some e
    rw [Fz_of z1]
    exact p.1 _ _ (hso _ _ z2 (fun q=>by rw [q,R.tod] at z1;cases z1))
   ·refine ⟨_,rfl,?_⟩
    show if waits st q.1=true then _ else _
    by_cases hw:waits st q.1=true
    ·rw [if_pos hw]
     refine lc_put p hD s2 ?_ ?_
     ·rw [List.length_map]
      have:=List.length_filter_le (fun q:Vbbhak.Out × Addr=>waits st q.1) (os.take i)
      rw [List.length_take] at this
      have:(1000:Nat) < sizeLine:=by decide
      omega
     ·rw [VB.take_snoc hq,List.filter_append,List.filter_cons,if_pos hw,List.map_append]
      rfl
    ·rw [if_neg hw]
     refine lc_skip p s2 ?_
     rw [VB.take_snoc hq,List.filter_append,List.filter_cons,if_neg hw,List.filter_nil,List.append_nil]
  ·obtain ⟨p1,p2⟩:=p
   simp only [List.length_map,List.take_length] at p2
   have Do:D ≠ f.outs:=fun z=>by rw [z,hfz] at hD;cases hD
   refine ⟨p1 _ _ hfz,?_⟩
   have sH:Same H (upd H' f.outs (.dK (os.map fun p=>((Sum.inl (p.1.num:Int):Key),V.ref p.2)))):=fun b o e=>by
    by_cases z:b=f.outs
    ·rw [z,R.hod] at e
     rw [z,upd_same];exact e
    ·rw [upd_ne z];exact p1 _ _ (hso _ _ e z)
   have hD2:upd H' f.outs (.dK (os.map fun p=>((Sum.inl (p.1.num:Int):Key),V.ref p.2))) D=some (.lst ((os.filter fun q=>waits st q.1).map fun q=>V.ref q.2)):=by rw [upd_ne Do];exact p2
   generalize upd H' f.outs (.dK (os.map fun p=>((Sum.inl (p.1.num:Int):Key),V.ref p.2)))=H2 at sH hD2
   have R2:=R.same sH
   refine ⟨_,rfl,D,(os.filter fun q=>waits st q.1).map (·.2),(os.filter fun q=>waits st q.1).map (fun p=>(-(p.1.prio:Int),(p.1.num:Int))),rfl,SqL.of (by rw [List.map_map];exact hD2),R2.lam.lamT,by rw [List.length_map,List.length_map],fun i a k hi hk H3 old=>?_,fun D2 H3 ps c hD3 old ld lo e3 so=>?_⟩
   ·rw [List.getElem?_map] at hi hk
    cases z:(os.filter fun q=>waits st q.1)[i]? with
    | none=>rw [z] at hi;cases hi
    | some q =>
     rw [z] at hi hk
     cases hi
     cases hk
     have hqm:q ∈ os:=(List.mem_filter.mp (List.mem_of_getElem? z)).1
     obtain ⟨da,fa,O⟩:=R2.oat q hqm
     have ha:H3 q.2=some (OO T da fa):=old _ _ (fun z=>by have:=O.ta;rw [z,R2.lam.1] at this;cases this) O.ha
     simp only [lamTr]
     walk_at "pq"
     rw [ha]
     walk_at "pq"
     rw [O.prio,O.num]
     exact fun p hp=>⟨rfl,rfl,fun b o e=>by rw [upd_ne (ne_of_none e hp)];exact e⟩
   ·obtain ⟨so1,so2⟩:=so
    have ez:((os.filter fun q=>waits st q.1).map fun p=>(-(p.1.prio:Int),(p.1.num:Int))).zip (((os.filter fun q=>waits st q.1).map (·.2)).map V.ref)=(os.filter fun q=>waits st q.1).map fun p=>((-(p.1.prio:Int),(p.1.num:Int)),V.ref p.2):=by
     rw [List.map_map,List.zip_map']
     rfl
    rw [ez] at so1
    obtain ⟨qs,q1,rfl⟩:=perm_of_map so1
    have tc:tg c=none:=by
     rcases lo with lo | lo
     ·exact R2.trk.free lo
     ·obtain ⟨_,h2 | ⟨c0,h2,h3⟩⟩:=R2.lam
      ·rw [lo.1] at h2
       simp [lamTab] at h2
      ·rw [lo.1] at h2
       have:c=c0:=by simpa [lamTab] using h2
       rw [this]
       exact (Fz_some h3).1
    have e5:st.outs.filter (waits st)=(os.filter fun q=>waits st q.1).map (·.1):=by
     rw [R.outs,List.filter_map]
     rfl
    refine h D2 qs H3 (sH.free hD3) ⟨fun b o n e=>old _ _ n (sH _ _ e),R2.lam.1,.inr ⟨c,ld.1,by rw [Fz_of tc];exact ld.2⟩⟩ (by rw [e3,List.map_map];rfl) ?_ fun q hq=>(List.mem_filter.mp (q1.mem_iff.mp hq)).1
    refine VB.sorted_is (VB.nodup_filter _ WF.nd) (by rw [e5];exact q1.map _) ?_
    refine List.pairwise_map.mpr ((List.pairwise_map.mp so2).imp fun {a b} hn z=>hn ?_)
    rcases z with z | ⟨z1,z2⟩
    ·left
     show -(b.1.prio:Int) < -(a.1.prio:Int)
     omega
    ·right
     exact ⟨by show -(b.1.prio:Int) = -(a.1.prio:Int);omega,by show (b.1.num:Int) < (a.1.num:Int);omega⟩
theorem free_eq (s:State) (x:Vbbhak.Writer) (o:Vbbhak.Out):Vbbhak.free s x o=(waits s o && x.classes.contains o.cls):=by
 unfold Vbbhak.free waits
 cases o.closed <;> cases o.held <;> cases Vbbhak.isDone o <;> cases Vbbhak.inHand s o.num <;> rfl
theorem inV_classes (c:Nat) (l:List Nat):inV (V.int (c:Int)) (nvs l)=l.contains c:=by
 unfold inV nvs
 rw [List.any_map,Bool.eq_iff_iff]
 simp only [List.any_eq_true,List.contains_iff_mem,Function.comp,eqV]
 constructor
 ·rintro ⟨y,hy,e⟩
  have:(y:Int)=c:=by simpa using e
  have:y=c:=by omega
  rw [← this];exact hy
 ·intro h
  exact ⟨c,h,by simp⟩
noncomputable def sp_free_outputs (T:Txt K mg):Sp:=fun vs H Q _=>∃ sp a n tg s dx f os ws,vs=[.ref sp,.ref a]∧RIn T tg H sp s dx f os ws∧VB.WF s∧Vbbhak.isWriter n=true∧ws[n.toNat - 1]? = some (writerAt s n,a) ∧
 ∀ D (qs:List (Vbbhak.Out × Addr)) H',H D=none->SameL T tg H H'->H' D=some (.lst (qs.map fun q=>V.ref q.2))->qs.map (·.1)=VB.ord (s.outs.filter (Vbbhak.free s (writerAt s n)))->(∀ q ∈ qs,q ∈ os)->Q (.ref D) H'
noncomputable def tr_free_outputs {K:PySem.W.Frag} {mg:Str->Option Value} (T:Txt K mg):TS:=tRet (tLc (iList K (tMeth T.c_Spool "waiting_outputs" (sp_Spool_waiting_outputs T) [] E0 (tVar 0) tNil)) (gName 2) (tTest (tOp (rIn K false) (tFld K (tVar 2) "output_class") (tFld K (tVar 1) "classes"))) (tVar 2) [2])
theorem ok_free_outputs (T:Txt K mg):FO P w base 5 T.free_outputs (sp_free_outputs T):=by
 o_headS (1 T.free_outputs.F.ok sc_free_outputs)
 obtain ⟨sp,a,n,tg,st,dx,f,os,ws,rfl,h⟩:=h
 o_headS (2 (tr_free_outputs T) (pss_one (ps_ret (pe_lc rfl sc_free_outputs.nd (pi_list (pcm0 (pv 0) T.cl_Spool T.Spool_waiting_outputs (ok_Spool_waiting_outputs T) hr)) (own:=[("output",2)]) (blkOk_by (N:=["spool","writer","output"]) (sc:=defScope s_free_outputs) (by decide +kernel)) (fun _ _ _ _ _=>pg_name (i:=2) sc_free_outputs.nd rfl (Or.inl rfl)) (fun _ _ _ _ _=>pts_one (pt_cmpR op_in_seq (pf (pv 2)) (pf (pv 1)) (by with_unfolding_all rfl))) (fun _ _ _ _ _=>pv 2)))))
 obtain ⟨R,WF,hw,ha,h⟩:=h
 obtain ⟨dy,pp,g,ps,W⟩:=R.wat _ _ _ ha
 simp only [tr_free_outputs]
 show tLc _ _ _ _ _ [some (.ref sp),some (.ref a),none] H Q
 refine ⟨_,rfl,sp,_,_,rfl,R.hsp,rfl,sp,tg,st,dx,f,os,ws,rfl,R,WF,fun D qs H1 hD s1 e1 e2 e3=>⟨D,rfl,⟨_,SqL.of e1⟩,fun D2 hD2=>?_⟩⟩
 have few:qs.length≤200:=by
  have:=congrArg List.length e2
  rw [List.length_map,(VB.ord_perm _).length_eq] at this
  have h2:=List.length_filter_le (waits st) st.outs
  have:=WF.few
  have:=WF.c2
  omega
 have R1:=s1.rin R
 have W1:=s1.win R.trk W
 refine lc_list (xs:=qs.map fun q=>V.ref q.2) (fun i H'=>LcI H1 D2 (fun i=>((qs.take i).filter fun q=>(writerAt st n).classes.contains q.1.cls).map fun q=>V.ref q.2) i H') (lc_start hD2 rfl) (fun i H' _ p=>p.1.seq (SqL.of e1)) (fun i x H' hi p=>?_) (fun H' p=>?_)
 ·obtain ⟨q,hq,rfl⟩:=at_map hi
  obtain ⟨da,fa,O⟩:=R1.oat q (e3 q (List.mem_of_getElem? hq))
  obtain ⟨c,ec,fc⟩:=W1.rel.cls
  walk_at "pq"
  rw [p.1 _ _ O.ha]
  walk_at "pq"
  rw [p.1 _ _ W1.ha]
  walk_at "pq"
  refine ⟨c,_,ec,Or.inl (SqL.of (p.1 _ _ (Fz_sub _ _ fc))),rfl,?_,_,rfl,?_⟩
  ·unfold nvs;rw [List.all_map];exact List.all_eq_true.mpr fun _ _=>rfl
  ·rw [O.cls,if_neg (show ¬ (false=true) by decide),inV_classes]
   split
   ·rename_i hc
    refine lc_put p hD2 Same.rfl' ?_ ?_
    ·rw [List.length_map]
     have:=List.length_filter_le (fun q:Vbbhak.Out × Addr=>(writerAt st n).classes.contains q.1.cls) (qs.take i)
     rw [List.length_take] at this
     have:(1000:Nat) < sizeLine:=by decide
     omega
    ·rw [VB.take_snoc hq,List.filter_append,List.filter_cons,if_pos hc,List.map_append]
     rfl
   ·rename_i hc
    refine lc_skip p Same.rfl' ?_
    rw [VB.take_snoc hq,List.filter_append,List.filter_cons,if_neg hc,List.filter_nil,List.append_nil]
 ·obtain ⟨p1,p2⟩:=p
  simp only [List.length_map,List.take_length] at p2
  refine h D2 (qs.filter fun q=>(writerAt st n).classes.contains q.1.cls) H' (s1.free hD2) (s1.tr p1) p2 ?_ fun q hq=>e3 q (List.mem_filter.mp hq).1
  have e4:(qs.filter fun q=>(writerAt st n).classes.contains q.1.cls).map (·.1)=(qs.map (·.1)).filter fun o=>(writerAt st n).classes.contains o.cls:=by rw [List.filter_map];rfl
  rw [e4,e2,VB.ord_filter _ _ (VB.nodup_filter _ WF.nd),List.filter_filter]
  congr 1
  apply List.filter_congr
  intro o _
  rw [free_eq,Bool.and_comm]
theorem OIn.frame {T:Txt K mg} {tg tg':Tg} {H H':Hp} {Pg:List (List Vbbhak.Bytes)} {o:Vbbhak.Out} {a dx:Addr} {f:Of} (h:OIn T tg H Pg o a dx f) (k:Kp tg H tg' H' fun t=>t = .out o.num∨t = .pages o.num∨t = .last o.num) (s:Same (Fz tg H) (Fz tg' H')):OIn T tg' H' Pg o a dx f:=by
 obtain ⟨k1,k2⟩:=k _ _ h.ta (.inl rfl)
 exact ⟨k1,k2.trans h.ha,h.num,h.cls,h.form,h.copies,h.prio,h.held,h.closed,h.lines,let ⟨nm,e,z⟩:=h.name;⟨nm,e,s _ _ z⟩,h.place.same s,h.pages.frame (fun b t e z=>k b t e (.inr z)) s⟩
noncomputable def sp_take_in_hand (T:Txt K mg):Sp:=fun vs H Q _=>∃ sp a b n tg s o dx f os ws,vs=[.ref a,.ref b]∧RIn T tg H sp s dx f os ws∧VB.WF s∧Vbbhak.isWriter n=true∧ws[n.toNat - 1]? = some (writerAt s n,a)∧(o,b) ∈ os∧o.pos.copy≤o.copies ∧
 ∀ H' p,Rep T tg H' sp (Vbbhak.taken s n o (Vbbhak.settled s (writerAt s n).sep o o.pos))->Kept tg H tg H'->H' p=some (.lst (ivs (told 2 [[(o.num:Int),((Vbbhak.settled s (writerAt s n).sep o o.pos).copy:Int),((Vbbhak.settled s (writerAt s n).sep o o.pos).step:Int)]])))->H p=none->Q (.ref p) H'
theorem ok_take_in_hand (T:Txt K mg):FO P w base 3 T.take_in_hand (sp_take_in_hand T):=by
 o_headS (1 T.take_in_hand.F.ok sc_take_in_hand)
 obtain ⟨sp,a,b,n,tg,st,o,dx,f,os,ws,rfl,h⟩:=h
 o_headS (2 (pss_cons (pst 2 sc_take_in_hand (pcf T.next_sheet (ok_next_sheet T) hr (pa_cons (pv 1) (pa_cons (pf (pv 1)) (pa1 (pf (pv 0))))))) (pss_cons (ps_if (pt_val (pcm (pv 1) T.cl_Output T.Output_is_behind_end (ok_Output_is_behind_end T) hr (pa1 (pv 2)))) (pss_one (ps_fld (pv 1) (pv 2) rfl)) (pss_cons (ps_fld (pv 0) (pf (pv 1)) rfl) (pss_one (ps_expr (pcm (pv 0) T.cl_Writer T.Writer_begin_copy (ok_Writer_begin_copy T) hr (pa1 (pv 2))))))) (pss_one (ps_ret (pcf T.with_rows (ok_with_rows T) hr (pa_cons (pgi T.g_TAKEN) (pa1 (pe_lst (pa1 (pe_lst (pa_cons (pf (pv 1)) (pa_cons (pe_ix ix_tup (pv 2) pe_int (fun _ _=>rfl)) (pa1 (pe_ix ix_tup (pv 2) pe_int (fun _ _=>rfl))))))))))))))))
 obtain ⟨R,WF,hw,ha,hb,hle,h⟩:=h
 obtain ⟨dy,pp,g,ps,W⟩:=R.wat _ _ _ ha
 obtain ⟨da,fa,O⟩:=R.out_at hb
 obtain ⟨pl,epl,tpl⟩:=O.place
 obtain ⟨gp,as,egp,hgp,hall⟩:=O.pages.read
 have esN:=settled_setN (s:=st) (sep:=(writerAt st n).sep) (o:=o) (p:=o.pos) hle
 refine seq1 ?_
 walk_at "pq"
 rw [O.ha]
 walk_at "pq"
 rw [W.ha]
 walk_at "pq"
 rw [W.rel.sep,epl]
 refine ⟨b,pl,da,fa,gp,_,(Vbbhak.pagesOf st o).length,o.copies,(writerAt st n).sep,o.pos,rfl,O.ha,egp,SqL.of hgp,by rw [List.length_map];exact hall.1,O.copies,Same.seqT Fz_sub tpl,hle,fun q H1 s1 hq1 hq1'=>seq1 ?_⟩
 rw [← esN] at hq1 hq1'
 have hqF:=hq1 tg R.trk tpl
 generalize hp:Vbbhak.settled st (writerAt st n).sep o o.pos=p at hq1 hq1' hqF h
 have R1:=R.same s1
 have W1:=W.same R.trk s1
 have O1:OIn T tg H1 (Vbbhak.pagesOf st o) o b da fa:=O.frame (Kp.same R.trk s1 _) (Fz_same s1)
 have k1:=Kept.same R.trk s1
 walk_at "pq"
 rw [O1.ha]
 walk_at "pq"
 refine ⟨b,q,da,fa,_,_,rfl,O1.ha,hq1',_,rfl,?_⟩
 have ed:decide (fa.copies < (p.copy:Int))=Vbbhak.isDone { o with pos:=p }:=by rw [O.copies];unfold Vbbhak.isDone;exact decide_eq_decide.mpr (by show _ ↔ o.copies < p.copy;omega)
 rw [ed]
 have fin:∀ H2 fa',Rep T tg H2 sp (Vbbhak.taken st n o p)->Kept tg H1 tg H2->H2 b=some (OO T da fa')->fa'.num=fa.num->SqT K H2 q [.int (p.copy:Int),.int (p.step:Int)] ∧
   ∀ l1,H2 l1=none->∀ l2,upd H2 l1 (.lst [.int fa'.num,.int (p.copy:Int),.int (p.step:Int)]) l2=none->sp_with_rows T [.int 2,.ref l2] (upd (upd H2 l1 (.lst [.int fa'.num,.int (p.copy:Int),.int (p.step:Int)])) l2 (.lst [.ref l1])) Q E0:=by
  intro H2 fa' r1 r2 eb en
  have hq2:SqT K H2 q [.int (p.copy:Int),.int (p.step:Int)]:=Same.seqT Fz_sub (Same.seqT r2.fz hqF)
  refine ⟨hq2,fun l1 hl1 l2 hl2=>?_⟩
  have s5:=same_new (o:=.lst [.int fa'.num,.int (p.copy:Int),.int (p.step:Int)]) hl1
  have s6:=same_new (o:=.lst [.ref l1]) hl2
  have el1:upd H2 l1 (.lst [.int fa'.num,.int (p.copy:Int),.int (p.step:Int)]) l1=some (.lst (ivs [fa'.num,(p.copy:Int),(p.step:Int)])):=upd_same
  refine ⟨2,l2,[l1],[[fa'.num,(p.copy:Int),(p.step:Int)]],rfl,SqL.of upd_same,All2.one (s6 _ _ el1),(by show 5 < sizeLine;decide),fun u hu=>?_⟩
  have s57:=(s5.trans s6).trans (same_new (o:=.lst (ivs (told 2 [[fa'.num,(p.copy:Int),(p.step:Int)]]))) hu)
  have hu2:=(s5.trans s6).free hu
  have tu:=r1.trk.free hu2
  have hu0:H u=none:=by
   cases z:H u with
   | none=>rfl
   | some o' =>
    have z1:=s1 _ _ z
    have z2:=r2.fz u o' (by rw [Fz_of tu];exact z1)
    rw [Fz_of tu,hu2] at z2
    cases z2
  refine h _ u (r1.same s57) (k1.trans (r2.trans (Kept.same r1.trk s57))) (by rw [upd_same,en,O.num]) hu0
 by_cases hdn:Vbbhak.isDone { o with pos:=p }=true
 ·rw [if_pos hdn]
  refine ⟨_,_,_,O1.ha,T.cl_Output,T.no_Output_place,ln_Output,?_⟩
  have et:Vbbhak.taken st n o p=Vbbhak.setOut st { o with pos:=p }:=by unfold Vbbhak.taken;rw [if_pos hdn]
  obtain ⟨R2,k2⟩:=R1.chgR WF hb O1 p (.ref q) ⟨q,rfl,hqF⟩
  obtain ⟨f1,f2⟩:=fin _ { fa with place:=.ref q } (by rw [et];exact ⟨_,_,_,_,R2⟩) k2 upd_same rfl
  exact ⟨T.cl_Output,T.no_Output_number,.int fa.num,rfl,_,f1,_,rfl,_,f1,_,rfl,f2⟩
 ·rw [if_neg hdn]
  refine seq1 ?_
  walk_at "pq"
  rw [O1.ha]
  walk_at "pq"
  rw [W1.ha]
  walk_at "pq"
  have et:Vbbhak.taken st n o p=setWriter st n { writerAt st n with hand:=some ⟨o.num,p,p,0,p.step⟩,noted:=(writerAt st n).serial }:=by unfold Vbbhak.taken;rw [if_neg hdn]
  have ba:b ≠ a:=fun z=>by have:=O.ta;rw [z,W.ta] at this;cases this
  have hqa:SqT K (upd H1 a (WO T dy { g with hand:=fa.num,place:=.ref q })) q [.int (p.copy:Int),.int (p.step:Int)]:=by
   have:SqT K (Fz tg (upd H1 a (WO T dy { g with hand:=fa.num,place:=.ref q }))) q [.int (p.copy:Int),.int (p.step:Int)]:=by rw [Fz_upd (by rw [W1.ta];simp)];exact hqF
   exact Same.seqT Fz_sub this
  refine ⟨a,dy,{ g with hand:=fa.num },q,_,_,rfl,upd_same,by rw [upd_upd];exact hqa,?_⟩
  rw [upd_upd]
  obtain ⟨r1,r2⟩:=R1.updW (x':={ writerAt st n with hand:=some ⟨o.num,p,p,0,p.step⟩,noted:=(writerAt st n).serial }) (g':={ g with hand:=fa.num,place:=.ref q,first:=(p.step:Int),noted:=g.serial,nplace:=.ref q,since:=0 }) ha W1 rfl rfl ⟨W1.rel.serial,W1.rel.on,W1.rel.form,W1.rel.drain,W1.rel.sep,W1.rel.every,W1.rel.cls,W1.rel.clen,(fun z=>by cases z),fun h' z=>by
   cases z
   exact ⟨O.num,⟨q,rfl,hqF⟩,⟨q,rfl,hqF⟩,rfl,rfl,W1.rel.serial⟩⟩
  obtain ⟨f1,f2⟩:=fin _ fa (by rw [et];exact r1) r2 (by rw [upd_ne ba];exact O1.ha) rfl
  exact ⟨_,_,_,(by rw [upd_ne ba];exact O1.ha),T.cl_Output,T.no_Output_number,.int fa.num,rfl,_,f1,_,rfl,_,f1,_,rfl,f2⟩
noncomputable def sp_take_output (T:Txt K mg):Sp:=fun vs H Q _=>∃ sp a n tg s dx f os ws,vs=[.ref sp,.ref a]∧RIn T tg H sp s dx f os ws∧VB.WF s∧Vbbhak.isWriter n=true∧ws[n.toNat - 1]? = some (writerAt s n,a)∧(writerAt s n).hand=none ∧
 ∀ H' p,Rep T tg H' sp (Vbbhak.doTurn s n (writerAt s n)).1->Kept tg H tg H'->H' p=some (.lst (ivs (VB.flat (Vbbhak.doTurn s n (writerAt s n)).2)))->tg p=none->Q (.ref p) H'
noncomputable def tr_take_output {K:PySem.W.Frag} {mg:Str->Option Value} (T:Txt K mg):TS:=tSeq (tAsg (tCall (sp_free_outputs T) [] E0 (tCons (tVar 0) (tCons (tVar 1) tNil))) (gName 2)) (tSeq (tAsg (tLc (iList K (tVar 2)) (gName 4) (tTest (tOp rEq (tFld K (tVar 4) "form") (tFld K (tVar 1) "form"))) (tVar 4) [4]) (gName 3)) (tSeq (tIfS (tTest (tOp rGt (tCB (rLen K) (tCons (tVar 3) tNil)) (tC (.int 0)))) (tRet (tCall (sp_take_in_hand T) [] E0 (tCons (tVar 1) (tCons (tOp (rIxL K) (tVar 3) (tC (.int 0))) tNil)))) (tNext)) (tSeq (tIfS (tTest (tOp rGt (tCB (rLen K) (tCons (tVar 2) tNil)) (tC (.int 0)))) (tRet (tCall (sp_with_rows T) [] E0 (tCons (tC (.int (3))) (tCons (tLst (tCons (tLst (tCons (tFld K (tOp (rIxL K) (tVar 2) (tC (.int 0))) "form") tNil)) tNil)) tNil)))) (tNext)) (tRet (tLst (tCons (tC (.int (0))) tNil))))))
theorem ok_take_output (T:Txt K mg):FO P w base 6 T.take_output (sp_take_output T):=by
 o_headS (1 T.take_output.F.ok sc_take_output)
 obtain ⟨sp,a,n,tg,st,dx,f,os,ws,rfl,h⟩:=h
 o_headS (2 (tr_take_output T) (pss_cons (pst 2 sc_take_output (pcf T.free_outputs (ok_free_outputs T) hr (pa_cons (pv 0) (pa1 (pv 1))))) (pss_cons (ps_setLc (i:=3) rfl sc_take_output.nd rfl rfl (sw_true rfl rfl rfl (by decide +kernel)) (pi_list (pv 2)) (own:=[("output",4)]) (blkOk_by (N:=["spool","writer","free","fitting","output"]) (sc:=defScope s_take_output) (by decide +kernel)) (fun _ _ _ _ _=>pg_name (i:=4) sc_take_output.nd rfl (Or.inl rfl)) (fun _ _ _ _ _=>pts_one (pt_cmpR op_eq (pf (pv 4)) (pf (pv 1)) (nomark _))) (fun _ _ _ _ _=>pv 4)) (pss_cons (ps_if (pt_cmpR op_gt (pe_callB (r:=rLen K) call_len_seq rfl T.n_len bt_len (pa1 (pv 3))) pe_int (nomark _)) (pss_one (ps_ret (pcf T.take_in_hand (ok_take_in_hand T) hr (pa_cons (pv 1) (pa1 (pe_ix ix_list (pv 3) pe_int (fun _ _=>rfl))))))) pss_nil) (pss_cons (ps_if (pt_cmpR op_gt (pe_callB (r:=rLen K) call_len_seq rfl T.n_len bt_len (pa1 (pv 2))) pe_int (nomark _)) (pss_one (ps_ret (pcf T.with_rows (ok_with_rows T) hr (pa_cons (pgi T.g_OTHER_FORM) (pa1 (pe_lst (pa1 (pe_lst (pa1 (pf (pe_ix ix_list (pv 2) pe_int (fun _ _=>rfl)))))))))))) pss_nil) (prg T.g_NOTHING_FREE))))))
 obtain ⟨R,WF,hw,ha,hh,h⟩:=h
 obtain ⟨dy,pp,g,ps,W⟩:=R.wat _ _ _ ha
 simp only [tr_take_output]
 refine seq1 ?_
 walk_at "pq"
 refine ⟨sp,a,n,tg,st,dx,f,os,ws,rfl,R,WF,hw,ha,fun D qs H1 hD s1 e1 e2 e3=>seq1 ?_⟩
 have R1:=s1.rin R
 have W1:=s1.win R.trk W
 have ndf:=VB.nodup_filter (Vbbhak.free st (writerAt st n)) WF.nd
 have few:qs.length≤200:=by
  have:=congrArg List.length e2
  rw [List.length_map,(VB.ord_perm _).length_eq] at this
  have h2:=List.length_filter_le (Vbbhak.free st (writerAt st n)) st.outs
  have:=WF.few
  have:=WF.c2
  omega
 refine lcLS D (qs.map fun q=>V.ref q.2) (fun i=>((qs.take i).filter fun q=>q.1.form == (writerAt st n).form).map fun q=>V.ref q.2) (fun R h=>by walk_at "pq";exact h) (SqL.of e1) rfl (fun D2 hD2 i x H' hi s p=>?_) (fun D2 H2 hD2 s2 ed2=>?_)
 ·obtain ⟨q,hq,rfl⟩:=at_map hi
  obtain ⟨da,fa,O⟩:=R1.oat q (e3 q (List.mem_of_getElem? hq))
  walk_at "pq"
  rw [s _ _ O.ha]
  walk_at "pq"
  rw [s _ _ W1.ha]
  walk_at "pq"
  rw [O.form,W1.rel.form]
  by_cases hc:(q.1.form == (writerAt st n).form)=true
  ·rw [if_pos (by have:q.1.form=(writerAt st n).form:=(by simpa using hc);rw [this])]
   refine lc_put p hD2 Same.rfl' ?_ ?_
   ·rw [List.length_map]
    have:=List.length_filter_le (fun q:Vbbhak.Out × Addr=>q.1.form == (writerAt st n).form) (qs.take i)
    rw [List.length_take] at this
    have:(1000:Nat) < sizeLine:=by decide
    omega
   ·rw [VB.take_snoc hq,List.filter_append,List.filter_cons,if_pos hc,List.map_append]
    rfl
  ·rw [if_neg (fun z=>hc (by rw [beq_iff_eq];omega))]
   refine lc_skip p Same.rfl' ?_
   rw [VB.take_snoc hq,List.filter_append,List.filter_cons,if_neg hc,List.filter_nil,List.append_nil]
 ·simp only [List.length_map,List.take_length] at ed2
  have s12:=s1.tr s2
  have R2:=s12.rin R
  have k12:=s12.kept R.trk
  have e4:(qs.filter fun q=>q.1.form == (writerAt st n).form).map (·.1)=VB.ord ((st.outs.filter (Vbbhak.free st (writerAt st n))).filter fun o=>o.form == (writerAt st n).form):=by
   rw [← VB.ord_filter _ _ ndf,← e2,List.filter_map]
   rfl
  have et:Vbbhak.turnOf st (writerAt st n)=match ((qs.filter fun q=>q.1.form == (writerAt st n).form).map (·.1)).head? with
    | some o=>.takes o (Vbbhak.settled st (writerAt st n).sep o o.pos)
    | none=>match (qs.map (·.1)).head? with
     | some o=>.wants o.form
     | none=>.nothing:=by
   unfold Vbbhak.turnOf
   rw [hh,e4,e2]
   dsimp only
   rw [VB.best_ord,VB.best_ord]
   rfl
  walk_at "pq"
  refine seq1 ?_
  walk_at "pq"
  refine ⟨_,Or.inl (SqL.of ed2),?_⟩
  cases hf:(qs.filter fun q=>q.1.form == (writerAt st n).form) with
  | cons q r =>
   rw [hf] at et ed2
   have et:Vbbhak.turnOf st (writerAt st n) = .takes q.1 (Vbbhak.settled st (writerAt st n).sep q.1 q.1.pos):=et
   have hq:q ∈ qs:=(List.mem_filter.mp (by rw [hf];exact List.mem_cons_self)).1
   have edt:Vbbhak.doTurn st n (writerAt st n)=Vbbhak.yes (Vbbhak.taken st n q.1 (Vbbhak.settled st (writerAt st n).sep q.1 q.1.pos)) 2 [[q.1.num,(Vbbhak.settled st (writerAt st n).sep q.1 q.1.pos).copy,(Vbbhak.settled st (writerAt st n).sep q.1 q.1.pos).step]]:=by unfold Vbbhak.doTurn;rw [et]
   obtain ⟨_,_,hfree,_⟩:=VB.turnOf_takes et
   have hle:q.1.pos.copy≤q.1.copies:=by
    unfold Vbbhak.free Vbbhak.isDone at hfree
    simp only [Bool.and_eq_true,Bool.not_eq_true',decide_eq_false_iff_not] at hfree
    omega
   rw [if_pos (by simp)]
   refine ⟨_,SqL.of ed2,V.ref q.2,at_of (j:=0) rfl rfl,?_⟩
   refine ⟨sp,a,q.2,n,tg,st,q.1,dx,f,os,ws,rfl,R2,WF,hw,ha,e3 q hq,hle,fun H3 u r1 r2 eu fu=>?_⟩
   refine h H3 u (by rw [edt];exact r1) (k12.trans r2) ?_ (R2.trk.free fu)
   rw [edt]
   exact eu
  | nil =>
   rw [hf] at et
   rw [if_neg (by simp)]
   refine seq1 ?_
   walk_at "pq"
   refine ⟨_,Or.inl (SqL.of (s2 _ _ e1)),?_⟩
   cases hqs:qs with
   | nil =>
    rw [hqs] at et
    have et:Vbbhak.turnOf st (writerAt st n) = .nothing:=et
    have edt:Vbbhak.doTurn st n (writerAt st n)=Vbbhak.yes st 0:=by unfold Vbbhak.doTurn;rw [et]
    rw [if_neg (by simp)]
    intro u hu
    refine h _ u (by rw [edt];exact ⟨_,_,_,_,R2.same (same_new hu)⟩) (k12.trans (Kept.same R2.trk (same_new hu))) (by rw [edt,upd_same];rfl) (R2.trk.free hu)
   | cons q r =>
    rw [hqs] at et e1 e3
    have et:Vbbhak.turnOf st (writerAt st n) = .wants q.1.form:=et
    have edt:Vbbhak.doTurn st n (writerAt st n)=Vbbhak.yes st 3 [[q.1.form]]:=by unfold Vbbhak.doTurn;rw [et]
    obtain ⟨da,fa,O⟩:=R2.oat q (e3 q List.mem_cons_self)
    rw [if_pos (by simp)]
    refine ⟨_,SqL.of (s2 _ _ e1),V.ref q.2,at_of (j:=0) rfl rfl,?_⟩
    refine ⟨q.2,rfl,_,_,_,O.ha,T.cl_Output,T.no_Output_form,_,lk_Output_form,fun l1 hl1 l2 hl2=>?_⟩
    have s5:=same_new (o:=.lst [.int fa.form]) hl1
    have s6:=same_new (o:=.lst [.ref l1]) hl2
    have el1:upd H2 l1 (.lst [.int fa.form]) l1=some (.lst (ivs [fa.form])):=upd_same
    refine ⟨3,l2,[l1],[[fa.form]],rfl,SqL.of upd_same,All2.one (s6 _ _ el1),(by show 3 < sizeLine;decide),fun u hu=>?_⟩
    have s57:=(s5.trans s6).trans (same_new (o:=.lst (ivs (told 3 [[fa.form]]))) hu)
    refine h _ u (by rw [edt];exact ⟨_,_,_,_,R2.same s57⟩) (k12.trans (Kept.same R2.trk s57)) ?_ (R2.trk.free ((s5.trans s6).free hu))
    rw [upd_same,edt,O.form]
    rfl
noncomputable def sp_take_turn (T:Txt K mg):Sp:=fun vs H Q _=>∃ sp a n tg s dx f os ws,vs=[.ref sp,.ref a]∧RIn T tg H sp s dx f os ws∧VB.WF s∧Vbbhak.isWriter n=true∧ws[n.toNat - 1]? = some (writerAt s n,a) ∧
 ∀ H' p,Rep T tg H' sp (Vbbhak.doTurn s n (writerAt s n)).1->Kept tg H tg H'->H' p=some (.lst (ivs (VB.flat (Vbbhak.doTurn s n (writerAt s n)).2)))->tg p=none->Q (.ref p) H'
theorem ok_take_turn (T:Txt K mg):FO P w base 7 T.take_turn (sp_take_turn T):=by
 o_headS (1 T.take_turn.F.ok sc_take_turn)
 obtain ⟨sp,a,n,tg,st,dx,f,os,ws,rfl,h⟩:=h
 o_headS (2 (pss_cons (ps_if (pt_cmpR op_eq (pf (pv 1)) pe_int (nomark _)) (pss_one (ps_ret (pcf T.take_output (ok_take_output T) hr (pa_cons (pv 0) (pa1 (pv 1)))))) pss_nil) (pss_cons (ps_if (pt_val (pcf T.is_paper_full (ok_is_paper_full T) hr (pa_cons (pv 0) (pa1 (pv 1))))) (prg T.g_NO_ROOM) pss_nil) (pss_cons (pst 2 sc_take_turn (pcf T.print_sheet (ok_print_sheet T) hr (pa_cons (pv 0) (pa1 (pv 1))))) (pss_cons (ps_expr (pcf T.go_on (ok_go_on T) hr (pa_cons (pv 0) (pa1 (pv 1))))) (pss_one (ps_ret (pv 2))))))))
 obtain ⟨R,WF,hw,ha,h⟩:=h
 obtain ⟨dy,pp,g,ps,W⟩:=R.wat _ _ _ ha
 refine seq1 ?_
 walk_at "pq"
 rw [W.ha]
 walk_at "pq"
 have hi0:=W.rel.hand_iff (hand_pos WF hw)
 cases hh:(writerAt st n).hand with
 | none =>
  rw [if_pos (W.rel.hand0 hh)]
  exact ⟨sp,a,n,tg,st,dx,f,os,ws,rfl,R,WF,hw,ha,hh,h⟩
 | some hd =>
  obtain ⟨o,ho,HD⟩:=VB.hand_out WF hw hh
  have hn0:¬ g.hand=0:=fun z=>by rw [hi0,hh] at z;cases z
  rw [if_neg hn0]
  refine seq1 ?_
  walk_at "pq"
  refine ⟨sp,a,dx,f,dy,g,pp,_,rfl,R.hsp,W.ha,W.pap,W.hp,_,rfl,?_⟩
  rw [R.room,List.length_map]
  have hroom:=roomy_iff W st
  have et:Vbbhak.turnOf st (writerAt st n)=if Vbbhak.roomy st (writerAt st n)=true then .prints hd o else .full:=by
   unfold Vbbhak.turnOf
   rw [hh]
   dsimp only
   rw [ho]
  by_cases hr:Vbbhak.roomy st (writerAt st n)=false
  ·rw [if_pos (decide_eq_true (hroom.mp hr))]
   rw [if_neg (by rw [hr];decide)] at et
   have ec:Vbbhak.doTurn st n (writerAt st n)=Vbbhak.no st 8:=by unfold Vbbhak.doTurn;rw [et]
   intro u hu
   refine h _ u ?_ (Kept.same R.trk (same_new hu)) (by rw [upd_same,ec];rfl) (R.trk.free hu)
   rw [ec]
   exact ⟨_,_,_,_,R.same (same_new hu)⟩
  ·rw [if_neg (by rw [decide_eq_true_eq];exact fun z=>hr (hroom.mpr z))]
   rw [if_pos (by simpa using hr)] at et
   have ec:Vbbhak.doTurn st n (writerAt st n)=Vbbhak.yes (Vbbhak.goesOn (Vbbhak.printed st n hd o) n hd o) 1 [[o.num,hd.pos.copy,hd.pos.step]]:=by unfold Vbbhak.doTurn;rw [et]
   refine seq1 ?_
   walk_at "pq"
   refine ⟨sp,a,n,tg,st,hd,o,dx,f,os,ws,rfl,R,WF,hw,ha,hh,ho,HD,fun H2 u ws' R2 ha2 k2 eu fu=>seq1 ?_⟩
   walk_at "pq"
   have tu:=R.trk.free fu
   have WF2:=VB.wf_printed WF hw hh HD (by simpa using hr)
   have hh2:(writerAt (Vbbhak.printed st n hd o) n).hand=some hd:=by rw [VB.printed_at WF hw];exact hh
   obtain ⟨o2,ho2,HD2⟩:=VB.hand_out WF2 hw hh2
   have eo:o2=o:=by
    have:Vbbhak.outAt (Vbbhak.printed st n hd o) (hd.out:Int)=Vbbhak.outAt st (hd.out:Int):=rfl
    rw [this,ho] at ho2
    exact (Option.some.inj ho2).symm
   subst eo
   refine ⟨sp,a,n,tg,_,hd,o2,dx,f,os,ws',rfl,R2,WF2,hw,ha2,hh2,ho2,HD2,fun H3 r1 r2=>?_⟩
   refine h H3 u (by rw [ec];exact r1) (k2.trans r2) ?_ tu
   rw [ec]
   exact Fz_sub _ _ (r2.fz _ _ (by rw [Fz_of tu];exact eu))
noncomputable def sp_turn (T:Txt K mg):Sp:=fun vs H Q _=>∃ sp n tg s,vs=[.ref sp,.int n]∧QSp T tg H sp s (.turn n) Q
theorem ok_turn (T:Txt K mg):FO P w base 8 T.turn (sp_turn T):=by
 o_headS (1 T.turn.F.ok sc_turn)
 obtain ⟨sp,n,tg,st,rfl,h⟩:=h
 o_headS (2 (pss_cons (pst 2 sc_turn (pcf T.writer_refusal (ok_writer_refusal T) hr (pa_cons (pv 0) (pa1 (pv 1))))) (pss_cons (ps_if (pt_cmpR op_ne (pv 2) pe_int (nomark _)) (prl (pv 2)) pss_nil) (pss_one (ps_ret (pcf T.take_turn (ok_take_turn T) hr (pa_cons (pv 0) (pa1 (pcm (pv 0) T.cl_Spool T.Spool_writer_at (ok_Spool_writer_at T) hr (pa1 (pv 1)))))))))))
 refine seq1 ?_
 walk_at "pq"
 refine ⟨sp,n,tg,st,rfl,h.1,h.2.1,seq1 ?_⟩
 walk_at "pq"
 rcases onWriter_cases st n with ⟨h1,h2⟩ | ⟨h1,hw,hon,h3⟩
 ·rw [if_pos h1]
  exact h.one (h2 _) Same.rfl'
 ·rw [if_neg (by simpa using h1)]
  have e0:step st (.turn n)=_:=h3 fun x=>Vbbhak.doTurn st n x
  obtain ⟨dx,f,os,ws,R⟩:=h.1
  rw [R.hsp]
  walk_at "pq"
  refine go_writer_at R h.2.1.len hw fun a ha=>?_
  refine ⟨sp,a,n,tg,st,dx,f,os,ws,rfl,R,h.2.1,hw,ha,fun H' p r1 r2 e t=>?_⟩
  exact h.2.2 tg H' p (by rw [e0];exact r1) r2 (by rw [e0];exact e) t
end
end
section
open Vbbhak (State Call Ans step onOut onWriter setWriter writerAt)
section
variable {P:Program} {w:World} {K:PySem.W.Frag} {mg:Str->Option Value} {base:Heap} [BOk mg base]
theorem QSp.retL {T:Txt K mg} {tg:Tg} {H H1:Hp} {sp:Addr} {s:State} {c:Call} {Q:VK} (h:QSp T tg H sp s c Q) (e:(step s c).1=s) {p:Addr} (s1:SameL T tg H H1) (hp:H1 p=some (.lst (ivs (VB.flat (step s c).2)))) (fr:H p=none):Q (.ref p) H1:=by
 obtain ⟨R,W,k⟩:=h
 refine k tg H1 p ?_ (s1.kept R.trk) hp (R.trk.free fr)
 rw [e]
 obtain ⟨dx,f,os,ws,R⟩:=R
 exact ⟨dx,f,os,ws,s1.rin R⟩
noncomputable def sp_tell_queue (T:Txt K mg):Sp:=fun vs H Q _=>∃ sp c tg s,vs=[.ref sp,.int c]∧QSp T tg H sp s (.queue c) Q
noncomputable def tr_tell_queue {K:PySem.W.Frag} {mg:Str->Option Value} (T:Txt K mg):TS:=tSeq (tIfS (tNot (tB (tCall (sp_is_class T) [] E0 (tCons (tVar 1) tNil)))) (tRet (tLst (tCons (tC (.int (-1))) tNil))) (tNext)) (tSeq (tAsg (tLc (iList K (tMeth T.c_Spool "waiting_outputs" (sp_Spool_waiting_outputs T) [] E0 (tVar 0) tNil)) (gName 3) (tTest (tOp rEq (tFld K (tVar 3) "output_class") (tVar 1))) (tFld K (tVar 3) "number") [3]) (gName 2)) (tRet (tCall (sp_with_rows T) [] E0 (tCons (tCB (rLen K) (tCons (tVar 2) tNil)) (tCons (tLst (tCons (tVar 2) tNil)) tNil)))))
theorem ok_tell_queue (T:Txt K mg):FO P w base 5 T.tell_queue (sp_tell_queue T):=by
 o_headS (1 T.tell_queue.F.ok sc_tell_queue)
 obtain ⟨sp,c,tg,st,rfl,h⟩:=h
 o_headS (2 (tr_tell_queue T) (pss_cons (ps_if (pt_not (pt_val (pcf T.is_class (ok_is_class T) hr (pa1 (pv 1))))) (prg T.g_OUT_OF_RANGE) pss_nil) (pss_cons (ps_setLc (i:=2) rfl sc_tell_queue.nd rfl rfl (sw_true rfl rfl rfl (by decide +kernel)) (pi_list (pcm0 (pv 0) T.cl_Spool T.Spool_waiting_outputs (ok_Spool_waiting_outputs T) hr)) (own:=[("output",3)]) (blkOk_by (N:=["spool","wanted","numbers","output"]) (sc:=defScope s_tell_queue) (by decide +kernel)) (fun _ _ _ _ _=>pg_name (i:=3) sc_tell_queue.nd rfl (Or.inl rfl)) (fun _ _ _ _ _=>pts_one (pt_cmpR op_eq (pf (pv 3)) (pv 1) (nomark _))) (fun _ _ _ _ _=>pe_fld (pv 3) rfl)) (pss_one (ps_ret (pcf T.with_rows (ok_with_rows T) hr (pa_cons (pe_callB (r:=rLen K) call_len_seq rfl T.n_len bt_len (pa1 (pv 2))) (pa1 (pe_lst (pa1 (pv 2)))))))))))
 simp only [tr_tell_queue]
 refine seq1 ?_
 walk_at "pq"
 have e0:step st (.queue c)=if Vbbhak.isClass c=false then Vbbhak.no st 1
  else let l:=(st.outs.filter fun o=>o.closed && (!o.held && (!Vbbhak.isDone o && (!Vbbhak.inHand st o.num && o.cls == c.toNat)))).foldr Vbbhak.insertOut [];Vbbhak.yes st l.length [l.map fun o=>o.num]:=rfl
 by_cases hc:Vbbhak.isClass c=false
 ·rw [if_pos hc] at e0 ⊢
  exact h.one e0 Same.rfl'
 ·rw [if_neg hc] at e0 ⊢
  have hc':=VB.inside_iff.mp (show Vbbhak.inside c 1 36=true by simpa [Vbbhak.isClass] using hc)
  obtain ⟨dx,f,os,ws,R⟩:=h.1
  have WF:=h.2.1
  have ef:(st.outs.filter fun o=>o.closed && (!o.held && (!Vbbhak.isDone o && (!Vbbhak.inHand st o.num && o.cls == c.toNat))))=(st.outs.filter (waits st)).filter fun o=>o.cls == c.toNat:=by
   rw [List.filter_filter]
   apply List.filter_congr
   intro o _
   unfold waits
   cases o.closed <;> cases o.held <;> cases Vbbhak.isDone o <;> cases Vbbhak.inHand st o.num <;> cases (o.cls == c.toNat) <;> rfl
  have e1:step st (.queue c)=Vbbhak.yes st (VB.ord ((st.outs.filter (waits st)).filter fun o=>o.cls == c.toNat)).length [(VB.ord ((st.outs.filter (waits st)).filter fun o=>o.cls == c.toNat)).map fun o=>o.num]:=by
   rw [e0,ef]
   rfl
  refine seq1 ?_
  refine ⟨_,rfl,sp,_,_,rfl,R.hsp,rfl,sp,tg,st,dx,f,os,ws,rfl,R,WF,fun D qs H1 hD s1 ed e2 e3=>⟨D,rfl,⟨_,SqL.of ed⟩,fun D2 hD2=>?_⟩⟩
  have few:qs.length≤200:=by
   have:=congrArg List.length e2
   rw [List.length_map,(VB.ord_perm _).length_eq] at this
   have h2:=List.length_filter_le (waits st) st.outs
   have:=WF.few
   have:=WF.c2
   omega
  have R1:=s1.rin R
  refine lc_list (xs:=qs.map fun q=>V.ref q.2) (fun i H'=>LcI H1 D2 (fun i=>((qs.take i).filter fun q=>q.1.cls == c.toNat).map fun q=>V.int (q.1.num:Int)) i H') (lc_start hD2 rfl) (fun i H' _ p=>p.1.seq (SqL.of ed)) (fun i x H' hi p=>?_) (fun H' p=>?_)
  ·obtain ⟨q,hq,rfl⟩:=at_map hi
   obtain ⟨da,fa,O⟩:=R1.oat q (e3 q (List.mem_of_getElem? hq))
   walk_at "pq"
   rw [p.1 _ _ O.ha]
   walk_at "pq"
   rw [O.cls,O.num]
   by_cases hq2:(q.1.cls == c.toNat)=true
   ·rw [if_pos (by have:q.1.cls=c.toNat:=(by simpa using hq2);omega)]
    refine lc_put p hD2 Same.rfl' ?_ ?_
    ·rw [List.length_map]
     have:=List.length_filter_le (fun q:Vbbhak.Out × Addr=>q.1.cls == c.toNat) (qs.take i)
     rw [List.length_take] at this
     have:(1000:Nat) < sizeLine:=by decide
     omega
    ·rw [VB.take_snoc hq,List.filter_append,List.filter_cons,if_pos hq2,List.map_append]
     rfl
   ·rw [if_neg (fun z=>hq2 (by rw [beq_iff_eq];omega))]
    refine lc_skip p Same.rfl' ?_
    rw [VB.take_snoc hq,List.filter_append,List.filter_cons,if_neg hq2,List.filter_nil,List.append_nil]
  ·obtain ⟨p1,p2⟩:=p
   simp only [List.length_map,List.take_length] at p2
   have eq1:(qs.filter fun q=>q.1.cls == c.toNat).map (fun q=>V.int (q.1.num:Int))=nvs ((VB.ord ((st.outs.filter (waits st)).filter fun o=>o.cls == c.toNat)).map fun o=>o.num):=by
    rw [← VB.ord_filter _ _ (VB.nodup_filter _ WF.nd),← e2,List.filter_map]
    unfold nvs
    rw [List.map_map,List.map_map]
    rfl
   rw [eq1,nvs_ivs] at p2
   have ll:(VB.ord ((st.outs.filter (waits st)).filter fun o=>o.cls == c.toNat)).length≤200:=by
    rw [(VB.ord_perm _).length_eq]
    have h1:=List.length_filter_le (fun o:Vbbhak.Out=>o.cls == c.toNat) (st.outs.filter (waits st))
    have h2:=List.length_filter_le (waits st) st.outs
    have:=WF.few
    have:=WF.c2
    omega
   walk_at "pq"
   refine ⟨_,Or.inl (SqL.of p2),fun u hu=>?_⟩
   have s3:=same_new (o:=.lst [.ref D2]) hu
   rw [ivs_length,List.length_map,List.length_map]
   refine ⟨_,u,[D2],[((VB.ord ((st.outs.filter (waits st)).filter fun o=>o.cls == c.toNat)).map fun o=>o.num).map Int.ofNat],rfl,SqL.of upd_same,All2.one (s3 _ _ p2),?_,fun v hv=>?_⟩
   ·have:(1000:Nat) < sizeLine:=by decide
    simp only [told,List.flatMap_cons,List.flatMap_nil,List.length_cons,List.length_append,List.length_nil,List.length_map]
    omega
   ·have s14:=((s1.tr p1).tr s3).tr (same_new (o:=.lst (ivs (told ((VB.ord ((st.outs.filter (waits st)).filter fun o=>o.cls == c.toNat)).length:Int) [((VB.ord ((st.outs.filter (waits st)).filter fun o=>o.cls == c.toNat)).map fun o=>o.num).map Int.ofNat]))) hv)
    refine QSp.retL h (by rw [e1];rfl) s14 ?_ (((s1.tr p1).tr s3).free hv)
    rw [upd_same,e1,flat_told]
    rfl
noncomputable def sp_answer_question (T:Txt K mg):Sp:=fun vs H Q _=>∃ sp p nl nums k tg s,vs=[.ref sp,.int p,.ref nl]∧SqL K H nl (ivs nums)∧VB.Enc k p nums []∧19≤p∧QSp T tg H sp s k Q
theorem ok_answer_question (T:Txt K mg):FO P w base 6 T.answer_question (sp_answer_question T):=by
 o_headS (1 T.answer_question.F.ok sc_answer_question)
 obtain ⟨sp,p,nl,nums,k,tg,st,rfl,h⟩:=h
 o_headS (2 (pss_cons (ps_if (pt_cmpR op_eq (pv 1) pe_int (nomark _)) (pss_one (ps_ret (pcf T.tell_pages (ok_tell_pages T) hr (pa_cons (pv 0) (pa1 (pe_ix ix_list (pv 2) pe_int (fun _ _=>rfl))))))) pss_nil) (pss_cons (ps_if (pt_cmpR op_eq (pv 1) pe_int (nomark _)) (pss_one (ps_ret (pcf T.tell_page (ok_tell_page T) hr (pa_cons (pv 0) (pa_cons (pe_ix ix_list (pv 2) pe_int (fun _ _=>rfl)) (pa1 (pe_ix ix_list (pv 2) pe_int (fun _ _=>rfl)))))))) pss_nil) (pss_cons (ps_if (pt_cmpR op_eq (pv 1) pe_int (nomark _)) (pss_one (ps_ret (pcf T.tell_output (ok_tell_output T) hr (pa_cons (pv 0) (pa1 (pe_ix ix_list (pv 2) pe_int (fun _ _=>rfl))))))) pss_nil) (pss_cons (ps_if (pt_cmpR op_eq (pv 1) pe_int (nomark _)) (pss_one (ps_ret (pcf T.tell_queue (ok_tell_queue T) hr (pa_cons (pv 0) (pa1 (pe_ix ix_list (pv 2) pe_int (fun _ _=>rfl))))))) pss_nil) (pss_cons (ps_if (pt_cmpR op_eq (pv 1) pe_int (nomark _)) (pss_one (ps_ret (pcf T.tell_writer (ok_tell_writer T) hr (pa_cons (pv 0) (pa1 (pe_ix ix_list (pv 2) pe_int (fun _ _=>rfl))))))) pss_nil) (pss_cons (ps_if (pt_cmpR op_eq (pv 1) pe_int (nomark _)) (pss_one (ps_ret (pcf T.tell_paper (ok_tell_paper T) hr (pa_cons (pv 0) (pa_cons (pe_ix ix_list (pv 2) pe_int (fun _ _=>rfl)) (pa_cons (pe_ix ix_list (pv 2) pe_int (fun _ _=>rfl)) (pa1 (pe_ix ix_list (pv 2) pe_int (fun _ _=>rfl))))))))) pss_nil) (pss_cons (ps_if (pt_cmpR op_eq (pv 1) pe_int (nomark _)) (pss_one (ps_ret (pcf T.tell_sheet (ok_tell_sheet T) hr (pa_cons (pv 0) (pa_cons (pe_ix ix_list (pv 2) pe_int (fun _ _=>rfl)) (pa1 (pe_ix ix_list (pv 2) pe_int (fun _ _=>rfl)))))))) pss_nil) (pss_one (ps_ret (pcf T.tell_clean (ok_tell_clean T) hr (pa_cons (pv 0) (pa_cons (pe_ix ix_list (pv 2) pe_int (fun _ _=>rfl)) (pa_cons (pe_ix ix_list (pv 2) pe_int (fun _ _=>rfl)) (pa1 (pe_ix ix_list (pv 2) pe_int (fun _ _=>rfl)))))))))))))))))
 obtain ⟨hn,he,hp,h⟩:=h
 iterate 7 (refine seq1 ?_;walk_at "pq";refine iteI (fun e=>?_) (fun n=>?_);(subst e;((first | obtain ⟨x,rfl,rfl⟩:=VB.e19 he | obtain ⟨x,y,rfl,rfl⟩:=VB.e20 he | obtain ⟨x,rfl,rfl⟩:=VB.e21 he | obtain ⟨x,rfl,rfl⟩:=VB.e22 he | obtain ⟨x,rfl,rfl⟩:=VB.e23 he | obtain ⟨x,y,z,rfl,rfl⟩:=VB.e24 he | obtain ⟨x,y,rfl,rfl⟩:=VB.e25 he | obtain ⟨x,y,z,rfl,rfl⟩:=VB.e26 he);first | exact ⟨_,hn,_,rfl,sp,_,tg,st,rfl,h⟩ | exact ⟨_,hn,_,rfl,_,hn,_,rfl,sp,_,_,tg,st,rfl,h⟩ | exact ⟨_,hn,_,rfl,_,hn,_,rfl,_,hn,_,rfl,sp,_,_,_,tg,st,rfl,h⟩)))
 have hl:=VB.e_le he
 obtain rfl:p=26:=by omega
 ((first | obtain ⟨x,rfl,rfl⟩:=VB.e19 he | obtain ⟨x,y,rfl,rfl⟩:=VB.e20 he | obtain ⟨x,rfl,rfl⟩:=VB.e21 he | obtain ⟨x,rfl,rfl⟩:=VB.e22 he | obtain ⟨x,rfl,rfl⟩:=VB.e23 he | obtain ⟨x,y,z,rfl,rfl⟩:=VB.e24 he | obtain ⟨x,y,rfl,rfl⟩:=VB.e25 he | obtain ⟨x,y,z,rfl,rfl⟩:=VB.e26 he);first | exact ⟨_,hn,_,rfl,sp,_,tg,st,rfl,h⟩ | exact ⟨_,hn,_,rfl,_,hn,_,rfl,sp,_,_,tg,st,rfl,h⟩ | exact ⟨_,hn,_,rfl,_,hn,_,rfl,_,hn,_,rfl,sp,_,_,_,tg,st,rfl,h⟩)
end
end
section
open Vbbhak (State Call Ans step onOut onWriter setWriter writerAt)
section
variable {P:Program} {w:World} {K:PySem.W.Frag} {mg:Str->Option Value} {base:Heap} [BOk mg base]
noncomputable def sp_answer_on_outputs (T:Txt K mg):Sp:=fun vs H Q _=>∃ sp p nl nums rl row k tg s,vs=[.ref sp,.int p,.ref nl,.ref rl]∧SqL K H nl (ivs nums)∧Fz tg H rl=some (.lst (ivs row))∧VB.Enc k p nums row∧p < 9∧QSp T tg H sp s k Q
theorem ok_answer_on_outputs (T:Txt K mg):FO P w base 7 T.answer_on_outputs (sp_answer_on_outputs T):=by
 o_headS (1 T.answer_on_outputs.F.ok sc_answer_on_outputs)
 obtain ⟨sp,p,nl,nums,rl,row,k,tg,st,rfl,h⟩:=h
 o_headS (2 (pss_cons (ps_if (pt_cmpR op_eq (pv 1) pe_int (nomark _)) (pss_one (ps_ret (pcf T.begin (ok_begin T) hr (pa_cons (pv 0) (pa_cons (pe_ix ix_list (pv 2) pe_int (fun _ _=>rfl)) (pa_cons (pe_ix ix_list (pv 2) pe_int (fun _ _=>rfl)) (pa1 (pe_ix ix_list (pv 2) pe_int (fun _ _=>rfl))))))))) pss_nil) (pss_cons (ps_if (pt_cmpR op_eq (pv 1) pe_int (nomark _)) (pss_one (ps_ret (pcf T.open_output (ok_open_output T) hr (pa_cons (pv 0) (pa_cons (pe_ix ix_list (pv 2) pe_int (fun _ _=>rfl)) (pa_cons (pe_ix ix_list (pv 2) pe_int (fun _ _=>rfl)) (pa_cons (pe_ix ix_list (pv 2) pe_int (fun _ _=>rfl)) (pa_cons (pe_ix ix_list (pv 2) pe_int (fun _ _=>rfl)) (pa_cons (pe_ix ix_list (pv 2) pe_int (fun _ _=>rfl)) (pa1 (pv 3))))))))))) pss_nil) (pss_cons (ps_if (pt_cmpR op_eq (pv 1) pe_int (nomark _)) (pss_one (ps_ret (pcf T.add_line (ok_add_line T) hr (pa_cons (pv 0) (pa_cons (pe_ix ix_list (pv 2) pe_int (fun _ _=>rfl)) (pa_cons (pe_ix ix_list (pv 2) pe_int (fun _ _=>rfl)) (pa1 (pv 3)))))))) pss_nil) (pss_cons (ps_if (pt_cmpR op_eq (pv 1) pe_int (nomark _)) (pss_one (ps_ret (pcf T.close (ok_close T) hr (pa_cons (pv 0) (pa1 (pe_ix ix_list (pv 2) pe_int (fun _ _=>rfl))))))) pss_nil) (pss_cons (ps_if (pt_cmpR op_eq (pv 1) pe_int (nomark _)) (pss_one (ps_ret (pcf T.purge (ok_purge T) hr (pa_cons (pv 0) (pa1 (pe_ix ix_list (pv 2) pe_int (fun _ _=>rfl))))))) pss_nil) (pss_cons (ps_if (pt_cmpR op_eq (pv 1) pe_int (nomark _)) (pss_one (ps_ret (pcf T.hold (ok_hold T) hr (pa_cons (pv 0) (pa1 (pe_ix ix_list (pv 2) pe_int (fun _ _=>rfl))))))) pss_nil) (pss_cons (ps_if (pt_cmpR op_eq (pv 1) pe_int (nomark _)) (pss_one (ps_ret (pcf T.letgo (ok_letgo T) hr (pa_cons (pv 0) (pa1 (pe_ix ix_list (pv 2) pe_int (fun _ _=>rfl))))))) pss_nil) (pss_cons (ps_if (pt_cmpR op_eq (pv 1) pe_int (nomark _)) (pss_one (ps_ret (pcf T.change (ok_change T) hr (pa_cons (pv 0) (pa_cons (pe_ix ix_list (pv 2) pe_int (fun _ _=>rfl)) (pa_cons (pe_ix ix_list (pv 2) pe_int (fun _ _=>rfl)) (pa_cons (pe_ix ix_list (pv 2) pe_int (fun _ _=>rfl)) (pa1 (pe_ix ix_list (pv 2) pe_int (fun _ _=>rfl)))))))))) pss_nil) (pss_one (ps_ret (pcf T.set_copies (ok_set_copies T) hr (pa_cons (pv 0) (pa_cons (pe_ix ix_list (pv 2) pe_int (fun _ _=>rfl)) (pa1 (pe_ix ix_list (pv 2) pe_int (fun _ _=>rfl)))))))))))))))))
 obtain ⟨hn,hrow,he,hp,h⟩:=h
 iterate 8 (refine seq1 ?_;walk_at "pq";refine iteI (fun e=>?_) (fun n=>?_);(subst e;((first | obtain ⟨x,y,z,rfl,rfl⟩:=VB.e0 he | obtain ⟨x,y,z,u,v,b,rfl,rfl,rfl⟩:=VB.e1 he | obtain ⟨x,y,b,rfl,rfl,rfl⟩:=VB.e2 he | obtain ⟨x,rfl,rfl⟩:=VB.e3 he | obtain ⟨x,rfl,rfl⟩:=VB.e4 he | obtain ⟨x,rfl,rfl⟩:=VB.e5 he | obtain ⟨x,rfl,rfl⟩:=VB.e6 he | obtain ⟨x,y,z,u,rfl,rfl⟩:=VB.e7 he | obtain ⟨x,y,rfl,rfl⟩:=VB.e8 he);first | exact ⟨_,hn,_,rfl,_,hn,_,rfl,_,hn,_,rfl,sp,_,_,_,tg,st,rfl,h⟩ | exact ⟨_,hn,_,rfl,_,hn,_,rfl,_,hn,_,rfl,_,hn,_,rfl,_,hn,_,rfl,sp,_,_,_,_,_,rl,b,tg,st,rfl,hrow,h⟩ | exact ⟨_,hn,_,rfl,_,hn,_,rfl,sp,_,_,rl,b,tg,st,rfl,SqL.of (Fz_sub _ _ hrow),h⟩ | exact ⟨_,hn,_,rfl,sp,_,tg,st,rfl,h⟩ | exact ⟨_,hn,_,rfl,_,hn,_,rfl,_,hn,_,rfl,_,hn,_,rfl,sp,_,_,_,_,tg,st,rfl,h⟩ | exact ⟨_,hn,_,rfl,_,hn,_,rfl,sp,_,_,tg,st,rfl,h⟩)))
 have hl:=VB.e_le he
 obtain rfl:p=8:=by omega
 ((first | obtain ⟨x,y,z,rfl,rfl⟩:=VB.e0 he | obtain ⟨x,y,z,u,v,b,rfl,rfl,rfl⟩:=VB.e1 he | obtain ⟨x,y,b,rfl,rfl,rfl⟩:=VB.e2 he | obtain ⟨x,rfl,rfl⟩:=VB.e3 he | obtain ⟨x,rfl,rfl⟩:=VB.e4 he | obtain ⟨x,rfl,rfl⟩:=VB.e5 he | obtain ⟨x,rfl,rfl⟩:=VB.e6 he | obtain ⟨x,y,z,u,rfl,rfl⟩:=VB.e7 he | obtain ⟨x,y,rfl,rfl⟩:=VB.e8 he);first | exact ⟨_,hn,_,rfl,_,hn,_,rfl,_,hn,_,rfl,sp,_,_,_,tg,st,rfl,h⟩ | exact ⟨_,hn,_,rfl,_,hn,_,rfl,_,hn,_,rfl,_,hn,_,rfl,_,hn,_,rfl,sp,_,_,_,_,_,rl,b,tg,st,rfl,hrow,h⟩ | exact ⟨_,hn,_,rfl,_,hn,_,rfl,sp,_,_,rl,b,tg,st,rfl,SqL.of (Fz_sub _ _ hrow),h⟩ | exact ⟨_,hn,_,rfl,sp,_,tg,st,rfl,h⟩ | exact ⟨_,hn,_,rfl,_,hn,_,rfl,_,hn,_,rfl,_,hn,_,rfl,sp,_,_,_,_,tg,st,rfl,h⟩ | exact ⟨_,hn,_,rfl,_,hn,_,rfl,sp,_,_,tg,st,rfl,h⟩)
noncomputable def sp_answer_on_writers (T:Txt K mg):Sp:=fun vs H Q _=>∃ sp p nl nums rl row k tg s,vs=[.ref sp,.int p,.ref nl,.ref rl]∧SqL K H nl (ivs nums)∧Fz tg H rl=some (.lst (ivs row))∧VB.Enc k p nums row∧9≤p∧p < 19∧QSp T tg H sp s k Q
theorem ok_answer_on_writers (T:Txt K mg):FO P w base 9 T.answer_on_writers (sp_answer_on_writers T):=by
 o_headS (1 T.answer_on_writers.F.ok sc_answer_on_writers)
 obtain ⟨sp,p,nl,nums,rl,row,k,tg,st,rfl,h⟩:=h
 o_headS (2 (pss_cons (ps_if (pt_cmpR op_eq (pv 1) pe_int (nomark _)) (pss_one (ps_ret (pcf T.start (ok_start T) hr (pa_cons (pv 0) (pa_cons (pe_ix ix_list (pv 2) pe_int (fun _ _=>rfl)) (pa_cons (pe_ix ix_list (pv 2) pe_int (fun _ _=>rfl)) (pa_cons (pe_ix ix_list (pv 2) pe_int (fun _ _=>rfl)) (pa_cons (pe_ix ix_list (pv 2) pe_int (fun _ _=>rfl)) (pa1 (pv 3)))))))))) pss_nil) (pss_cons (ps_if (pt_cmpR op_eq (pv 1) pe_int (nomark _)) (pss_one (ps_ret (pcf T.serve (ok_serve T) hr (pa_cons (pv 0) (pa_cons (pe_ix ix_list (pv 2) pe_int (fun _ _=>rfl)) (pa_cons (pe_ix ix_list (pv 2) pe_int (fun _ _=>rfl)) (pa_cons (pe_ix ix_list (pv 2) pe_int (fun _ _=>rfl)) (pa1 (pv 3))))))))) pss_nil) (pss_cons (ps_if (pt_cmpR op_eq (pv 1) pe_int (nomark _)) (pss_one (ps_ret (pcf T.mount (ok_mount T) hr (pa_cons (pv 0) (pa_cons (pe_ix ix_list (pv 2) pe_int (fun _ _=>rfl)) (pa1 (pe_ix ix_list (pv 2) pe_int (fun _ _=>rfl)))))))) pss_nil) (pss_cons (ps_if (pt_cmpR op_eq (pv 1) pe_int (nomark _)) (pss_one (ps_ret (pcf T.stop (ok_stop T) hr (pa_cons (pv 0) (pa1 (pe_ix ix_list (pv 2) pe_int (fun _ _=>rfl))))))) pss_nil) (pss_cons (ps_if (pt_cmpR op_eq (pv 1) pe_int (nomark _)) (pss_one (ps_ret (pcf T.turn (ok_turn T) hr (pa_cons (pv 0) (pa1 (pe_ix ix_list (pv 2) pe_int (fun _ _=>rfl))))))) pss_nil) (pss_cons (ps_if (pt_cmpR op_eq (pv 1) pe_int (nomark _)) (pss_one (ps_ret (pcf T.note (ok_note T) hr (pa_cons (pv 0) (pa1 (pe_ix ix_list (pv 2) pe_int (fun _ _=>rfl))))))) pss_nil) (pss_cons (ps_if (pt_cmpR op_eq (pv 1) pe_int (nomark _)) (pss_one (ps_ret (pcf T.back (ok_back T) hr (pa_cons (pv 0) (pa_cons (pe_ix ix_list (pv 2) pe_int (fun _ _=>rfl)) (pa1 (pe_ix ix_list (pv 2) pe_int (fun _ _=>rfl)))))))) pss_nil) (pss_cons (ps_if (pt_cmpR op_eq (pv 1) pe_int (nomark _)) (pss_one (ps_ret (pcf T.interrupt (ok_interrupt T) hr (pa_cons (pv 0) (pa1 (pe_ix ix_list (pv 2) pe_int (fun _ _=>rfl))))))) pss_nil) (pss_cons (ps_if (pt_cmpR op_eq (pv 1) pe_int (nomark _)) (pss_one (ps_ret (pcf T.power (ok_power T) hr (pa1 (pv 0))))) pss_nil) (pss_one (ps_ret (pcf T.cut (ok_cut T) hr (pa_cons (pv 0) (pa1 (pe_ix ix_list (pv 2) pe_int (fun _ _=>rfl)))))))))))))))))
 obtain ⟨hn,hrow,he,hp0,hp,h⟩:=h
 iterate 9 (refine seq1 ?_;walk_at "pq";refine iteI (fun e=>?_) (fun n=>?_);(subst e;((first | obtain ⟨x,y,z,u,rfl,rfl⟩:=VB.e9 he | obtain ⟨x,y,z,rfl,rfl⟩:=VB.e10 he | obtain ⟨x,y,rfl,rfl⟩:=VB.e11 he | obtain ⟨x,rfl,rfl⟩:=VB.e12 he | obtain ⟨x,rfl,rfl⟩:=VB.e13 he | obtain ⟨x,rfl,rfl⟩:=VB.e14 he | obtain ⟨x,y,rfl,rfl⟩:=VB.e15 he | obtain ⟨x,rfl,rfl⟩:=VB.e16 he | obtain ⟨rfl,rfl⟩:=VB.e17 he | obtain ⟨x,rfl,rfl⟩:=VB.e18 he);first | exact ⟨_,hn,_,rfl,_,hn,_,rfl,_,hn,_,rfl,_,hn,_,rfl,sp,_,_,_,_,rl,row,tg,st,rfl,hrow,h⟩ | exact ⟨_,hn,_,rfl,_,hn,_,rfl,_,hn,_,rfl,sp,_,_,_,rl,row,tg,st,rfl,hrow,h⟩ | exact ⟨_,hn,_,rfl,_,hn,_,rfl,sp,_,_,tg,st,rfl,h⟩ | exact ⟨_,hn,_,rfl,sp,_,tg,st,rfl,h⟩ | exact ⟨sp,tg,st,rfl,h⟩)))
 have hl:=VB.e_le he
 obtain rfl:p=18:=by omega
 ((first | obtain ⟨x,y,z,u,rfl,rfl⟩:=VB.e9 he | obtain ⟨x,y,z,rfl,rfl⟩:=VB.e10 he | obtain ⟨x,y,rfl,rfl⟩:=VB.e11 he | obtain ⟨x,rfl,rfl⟩:=VB.e12 he | obtain ⟨x,rfl,rfl⟩:=VB.e13 he | obtain ⟨x,rfl,rfl⟩:=VB.e14 he | obtain ⟨x,y,rfl,rfl⟩:=VB.e15 he | obtain ⟨x,rfl,rfl⟩:=VB.e16 he | obtain ⟨rfl,rfl⟩:=VB.e17 he | obtain ⟨x,rfl,rfl⟩:=VB.e18 he);first | exact ⟨_,hn,_,rfl,_,hn,_,rfl,_,hn,_,rfl,_,hn,_,rfl,sp,_,_,_,_,rl,row,tg,st,rfl,hrow,h⟩ | exact ⟨_,hn,_,rfl,_,hn,_,rfl,_,hn,_,rfl,sp,_,_,_,rl,row,tg,st,rfl,hrow,h⟩ | exact ⟨_,hn,_,rfl,_,hn,_,rfl,sp,_,_,tg,st,rfl,h⟩ | exact ⟨_,hn,_,rfl,sp,_,tg,st,rfl,h⟩ | exact ⟨sp,tg,st,rfl,h⟩)
end
end
section
open Vbbhak (State Call Ans step onOut onWriter setWriter writerAt)
section
variable {P:Program} {w:World} {K:PySem.W.Frag} {mg:Str->Option Value} {base:Heap} [BOk mg base]
noncomputable def sp_Spool_init (T:Txt K mg):Sp:=fun vs H Q _=>∃ a dx m c p,vs=[.ref a,.int m,.int c,.int p]∧H a=some (.ins T.c_Spool dx []) ∧
 ∀ (d l:Addr) (ws:List (Addr × Addr × Addr × Addr)) (H':Hp),H d=none->H l=none->ws.length=8->(∀ x ∈ ws,H x.1=none∧H x.2.2.1=none)->(ws.map (·.1)).Nodup->(ws.map (·.2.2.1)).Nodup →
  H' a=some (SO T dx ⟨m,c,p,0,d,l⟩)->H' d=some (.dK [])->H' l=some (.lst (ws.map fun x=>V.ref x.1)) →
  (∀ x ∈ ws,H' x.1=some (WO T x.2.1 ⟨.ref x.2.2.1,0,0,false,0,false,0,0,.ref x.2.2.2,0,.ref T.a_NO_PLACE,.ref T.a_NO_PLACE,0,0⟩)∧H' x.2.2.1=some (.lst [])∧H' x.2.2.2=some (.lst [])∧H x.2.2.2=none∧x.2.2.2 ≠ x.2.2.1∧∀ y ∈ ws,x.2.2.2 ≠ y.2.2.1)->Ex [a] H H'->Q .non H'
theorem ok_Spool_init (T:Txt K mg):NO P w base mg 6 T.Spool_init (sp_Spool_init T):=by
 o_headS (1 T.Spool_init.F.ok sc_Spool_init)
 obtain ⟨a,dx,m,c,p,rfl,h⟩:=h
 o_headS (2 (pss_one (ps_expr (pcm (pv 0) T.cl_Spool T.Spool_renew (ok_Spool_renew T) hr (pa_cons (pv 1) (pa_cons (pv 2) (pa1 (pv 3))))))))
 obtain ⟨h1,h⟩:=h
 walk_at "pq"
 exact ⟨_,_,h1,rfl,a,dx,[],m,c,p,rfl,h1,.inl rfl,h⟩
noncomputable def sp_new_spool (T:Txt K mg):Sp:=fun vs H Q _=>vs=[]∧H T.a_LAM=some (.tbl #[])∧∀ sp tg H',Rep T tg H' sp Vbbhak.start->Same H H'->(∀ b o,H b=some o->b ≠ T.a_LAM->tg b=none)->Q (.ref sp) H'
theorem ok_new_spool (T:Txt K mg):FO P w base 8 T.new_spool (sp_new_spool T):=by
 refine T.new_spool.F.ok sc_new_spool (fun vs H Q E h=>?_) (fun cdv A outer s H vs Q E hr h=>⟨_,pss_one (ps_ret (pe_make T.Spool_init.mak (ok_Spool_init T) hr rfl T.mgc_Spool T.Spool_init.b .nil pass0 (pa_cons pe_int (pa_cons pe_int (pa1 pe_int))))),?_⟩)
 ·obtain ⟨rfl,_⟩:=h;rfl
 ·obtain ⟨rfl,hlm,h⟩:=h
  try dsimp only [cxOf,Cx.wish]
  walk_at "pq"
  simp only [tMake]
  walk_at "pq"
  intro x dx hx hdx ne
  have s0:Same H (upd (upd H dx (.own x)) x (.ins T.c_Spool dx [])):=fun b o e=>by rw [upd_ne (ne_of_none e hx),upd_ne (ne_of_none e hdx)];exact e
  refine ⟨x,dx,60,200,5000,rfl,upd_same,fun d l ws H' z1 z2 z3 z4 z5 z6 z7 z8 z9 z10 z11=>⟨rfl,?_⟩⟩
  have lx:T.a_LAM ≠ x:=ne_of_none hlm hx
  have tk:Trk (fun b=>if b=x then some Tag.spool else if b=T.a_LAM then some Tag.lam else none) (upd (upd H dx (.own x)) x (.ins T.c_Spool dx [])):=fun b t e=>by
   by_cases q:b=x
   ·rw [q];exact ⟨_,upd_same⟩
   ·by_cases q2:b=T.a_LAM
    ·rw [q2];exact ⟨_,s0 _ _ hlm⟩
    ·dsimp only at e;rw [if_neg q,if_neg q2] at e;cases e
  obtain ⟨r1,r2⟩:=rep_new (T:=T) (m:=60) (c:=200) (p:=5000) tk (if_pos rfl) ⟨by (try dsimp only);rw [if_neg lx,if_pos rfl],.inl (s0 _ _ hlm)⟩ z1 z2 z3 z4 z5 z6 z7 z8 z9 z10 z11
  refine h x _ H' r1 (fun b o e=>?_) fun b o e nl=>?_
  ·exact z11 _ _ (s0 _ _ e) (by simpa using ne_of_none e hx)
  ·have eb:=s0 _ _ e
   have bx:b ≠ x:=ne_of_none e hx
   have:=r2.fz b o (by rw [Fz_of (by (try dsimp only);rw [if_neg bx,if_neg nl])];exact eb)
   exact (Fz_some this).1
theorem Rep.env {T:Txt K mg} {tg:Tg} {H:Hp} {sp:Addr} {s:State} (R:Rep T tg H sp s) {a:Addr} {j:Nat} (ta:tg a=some (.env j)) (o:HO):Rep T tg (upd H a o) sp s:=by
 obtain ⟨dx,f,os,ws,h⟩:=R
 have k:∀ p:Tag->Prop,¬ p (.env j)->Kp tg H tg (upd H a o) p:=fun p hp=>Kp.upd ta hp
 have fz:Fz tg (upd H a o)=Fz tg H:=Fz_upd (by rw [ta];simp)
 obtain ⟨_,k1⟩:=k (fun t=>t = .spool) (by simp) _ _ h.tsp rfl
 obtain ⟨_,k2⟩:=k (fun t=>t = .outs) (by simp) _ _ h.tod rfl
 exact ⟨dx,f,os,ws,h.trk.upd,h.tsp,h.lam.frame (k _ (by simp)) (by rw [fz];exact Same.rfl'),k1.trans h.hsp,h.most,h.cap,h.room,h.last,h.nle,h.tod,k2.trans h.hod,h.outs,fun p hp=>(h.oat p hp).frame (k _ (by simp)) (by rw [fz];exact Same.rfl'),by rw [fz];exact h.hwl,h.wrs,fun i x a z=>(h.wat i x a z).frame (k _ (by simp)) (by rw [fz];exact Same.rfl')⟩
structure RdI (T:Txt K mg) (tg:Tg) (H:Hp) (rd:Addr) (sp:Addr) (s:State) (Hf:Hp):Prop where
 rep:Rep T tg Hf sp s
 fz:Same (Fz tg H) (Fz tg Hf)
 env:∀ b j,tg b=some (.env j)->b ≠ rd->Hf b=H b
theorem RdI.new {T:Txt K mg} {tg:Tg} {H Hf:Hp} {rd sp p:Addr} {s:State} {o:HO} (h:RdI T tg H rd sp s Hf) (hp:Hf p=none):RdI T tg H rd sp s (upd Hf p o):=
 ⟨h.rep.same (same_new hp),h.fz.trans (Fz_same (same_new hp)),fun b j e n=>by
  rw [upd_ne (fun z=>by rw [z,h.rep.trk.free hp] at e;cases e)]
  exact h.env b j e n⟩
theorem RdI.rd {T:Txt K mg} {tg:Tg} {H Hf:Hp} {rd sp:Addr} {s:State} {o:HO} (h:RdI T tg H rd sp s Hf) (ht:tg rd=some (.env 0)):RdI T tg H rd sp s (upd Hf rd o):=
 ⟨h.rep.env ht o,by rw [Fz_upd (by rw [ht];simp)];exact h.fz,fun b j e n=>by rw [upd_ne n];exact h.env b j e n⟩
noncomputable def sp_answer_next (T:Txt K mg):Sp:=fun vs H Q _=>∃ sp rd dr cl tg s pre p r t c k nums row,vs=[.ref sp,.ref rd]∧Rep T tg H sp s∧VB.WF s∧tg rd=some (.env 0)∧H rd=some (RO T dr (.ref cl) ((pre:List Int).length:Int))∧SqL K (Fz tg H) cl (ivs (pre++p::r))∧VB.Told1 p r t c k nums row ∧
 ∀ tg' H' q,Rep T tg' H' sp (step s k).1->tg' rd=some (.env 0)->H' rd=some (RO T dr (.ref cl) (((pre++p::r).length - t.length:Nat):Int))->Same (Fz tg H) (Fz tg' H')->(∀ b j,tg b=some (.env j)->b ≠ rd->tg' b=some (.env j)∧H' b=H b)->H' q=some (.lst (ivs (VB.flat (step s k).2)))->tg' q=none->Q (.ref q) H'
theorem TupsK.at {K:PySem.W.Frag}:∀ {as:List Addr} {xs:List (List V)},TupsK K as xs->∀ {i:Nat} {x:List V},xs[i]? = some x->∃ a,as[i]? = some a∧TupK K a x
 | [],[],_,i,x,e=>by simp at e
 | a::as,x::xs,h,0,y,e=>by cases e;exact ⟨a,rfl,h.1⟩
 | a::as,x::xs,h,i + 1,y,e=>by
  obtain ⟨b,h1,h2⟩:=TupsK.at h.2 (i:=i) (by simpa using e)
  exact ⟨b,by simpa using h1,h2⟩
theorem shapes_at (T:Txt K mg) {k:Call} {p:Int} {nums row:List Int} (e:VB.Enc k p nums row):(∃ i:Nat,p=(i:Int)∧∃ a,T.as_SHAPES[i]? = some a∧TupK K a [.int (nums.length:Int),.bl (VB.hasRow p)])∧(VB.hasRow p=false->row=[])∧0≤p∧p < 27:=by
 cases k <;> cases e
 ·exact ⟨⟨0,rfl,T.ts_SHAPES.at (i:=0) rfl⟩,fun _=>rfl,by decide,by decide⟩
 ·exact ⟨⟨1,rfl,T.ts_SHAPES.at (i:=1) rfl⟩,(fun z=>by cases z),by decide,by decide⟩
 ·exact ⟨⟨2,rfl,T.ts_SHAPES.at (i:=2) rfl⟩,(fun z=>by cases z),by decide,by decide⟩
 ·exact ⟨⟨3,rfl,T.ts_SHAPES.at (i:=3) rfl⟩,fun _=>rfl,by decide,by decide⟩
 ·exact ⟨⟨4,rfl,T.ts_SHAPES.at (i:=4) rfl⟩,fun _=>rfl,by decide,by decide⟩
 ·exact ⟨⟨5,rfl,T.ts_SHAPES.at (i:=5) rfl⟩,fun _=>rfl,by decide,by decide⟩
 ·exact ⟨⟨6,rfl,T.ts_SHAPES.at (i:=6) rfl⟩,fun _=>rfl,by decide,by decide⟩
 ·exact ⟨⟨7,rfl,T.ts_SHAPES.at (i:=7) rfl⟩,fun _=>rfl,by decide,by decide⟩
 ·exact ⟨⟨8,rfl,T.ts_SHAPES.at (i:=8) rfl⟩,fun _=>rfl,by decide,by decide⟩
 ·exact ⟨⟨9,rfl,T.ts_SHAPES.at (i:=9) rfl⟩,(fun z=>by cases z),by decide,by decide⟩
 ·exact ⟨⟨10,rfl,T.ts_SHAPES.at (i:=10) rfl⟩,(fun z=>by cases z),by decide,by decide⟩
 ·exact ⟨⟨11,rfl,T.ts_SHAPES.at (i:=11) rfl⟩,fun _=>rfl,by decide,by decide⟩
 ·exact ⟨⟨12,rfl,T.ts_SHAPES.at (i:=12) rfl⟩,fun _=>rfl,by decide,by decide⟩
 ·exact ⟨⟨13,rfl,T.ts_SHAPES.at (i:=13) rfl⟩,fun _=>rfl,by decide,by decide⟩
 ·exact ⟨⟨14,rfl,T.ts_SHAPES.at (i:=14) rfl⟩,fun _=>rfl,by decide,by decide⟩
 ·exact ⟨⟨15,rfl,T.ts_SHAPES.at (i:=15) rfl⟩,fun _=>rfl,by decide,by decide⟩
 ·exact ⟨⟨16,rfl,T.ts_SHAPES.at (i:=16) rfl⟩,fun _=>rfl,by decide,by decide⟩
 ·exact ⟨⟨17,rfl,T.ts_SHAPES.at (i:=17) rfl⟩,fun _=>rfl,by decide,by decide⟩
 ·exact ⟨⟨18,rfl,T.ts_SHAPES.at (i:=18) rfl⟩,fun _=>rfl,by decide,by decide⟩
 ·exact ⟨⟨19,rfl,T.ts_SHAPES.at (i:=19) rfl⟩,fun _=>rfl,by decide,by decide⟩
 ·exact ⟨⟨20,rfl,T.ts_SHAPES.at (i:=20) rfl⟩,fun _=>rfl,by decide,by decide⟩
 ·exact ⟨⟨21,rfl,T.ts_SHAPES.at (i:=21) rfl⟩,fun _=>rfl,by decide,by decide⟩
 ·exact ⟨⟨22,rfl,T.ts_SHAPES.at (i:=22) rfl⟩,fun _=>rfl,by decide,by decide⟩
 ·exact ⟨⟨23,rfl,T.ts_SHAPES.at (i:=23) rfl⟩,fun _=>rfl,by decide,by decide⟩
 ·exact ⟨⟨24,rfl,T.ts_SHAPES.at (i:=24) rfl⟩,fun _=>rfl,by decide,by decide⟩
 ·exact ⟨⟨25,rfl,T.ts_SHAPES.at (i:=25) rfl⟩,fun _=>rfl,by decide,by decide⟩
 ·exact ⟨⟨26,rfl,T.ts_SHAPES.at (i:=26) rfl⟩,fun _=>rfl,by decide,by decide⟩
theorem ok_answer_next (T:Txt K mg):FO P w base 10 T.answer_next (sp_answer_next T):=by
 o_headS (1 T.answer_next.F.ok sc_answer_next)
 obtain ⟨sp,rd,dr,cl,tg,st,pre,p,r,t,c,k,nums,row,rfl,h⟩:=h
 o_headS (2 (pss_cons (pst 2 sc_answer_next (pcm0 (pv 1) T.cl_Reader T.Reader_take_one (ok_Reader_take_one T) hr)) (pss_cons (pst 3 sc_answer_next (pe_ix ix_tup (pgi T.g_SHAPES) (pv 2) (fun _ _=>rfl))) (pss_cons (pst 4 sc_answer_next (pcm (pv 1) T.cl_Reader T.Reader_take (ok_Reader_take T) hr (pa1 (pe_ix ix_tup (pv 3) pe_int (fun _ _=>rfl))))) (pss_cons (pst 5 sc_answer_next (pe_lst pa_nil)) (pss_cons (ps_if (pt_val (pe_ix ix_tup (pv 3) pe_int (fun _ _=>rfl))) (pss_one (pst 5 sc_answer_next (pcm (pv 1) T.cl_Reader T.Reader_take (ok_Reader_take T) hr (pa1 (pcm0 (pv 1) T.cl_Reader T.Reader_take_one (ok_Reader_take_one T) hr))))) pss_nil) (pss_cons (ps_if (pt_cmpR op_lt (pv 2) (pgi T.g_FIRST_WRITER_CALL) (nomark _)) (pss_one (ps_ret (pcf T.answer_on_outputs (ok_answer_on_outputs T) hr (pa_cons (pv 0) (pa_cons (pv 2) (pa_cons (pv 4) (pa1 (pv 5)))))))) pss_nil) (pss_cons (ps_if (pt_cmpR op_lt (pv 2) (pgi T.g_FIRST_QUESTION) (nomark _)) (pss_one (ps_ret (pcf T.answer_on_writers (ok_answer_on_writers T) hr (pa_cons (pv 0) (pa_cons (pv 2) (pa_cons (pv 4) (pa1 (pv 5)))))))) pss_nil) (pss_one (ps_ret (pcf T.answer_question (ok_answer_question T) hr (pa_cons (pv 0) (pa_cons (pv 2) (pa1 (pv 4)))))))))))))))
 obtain ⟨R,WF,trd,hrd,hcl,TD,h⟩:=h
 obtain ⟨⟨i,rfl,sa,hsa,tsa⟩,norow,p0,p27⟩:=shapes_at T TD.enc
 have I0:RdI T tg H rd sp st H:=⟨R,Same.rfl',fun _ _ _ _=>rfl⟩
 refine seq1 ?_
 walk_at "pq"
 rw [hrd]
 walk_at "pq"
 have I1:=I0.rd (o:=RO T dr (.ref cl) ((pre.length:Int) + 1)) trd
 have sq:∀ Hf,RdI T tg H rd sp st Hf->SqL K Hf cl (ivs (pre++(i:Int)::r)):=fun Hf I=>Fz_sub.seq (I.fz.seq hcl)
 refine ⟨rd,dr,cl,_,_,.int (i:Int),rfl,hrd,sq _ I1,at_of (j:=pre.length) rfl (by unfold ivs;simp),seq1 ?_⟩
 have e1:upd H rd (RO T dr (.ref cl) ((pre.length:Int) + 1)) rd=some (RO T dr (.ref cl) ((pre.length:Int) + 1)):=upd_same
 generalize upd H rd (RO T dr (.ref cl) ((pre.length:Int) + 1))=H1 at I1 e1
 have fin:∀ Hf q1 rl,RdI T tg H rd sp st Hf->Hf rd=some (RO T dr (.ref cl) (((pre++(i:Int)::r).length - t.length:Nat):Int))->SqL K Hf q1 (ivs nums)->Fz tg Hf rl=some (.lst (ivs row)) →
   (tSeq (tIfS (tTest (tOp rLt (tVar 2) (tC (.int (9))))) (tRet (tCall (sp_answer_on_outputs T) [] E0 (tCons (tVar 0) (tCons (tVar 2) (tCons (tVar 4) (tCons (tVar 5) tNil)))))) (tNext))
    (tSeq (tIfS (tTest (tOp rLt (tVar 2) (tC (.int (19))))) (tRet (tCall (sp_answer_on_writers T) [] E0 (tCons (tVar 0) (tCons (tVar 2) (tCons (tVar 4) (tCons (tVar 5) tNil)))))) (tNext))
    (tRet (tCall (sp_answer_question T) [] E0 (tCons (tVar 0) (tCons (tVar 2) (tCons (tVar 4) tNil))))))) { nx:=fun _ H'=>Q .non H',rt:=Q } [some (.ref sp),some (.ref rd),some (.int (i:Int)),some (.ref sa),some (.ref q1),some (.ref rl)] Hf:=by
  intro Hf q1 rl If ef eq1 er
  have Qf:QSp T tg Hf sp st k Q:=⟨If.rep,WF,fun tg' H' q r1 r2 e t'=>by
   obtain ⟨y1,y2⟩:=r2.env rd 0 trd
   exact h tg' H' q r1 y1 (y2.trans ef) (If.fz.trans r2.fz) (fun b j eb nb=>by
    obtain ⟨x1,x2⟩:=r2.env b j eb
    exact ⟨x1,x2.trans (If.env b j eb nb)⟩) e t'⟩
  refine seq1 ?_
  walk_at "pq"
  by_cases h9:(i:Int) < 9
  ·rw [if_pos h9]
   exact ⟨sp,_,q1,nums,rl,row,k,tg,st,rfl,eq1,er,TD.enc,h9,Qf⟩
  ·rw [if_neg h9]
   refine seq1 ?_
   walk_at "pq"
   by_cases h19:(i:Int) < 19
   ·rw [if_pos h19]
    exact ⟨sp,_,q1,nums,rl,row,k,tg,st,rfl,eq1,er,TD.enc,by omega,h19,Qf⟩
   ·rw [if_neg h19]
    have hr0:VB.hasRow (i:Int)=false:=by
     unfold VB.hasRow
     simp
     omega
    have er0:=norow hr0
    have en:=TD.enc
    rw [er0] at en
    exact ⟨sp,_,q1,nums,k,tg,st,rfl,eq1,en,by omega,Qf⟩
 walk_at "pq"
 refine ⟨_,T.t_SHAPES.sq _,V.ref sa,at_of (j:=i) rfl (by rw [List.getElem?_map,hsa];rfl),seq1 ?_⟩
 walk_at "pq"
 rw [e1]
 walk_at "pq"
 have I2:=I1.rd (o:=RO T dr (.ref cl) ((pre.length:Int) + 1 + (nums.length:Int))) trd
 refine ⟨_,tsa.sq _,V.int (nums.length:Int),rfl,rd,dr,cl,_,_,_,rfl,e1,sq _ I2,fun q1 hq1=>?_⟩
 have rq1:rd ≠ q1:=fun z=>by rw [← z,upd_same] at hq1;cases hq1
 have hr:=TD.row
 have ec:cutV (ivs (pre++(i:Int)::r)) (some ((pre.length:Int) + 1)) (some ((pre.length:Int) + 1 + (nums.length:Int)))=ivs nums:=by
  have:=cut_ft (ivs (pre++(i:Int)::r)) (pre.length + 1) nums.length
  rw [show (((pre.length + 1:Nat):Int))=(pre.length:Int) + 1 from rfl] at this
  rw [this,ivs_drop,ivs_take]
  congr 1
  rw [show pre++(i:Int)::r=(pre++[(i:Int)])++r by simp,List.drop_left' (by simp),hr,List.take_left']
  rfl
 rw [ec]
 have I3:=I2.new (o:=.lst (ivs nums)) hq1
 have e3:upd (upd H1 rd (RO T dr (.ref cl) ((pre.length:Int) + 1 + (nums.length:Int)))) q1 (.lst (ivs nums)) rd=some (RO T dr (.ref cl) ((pre.length:Int) + 1 + (nums.length:Int))):=by rw [upd_ne rq1,upd_same]
 have eq1:Fz tg (upd (upd H1 rd (RO T dr (.ref cl) ((pre.length:Int) + 1 + (nums.length:Int)))) q1 (.lst (ivs nums))) q1=some (.lst (ivs nums)):=by rw [Fz_of (I2.rep.trk.free hq1),upd_same]
 generalize upd (upd H1 rd (RO T dr (.ref cl) ((pre.length:Int) + 1 + (nums.length:Int)))) q1 (.lst (ivs nums))=H3 at I3 e3 eq1
 refine seq1 ?_
 walk_at "pq"
 intro q2 hq2
 have I4:=I3.new (o:=.lst []) hq2
 have rq2:rd ≠ q2:=ne_of_none e3 hq2
 have e4:upd H3 q2 (.lst []) rd=some (RO T dr (.ref cl) ((pre.length:Int) + 1 + (nums.length:Int))):=by rw [upd_ne rq2];exact e3
 have eq1':Fz tg (upd H3 q2 (.lst [])) q1=some (.lst (ivs nums)):=Fz_same (same_new hq2) _ _ eq1
 have eq2:Fz tg (upd H3 q2 (.lst [])) q2=some (.lst []):=by rw [Fz_of (I3.rep.trk.free hq2),upd_same]
 generalize upd H3 q2 (.lst [])=H4 at I4 e4 eq1' eq2
 refine seq1 ?_
 walk_at "pq"
 refine ⟨_,tsa.sq _,_,rfl,_,rfl,?_⟩
 cases hrow:VB.hasRow (i:Int) with
 | false =>
  rw [if_neg (by decide)]
  rw [hrow,if_neg (by decide)] at hr
  refine fin H4 q1 q2 I4 ?_ (SqL.of (Fz_sub _ _ eq1')) (by rw [norow hrow];exact eq2)
  rw [e4,hr]
  congr 2
  simp
  omega
 | true =>
  rw [if_pos rfl]
  rw [hrow,if_pos rfl] at hr
  rw [e4]
  walk_at "pq"
  have I5:=I4.rd (o:=RO T dr (.ref cl) ((pre.length:Int) + 1 + (nums.length:Int) + 1)) trd
  refine ⟨rd,dr,cl,_,_,.int (row.length:Int),rfl,e4,sq _ I5,at_of (j:=pre.length + 1 + nums.length) (by omega) ?_,?_⟩
  ·rw [hr]
   unfold ivs
   rw [List.getElem?_map,List.getElem?_append_right (by omega),show pre.length + 1 + nums.length - pre.length=nums.length + 1 by omega,List.getElem?_cons_succ,List.getElem?_append_right (Nat.le_refl _),Nat.sub_self]
   rfl
  have e5:upd H4 rd (RO T dr (.ref cl) ((pre.length:Int) + 1 + (nums.length:Int) + 1)) rd=some (RO T dr (.ref cl) ((pre.length:Int) + 1 + (nums.length:Int) + 1)):=upd_same
  have eq5:Fz tg (upd H4 rd (RO T dr (.ref cl) ((pre.length:Int) + 1 + (nums.length:Int) + 1))) q1=some (.lst (ivs nums)):=by rw [Fz_upd (by rw [trd];simp)];exact eq1'
  generalize upd H4 rd (RO T dr (.ref cl) ((pre.length:Int) + 1 + (nums.length:Int) + 1))=H5 at I5 e5 eq5
  have I6:=I5.rd (o:=RO T dr (.ref cl) ((pre.length:Int) + 1 + (nums.length:Int) + 1 + (row.length:Int))) trd
  refine ⟨rd,dr,cl,_,_,_,rfl,e5,sq _ I6,fun q3 hq3=>?_⟩
  have rq3:rd ≠ q3:=fun z=>by rw [← z,upd_same] at hq3;cases hq3
  have ec3:cutV (ivs (pre++(i:Int)::r)) (some ((pre.length:Int) + 1 + (nums.length:Int) + 1)) (some ((pre.length:Int) + 1 + (nums.length:Int) + 1 + (row.length:Int)))=ivs row:=by
   have:=cut_ft (ivs (pre++(i:Int)::r)) (pre.length + 1 + nums.length + 1) row.length
   rw [show (((pre.length + 1 + nums.length + 1:Nat):Int))=(pre.length:Int) + 1 + (nums.length:Int) + 1 from rfl] at this
   rw [this,ivs_drop,ivs_take]
   congr 1
   rw [hr,show pre++(i:Int)::(nums++(row.length:Int)::(row++t))=(pre++[(i:Int)]++nums++[(row.length:Int)])++(row++t) by simp,List.drop_left' (by simp;omega),List.take_left']
   rfl
  rw [ec3]
  refine fin _ q1 q3 (I6.new hq3) ?_ ?_ ?_
  ·rw [upd_ne rq3,upd_same,hr]
   congr 2
   simp
   omega
  ·refine SqL.of (Fz_sub (tg:=tg) _ _ (Fz_same (tg:=tg) (same_new hq3) _ _ ?_))
   rw [Fz_upd (by rw [trd];simp)]
   exact eq5
  ·rw [Fz_of (I6.rep.trk.free hq3),upd_same]
end
end
section
open Vbbhak (State Call Ans step onOut onWriter setWriter writerAt)
section
variable {P:Program} {w:World} {K:PySem.W.Frag} {mg:Str->Option Value} {base:Heap} [BOk mg base]
noncomputable def tagE (tg:Tg) (a:Addr) (j:Nat):Tg:=fun b=>if b=a then some (.env j) else tg b
theorem tagE_same {tg:Tg} {a:Addr} {j:Nat}:tagE tg a j a=some (.env j):=if_pos rfl
theorem tagE_ne {tg:Tg} {a b:Addr} {j:Nat} (h:b ≠ a):tagE tg a j b=tg b:=if_neg h
theorem fz_tagE {tg:Tg} {H:Hp} {a:Addr} {j:Nat} {o:HO} (ha:H a=none):Same (Fz tg H) (Fz (tagE tg a j) (upd H a o)):=fun b u e=>by
 obtain ⟨e1,e2⟩:=Fz_some e
 have n:b ≠ a:=ne_of_none e2 ha
 rw [Fz_of (by rw [tagE_ne n];exact e1),upd_ne n]
 exact e2
theorem Rep.lay {T:Txt K mg} {tg:Tg} {H:Hp} {sp:Addr} {s:State} (R:Rep T tg H sp s) {a:Addr} {j:Nat} {o:HO} (ha:H a=none):Rep T (tagE tg a j) (upd H a o) sp s:=by
 obtain ⟨dx,f,os,ws,h⟩:=R
 have k:∀ p:Tag->Prop,Kp tg H (tagE tg a j) (upd H a o) p:=fun p b t e _=>by
  obtain ⟨u,z⟩:=h.trk b t e
  have n:b ≠ a:=ne_of_none z ha
  exact ⟨by rw [tagE_ne n];exact e,upd_ne n⟩
 have fz:Same (Fz tg H) (Fz (tagE tg a j) (upd H a o)):=fz_tagE ha
 have tk:Trk (tagE tg a j) (upd H a o):=fun b t e=>by
  by_cases n:b=a
  ·rw [n];exact ⟨_,upd_same⟩
  ·rw [tagE_ne n] at e
   rw [upd_ne n]
   exact h.trk b t e
 obtain ⟨y1,k1⟩:=k (fun _=>True) _ _ h.tsp trivial
 obtain ⟨y2,k2⟩:=k (fun _=>True) _ _ h.tod trivial
 exact ⟨dx,f,os,ws,tk,y1,h.lam.frame (k _) fz,k1.trans h.hsp,h.most,h.cap,h.room,h.last,h.nle,y2,k2.trans h.hod,h.outs,fun p hp=>(h.oat p hp).frame (k _) fz,fz _ _ h.hwl,h.wrs,fun i x a z=>(h.wat i x a z).frame (k _) fz⟩
theorem Rep.classes {T:Txt K mg} {tg:Tg} {H:Hp} {sp:Addr} {s:State} (R:Rep T tg H sp s):∀ x ∈ s.writers,x.classes.length≤8:=by
 obtain ⟨dx,f,os,ws,h⟩:=R
 intro x hx
 rw [h.wrs] at hx
 obtain ⟨q,hq,rfl⟩:=List.mem_map.mp hx
 obtain ⟨i,hi⟩:=List.mem_iff_getElem?.mp hq
 obtain ⟨x,a⟩:=q
 obtain ⟨_,_,_,_,W⟩:=h.wat i x a hi
 exact W.rel.clen
noncomputable def AI (T:Txt K mg) (sp rd cl tl dr:Addr) (l all:List Int) (n:Nat) (H:Hp):Prop:=∃ tg s pre rest cs done,l=pre++rest∧rest.length=n∧VB.Dec rest cs∧(∀ c ∈ cs,VbbhakNeutral.asked1 c=true)∧cs.length≤150∧Rep T tg H sp s∧VB.WF s∧tg rd=some (.env 0)∧tg tl=some (.env 1) ∧
 H rd=some (RO T dr (.ref cl) ((pre.length:Nat):Int))∧H tl=some (.lst (ivs done))∧SqL K (Fz tg H) cl (ivs l)∧done++VB.answersFrom s cs=all∧done.length≤(150 - cs.length) * 60302
noncomputable def sp_answers_of (T:Txt K mg):Sp:=fun vs H Q _=>∃ sp cl tg l cs,vs=[.ref sp,.ref cl]∧Rep T tg H sp Vbbhak.start∧SqL K (Fz tg H) cl (ivs l)∧VB.Dec l cs∧(∀ c ∈ cs,VbbhakNeutral.asked1 c=true)∧cs.length≤150∧∀ H' q,H' q=some (.lst (ivs (VB.answersFrom Vbbhak.start cs)))->Q (.ref q) H'
theorem ok_answers_of (T:Txt K mg):FO P w base 11 T.answers_of (sp_answers_of T):=by
 o_headS (1 T.answers_of.F.ok sc_answers_of)
 obtain ⟨sp,cl,tg,l,cs,rfl,h⟩:=h
 o_headS (2 (pss_cons (pst 2 sc_answers_of (pe_make T.Reader_init.mak (ok_Reader_init T) (hr.mono (by decide)) rfl T.mgc_Reader T.Reader_init.b .nil pass0 (pa1 (pv 1)))) (pss_cons (pst 3 sc_answers_of (pe_lst pa_nil)) (pss_cons (ps_while PassesOwn.never (pt_not (pt_val (pcm0 (pv 2) T.cl_Reader T.Reader_is_at_end (ok_Reader_is_at_end T) hr))) (pss_cons (pst 4 sc_answers_of (pcf T.answer_next (ok_answer_next T) hr (pa_cons (pv 0) (pa1 (pv 2))))) (pss_cons (ps_expr (pe_bm PySem.F.plainAttrs_list PySem.F.slot_list_append PySem.F.type_list_append mt_append (pv 3) (pa1 (pe_callB (r:=rLen K) call_len_seq rfl T.n_len bt_len (pa1 (pv 4)))))) (pss_one (ps_expr (pe_bm PySem.F.plainAttrs_list PySem.F.slot_list_extend PySem.F.type_list_extend mt_extend (pv 3) (pa1 (pv 4)))))))) (pss_one (ps_ret (pv 3)))))))
 obtain ⟨R,hcl,D,A1,c150,h⟩:=h
 refine seq1 ?_
 walk_at "pq"
 simp only [tMake]
 walk_at "pq"
 intro rd dr hrd hdr ne
 refine ⟨rd,dr,_,rfl,upd_same,rfl,seq1 ?_⟩
 rw [upd_upd]
 have s0:Same H (upd H dr (.own rd)):=same_new hdr
 have hrd1:upd H dr (.own rd) rd=none:=by rw [upd_ne (fun z=>ne z.symm)];exact hrd
 have R1:Rep T (tagE tg rd 0) (upd (upd H dr (.own rd)) rd (RO T dr (.ref cl) 0)) sp Vbbhak.start:=(R.same s0).lay hrd1
 have hcl1:SqL K (Fz (tagE tg rd 0) (upd (upd H dr (.own rd)) rd (RO T dr (.ref cl) 0))) cl (ivs l):=(fz_tagE hrd1).seq ((Fz_same s0).seq hcl)
 have e1:upd (upd H dr (.own rd)) rd (RO T dr (.ref cl) 0) rd=some (RO T dr (.ref cl) 0):=upd_same
 generalize upd (upd H dr (.own rd)) rd (RO T dr (.ref cl) 0)=H1 at R1 hcl1 e1
 walk_at "pq"
 intro tl htl
 have nrt:rd ≠ tl:=ne_of_none e1 htl
 refine seq1 ⟨fun n σ H=>AI T sp rd cl tl dr l (VB.answersFrom Vbbhak.start cs) n H∧∃ v,σ=[some (.ref sp),some (.ref cl),some (.ref rd),some (.ref tl),v],⟨l.length,?_,_,rfl⟩,?_⟩
 ·exact ⟨_,Vbbhak.start,[],l,cs,[],rfl,rfl,D,A1,c150,R1.lay htl,VB.wf_start,by rw [tagE_ne nrt];exact tagE_same,tagE_same,by rw [upd_ne nrt];exact e1,upd_same,(fz_tagE htl).seq hcl1,rfl,Nat.zero_le _⟩
 rintro n σ H2 ⟨⟨tg,s,pre,rest,cs',done,el,en,D',A',c',R2,WF,trd,ttl,hrd2,htl2,hcl2,ea,dl⟩,v,rfl⟩
 walk_at "pq"
 rw [hrd2]
 walk_at "pq"
 refine ⟨rd,dr,cl,_,_,rfl,hrd2,Fz_sub.seq hcl2,_,rfl,?_⟩
 cases D' with
 | nil =>
  rw [if_neg (by rw [el];simp [ivs])]
  have:done=VB.answersFrom Vbbhak.start cs:=by rw [← ea,VB.answersFrom_nil,List.append_nil]
  exact h _ _ (by rw [← this];exact htl2)
 | @cons p r t c cs'' hc D'' =>
  rw [if_pos (by rw [el];simp [ivs];omega)]
  obtain ⟨k,nums,row,TD⟩:=VB.told_any hc (A' c List.mem_cons_self)
  subst el
  refine ⟨fun σ' H'=>∃ m',m' < n∧AI T sp rd cl tl dr (pre++p::r) (VB.answersFrom Vbbhak.start cs) m' H'∧∃ v,σ'=[some (.ref sp),some (.ref cl),some (.ref rd),some (.ref tl),v],fun σ' H' z=>z,seq1 ?_⟩
  walk_at "pq"
  refine ⟨sp,rd,dr,cl,tg,s,pre,p,r,t,c,k,nums,row,rfl,R2,WF,trd,hrd2,hcl2,TD,fun tg' H' q r1 t1 hr1 fz ke hq tq=>seq1 ?_⟩
  obtain ⟨ttl',htl'⟩:=ke tl 1 ttl (fun z=>nrt z.symm)
  have nq:q ≠ tl:=fun z=>by rw [z,ttl'] at tq;cases tq
  rw [htl2] at htl'
  have fl:=VB.flat_len (VB.rows_ok WF R2.classes k)
  have ea':=ea
  rw [VB.answersFrom_cons TD.of] at ea'
  have hlen:(c::cs'').length=cs''.length + 1:=rfl
  have dl':done.length≤149 * 60302:=Nat.le_trans dl (Nat.mul_le_mul_right _ (by omega))
  walk_at "pq"
  refine ⟨.inl ⟨rfl,_,SqL.of htl'⟩,_,.inl (SqL.of hq),?_⟩
  simp only [rAppend]
  refine ⟨tl,_,_,rfl,rfl,htl',by unfold ivs;rw [List.length_map];exact Nat.lt_of_le_of_lt dl' (by decide),?_⟩
  refine ⟨.inl ⟨rfl,_,SqL.of upd_same⟩,?_⟩
  simp only [rExtend]
  refine ⟨tl,q,_,_,rfl,rfl,upd_same,by rw [upd_ne nq];exact hq,by unfold ivs;simp only [List.length_append,List.length_map,List.length_singleton];exact Nat.le_trans (Nat.add_le_add (Nat.add_le_add_right dl' 1) fl) (by decide),?_⟩
  rw [upd_upd]
  obtain ⟨mid,hm⟩:∃ mid,r=mid++t:=by
   have:=TD.row
   split at this
   ·exact ⟨nums++(row.length:Int)::row,by rw [this];simp⟩
   ·exact ⟨nums,this⟩
  refine ⟨t.length,by rw [← en,hm];simp;omega,⟨tg',(step s k).1,pre++p::mid,t,cs'',done++((VB.flat (step s k).2).length:Int)::VB.flat (step s k).2,by rw [hm];simp,rfl,D'',fun x hx=>A' x (List.mem_cons_of_mem _ hx),by omega,r1.env ttl' _,VB.wf_step WF k,t1,ttl',?_,?_,?_,?_,?_⟩⟩
  ·rw [upd_ne nrt,hr1,hm]
   congr 3
   simp
   omega
  ·rw [upd_same]
   unfold ivs
   simp
  ·rw [Fz_upd (by rw [ttl'];simp)]
   exact fz.seq hcl2
  ·rw [← ea']
   simp
  ·rw [List.length_append,List.length_cons]
   rw [hlen] at dl
   have:150 - cs''.length=(150 - (cs''.length + 1)) + 1:=by omega
   rw [this,Nat.add_mul]
   omega
noncomputable def sp_answers (P:Addr) (K:PySem.W.Frag):Sp:=fun vs H Q _=>∃ a ns,vs=[.ref a]∧H P=some (.tbl #[])∧SqL K H a (List.map V.int ns)∧PyVbbhak.answers_asked ns=true∧∀ H' p,H' p=some (.lst ((PyVbbhak.answers ns).map V.int))->Q (.ref p) H'
theorem ok_answers (T:Txt K mg):FO P w base 12 T.answers (sp_answers T.a_LAM K):=by
 refine T.answers.F.ok sc_answers (fun vs H Q E h=>?_) (fun cdv A outer s H vs Q E hr h=>⟨_,pss_one (ps_ret (pcf T.answers_of (ok_answers_of T) hr (pa_cons (pe_call0 (ok_new_spool T) (hr.mono (by decide)) rfl T.new_spool.mg T.new_spool.F.kp T.new_spool.b .nil pass0) (pa1 (pv 0))))),?_⟩)
 ·obtain ⟨a,ns,rfl,_⟩:=h;rfl
 ·obtain ⟨a,ns,rfl,hlm,hs,ha,h⟩:=h
  try dsimp only [cxOf,Cx.wish]
  walk_at "pq"
  obtain ⟨cs,D,A1,c150,ea⟩:=VB.asked_form ha
  refine ⟨rfl,hlm,fun sp tg H' R s0 nt=>⟨sp,a,tg,ns,cs,rfl,R,?_,D,A1,c150,fun H'' q hq=>h _ _ ?_⟩⟩
  ·rcases hs with hs | hs
   ·left
    rcases hs with hs | ⟨o,hs⟩
    ·left
     rw [Fz_of (nt _ _ hs (fun z=>by rw [z,hlm] at hs;cases hs))]
     exact s0 _ _ hs
    ·right
     refine ⟨o,?_⟩
     rw [Fz_of (nt _ _ hs (fun z=>by rw [z,hlm] at hs;cases hs))]
     exact s0 _ _ hs
   ·exact .inr hs
  ·rw [ea];exact hq
end
end
end Ps
end
section
set_option Elab.async false
set_option linter.all false
set_option maxRecDepth 100000
set_option maxHeartbeats 4000000
namespace Ps
open PySem PySem.Spec PyProof.Rows L2
open PySem.W (WData Codec OpenSpec Well WellAll ReadsW ReadsAllW)
mutual
theorem dw_mono {K:PySem.W.Frag} {H H':Hp} (e:Same H H'):∀ {v:V} {d:WData},Dw K H v d->Dw K H' v d
 | _,_,.non=>.non
 | _,_,.bl b=>.bl b
 | _,_,.int i=>.int i
 | _,_,.str x=>.str x
 | _,_,.byt b=>.byt b
 | _,_,.lst s a=>.lst (e.seq s) (dwAll_mono e a)
 | _,_,.tup s a=>.tup (Same.seqT e s) (dwAll_mono e a)
theorem dwAll_mono {K:PySem.W.Frag} {H H':Hp} (e:Same H H'):∀ {vs:List V} {ds:List WData},DwAll K H vs ds->DwAll K H' vs ds
 | _,_,.nil=>.nil
 | _,_,.cons a b=>.cons (dw_mono e a) (dwAll_mono e b)
end
theorem spec_callL {P:Program} {w:World} {K:PySem.W.Frag} {mg mb:Str->Option Value} {k:Nat} {fa tb c:Addr} {fd:FuncData} {ps:List Str} {sp:Sp} {s₁:Shared} {vals:List Value} {ds:List WData} {R:PySem.W.WRecords} {cl:Str->Option Addr} {d0:WData}
  (KX:K.In s₁.heap) (hns:s₁.heap.Ns mainGlobals mg) (hb:s₁.heap.Ns builtinsNs mb) (hbb:∀ x:Str,x ≠ "__name__" → mb x=bootBuiltins x) (hlim:s₁.heap.NoLimit) (hg:s₁.gens = #[])
  (htb:s₁.heap.get? tb=some (PySem.W.tabObj #[])) (hKt:K.lookup tb=none) (hcd:PySem.W.codeHdIn K c tb=true)
  (hbm:∃ bm ob,mg "__builtins__" = some (.ref bm)∧bm ≠ builtinsNs∧s₁.heap.get? bm=some ob∧ob.cls = .type "module" ∧ ob.dict=some builtinsNs∧ob.data = .plain)
  (hwl:WellAll w.params s₁.heap vals ds) (hpl:plWs ds=true) (hwt:∀ d ∈ ds,d.weight≤1048576) (hr:Room k callerA)
  (F:∀ base:Heap,K.In base->base.Ns mainGlobals mg->BOk mg base->FnOk P w K mg base CX0 k fa fd ps sp) (hbind:∀ (s:Shared) (us:List Value),us.length=ps.length->BindsTo s fd ⟨us,[]⟩ (ps.zip us)) (hlen:ds.length=ps.length)
  (hsp:∀ (H:Hp) (xs:List V),H tb=some (.tbl #[])->DwAll K H xs ds->sp xs H (fun v H'=>Dw K H' v d0) fun _ _ _=>False) :
  codeAny (model P w) callerA (.call (.ref fa) ⟨vals,[]⟩) (fun r s'=>∃ u as,r = .ok (.ret u)∧ReadsW R cl s'.heap u d0 as∧OldK s₁.heap s'.heap∧s'.os=s₁.os∧AllBare s'.gens) s₁:=by
 obtain ⟨A,ho,ar⟩:=area_all ds vals hwl hpl hwt
 have hO:OnlyF (argH K s₁.heap A):=argH_only ar
 have hok0:HOk P w (argH K s₁.heap A) s₁.heap:=argH_ok ar
 have hS0:=dw_all KX ar ds vals hwl hpl ho
 have hV:=vals_toV ho
 have hK0:∀ b u,argH K s₁.heap A b=some u->K.lookup b=none:=fun b u q=>(argH_is ar q).1
 have noQ:∀ {b:Addr} {o:Obj},s₁.heap.get? b=some o->(∀ xs n,o.data ≠ .seq xs n)->argH K s₁.heap A b=none:=fun {b o} e d=>by
  cases q:argH K s₁.heap A b with
  | none=>rfl
  | some u =>
   obtain ⟨_,vs,_,_,⟨e2,_⟩ | ⟨e2,_⟩⟩:=argH_is ar q
   ·rw [e2] at e
    cases e
    exact absurd rfl (d _ _)
   ·rw [e2] at e
    cases e
    exact absurd rfl (d _ _)
 generalize argH K s₁.heap A=H0 at hO hok0 hS0 hK0 noQ
 have h0t:H0 tb=none:=noQ htb fun xs n z=>by cases z
 have old:Same H0 (upd H0 tb (.tbl #[])):=fun b o e=>by rw [upd_ne (ne_of_none e h0t)];exact e
 have hS:=dwAll_mono old hS0
 have hok:HOk P w (upd H0 tb (.tbl #[])) s₁.heap:=fun b u e=>by
  by_cases z:b=tb
  ·subst z;rw [upd_same] at e;cases e;exact htb
  ·rw [upd_ne z] at e
   exact (hok0 b u e).stay (fun c v _ q=>q) (fun c q=>old _ _ q) fun c xs q=>old _ _ q
 have hT:upd H0 tb (.tbl #[]) tb=some (.tbl #[]):=upd_same
 have hOt:∀ b,b ≠ tb->upd H0 tb (.tbl #[]) b=none∨∃ o u,upd H0 tb (.tbl #[]) b=some (.frz o u):=fun b n=>by rw [upd_ne n];exact hO b
 have noD:∀ {b:Addr} {o:Obj},s₁.heap.get? b=some o->(∀ xs n,o.data ≠ .seq xs n)->(∀ vs,o.data ≠ .fields vs)->upd H0 tb (.tbl #[]) b=none:=fun {b o} e d d2=>by
  rw [upd_ne (fun z=>by rw [z,htb] at e;cases e;exact d2 _ rfl)]
  exact noQ e d
 have hK:∀ b u,upd H0 tb (.tbl #[]) b=some u->K.lookup b=none:=fun b u q=>by
  by_cases z:b=tb
  ·rw [z];exact hKt
  ·rw [upd_ne z] at q;exact hK0 b u q
 generalize upd H0 tb (.tbl #[])=H at hS hok hT hOt noD hK
 have base_of:∀ {b:Addr} {o:Obj},s₁.heap.get? b=some o->H b=none->(hidT s₁.heap H).get? b=some o:=fun e n=>hidT_get e n
 have nsK:∀ {b:Addr} {m:Str->Option Value},s₁.heap.Ns b m->(hidT s₁.heap H).Ns b m:=fun {b m} ⟨o,es,ep,e,d,r⟩=>⟨o,es,ep,base_of e (noD e (fun xs n z=>by rw [d] at z;cases z) (fun vs z=>by rw [d] at z;cases z)),d,r⟩
 have nK:∀ b o,K.lookup b=some o->H b=none:=fun b o e=>by
  cases q:H b with
  | none=>rfl
  | some u =>
   rw [hK b u q] at e
   cases e
 have hKb:K.In (hidT s₁.heap H):=fun b o e=>base_of (KX b o e) (nK b o e)
 have hB:BOk mg (hidT s₁.heap H):=by
  obtain ⟨bm,ob,b1,b2,b3,b4,b5,b6⟩:=hbm
  refine ⟨bm,ob,b1,b2,fun q=>?_,base_of b3 (noD b3 (fun xs n z=>by rw [b6] at z;cases z) (fun vs z=>by rw [b6] at z;cases z)),b4,b5,b6⟩
  obtain ⟨o,es,ep,e,hd,_⟩:=hns
  rw [q,e] at b3
  cases b3
  rw [hd] at b6
  cases b6
 have hM:Mod K mg (hidT s₁.heap H):=⟨hKb,nsK hns,⟨mb,nsK hb,hbb⟩,let ⟨mc,h1,h2⟩:=hlim;⟨mc,nsK h1,h2⟩⟩
 have e0:Env0 P w K mg (hidT s₁.heap H) callerA [] s₁ H:=⟨rfl,hM,fun b o e=>of_hidT e,Nat.le_of_eq (hidT_size _ _),trivial,fun b hb=>absurd (show b ∈ ([]:List Addr) from hb) (by simp),hok,.of_eq hg⟩
 have hl:vals.length=ps.length:=by rw [wellAll_len hwl];exact hlen
 refine codeAny_mono ((F _ hKb (nsK hns) hB).run callerA [] s₁ H ⟨vals,[]⟩ vals (vals.map toV) _ _ hr e0 (hbind s₁ vals hl) hV (hsp H _ hT hS)) fun r s' x=>?_
 cases r with
 | error e=>exact False.elim x
 | ok fl =>
  cases fl with
  | next=>exact False.elim x
  | brk=>exact False.elim x
  | cont=>exact False.elim x
  | ret u =>
   obtain ⟨v,H',os,bare,un,hok',r',q⟩:=x
   have kept:∀ b o,b ≠ tb->s₁.heap.get? b=some o->s'.heap.get? b=some o:=fun b o nb e=>by
    cases q2:H b with
    | none=>exact un.keep b o e q2 (by intro z;exact absurd (show b ∈ ([]:List Addr) from z) (by simp)) (by simp)
    | some u2 =>
     rcases hOt b nb with z | ⟨ob,u3,z⟩
     ·rw [q2] at z
      cases z
     ·have z2:=un.frzs b ob _ z
      obtain ⟨e1,_⟩:=hok b _ z
      obtain ⟨e2,_⟩:=hok' b _ z2
      rw [e] at e1
      cases e1
      exact e2
   have KX':K.In s'.heap:=fun b o e=>kept b o (fun z=>by rw [z,hKt] at e;cases e) (KX b o e)
   obtain ⟨more,hm⟩:=un.tbls tb _ hT
   have ht':s'.heap.get? tb=some (PySem.W.tabObj (#[]++more)):=hok' tb _ hm
   have hdC:=PySem.W.codeHd_of_K KX hcd
   have hcode:=(hdC.tab htb).isCodeTable
   obtain ⟨as,hrd⟩:=Dw.reads (R:=R) (cl:=cl) hok' KX' d0 v u q r'
   refine ⟨u,as,rfl,hrd,⟨fun b o e=>?_,fun b o e=>?_⟩,os,bare⟩
   ·by_cases z:b=tb
    ·subst z
     rw [htb] at e
     cases e
     exact .inr (.inl ⟨hcode,rfl,_,more,rfl,ht'⟩)
    ·exact .inl (kept b o z e)
   ·by_cases z:b=tb
    ·rw [z];exact ⟨_,ht'⟩
    ·exact ⟨o,kept b o z e⟩
theorem walk_specL {r:OpenSpec} {k:Nat} {q:Program} {loose:List Str} {XP:(Str->Option Value)->Heap->Prop} {YP:World->Heap->Prop} {d:DefRec} {K:Params->PySem.W.Frag} {ps:List Str} {sp:PySem.W.Frag->Sp} {tb c:Addr}
  (hwell:r.wellSaid=true) (hdf:d.params.defaults=[]) (hlen:r.args.length=ps.length) (hr:Room k callerA)
  (hY:∀ (w:World) (h:Heap),YP w h->(K w.params).In h∧h.get? tb=some (PySem.W.tabObj #[])) (hKt:∀ w:World,(K w.params).lookup tb=none) (hcd:∀ w:World,PySem.W.codeHdIn (K w.params) c tb=true)
  (F:∀ (w:World) (mg:Str->Option Value) (fa:Addr) (h:Heap),YP w h->(K w.params).In h->h.Ns mainGlobals mg->mg d.name=some (.ref fa) →
   ∃ fd:FuncData,(∀ (s:Shared) (us:List Value),us.length=ps.length->BindsTo s fd ⟨us,[]⟩ (ps.zip us)) ∧
    ∀ base:Heap,(K w.params).In base->base.Ns mainGlobals mg->BOk mg base->FnOk r.prog w (K w.params) mg base CX0 k fa fd ps (sp (K w.params)))
  (hsp:∀ (K:PySem.W.Frag) (H:Hp) (xs:List V) (a:Codec.denoteAll r.args),H tb=some (.tbl #[])->Codec.withinAll r.args a=true->Codec.app r.args r.asked a=true->DwAll K H xs (Codec.encAll r.args a) →
   sp K xs H (fun v H'=>Dw K H' v (r.ret.enc (Codec.app r.args r.f a))) fun _ _ _=>False) :
  PySem.W.WalkOS q loose XP YP r d [] (fun f vs=>PySem.call f vs):=by
 intro w s_0 s₁ mg mb G Y fa o pm cd doc dV kV ho hd hcd' hD hmg hg args vals as hpre hlay hrd hwl hlo
 obtain ⟨a,e1,e2⟩:=PySem.W.os_pre_some hpre
 obtain ⟨e3,hwi⟩:=Codec.encAll_of_decAll r.args args a e1
 subst e3
 obtain ⟨KX,htb⟩:=hY w _ Y
 obtain ⟨fd,hb,hF⟩:=F w mg fa _ Y KX G.T.g hmg
 refine PySem.W.enter_call (codeAny_mono (spec_callL (R:=[]) (cl:=classAt s_0.heap) (d0:=r.ret.enc (Codec.app r.args r.f a)) KX G.T.g G.T.b G.T.builtins G.T.nolimit hg htb (hKt w) (hcd w) G.T.bmain hwl (pl_encAll _ _) (layable_weight hlay) hr hF hb (by rw [encAll_len];exact hlen)
  (fun H xs hO hS=>hsp (K w.params) H xs a hO hwi e2 hS)) fun r' s' hq=>?_)
 obtain ⟨u,as',rfl,h1,h2,h3,h4⟩:=hq
 exact ⟨.inl ⟨u,_,as',rfl,fun _=>rfl,h1,(OpenSpec.post_iff hwell hwi _ _).mpr rfl,fun z=>Bool.noConfusion (show false=true from z)⟩,h2,h3,h4⟩
theorem len0 {us:List Value} (h:us.length=0):us=[]:=List.eq_nil_of_length_eq_zero h
theorem len1 {us:List Value} (h:us.length=1):∃ b,us=[b]:=by
 obtain ⟨a,t,rfl,z⟩:=VB.lenS h
 obtain rfl:=List.eq_nil_of_length_eq_zero z
 exact ⟨a,rfl⟩
theorem len2 {us:List Value} (h:us.length=2):∃ b c,us=[b,c]:=by
 obtain ⟨a,t,rfl,z⟩:=VB.lenS h
 obtain ⟨c,rfl⟩:=len1 z
 exact ⟨a,c,rfl⟩
theorem len3 {us:List Value} (h:us.length=3):∃ b c d,us=[b,c,d]:=by
 obtain ⟨a,t,rfl,z⟩:=VB.lenS h
 obtain ⟨c,d,rfl⟩:=len2 z
 exact ⟨a,c,d,rfl⟩
theorem len4 {us:List Value} (h:us.length=4):∃ b c d e,us=[b,c,d,e]:=by
 obtain ⟨a,t,rfl,z⟩:=VB.lenS h
 obtain ⟨c,d,e,rfl⟩:=len3 z
 exact ⟨a,c,d,e,rfl⟩
theorem len5 {us:List Value} (h:us.length=5):∃ b c d e f,us=[b,c,d,e,f]:=by
 obtain ⟨a,t,rfl,z⟩:=VB.lenS h
 obtain ⟨c,d,e,f,rfl⟩:=len4 z
 exact ⟨a,c,d,e,f,rfl⟩
theorem len6 {us:List Value} (h:us.length=6):∃ b c d e f g,us=[b,c,d,e,f,g]:=by
 obtain ⟨a,t,rfl,z⟩:=VB.lenS h
 obtain ⟨c,d,e,f,g,rfl⟩:=len5 z
 exact ⟨a,c,d,e,f,g,rfl⟩
theorem len7 {us:List Value} (h:us.length=7):∃ b c d e f g i,us=[b,c,d,e,f,g,i]:=by
 obtain ⟨a,t,rfl,z⟩:=VB.lenS h
 obtain ⟨c,d,e,f,g,i,rfl⟩:=len6 z
 exact ⟨a,c,d,e,f,g,i,rfl⟩
theorem len8 {us:List Value} (h:us.length=8):∃ b c d e f g i j,us=[b,c,d,e,f,g,i,j]:=by
 obtain ⟨a,t,rfl,z⟩:=VB.lenS h
 obtain ⟨c,d,e,f,g,i,j,rfl⟩:=len7 z
 exact ⟨a,c,d,e,f,g,i,j,rfl⟩
section
variable {K:PySem.W.Frag} {mg:Str->Option Value} {h:Heap} {C:Prop}
theorem gi_mk {x:Str} {i:Int} {t:Tok} (X:K.In h) (G:h.Ns mainGlobals mg) (e:PySem.W.nsIn K mainGlobals x=some (some (.int i t))):GlobV mg x (.int i):=⟨_,PySem.W.mg_of X G e,t,rfl⟩
theorem gr_mk {x:Str} {a:Addr} (X:K.In h) (G:h.Ns mainGlobals mg) (e:PySem.W.nsIn K mainGlobals x=some (some (.ref a))):GlobV mg x (.ref a):=⟨_,PySem.W.mg_of X G e,rfl⟩
theorem ft_k (X:K.In h) (G:h.Ns mainGlobals mg) (x:Str) (st:Stmt) (ps:List Str) (f:Addr) {oc:Value} {od an:Option Addr} {osl:Array (Option Value)} {kV doc pm cdv ct:Value}
  (hb:∀ (kV doc pm:Value) (an:Option Addr) (cdv ct:Value) (us:List Value),us.length=ps.length->bindArgs (PySem.W.fnOf x x (defArgs st) (defBody st) (defScope st) .none kV doc pm an cdv ct) ⟨us,[]⟩=pure (ps.zip us))
  (a:PySem.W.nsIn K mainGlobals x=some (some (.ref f))) (l:K.lookup f=some ⟨oc,od,.func (PySem.W.fnOf x x (defArgs st) (defBody st) (defScope st) .none kV doc pm an cdv ct),osl⟩)
  (c:PySem.W.codeIn K cdv x=true) (k:PySem.W.keepIn K (.ref f)=true) (go:FT K mg x st ps->C):C:=
 go ⟨f,_,fun_mk l c k,(fun_mk l c k).binds hb,PySem.W.mg_of X G a⟩
theorem mt_k (X:K.In h) (cl:Addr) (m qual:Str) (st:Stmt) (ps:List Str) (f:Addr) {oc:Value} {od an:Option Addr} {osl:Array (Option Value)} {kV doc pm cdv ct:Value}
  (hb:∀ (kV doc pm:Value) (an:Option Addr) (cdv ct:Value) (us:List Value),us.length=ps.length->bindArgs (PySem.W.fnOf m qual (defArgs st) (defBody st) (defScope st) .none kV doc pm an cdv ct) ⟨us,[]⟩=pure (ps.zip us))
  (a:PySem.W.findIn K (.ref cl) m=some (some (.ref f))) (i:PySem.W.isFn K (.ref f)=true) (l:K.lookup f=some ⟨oc,od,.func (PySem.W.fnOf m qual (defArgs st) (defBody st) (defScope st) .none kV doc pm an cdv ct),osl⟩)
  (c:PySem.W.codeIn K cdv qual=true) (k:PySem.W.keepIn K (.ref f)=true) (go:∀ d:MT K cl m qual st ps,d.fd.code=cdv->C):C:=
 go ⟨f,_,fun_mk l c k,(fun_mk l c k).binds hb,⟨a,i,k⟩⟩ rfl
theorem it_k (X:K.In h) (cl:Addr) (qual:Str) (st:Stmt) (ps:List Str) (f:Addr) {oc:Value} {od an:Option Addr} {osl:Array (Option Value)} {kV doc pm cdv ct:Value}
  (hb:∀ (kV doc pm:Value) (an:Option Addr) (cdv ct:Value) (us:List Value),us.length=ps.length->bindArgs (PySem.W.fnOf "__init__" qual (defArgs st) (defBody st) (defScope st) .none kV doc pm an cdv ct) ⟨us,[]⟩=pure (ps.zip us))
  (m:PySem.W.makesIn K cl=true) (a:PySem.W.findIn K (.ref cl) "__init__" = some (some (.ref f))) (i:PySem.W.isFn K (.ref f)=true) (l:K.lookup f=some ⟨oc,od,.func (PySem.W.fnOf "__init__" qual (defArgs st) (defBody st) (defScope st) .none kV doc pm an cdv ct),osl⟩)
  (c:PySem.W.codeIn K cdv qual=true) (k:PySem.W.keepIn K (.ref f)=true) (kc:PySem.W.keepIn K (.ref cl)=true) (go:IT K cl qual st ps->C):C:=
 go ⟨f,_,fun_mk l c k,(fun_mk l c k).binds hb,⟨m,a,i,kc⟩⟩
theorem tup_mk {a:Addr} {od:Option Addr} {osl:Array (Option Value)} {its:Array Value} {n:Nat} {xs:List V} (l:K.lookup a=some ⟨.type "tuple",od,.seq its n,osl⟩) (z:its.size≤sizeLine) (v:Vals xs its.toList):TupK K a xs:=⟨_,its,n,l,rfl,rfl,z,v⟩
noncomputable abbrev DEn (e:DictEntry) (p:Int × Int):Prop:=e.hash=hashInt p.1∧(∃ t,e.key = .int p.1 t)∧∃ u,e.val = .int p.2 u
theorem dict_go {P:Program} {w:World}:∀ {es:List DictEntry} {kvs:List (Int × Int)},Paired DEn es kvs->∃ vs:List (Key × Value),KV (kvs.map fun p=>((Sum.inl p.1:Key),V.int p.2)) vs∧Pairs (mixKind P w) es vs∧vs.map (·.1)=kvs.map fun p=>(Sum.inl p.1:Key)
 | _,_,.nil=>⟨[],.nil,.nil,rfl⟩
 | _,_,.cons (a:=e) (b:=p) ⟨h1,⟨t,h2⟩,⟨u,h3⟩⟩ r=>by
  obtain ⟨vs,a,b,c⟩:=dict_go (P:=P) (w:=w) r
  refine ⟨((Sum.inl p.1:Key),Value.int p.2 u)::vs,.cons ⟨rfl,u,rfl⟩ a,.cons ?_ h3 b,by rw [List.map_cons,List.map_cons,c]⟩
  rw [h2]
  show Value.isInt p.1 (.int p.1 t)=true
  simp [Value.isInt]
theorem paired_mem {α β:Type} {F:α->β->Prop}:∀ {l:List α} {m:List β},Paired F l m->∀ a ∈ l,∃ b,F a b
 | _,_,.nil,a,h=>by cases h
 | _,_,.cons x r,a,h=>by
  rcases List.mem_cons.mp h with rfl | h
  ·exact ⟨_,x⟩
  ·exact paired_mem r a h
theorem dict_mk {a:Addr} {es:Array DictEntry} {ep:Nat} {kvs:List (Int × Int)} (l:K.lookup a=some ⟨.type "dict",none,.dict es ep,#[]⟩) (ha:(a == sysModules)=false) (r:Paired DEn es.toList kvs) (nd:(kvs.map fun p=>(Sum.inl p.1:Key)).Nodup):DictK K a kvs:=by
 refine ⟨ha,fun P w h X=>?_⟩
 obtain ⟨vs,h1,h2,h3⟩:=dict_go (P:=P) (w:=w) r
 refine ⟨vs,h1,_,es,ep,X _ _ l,⟨rfl,rfl,rfl⟩,rfl,fun e he=>?_,h2,by rw [h3];exact nd⟩
 obtain ⟨p,q1,⟨t,q2⟩,_⟩:=paired_mem r e (by simpa using he)
 refine ⟨Sum.inl p.1,?_,q1⟩
 rw [q2]
 show Value.isInt p.1 (.int p.1 t)=true
 simp [Value.isInt]
theorem cls_k (X:K.In h) (c:Addr) (pg:PySem.W.plainGet K c Str.empty=true) (hd:PySem.W.hasDictIn K c=true) (po:PySem.W.plainOver K c=true) (sa:PySem.W.findIn K (.ref c) "__setattr__" = some (some (.builtin "object.__setattr__"))) (go:Cls K c->C):C:=go ⟨pg,hd,po,sa⟩
theorem mgc_k (X:K.In h) (G:h.Ns mainGlobals mg) (x:Str) (c:Addr) (e:PySem.W.nsIn K mainGlobals x=some (some (.ref c))) (go:mg x=some (.ref c)->C):C:=go (PySem.W.mg_of X G e)
theorem no_k (X:K.In h) (c:Addr) (f:Str) (e:PySem.W.findIn K (.ref c) f=some none) (go:NoAttr K c f->C):C:=go e
theorem gi_k (X:K.In h) (G:h.Ns mainGlobals mg) (x:Str) (i:Int) {t:Tok} (e:PySem.W.nsIn K mainGlobals x=some (some (.int i t))) (go:GlobV mg x (.int i)->C):C:=go (gi_mk X G e)
theorem gr_k (X:K.In h) (G:h.Ns mainGlobals mg) (x:Str) (a:Addr) (e:PySem.W.nsIn K mainGlobals x=some (some (.ref a))) (go:GlobV mg x (.ref a)->C):C:=go (gr_mk X G e)
theorem tup_k (X:K.In h) (a:Addr) (xs:List V) {od:Option Addr} {osl:Array (Option Value)} {its:Array Value} {n:Nat} (l:K.lookup a=some ⟨.type "tuple",od,.seq its n,osl⟩) (z:its.size≤sizeLine) (v:Vals xs its.toList) (go:TupK K a xs->C):C:=go (tup_mk l z v)
theorem dict_k (X:K.In h) (a:Addr) (kvs:List (Int × Int)) {es:Array DictEntry} {ep:Nat} (l:K.lookup a=some ⟨.type "dict",none,.dict es ep,#[]⟩) (ha:(a == sysModules)=false) (r:Paired DEn es.toList kvs) (nd:(kvs.map fun p=>(Sum.inl p.1:Key)).Nodup) (go:DictK K a kvs->C):C:=go (dict_mk l ha r nd)
theorem none_k (X:K.In h) (G:h.Ns mainGlobals mg) (x:Str) (e:PySem.W.nsIn K mainGlobals x=some none) (go:mg x=none->C):C:=go (PySem.W.mg_none_of X G e)
theorem lam_k (X:K.In h) (c P:Addr) (e:PySem.W.codeHdIn K c P=true) (go:PySem.W.codeHdIn K c P=true->C):C:=go e
theorem fin_of {P:Program} {w:World} {fa tb:Addr} (T:Txt K mg) (ht:T.a_LAM=tb) (hmg:mg "answers" = some (.ref fa)):∃ fd:FuncData,(∀ (s:Shared) (us:List Value),us.length=(["calls"]:List Str).length->BindsTo s fd ⟨us,[]⟩ ((["calls"]:List Str).zip us)) ∧
  ∀ base:Heap,K.In base->base.Ns mainGlobals mg->BOk mg base->FnOk P w K mg base CX0 12 fa fd ["calls"] (sp_answers tb K):=by
 have e:=hmg.symm.trans T.answers.mg
 cases e
 subst ht
 refine ⟨T.answers.fd,fun s us hu=>?_,fun base _ _ hB=>ok_answers T⟩
 obtain ⟨oc,od,kV,doc,pm,an,cdv,ct,osl,e,lk,hcd⟩:=T.answers.F.ex
 rw [e]
 obtain ⟨_,rfl⟩:=len1 hu
 exact .of_eq rfl
end
end Ps
end
theorem PySem.W.Fast.tw11581775388757738470:True:=trivial
local macro_rules | `(command| lay_quick_some $n:num $c:ident) => do let out ← ((List.range n.getNat).map (fun i => "o_" ++ toString i) ++ ["view_1", "env_3", "heap_1", "heap_8", "heap_869", "tree_9", "tree_33", "tree_84", "tree_177", "tree_236", "tree_294", "tree_374", "tree_444", "tree_523", "tree_605", "tree_680", "tree_773", "tree_831", "tree_868", "sts_11", "sts_34", "sts_85", "sts_178", "sts_237", "sts_295", "sts_375", "sts_447", "sts_524", "sts_606", "sts_681", "sts_774", "sts_832"]).toArray.mapM (fun s => let id := Lean.mkIdent (`_root_.PySem.W.Fast ++ Lean.Name.mkSimple ("tw" ++ toString (c.getId.str s).hash)); `(command| theorem $id : True := trivial)); return Lean.mkNullNode out
lay_quick_some 870 PySem.Challenge.cw_paperspool_s01_answers_holds
open PySem PySem.W PyProof.Rows
local macro_rules | `(tactic| o_headS ($_:term $k:term $a:term $e:term)) => `(tactic| o_headS (PySem.W.kmHook $k $a $e [215]))
set_option hygiene false
local macro_rules | `(tactic| walk_at "L") => `(tactic| (intro _ _ _ _ _ _ us hl; first | (obtain ⟨_, rfl⟩ := Ps.len1 hl; rfl) | (obtain ⟨_, _, rfl⟩ := Ps.len2 hl; rfl) | (obtain ⟨_, _, _, rfl⟩ := Ps.len3 hl; rfl) | (obtain ⟨_, _, _, _, rfl⟩ := Ps.len4 hl; rfl) | (obtain ⟨_, _, _, _, _, rfl⟩ := Ps.len5 hl; rfl) | (obtain ⟨_, _, _, _, _, _, rfl⟩ := Ps.len6 hl; rfl) | (obtain ⟨_, _, _, _, _, _, _, rfl⟩ := Ps.len7 hl; rfl) | (obtain ⟨_, _, _, _, _, _, _, _, rfl⟩ := Ps.len8 hl; rfl) | (obtain rfl := Ps.len0 hl; rfl)))
local macro_rules
  | `(tactic| o_headS (1 $n:str $s:ident $l:term $a:num $p:ident)) => `(tactic| (refine' Ps.ft_k KX G $n $s $l $a (by walk_at "L") ?a ?l ?c ?k fun $p => ?_; (case a => k_is); (case l => k_is); (case c => k_is); (case k => k_is)))
  | `(tactic| o_headS (2 $c:num $m:str $n:str $s:ident $l:term $a:num $p:ident $q:ident)) => `(tactic| (refine' Ps.mt_k KX $c $m $n $s $l $a (by walk_at "L") ?a ?i ?l ?c ?k fun $p $q => ?_; (case a => k_is); (case i => k_is); (case l => k_is); (case c => k_is); (case k => k_is)))
  | `(tactic| o_headS (3 $c:num $n:str $s:ident $l:term $a:num $p:ident)) => `(tactic| (refine' Ps.it_k KX $c $n $s $l $a (by walk_at "L") ?m ?a ?i ?l ?c ?k ?kc fun $p => ?_; (case m => k_is); (case a => k_is); (case i => k_is); (case l => k_is); (case c => k_is); (case k => k_is); (case kc => k_is)))
  | `(tactic| o_headS (4 $c:num $n:str $p:ident)) => `(tactic| (refine' Ps.no_k KX $c $n ?_ fun $p => ?_; k_is))
  | `(tactic| o_headS (5 $n:str $i:term $p:ident)) => `(tactic| (refine' Ps.gi_k KX G $n $i ?a fun $p => ?_; (case a => k_is)))
  | `(tactic| o_headS (6 $n:str $p:ident)) => `(tactic| (refine' Ps.none_k KX G $n ?_ fun $p => ?_; k_is))
  | `(tactic| o_headS (7 $a:num $l:term $p:ident)) => `(tactic| (refine' Ps.tup_k KX $a $l ?l ?z ?v fun $p => ?_; (case l => k_is); (case z => decide); (case v => repeat (first | exact .nil | refine .cons ⟨_, rfl⟩ ?_ | refine .cons rfl ?_))))
  | `(tactic| o_headS (8 $a:num $p:ident)) => `(tactic| (refine' Ps.cls_k KX $a ?_ ?_ ?_ ?_ fun $p => ?_; iterate 4 k_is))
set_option maxRecDepth 100000 in
set_option maxHeartbeats 0 in
theorem PySem.Challenge.cw_paperspool_s01_answers_holds : PySem.Challenge.rw_paperspool_s01_answers.Holds := by
 w_on;k_headS;(case hw=>exact ⟨[.list [.int 17]],by decide +kernel,by decide +kernel⟩)
 k_fillS
 refine Ps.walk_specL (r:=PySem.Challenge.rw_paperspool_s01_answers) (k:=12) (ps:=["calls"]) (sp:=Ps.sp_answers 215) (tb:=215) (c:=217) (by decide +kernel) rfl rfl ⟨rfl,by decide,by decide⟩ (fun w h Y=>⟨PySem.W.km_in_of Y,PySem.W.km_tabs_of Y 215 (List.mem_singleton.mpr rfl)⟩) (fun w=>by kernel_rfl) (fun w=>by kernel_rfl) ?F ?S
 case F =>
  intro w mg fa h Y KX G hmg
  o_headS (8 80 a1)
  refine' Ps.mgc_k KX G "Output" 80 ?a fun a2=>?_;(case a=>k_is)
  o_headS (4 80 "number" a3)
  o_headS (4 80 "name" a4)
  o_headS (4 80 "output_class" a5)
  o_headS (4 80 "form" a6)
  o_headS (4 80 "copies" a7)
  o_headS (4 80 "priority" a8)
  o_headS (4 80 "held" a9)
  o_headS (4 80 "closed" a10)
  o_headS (4 80 "line_count" a11)
  o_headS (4 80 "pages" a12)
  o_headS (4 80 "place" a13)
  o_headS (8 171 a14)
  refine' Ps.mgc_k KX G "Writer" 171 ?a fun a15=>?_;(case a=>k_is)
  o_headS (4 171 "paper" a16)
  o_headS (4 171 "serial" a17)
  o_headS (4 171 "noted_serial" a18)
  o_headS (4 171 "on" a19)
  o_headS (4 171 "form" a20)
  o_headS (4 171 "draining" a21)
  o_headS (4 171 "separators" a22)
  o_headS (4 171 "note_every" a23)
  o_headS (4 171 "classes" a24)
  o_headS (4 171 "hand" a25)
  o_headS (4 171 "place" a26)
  o_headS (4 171 "noted_place" a27)
  o_headS (4 171 "since" a28)
  o_headS (4 171 "first_step" a29)
  o_headS (8 228 a30)
  refine' Ps.mgc_k KX G "Spool" 228 ?a fun a31=>?_;(case a=>k_is)
  o_headS (4 228 "most_rows" a32)
  o_headS (4 228 "cap" a33)
  o_headS (4 228 "paper_room" a34)
  o_headS (4 228 "last_number" a35)
  o_headS (4 228 "outputs" a36)
  o_headS (4 228 "writers" a37)
  o_headS (8 791 a38)
  refine' Ps.mgc_k KX G "Reader" 791 ?a fun a39=>?_;(case a=>k_is)
  o_headS (4 791 "calls" a40)
  o_headS (4 791 "position" a41)
  o_headS (5 "WRITERS" 8 a42)
  refine' Ps.gr_k KX G "FIRST_PLACE" 34 ?a fun a43=>?_;(case a=>k_is)
  o_headS (7 34 [.int 1,.int 0] a44)
  refine' Ps.gr_k KX G "NO_PLACE" 35 ?a fun a45=>?_;(case a=>k_is)
  o_headS (7 35 [.int 0,.int 0] a46)
  o_headS (5 "OUT_OF_RANGE" (-1) a47)
  o_headS (5 "WRONG_FORM" (-2) a48)
  o_headS (5 "WRITER_OFF" (-3) a49)
  o_headS (5 "NOT_THERE" (-4) a50)
  o_headS (5 "SO_ALREADY" (-5) a51)
  o_headS (5 "WRONG_STATE" (-6) a52)
  o_headS (5 "IN_HAND" (-7) a53)
  o_headS (5 "NO_ROOM" (-8) a54)
  o_headS (5 "LAST_NUMBER" 999999 a55)
  o_headS (5 "LONGEST_NAME" 8 a56)
  o_headS (5 "LONGEST_TEXT" 132 a57)
  o_headS (5 "MOST_CLASSES" 8 a58)
  o_headS (5 "BLANK" 32 a59)
  o_headS (5 "OVER" 43 a60)
  o_headS (5 "NEW_PAGE" 49 a61)
  o_headS (5 "STRUCK" 35 a62)
  refine' Ps.gr_k KX G "ROWS_DOWN" 367 ?a fun a63=>?_;(case a=>k_is)
  refine' Ps.dict_k KX 367 [(32,1),(48,2),(45,3)] ?l ?z ?v ?nd fun a64=>?_;(case l=>k_is);(case z=>decide);(case nd=>decide);(case v=>repeat (first | exact .nil | refine .cons ⟨by decide +kernel,⟨_,rfl⟩,⟨_,rfl⟩⟩ ?_))
  refine' Ps.gr_k KX G "CODES" 368 ?a fun a65=>?_;(case a=>k_is)
  o_headS (7 368 [.int 32,.int 48,.int 45,.int 43,.int 49] a66)
  o_headS (5 "MOST_LINES" 100 a67)
  o_headS (5 "NOTHING_FREE" 0 a68)
  o_headS (5 "PRINTED" 1 a69)
  o_headS (5 "TAKEN" 2 a70)
  o_headS (5 "OTHER_FORM" 3 a71)
  o_headS (5 "NOTHING_PRINTED" 0 a72)
  refine' Ps.gr_k KX G "SHAPES" 753 ?a fun a73=>?_;(case a=>k_is)
  o_headS (7 753 [.ref 726,.ref 727,.ref 728,.ref 729,.ref 730,.ref 731,.ref 732,.ref 733,.ref 734,.ref 735,.ref 736,.ref 737,.ref 738,.ref 739,.ref 740,.ref 741,.ref 742,.ref 743,.ref 744,.ref 745,.ref 746,.ref 747,.ref 748,.ref 749,.ref 750,.ref 751,.ref 752] a74)
  o_headS (7 726 [.int 3,.bl false] a75)
  o_headS (7 727 [.int 5,.bl true] a76)
  o_headS (7 728 [.int 2,.bl true] a77)
  o_headS (7 729 [.int 1,.bl false] a78)
  o_headS (7 730 [.int 1,.bl false] a79)
  o_headS (7 731 [.int 1,.bl false] a80)
  o_headS (7 732 [.int 1,.bl false] a81)
  o_headS (7 733 [.int 4,.bl false] a82)
  o_headS (7 734 [.int 2,.bl false] a83)
  o_headS (7 735 [.int 4,.bl true] a84)
  o_headS (7 736 [.int 3,.bl true] a85)
  o_headS (7 737 [.int 2,.bl false] a86)
  o_headS (7 738 [.int 1,.bl false] a87)
  o_headS (7 739 [.int 1,.bl false] a88)
  o_headS (7 740 [.int 1,.bl false] a89)
  o_headS (7 741 [.int 2,.bl false] a90)
  o_headS (7 742 [.int 1,.bl false] a91)
  o_headS (7 743 [.int 0,.bl false] a92)
  o_headS (7 744 [.int 1,.bl false] a93)
  o_headS (7 745 [.int 1,.bl false] a94)
  o_headS (7 746 [.int 2,.bl false] a95)
  o_headS (7 747 [.int 1,.bl false] a96)
  o_headS (7 748 [.int 1,.bl false] a97)
  o_headS (7 749 [.int 1,.bl false] a98)
  o_headS (7 750 [.int 3,.bl false] a99)
  o_headS (7 751 [.int 2,.bl false] a100)
  o_headS (7 752 [.int 3,.bl false] a101)
  o_headS (5 "FIRST_WRITER_CALL" 9 a102)
  o_headS (5 "FIRST_QUESTION" 19 a103)
  o_headS (6 "all" a104)
  o_headS (6 "int" a105)
  o_headS (6 "len" a106)
  o_headS (6 "list" a107)
  o_headS (6 "max" a108)
  o_headS (6 "min" a109)
  o_headS (6 "ord" a110)
  o_headS (6 "range" a111)
  o_headS (6 "set" a112)
  o_headS (6 "sorted" a113)
  o_headS (6 "str" a114)
  o_headS (1 "is_mark" Ps.s_is_mark ["entry"] 21 a115)
  o_headS (1 "row_of_entry" Ps.s_row_of_entry ["entry"] 33 a116)
  o_headS (3 80 "Output.__init__" Ps.s_Output_init ["self","number","name","output_class","form","copies","priority","held"] 49 a117)
  o_headS (2 80 "is_behind_end" "Output.is_behind_end" Ps.s_Output_is_behind_end ["self","place"] 63 a118 z)
  o_headS (2 80 "end" "Output.end" Ps.s_Output_end ["self"] 70 a119 z)
  o_headS (2 80 "copies_begun" "Output.copies_begun" Ps.s_Output_copies_begun ["self"] 77 a120 z)
  o_headS (2 171 "switch_on" "Writer.switch_on" Ps.s_Writer_switch_on ["self","form"] 112 a121 z)
  o_headS (2 171 "be_told" "Writer.be_told" Ps.s_Writer_be_told ["self","separators","note_every","classes"] 119 a122 z)
  o_headS (2 171 "empty_hand" "Writer.empty_hand" Ps.s_Writer_empty_hand ["self"] 126 a123 z)
  o_headS (2 171 "note" "Writer.note" Ps.s_Writer_note ["self"] 140 a124 z)
  o_headS (2 171 "put_mark" "Writer.put_mark" Ps.s_Writer_put_mark ["self"] 168 a125 z)
  o_headS (2 228 "writer_at" "Spool.writer_at" Ps.s_Spool_writer_at ["self","number"] 201 a126 z)
  o_headS (2 228 "is_in_hand" "Spool.is_in_hand" Ps.s_Spool_is_in_hand ["self","number"] 206 a127 z)
  o_headS (1 "within" Ps.s_within ["value","least","greatest"] 239 a128)
  o_headS (1 "first_row" Ps.s_first_row ["code","most_rows"] 382 a129)
  o_headS (1 "rows_down_to" Ps.s_rows_down_to ["count","words"] 387 a130)
  o_headS (1 "without_end_blanks" Ps.s_without_end_blanks ["text"] 394 a131)
  o_headS (1 "byte_at" Ps.s_byte_at ["text","k"] 406 a132)
  o_headS (1 "strike" Ps.s_strike ["one","other"] 413 a133)
  o_headS (1 "with_rows" Ps.s_with_rows ["first","rows"] 483 a134)
  o_headS (1 "row_of_hand" Ps.s_row_of_hand ["writer"] 523 a135)
  o_headS (1 "is_sheet" Ps.s_is_sheet ["step","pages","separators"] 563 a136)
  o_headS (1 "first_step" Ps.s_first_step ["separators"] 570 a137)
  o_headS (1 "bytes_of" Ps.s_bytes_of ["text"] 589 a138)
  o_headS (1 "is_paper_full" Ps.s_is_paper_full ["spool","writer"] 627 a139)
  o_headS (3 791 "Reader.__init__" Ps.s_Reader_init ["self","calls"] 767 a140)
  o_headS (2 791 "is_at_end" "Reader.is_at_end" Ps.s_Reader_is_at_end ["self"] 774 a141 z)
  o_headS (2 791 "take_one" "Reader.take_one" Ps.s_Reader_take_one ["self"] 781 a142 z)
  o_headS (2 791 "take" "Reader.take" Ps.s_Reader_take ["self","size"] 788 a143 z)
  o_headS (1 "counting_sheets" Ps.s_counting_sheets ["paper"] 26 a144)
  o_headS (2 80 "is_done" "Output.is_done" Ps.s_Output_is_done ["self"] 56 a145 z)
  o_headS (2 171 "switch_off" "Writer.switch_off" Ps.s_Writer_switch_off ["self"] 105 a146 z)
  o_headS (2 171 "begin_copy" "Writer.begin_copy" Ps.s_Writer_begin_copy ["self","place"] 133 a147 z)
  o_headS (2 171 "go_back" "Writer.go_back" Ps.s_Writer_go_back ["self","most_steps"] 154 a148 z)
  o_headS (2 171 "ends_with_mark" "Writer.ends_with_mark" Ps.s_Writer_ends_with_mark ["self"] 161 a149 z)
  o_headS (1 "is_switch" Ps.s_is_switch ["value"] 246 a150)
  o_headS (1 "is_class" Ps.s_is_class ["value"] 253 a151)
  o_headS (1 "is_form" Ps.s_is_form ["value"] 260 a152)
  o_headS (1 "is_priority" Ps.s_is_priority ["value"] 267 a153)
  o_headS (1 "is_copies" Ps.s_is_copies ["value"] 274 a154)
  o_headS (1 "is_note_every" Ps.s_is_note_every ["value"] 281 a155)
  o_headS (1 "is_back" Ps.s_is_back ["value"] 288 a156)
  o_headS (1 "is_from" Ps.s_is_from ["value"] 295 a157)
  o_headS (1 "is_most" Ps.s_is_most ["value"] 302 a158)
  o_headS (1 "is_writer" Ps.s_is_writer ["value"] 309 a159)
  o_headS (1 "is_letter" Ps.s_is_letter ["byte"] 316 a160)
  o_headS (1 "is_digit" Ps.s_is_digit ["byte"] 323 a161)
  o_headS (1 "is_text" Ps.s_is_text ["row"] 333 a162)
  o_headS (1 "output_refusal" Ps.s_output_refusal ["spool","number"] 345 a163)
  o_headS (1 "put_over" Ps.s_put_over ["under","over"] 399 a164)
  o_headS (1 "some_entries" Ps.s_some_entries ["entries","first","most"] 542 a165)
  o_headS (1 "next_sheet" Ps.s_next_sheet ["output","place","separators"] 556 a166)
  o_headS (1 "separator" Ps.s_separator ["word","output","copy"] 584 a167)
  o_headS (1 "go_on_in_copy" Ps.s_go_on_in_copy ["writer","place"] 648 a168)
  o_headS (3 171 "Writer.__init__" Ps.s_Writer_init ["self"] 98 a169)
  o_headS (2 171 "return_to_noted" "Writer.return_to_noted" Ps.s_Writer_return_to_noted ["self"] 147 a170 z)
  o_headS (2 228 "is_waiting" "Spool.is_waiting" Ps.s_Spool_is_waiting ["self","output"] 213 a171 z)
  o_headS (1 "is_name" Ps.s_is_name ["row"] 328 a172)
  o_headS (1 "is_class_list" Ps.s_is_class_list ["row"] 338 a173)
  o_headS (1 "hand_refusal" Ps.s_hand_refusal ["spool","number"] 352 a174)
  o_headS (1 "writer_refusal" Ps.s_writer_refusal ["spool","number"] 359 a175)
  o_headS (1 "put_line" Ps.s_put_line ["pages","code","text","most_rows"] 375 a176)
  o_headS (1 "close" Ps.s_close ["spool","number"] 441 a177)
  o_headS (1 "letgo" Ps.s_letgo ["spool","number"] 462 a178)
  o_headS (1 "tell_pages" Ps.s_tell_pages ["spool","number"] 490 a179)
  o_headS (1 "tell_page" Ps.s_tell_page ["spool","number","wanted"] 497 a180)
  o_headS (1 "tell_output" Ps.s_tell_output ["spool","number"] 504 a181)
  o_headS (1 "tell_writer" Ps.s_tell_writer ["spool","number"] 516 a182)
  o_headS (1 "tell_paper" Ps.s_tell_paper ["spool","number","first","most"] 530 a183)
  o_headS (1 "tell_clean" Ps.s_tell_clean ["spool","number","first","most"] 537 a184)
  o_headS (1 "tell_sheet" Ps.s_tell_sheet ["spool","number","wanted"] 549 a185)
  o_headS (1 "rows_of_sheet" Ps.s_rows_of_sheet ["output","place"] 577 a186)
  o_headS (1 "take_in_hand" Ps.s_take_in_hand ["writer","output"] 620 a187)
  o_headS (1 "hand_back" Ps.s_hand_back ["spool","writer","place"] 655 a188)
  o_headS (2 228 "waiting_outputs" "Spool.waiting_outputs" Ps.s_Spool_waiting_outputs ["self"] 218 a190 a189)
  o_headS (2 228 "lose_power" "Spool.lose_power" Ps.s_Spool_lose_power ["self"] 225 a191 z)
  o_headS (1 "empty_hand_refusal" Ps.s_empty_hand_refusal ["spool","number"] 366 a192)
  o_headS (1 "open_output" Ps.s_open_output ["spool","output_class","form","copies","priority","held","name"] 427 a193)
  o_headS (1 "add_line" Ps.s_add_line ["spool","number","code","text"] 434 a194)
  o_headS (1 "purge" Ps.s_purge ["spool","number"] 448 a195)
  o_headS (1 "hold" Ps.s_hold ["spool","number"] 455 a196)
  o_headS (1 "change" Ps.s_change ["spool","number","output_class","form","priority"] 469 a197)
  o_headS (1 "set_copies" Ps.s_set_copies ["spool","number","copies"] 476 a198)
  o_headS (1 "print_sheet" Ps.s_print_sheet ["spool","writer"] 634 a199)
  o_headS (1 "go_on" Ps.s_go_on ["spool","writer"] 641 a200)
  o_headS (1 "start" Ps.s_start ["spool","number","form","separators","note_every","classes"] 662 a201)
  o_headS (1 "serve" Ps.s_serve ["spool","number","separators","note_every","classes"] 669 a202)
  o_headS (1 "mount" Ps.s_mount ["spool","number","form"] 676 a203)
  o_headS (1 "stop" Ps.s_stop ["spool","number"] 683 a204)
  o_headS (2 228 "renew" "Spool.renew" Ps.s_Spool_renew ["self","most_rows","cap","paper_room"] 194 a205 z)
  o_headS (1 "tell_queue" Ps.s_tell_queue ["spool","wanted"] 509 a206)
  o_headS (1 "cut_turn" Ps.s_cut_turn ["spool","writer"] 603 a207)
  o_headS (1 "free_outputs" Ps.s_free_outputs ["spool","writer"] 613 a208)
  o_headS (1 "note" Ps.s_note ["spool","number"] 697 a209)
  o_headS (1 "back" Ps.s_back ["spool","number","most_steps"] 704 a210)
  o_headS (1 "interrupt" Ps.s_interrupt ["spool","number"] 711 a211)
  o_headS (1 "power" Ps.s_power ["spool"] 718 a212)
  o_headS (3 228 "Spool.__init__" Ps.s_Spool_init ["self","most_rows","cap","paper_room"] 189 a213)
  o_headS (1 "begin" Ps.s_begin ["spool","most_rows","cap","paper_room"] 420 a214)
  o_headS (1 "take_output" Ps.s_take_output ["spool","writer"] 608 a215)
  o_headS (1 "cut" Ps.s_cut ["spool","number"] 725 a216)
  o_headS (1 "answer_question" Ps.s_answer_question ["spool","call","numbers"] 844 a217)
  o_headS (1 "take_turn" Ps.s_take_turn ["spool","writer"] 596 a218)
  o_headS (1 "answer_on_outputs" Ps.s_answer_on_outputs ["spool","call","numbers","row"] 830 a219)
  o_headS (1 "turn" Ps.s_turn ["spool","number"] 690 a220)
  o_headS (1 "new_spool" Ps.s_new_spool ([]:List Str) 809 a221)
  o_headS (1 "answer_on_writers" Ps.s_answer_on_writers ["spool","call","numbers","row"] 837 a222)
  o_headS (1 "answer_next" Ps.s_answer_next ["spool","reader"] 823 a223)
  o_headS (1 "answers_of" Ps.s_answers_of ["spool","calls"] 816 a224)
  o_headS (1 "answers" Ps.s_answers ["calls"] 802 a225)
  refine' Ps.lam_k KX 217 215 ?e fun a226=>?_;(case e=>kernel_rfl)
  exact Ps.fin_of ⟨80,a1,a2,a3,a4,a5,a6,a7,a8,a9,a10,a11,a12,a13,171,a14,a15,a16,a17,a18,a19,a20,a21,a22,a23,a24,a25,a26,a27,a28,a29,228,a30,a31,a32,a33,a34,a35,a36,a37,791,a38,a39,a40,a41,a42,34,a43,a44,35,a45,a46,a47,a48,a49,a50,a51,a52,a53,a54,a55,a56,a57,a58,a59,a60,a61,a62,367,a63,a64,368,a65,a66,a67,a68,a69,a70,a71,a72,753,[726,727,728,729,730,731,732,733,734,735,736,737,738,739,740,741,742,743,744,745,746,747,748,749,750,751,752],a73,a74,⟨a75,a76,a77,a78,a79,a80,a81,a82,a83,a84,a85,a86,a87,a88,a89,a90,a91,a92,a93,a94,a95,a96,a97,a98,a99,a100,a101,trivial⟩,a102,a103,a104,a105,a106,a107,a108,a109,a110,a111,a112,a113,a114,a115,a116,a117,a118,a119,a120,a121,a122,a123,a124,a125,a126,a127,a128,a129,a130,a131,a132,a133,a134,a135,a136,a137,a138,a139,a140,a141,a142,a143,a144,a145,a146,a147,a148,a149,a150,a151,a152,a153,a154,a155,a156,a157,a158,a159,a160,a161,a162,a163,a164,a165,a166,a167,a168,a169,a170,a171,a172,a173,a174,a175,a176,a177,a178,a179,a180,a181,a182,a183,a184,a185,a186,a187,a188,a190,a191,a192,a193,a194,a195,a196,a197,a198,a199,a200,a201,a202,a203,a204,a205,a206,a207,a208,a209,a210,a211,a212,a213,a214,a215,a216,a217,a218,a219,a220,a221,a222,a223,a224,a225,215,217,a189,a226⟩ rfl hmg
 case S =>
  intro K H xs a hT hwi hask hx
  cases hx with
  | cons h1 h2 =>
   cases h2
   cases h1 with
   | lst hs ha =>
    have e:=L2.ints_dw a.1 _ ha
    subst e
    exact ⟨_,a.1,rfl,hT,hs,hask,fun H' p hp=>.lst (L2.SqL.of hp) (L2.dw_ints _)⟩
