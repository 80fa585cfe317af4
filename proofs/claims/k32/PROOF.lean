import PyProof.Rows.All
import Wide.All
import OpenK.AllK
import Wide.FinOn
import Lean
import PyProof.EqAt
import PyProof.EqKinds
import PyProof.TupleCall
import KE.IntTextText
import PyProof.SeqI3
import PySem.Challenge.RW_unsaybook_k32_whole_any_words_read
set_option Elab.async false
set_option linter.all false
set_option maxRecDepth 100000
namespace L2
open PySem PySem.Spec PyProof.Rows
noncomputable abbrev Key:=Sum Int Str
noncomputable def jT:Key->Value->Bool
 | .inl k,v=>Value.isInt k v
 | .inr x,v=>Value.isStrOf x v
noncomputable def A3 (w:World):Key->Int
 | .inl k=>hashInt k
 | .inr x=>hashStr w x
theorem keyIs_shape:∀{k:Key}{v:Value},jT k v=true->(∃i t,k=Sum.inl i/\v=Value.int i t)\/(∃x t,k=Sum.inr x/\v=Value.str x t)
 | .inl i,v,h=>by
  obtain⟨t,e⟩:=Value.isInt_shape (k:=i) (v:=v) h
  exact .inl ⟨i,t,rfl,e⟩
 | .inr x,v,h=>by
  obtain⟨t,e⟩:=Value.isStrOf_shape (x:=x) (v:=v) h
  exact .inr ⟨x,t,rfl,e⟩
theorem qo (i:Int) (t:Tok):jT (.inl i) (.int i t)=true:=by simp [jT,Value.isInt]
theorem qm (x:Str) (t:Tok):jT (.inr x) (.str x t)=true:=by simp [jT,Value.isStrOf]
theorem yj (a b:Int):decide ((Sum.inl a:Key)=Sum.inl b)=(a == b):=by
 by_cases e:a=b
 ·subst e;simp
 ·have h:¬(Sum.inl a:Key)=Sum.inl b:=λq=>e (Sum.inl.inj q)
  rw [decide_eq_false h]
  exact(beq_eq_false_iff_ne.mpr e).symm
theorem yg (a b:Str):decide ((Sum.inr a:Key)=Sum.inr b)=decide (a=b):=by
 by_cases e:a=b
 ·subst e;simp
 ·have h:¬(Sum.inr a:Key)=Sum.inr b:=λq=>e (Sum.inr.inj q)
  rw [decide_eq_false h,decide_eq_false e]
theorem yi (a:Int) (b:Str):decide ((Sum.inl a:Key)=Sum.inr b)=false:=decide_eq_false (λq=>nomatch q)
theorem yh (a:Str) (b:Int):decide ((Sum.inr a:Key)=Sum.inl b)=false:=decide_eq_false (λq=>nomatch q)
noncomputable def bI (prog:Program) (w:World):PySem.KeyKind prog w Key where
 is:=jT
 hash:=A3 w
 inj:=λv a b ha hb=>by
  rcases keyIs_shape ha with⟨i,t,rfl,rfl⟩ | ⟨x,t,rfl,rfl⟩
  ·rcases keyIs_shape hb with⟨j,u,rfl,e⟩ | ⟨y,u,rfl,e⟩
   ·injection e with e1 _;rw [e1]
   ·exact nomatch e
  ·rcases keyIs_shape hb with⟨j,u,rfl,e⟩ | ⟨y,u,rfl,e⟩
   ·exact nomatch e
   ·injection e with e1 _;rw [e1]
 byValue:=λk v h=>by
  rcases keyIs_shape h with⟨i,t,rfl,rfl⟩ | ⟨x,t,rfl,rfl⟩ <;> rfl
 pyHash:=λhv h=>by
  rcases keyIs_shape hv with⟨i,t,rfl,rfl⟩ | ⟨x,t,rfl,rfl⟩
  ·exact wpAny_pyHash_int h
  ·exact wpAny_pyHash_str h
 eqBool:=λhu hv h=>by
  rcases keyIs_shape hu with⟨i,t,rfl,rfl⟩ | ⟨x,t,rfl,rfl⟩
  ·rcases keyIs_shape hv with⟨j,u,rfl,rfl⟩ | ⟨y,u,rfl,rfl⟩
   ·rw [yj]at h;exact wpAny_eqBool_int h
   ·rw [yi]at h;exact SeqAt.EqAt.int_str i t y u _ _ _ _ h
  ·rcases keyIs_shape hv with⟨j,u,rfl,rfl⟩ | ⟨y,u,rfl,rfl⟩
   ·rw [yh]at h;exact SeqAt.EqAt.str_int x t j u _ _ _ _ h
   ·rw [yg]at h;exact wpAny_eqBool_str h
 «strs»:=λk x t v h=>by
  rcases keyIs_shape h with⟨i,u,rfl,e⟩ | ⟨y,u,rfl,e⟩
  ·exact nomatch e
  ·injection e with e1 _
   subst e1
   cases v <;> rfl
theorem mq (prog:Program) (w:World) (i:Int) (t:Tok):(bI prog w).is (.inl i) (.int i t)=true:=qo i t
theorem mo (prog:Program) (w:World) (x:Str) (t:Tok):(bI prog w).is (.inr x) (.str x t)=true:=qm x t
end L2
namespace L2
open PySem PySem.Spec PyProof.Rows
inductive V where
 | non | bl (b:Bool) | int (i:Int) | str (x:Str) | byt (b:Array UInt8) | flt (b:UInt64) | ref (a:Addr) | ty (n:String)
 deriving DecidableEq
noncomputable def bg:V->Value->Prop
 | .non,u=>u=Value.none
 | .bl b,u=>u=Value.bool b
 | .int i,u=>∃t,u=Value.int i t
 | .str x,u=>∃t,u=Value.str x t
 | .byt b,u=>∃t,u=Value.bytes b t
 | .flt b,u=>∃t,u=Value.float b t
 | .ref a,u=>u=Value.ref a
 | .ty n,u=>u=Value.type n
noncomputable abbrev aX:List V->List Value->Prop:=Paired bg
theorem aX.length {xs:List V}{us:List Value} (r:aX xs us):xs.length=us.length:=Paired.length r
theorem aX.get:∀{xs:List V}{us:List Value}{i:Nat}{x:V},aX xs us->xs[i]?=some x->∃u,us[i]?=some u/\bg x u
 | _,_,_,_,.nil,e=>by simp at e
 | _,_,0,_,.cons r _,e=>by simp at e;subst e;exact⟨_,rfl,r⟩
 | _,_,i+1,x,.cons _ t,e=>by
  obtain⟨u,h1,h2⟩:=aX.get (i:=i) (x:=x) t (by simpa using e)
  exact⟨u,by simpa using h1,h2⟩
theorem aX.set {x:V}{u:Value} (r:bg x u):∀{xs:List V}{us:List Value} (i:Nat),aX xs us->aX (xs.set i x) (us.set i u)
 | _,_,_,.nil=>.nil
 | _,_,0,.cons _ t=>.cons r t
 | _,_,i+1,.cons q t=>.cons q (aX.set r i t)
theorem aX.append:∀{xs ys:List V}{us ws:List Value},aX xs us->aX ys ws->aX (xs++ys) (us++ws)
 | _,_,_,_,.nil,s=>s
 | _,_,_,_,.cons r t,s=>.cons r (aX.append t s)
theorem aX.take:∀{xs:List V}{us:List Value} (n:Nat),aX xs us->aX (xs.take n) (us.take n)
 | _,_,0,_=>.nil
 | _,_,_+1,.nil=>.nil
 | _,_,n+1,.cons r t=>.cons r (aX.take n t)
theorem aX.drop:∀{xs:List V}{us:List Value} (n:Nat),aX xs us->aX (xs.drop n) (us.drop n)
 | _,_,0,r=>r
 | _,_,_+1,.nil=>.nil
 | _,_,n+1,.cons _ t=>aX.drop n t
noncomputable def dQ:Option V->Option Value->Prop
 | some v,some u=>bg v u
 | none,none=>True
 | _,_=>False
noncomputable def KV {κ:Type}:List (κ × V)->List (κ × Value)->Prop:=Paired λ(p:κ × V) (q:κ × Value)=>p.1=q.1/\bg p.2 q.2
noncomputable def kV:Key->V
 | .inl i=>.int i
 | .inr x=>.str x
inductive HO where
 /-- a list -/
 | lst (xs:List V)
 /-- a tuple (never changes) -/
 | tup (xs:List V)
 /-- a dict whose keys are ints and texts;one whose keys are tuples of ints and texts (the empty one is both) -/
 | dK (kvs:List (Key × V)) | dT (kvs:List (List Key × V))
 /-- a set of ints: its members,its size -/
 | set (S:Int->Bool) (n:Nat)
 /-- an instance of the class at C,its dict at dx,its attributes -/
 | ins (C dx:Addr) (fs:List (Str × V))
 /-- the dict of the instance at x -/
 | own (x:Addr)
 /-- the dict of an exception -/
 | xd (fs:List (Str × V))
 /-- a bound method,f of x -/
 | met (f x:Addr)
 /-- a range object lo,lo+1,.. zG hi -/
 | rng (lo hi:Int)
 /-- a thing that is known to the object (the script;a dict while a loop walks it): read,never written while it is so -/
 | frz (o:Obj) (u:HO)
 /-- a code object's table -/
 | tbl (ps:Array Value)
 /-- any other thing,by what is true of its one object (a def of one's own: SetO a S n:=HO.ext λh=>..) -/
 | ext (φ:Heap->Prop)
noncomputable abbrev Hp:=Addr->Option HO
noncomputable def upd (H:Hp) (a:Addr) (o:HO):Hp:=λb=>if b=a then some o else H b
theorem aj {H:Hp}{a:Addr}{o:HO}:upd H a o a=some o:=by unfold upd;rw [if_pos rfl]
theorem al {H:Hp}{a b:Addr}{o:HO} (h:b≠a):upd H a o b=H b:=by unfold upd;rw [if_neg h]
theorem bv {H:Hp}{a:Addr}{o u:HO}:upd (upd H a o) a u=upd H a u:=by
 funext b;unfold upd;split <;> rfl
theorem eP {H:Hp}{a b:Addr}{o u:HO} (h:H a=some o) (h':H b=some u) (d:o≠u):a≠b:=by
 intro e;subst e;rw [h]at h';exact d (Option.some.inj h')
theorem am {H:Hp}{a b:Addr}{o:HO} (h:H a=some o) (h':H b=none):a≠b:=by
 intro e;subst e;rw [h]at h';cases h'
section
variable (P:Program) (w:World)
noncomputable def bB (H:Hp) (h:Heap) (a:Addr):HO->Prop
 | .lst xs=>xs.length<=sizeLine/\∃(its:List Value) (n:Nat),aX xs its/\h.get? a=some { cls:=.type "list", data:=.seq its.toArray n }
 | .tup xs=>xs.length<=sizeLine/\∃its:List Value,aX xs its/\IsTup h a its.toArray
 | .dK kvs=>kvs.length<=sizeLine/\(a == sysModules)=false/\∃vs,KV kvs vs/\h.DictOf (bI P w) a vs
 | .dT kvs=>kvs.length<=sizeLine/\(a == sysModules)=false/\∃xs:List (List Key × Addr × Value),
   Paired (λ(p:List Key × V) (q:List Key × Addr × Value)=>p.1=q.1/\H q.2.1=some (.tup (p.1.map kV))/\bg p.2 q.2.2) kvs xs/\
   ∃o es ep,h.get? a=some o/\o.ExactDict/\o.data=.dict es ep/\es.toList=xs.map (entryOfKey (tupleKind (bI P w)))/\(xs.map (·.1)).Nodup
 | .set S n=>h.SetOf (intKind P w) a S n
 | .ins C dx fs=>H dx=some (.own a)/\fs.length<=1000/\dx≠a/\h.get? a=some (PySem.W.instObj C dx)/\
   ∃mA,h.Ns1 dx mA/\(∀f,dQ (fs.lookup f) (mA f))/\PySem.Within mA (fs.map (·.1))
 | .own _=>∃o,h.get? a=some o
 | .xd fs=>∃mA,h.Ns1 a mA/\∀f,dQ (fs.lookup f) (mA f)
 | .rng lo hi=>∃t u v,h.get? a=some { cls:=.type "range", data:=.fields #[.int lo t,.int hi u,.int 1 v] }
 | .frz o u=>h.get? a=some o/\bB H h a u
 | .tbl ps=>h.get? a=some { cls:=.none,data:=.fields ps }
 | .met f x=>h.get? a=some (PySem.W.methodObj (.ref f) (.ref x))
 | .ext φ=>φ h/\(∃o,h.get? a=some o)/\∀h1 h2:Heap,φ h1->(∀o,h1.get? a=some o->h2.get? a=some o)->φ h2
noncomputable def HOk (H:Hp) (h:Heap):Prop:=∀a o,H a=some o->bB P w H h a o
end
section
variable {P:Program}{w:World}{H H':Hp}{h h':Heap}{a:Addr}{o:HO}
theorem bB.lt (x:bB P w H h a o):a < h.objs.size:=by
 cases o with
 | lst xs=>obtain⟨_,_,_,_,e⟩:=x;exact Heap.lt_size e
 | tup xs=>obtain⟨_,_,_,p⟩:=x;exact p.lt
 | dK kvs=>obtain⟨_,_,_,_,o,_,_,e,_⟩:=x;exact Heap.lt_size e
 | dT kvs=>obtain⟨_,_,_,_,o,_,_,e,_⟩:=x;exact Heap.lt_size e
 | set S n=>obtain⟨o,_,_,_,e,_⟩:=x;exact Heap.lt_size e
 | ins C dx fs=>obtain⟨_,_,_,e,_⟩:=x;exact Heap.lt_size e
 | own y=>obtain⟨_,e⟩:=x;exact Heap.lt_size e
 | xd fs=>obtain⟨_,⟨_,_,_,e,_⟩,_⟩:=x;exact Heap.lt_size e
 | rng lo hi=>obtain⟨_,_,_,e⟩:=x;exact Heap.lt_size e
 | frz ob u=>obtain⟨e,_⟩:=x;exact Heap.lt_size e
 | tbl ps=>exact Heap.lt_size (show h.get? a=some _ from x)
 | met f y=>exact Heap.lt_size (show h.get? a=some _ from x)
 | ext φ=>obtain⟨_,⟨_,e⟩,_⟩:=x;exact Heap.lt_size e
theorem Paired.mapP {α β:Type}{F G:α->β->Prop}:∀{l₁:List α}{l₂:List β},Paired F l₁ l₂->(∀a b,F a b->G a b)->Paired G l₁ l₂
 | _,_,.nil,_=>.nil
 | _,_,.cons r t,f=>.cons (f _ _ r) (Paired.mapP t f)
theorem bB.stay (x:bB P w H h a o) (k:∀b u,(b=a\/H b=some (.own a))->h.get? b=some u->h'.get? b=some u)
  (ho:∀b,H b=some (.own a)->H' b=some (.own a)) (ht:∀b xs,H b=some (.tup xs)->H' b=some (.tup xs)):bB P w H' h' a o:=by
 induction o with
 | lst xs=>obtain⟨z,its,n,r,e⟩:=x;exact⟨z,its,n,r,k _ _ (.inl rfl) e⟩
 | tup xs=>obtain⟨z,its,r,ob,e,c⟩:=x;exact⟨z,its,r,ob,k _ _ (.inl rfl) e,c⟩
 | dK kvs=>obtain⟨z,y,vs,r,ob,es,ep,e,c⟩:=x;exact⟨z,y,vs,r,ob,es,ep,k _ _ (.inl rfl) e,c⟩
 | dT kvs=>
  obtain⟨z,y,xs,r,ob,es,ep,e,c⟩:=x
  exact⟨z,y,xs,Paired.mapP r λp q z=>⟨z.1,ht _ _ z.2.1,z.2.2⟩,ob,es,ep,k _ _ (.inl rfl) e,c⟩
 | set S n=>obtain⟨ob,es,ep,t,e,c⟩:=x;exact⟨ob,es,ep,t,k _ _ (.inl rfl) e,c⟩
 | ins C dx fs=>
  obtain⟨d,z,ne,e,mA,⟨od,es,ep,e2,c⟩,r⟩:=x
  exact⟨ho _ d,z,ne,k _ _ (.inl rfl) e,mA,⟨od,es,ep,k _ _ (.inr d) e2,c⟩,r⟩
 | own y=>obtain⟨ob,e⟩:=x;exact⟨ob,k _ _ (.inl rfl) e⟩
 | xd fs=>obtain⟨mA,⟨od,es,ep,e,c⟩,r⟩:=x;exact⟨mA,⟨od,es,ep,k _ _ (.inl rfl) e,c⟩,r⟩
 | rng lo hi=>obtain⟨t,u,v,e⟩:=x;exact⟨t,u,v,k _ _ (.inl rfl) e⟩
 | frz ob u ih=>obtain⟨e,q⟩:=x;exact⟨k _ _ (.inl rfl) e,ih q⟩
 | tbl ps=>
  have e:h.get? a=some { cls:=.none,data:=.fields ps }:=x
  show h'.get? a=some { cls:=.none,data:=.fields ps }
  exact k a _ (.inl rfl) e
 | met f y=>
  have e:h.get? a=some (PySem.W.methodObj (.ref f) (.ref y)):=x
  show h'.get? a=some (PySem.W.methodObj (.ref f) (.ref y))
  exact k a _ (.inl rfl) e
 | ext φ=>obtain⟨p,⟨o,e⟩,st⟩:=x;exact⟨st _ _ p λo q=>k _ _ (.inl rfl) q,⟨o,k _ _ (.inl rfl) e⟩,st⟩
theorem HOk.lt (x:HOk P w H h) (e:H a=some o):a < h.objs.size:=(x a o e).lt
theorem HOk.fresh (x:HOk P w H h) (e:h.objs.size<=a):H a=none:=by
 cases q:H a with
 | none=>rfl
 | some u=>exact absurd (Nat.lt_of_lt_of_le (x.lt q) e) (Nat.lt_irrefl _)
theorem HOk.kept (x:HOk P w H h) (k:∀b u,h.get? b=some u->h'.get? b=some u):HOk P w H h':=λa o e=>
 (x a o e).stay (λb u _ q=>k b u q) (λ_ q=>q) λ_ _ q=>q
theorem HOk.laid (x:HOk P w H h) (k:∀b u,h.get? b=some u->h'.get? b=some u) (hp:h.objs.size<=a) (new:bB P w (upd H a o) h' a o):HOk P w (upd H a o) h':=λb u e=>by
 have hn:=x.fresh hp
 by_cases hb:b=a
 ·subst hb;rw [aj]at e;cases e;exact new
 ·rw [al hb]at e
  exact(x b u e).stay (λc v _ q=>k c v q) (λc q=>by rw [al (am q hn)];exact q) λc xs q=>by rw [al (am q hn)];exact q
end
noncomputable def Rd (H:Hp) (a:Addr) (u:HO):Prop:=H a=some u\/∃o,H a=some (.frz o u)
theorem Rd.ok {P:Program}{w:World}{H:Hp}{h:Heap}{a:Addr}{u:HO} (r:Rd H a u) (x:HOk P w H h):bB P w H h a u:=by
 rcases r with r | ⟨o,r⟩
 ·exact x a u r
 ·obtain⟨_,q⟩:=x a _ r
  exact q
noncomputable def Mut:Option HO->Prop
 | some (.lst _)=>True
 | some (.dK _)=>True
 | some (.dT _)=>True
 | some (.set _ _)=>True
 | some (.ins _ _ _)=>True
 | some (.ext _)=>True
 | _=>False
section
variable {P:Program}{w:World}{H:Hp}{h h':Heap}{x e:Addr}{o':HO}
theorem HOk.write (ok:HOk P w H h) (mu:Mut (H x)) (he:e=x\/H e=some (.own x)) (k:∀b u,b≠e->h.get? b=some u->h'.get? b=some u) (heo:∃u,h'.get? e=some u)
  (new:bB P w (upd H x o') h' x o'):HOk P w (upd H x o') h':=λb u q=>by
 have nown:∀c y,H c=some (.own y)->c≠x:=λc y r z=>by subst z;rw [r]at mu;exact mu
 have ntup:∀c xs,H c=some (.tup xs)->c≠x:=λc xs r z=>by subst z;rw [r]at mu;exact mu
 by_cases hb:b=x
 ·subst hb;rw [aj]at q;cases q;exact new
 ·rw [al hb]at q
  by_cases hbe:b=e
  ·have q':H b=some (.own x):=by
    rcases he with z | z
    ·exact absurd (hbe.trans z) hb
    ·rw [hbe];exact z
   rw [q]at q';cases q'
   obtain⟨v,hv⟩:=heo
   exact⟨v,by rw [hbe];exact hv⟩
  ·refine(ok b u q).stay (λc v hc r=>k c v ?_ r) (λc r=>by rw [al (nown c b r)];exact r) λc xs r=>by rw [al (ntup c xs r)];exact r
   rcases hc with rfl | hc
   ·exact hbe
   ·rintro rfl
    rcases he with z | z
    ·exact nown c b hc z
    ·rw [hc]at z;cases z;exact hb rfl
end
structure Un (fs ex:List Addr) (H H':Hp) (h h':Heap):Prop where
 keep:∀b o,h.get? b=some o->H b=none->b∉fs->b∉ex->h'.get? b=some o
 slot:∀b o,h.get? b=some o->H b=none->b∈fs->b∉ex->∃sl,h'.get? b=some { o with slots:=sl }
 free:∀b o,h.get? b=some o->H b=none->b∉ex->H' b=none
 there:∀b o,h.get? b=some o->b∉ex->∃o',h'.get? b=some o'
 tups:∀b xs,H b=some (.tup xs)->H' b=some (.tup xs)
 frzs:∀b o u,H b=some (.frz o u)->H' b=some (.frz o u)
 tbls:∀b ps,H b=some (.tbl ps)->∃more,H' b=some (.tbl (ps++more))
section
variable {fs fs' ex ex':List Addr}{H H1 H2:Hp}{h h1 h2 h':Heap}{a x e:Addr}{o:HO}
theorem Un.any (u:Un fs ex H H1 h h1){b:Addr}{ob:Obj} (q:h.get? b=some ob) (n:H b=none) (hx:b∉ex):∃sl,h1.get? b=some { ob with slots:=sl }:=by
 by_cases hb:b∈fs
 ·exact u.slot b ob q n hb hx
 ·exact⟨ob.slots,u.keep b ob q n hb hx⟩
theorem Un.kept (k:∀b u,h.get? b=some u->h'.get? b=some u):Un fs ex H H h h':=
 ⟨λb ob q _ _ _=>k b ob q,λb ob q _ _ _=>⟨ob.slots,k b ob q⟩,λ_ _ _ n _=>n,λb ob q _=>⟨ob,k b ob q⟩,λ_ _ q=>q,λ_ _ _ q=>q,λ_ ps q=>⟨#[],by rw [q];simp⟩⟩
theorem Un.refl:Un fs ex H H h h:=Un.kept λ_ _ q=>q
theorem Un.laid (k:∀b u,h.get? b=some u->h'.get? b=some u) (hp:h.objs.size<=a) (hn:H a=none):Un fs ex H (upd H a o) h h' where
 keep:=λb u q _ _ _=>k b u q
 slot:=λb u q _ _ _=>⟨u.slots,k b u q⟩
 free:=λb u q n _=>by rw [al (Nat.ne_of_lt (Nat.lt_of_lt_of_le (Heap.lt_size q) hp))];exact n
 there:=λb u q _=>⟨u,k b u q⟩
 tups:=λb xs q=>by rw [al (am q hn)];exact q
 frzs:=λb u xs q=>by rw [al (am q hn)];exact q
 tbls:=λb ps q=>⟨#[],by rw [al (am q hn),q];simp⟩
theorem Un.write (mu:Mut (H x)) (he:e=x\/H e=some (.own x)) (k:∀b u,b≠e->h.get? b=some u->h'.get? b=some u) (heo:∃u,h'.get? e=some u):Un fs ex H (upd H x o) h h':=by
 have hx:∀b,H b=none->b≠x:=λb n z=>by subst z;rw [n]at mu;exact mu
 have hb:∀b,H b=none->b≠e:=λb n z=>by
  subst z
  rcases he with r | r
  ·exact hx b n r
  ·rw [n]at r;cases r
 have hm:∀b u,H b=some u->¬Mut (some u)->b≠x:=λb u q nm z=>by subst z;rw [q]at mu;exact nm mu
 refine⟨λb u q n _ _=>k b u (hb b n) q,λb u q n _ _=>⟨u.slots,k b u (hb b n) q⟩,λb u q n _=>by rw [al (hx b n)];exact n,λb u q _=>?_,
  λb xs q=>by rw [al (hm b _ q λz=>z)];exact q,λb u xs q=>by rw [al (hm b _ q λz=>z)];exact q,λb ps q=>⟨#[],by rw [al (hm b _ q λz=>z),q];simp⟩⟩
 by_cases hbe:b=e
 ·subst hbe;exact heo
 ·exact⟨u,k b u hbe q⟩
end
noncomputable def trk (h:Heap) (H:Hp):List Addr:=(List.range h.objs.size).filter λa=>(H a).isSome
noncomputable def lv (h:Heap) (H:Hp):Heap:=PySem.W.hideAll h (trk h H)
theorem qr (h:Heap) (H:Hp):(lv h H).objs.size=h.objs.size:=PySem.W.hideAll_size _ _
theorem tN {h:Heap}{H:Hp}{b:Addr}{o:Obj} (e:h.get? b=some o) (n:H b=none):(lv h H).get? b=some o:=
 PySem.W.hideAll_get _ e λhm=>by
  have q:(H b).isSome=true:=(List.mem_filter.mp hm).2
  rw [n]at q;simp at q
theorem vm {h:Heap}{H:Hp}{b:Addr}{o:Obj} (e:(lv h H).get? b=some o):h.get? b=some o/\H b=none:=by
 have e':h.get? b=some o:=PySem.W.of_hideAll (trk h H) e
 refine⟨e',?_⟩
 cases q:H b with
 | none=>rfl
 | some x=>
  have hm:b∈trk h H:=List.mem_filter.mpr ⟨List.mem_range.mpr (Heap.lt_size e'),by simp [q]⟩
  have z:(lv h H).get? b=none:=PySem.W.hideAll_none (trk h H) hm
  rw [z]at e;cases e
end L2
namespace L2
open PySem PySem.Spec PyProof.Rows
structure Mod (K:PySem.W.Frag) (mg:Str->Option Value) (base:Heap):Prop where
 kin:K.In base
 glob:base.Ns mainGlobals mg
 blt:∃mb,base.Ns builtinsNs mb/\∀x:Str,x≠"__name__"->mb x=bootBuiltins x
 nolimit:base.NoLimit
structure Cx where
 prog:Program
 w:World
 K:PySem.W.Frag
 mg:Str->Option Value
 base:Heap
 A:Around
 N:List Str
 s₀:Shared
 H₀:Hp
 env:Env
 outer:List Env
 stack:List Env
 ex:List Addr
 fn:Str->Bool
 calm:Bool
 pn:List (Addr × Obj)
 xe:Value->Shared->Prop
noncomputable def frs (l:List Env):List Addr:=l.filterMap (·.frame)
noncomputable abbrev Cx.fs (X:Cx):List Addr:=frs X.outer
noncomputable def Vis (sc:Scope) (x:Str):Prop:=sc.names.lookup x=some .local\/sc.names.lookup x=some .cell\/sc.names.lookup x=some .free
noncomputable def Loc (sc:Scope) (x:Str):Prop:=sc.names.lookup x=some .local\/sc.names.lookup x=some .cell
noncomputable def Aa (env:Env) (h:Heap) (m:Str->Option Value) (x:Str) (u:Value):Prop:=
 (env.kindOf x=some .local/\m x=some u)\/((env.kindOf x=some .cell\/env.kindOf x=some .free)/\∃c,env.cells.lookup x=some c/\h.IsCell c (some u))
structure Cx.Ok (X:Cx):Prop where
 mod:Mod X.K X.mg X.base
 kind:X.env.scope.kind=.function
 glob:X.env.globals=mainGlobals
 blt:X.env.builtins=builtinsNs
 above:X.s₀.heap.objs.size<=X.env.locals
 inj:∀x y c,X.env.cells.lookup x=some c->X.env.cells.lookup y=some c->x=y
 has:∀x,(X.env.kindOf x=some .cell\/X.env.kindOf x=some .free)->∃c,X.env.cells.lookup x=some c
 cab:∀x c,X.fn x=true->X.env.cells.lookup x=some c->X.s₀.heap.objs.size<=c
 hd:X.calm=true->X.A.handled=none
 frames:X.A.frames=some X.stack
 stk:X.stack=X.outer\/(X.stack=X.env::X.outer/\X.env.frame=some X.env.locals)
 exf:∀b∈X.ex,b≠X.env.locals/\∀x c,X.env.cells.lookup x=some c->c≠b
 bs:∀b o,X.base.get? b=some o->X.s₀.heap.get? b=some o/\X.H₀ b=none
 bsz:X.base.objs.size<=X.s₀.heap.objs.size
 noex:∀b o,X.base.get? b=some o->b∉X.ex
 exfs:∀b∈X.ex,b∉X.fs
 funs:X.s₀.heap.FunFrames X.base X.outer
 frf:∀b∈X.fs,X.H₀ b=none
structure Inv (X:Cx) (pins:List (Addr × Obj)) (σ:List (Option V)) (H:Hp) (s:Shared):Prop where
 ok:X.Ok
 os:s.os=X.s₀.os
 bare:AllBare s.gens
 base:Un X.fs X.ex X.H₀ H X.s₀.heap s.heap
 loc:∃m,s.heap.Ns X.env.locals m/\∀(i:Nat) (x:Str) (v:V),X.N[i]?=some x->σ[i]?=some (some v)->Vis X.env.scope x->∃u,bg v u/\Aa X.env s.heap m x u
 cell:∀x c,X.env.cells.lookup x=some c->∃v,s.heap.IsCell c v
 free:H X.env.locals=none
 freeC:∀x c,X.env.cells.lookup x=some c->H c=none
 pin:∀p∈X.pn++pins,s.heap.get? p.1=some p.2/\H p.1=none/\p.1≠X.env.locals/\p.1∉X.fs/\∀v,p.2.data≠.cell v
 hok:HOk X.prog X.w H s.heap
 len:σ.length=X.N.length
section
variable {X:Cx}{pins:List (Addr × Obj)}{σ:List (Option V)}{H H':Hp}{s:Shared}{h':Heap}
theorem Cx.Ok.nofr (ok:X.Ok){b:Addr}{o:Obj} (e:X.base.get? b=some o):b∉X.fs:=λhb=>by
 have:=(ok.funs.mem hb).1
 rw [e]at this;cases this
theorem Inv.bs (I:Inv X pins σ H s):∀b o,X.base.get? b=some o->s.heap.get? b=some o/\H b=none:=λb o e=>
 ⟨I.base.keep b o (I.ok.bs b o e).1 (I.ok.bs b o e).2 (I.ok.nofr e) (I.ok.noex b o e),I.base.free b o (I.ok.bs b o e).1 (I.ok.bs b o e).2 (I.ok.noex b o e)⟩
theorem Inv.bk (I:Inv X pins σ H s):∀b o,X.base.get? b=some o->s.heap.get? b=some o:=λb o e=>(I.bs b o e).1
theorem Inv.mod (I:Inv X pins σ H s):Mod X.K X.mg X.base:=I.ok.mod
theorem Inv.kIn (I:Inv X pins σ H s):X.K.In s.heap:=I.ok.mod.kin.keeps I.bk
theorem Inv.lt (I:Inv X pins σ H s):X.env.locals < s.heap.objs.size:=let ⟨_,hn,_⟩:=I.loc;hn.lt
theorem Inv.sz (I:Inv X pins σ H s):X.s₀.heap.objs.size<=s.heap.objs.size:=Nat.le_trans I.ok.above (Nat.le_of_lt I.lt)
theorem Inv.nofs (I:Inv X pins σ H s){a:Addr} (h:s.heap.objs.size<=a):a∉X.fs:=λhb=>by
 obtain⟨_,o,ho,_⟩:=I.ok.funs.mem hb
 exact absurd (Nat.lt_of_lt_of_le (Heap.lt_size ho) (Nat.le_trans I.sz h)) (Nat.lt_irrefl _)
theorem Inv.cne (I:Inv X pins σ H s):∀x c,X.env.cells.lookup x=some c->c≠X.env.locals:=λx c e z=>by
 obtain⟨v,o,ho,hd⟩:=I.cell x c e
 obtain⟨m,⟨o',es,ep,ho',hd',_⟩,_⟩:=I.loc
 rw [z,ho']at ho;cases ho;rw [hd']at hd;cases hd
theorem Inv.funs (I:Inv X pins σ H s):s.heap.FunFrames X.base X.outer:=by
 have all:∀(l:List Env),(∀b∈frs l,b∈X.fs)->X.s₀.heap.FunFrames X.base l->s.heap.FunFrames X.base l:=by
  intro l
  induction l with
  | nil=>intro _ _;trivial
  | cons env r ih=>
   intro hs hl
   obtain⟨hk,⟨L,o,hf,hn,ho,hd⟩,hr⟩:=hl
   have hL:L∈X.fs:=hs L (by unfold frs;rw [List.filterMap_cons,hf];exact List.mem_cons_self)
   obtain⟨sl,e⟩:=I.base.slot L o ho (I.ok.frf L hL) hL λz=>I.ok.exfs L z hL
   exact⟨hk,⟨L,_,hf,hn,e,hd⟩,ih (λb hb=>hs b (by unfold frs;rw [List.filterMap_cons,hf];exact List.mem_cons_of_mem _ hb)) hr⟩
 exact all X.outer (λ_ hb=>hb) I.ok.funs
theorem Inv.stack (I:Inv X pins σ H s):s.heap.FunFrames X.base X.stack:=by
 rcases I.ok.stk with e | ⟨e,hf⟩
 ·rw [e];exact I.funs
 ·rw [e]
  obtain⟨m,hn,_⟩:=I.loc
  refine .cons (by rw [I.ok.kind];decide) hf hn ?_ I.funs
  exact Heap.get?_none_of_le (Nat.le_trans I.ok.bsz I.ok.above)
theorem Inv.stkSub (I:Inv X pins σ H s):∀b∈frs X.stack,b∈X.env.locals::X.fs:=λb hb=>by
 rcases I.ok.stk with e | ⟨e,hf⟩
 ·rw [e]at hb;exact List.mem_cons_of_mem _ hb
 ·rw [e]at hb
  unfold frs at hb
  rw [List.filterMap_cons,hf]at hb
  exact hb
theorem Inv.stkFree (I:Inv X pins σ H s):∀b∈frs X.stack,H b=none:=λb hb=>by
 rcases List.mem_cons.mp (I.stkSub b hb) with e | hb
 ·rw [e];exact I.free
 ·obtain⟨_,o,ho,_⟩:=I.ok.funs.mem hb
  exact I.base.free b o ho (I.ok.frf b hb) λz=>I.ok.exfs b z hb
theorem Inv.step {g':Array GenState}{t':Nat}{d':Drawn}{ch:List Addr} (I:Inv X pins σ H s)
  (hch:∀b∈ch,(b∈X.ex\/X.s₀.heap.objs.size<=b)/\b≠X.env.locals/\(∀x c,X.env.cells.lookup x=some c->c≠b)/\∀p∈X.pn++pins,p.1≠b)
  (keep:∀b o,b≠X.env.locals->b∉X.fs->b∉ch->s.heap.get? b=some o->H b=none->h'.get? b=some o)
  (slot:∀b o,b≠X.env.locals->b∈X.fs->b∉ch->s.heap.get? b=some o->H b=none->∃sl,h'.get? b=some { o with slots:=sl }) (free:∀b o,b∉ch->s.heap.get? b=some o->H b=none->H' b=none)
  (there:∀b o,b∉ch->s.heap.get? b=some o->∃o',h'.get? b=some o')
  (tups:∀b xs,H b=some (.tup xs)->H' b=some (.tup xs)) (frzs:∀b o u,H b=some (.frz o u)->H' b=some (.frz o u)) (tbls:∀b ps,H b=some (.tbl ps)->∃more,H' b=some (.tbl (ps++more)))
  (ns:∀m,s.heap.Ns X.env.locals m->h'.Ns X.env.locals m) (hok:HOk X.prog X.w H' h') (hg:AllBare g') :
  Inv X pins σ H' { s with heap:=h',gens:=g',drawn:=d',toks:=t' }:=by
 have neL:∀b o,X.s₀.heap.get? b=some o->b≠X.env.locals:=λb o e=>Nat.ne_of_lt (Nat.lt_of_lt_of_le (Heap.lt_size e) I.ok.above)
 have neC:∀b o,X.s₀.heap.get? b=some o->b∉X.ex->b∉ch:=λb o e hx hb=>by
  rcases (hch b hb).1 with z | z
  ·exact hx z
  ·exact absurd (Nat.lt_of_lt_of_le (Heap.lt_size e) z) (Nat.lt_irrefl _)
 have cellK:∀x c,X.env.cells.lookup x=some c->∀v,s.heap.IsCell c v->h'.IsCell c v:=λx c e v ⟨o,ho,hd⟩=>by
  have nch:c∉ch:=λz=>(hch c z).2.2.1 x c e rfl
  by_cases hc:c∈X.fs
  ·obtain⟨sl,q⟩:=slot c o (I.cne x c e) hc nch ho (I.freeC x c e)
   exact⟨_,q,hd⟩
  ·exact⟨o,keep c o (I.cne x c e) hc nch ho (I.freeC x c e),hd⟩
 refine⟨I.ok,I.os,hg,⟨λb o e n hb hx=>?_,λb o e n hb hx=>?_,λb o e n hx=>?_,λb o e hx=>?_,λb xs e=>tups b xs (I.base.tups b xs e),λb o xs e=>frzs b o xs (I.base.frzs b o xs e),λb ps e=>?_⟩,?_,λx c e=>?_,?_,λx c e=>?_,λp hp=>?_,hok,I.len⟩
 ·exact keep b o (neL b o e) hb (neC b o e hx) (I.base.keep b o e n hb hx) (I.base.free b o e n hx)
 ·obtain⟨sl,e1⟩:=I.base.slot b o e n hb hx
  obtain⟨sl',e2⟩:=slot b _ (neL b o e) hb (neC b o e hx) e1 (I.base.free b o e n hx)
  exact⟨sl',e2⟩
 ·obtain⟨o',e1⟩:=I.base.there b o e hx
  exact free b o' (neC b o e hx) e1 (I.base.free b o e n hx)
 ·obtain⟨o',e1⟩:=I.base.there b o e hx
  exact there b o' (neC b o e hx) e1
 ·obtain⟨m1,e1⟩:=I.base.tbls b ps e
  obtain⟨m2,e2⟩:=tbls b _ e1
  exact⟨m1++m2,by rw [e2,Array.append_assoc]⟩
 ·obtain⟨m,hn,hl⟩:=I.loc
  refine⟨m,ns m hn,λi x v e1 e2 e3=>?_⟩
  obtain⟨u,r,l⟩:=hl i x v e1 e2 e3
  refine⟨u,r,?_⟩
  rcases l with l | ⟨k,c,e,z⟩
  ·exact .inl l
  ·exact .inr ⟨k,c,e,cellK x c e _ z⟩
 ·obtain⟨v,z⟩:=I.cell x c e
  exact⟨v,cellK x c e v z⟩
 ·obtain⟨m,⟨o,_,_,ho,_⟩,_⟩:=I.loc
  exact free _ o (λz=>(hch _ z).2.1 rfl) ho I.free
 ·obtain⟨v,o,ho,hd⟩:=I.cell x c e
  exact free c o (λz=>(hch c z).2.2.1 x c e rfl) ho (I.freeC x c e)
 ·obtain⟨e,n,ne,nf,d⟩:=I.pin p hp
  have nch:p.1∉ch:=λz=>(hch p.1 z).2.2.2 p hp rfl
  exact⟨keep p.1 p.2 ne nf nch e n,free p.1 p.2 nch e n,ne,nf,d⟩
theorem Inv.un {t':Nat} (I:Inv X pins σ H s) (u:Un X.fs [] H H' s.heap h') (hok:HOk X.prog X.w H' h'):Inv X pins σ H' { s with heap:=h',toks:=t' }:=by
 obtain⟨m,⟨o,es,ep,ho,r⟩,_⟩:=id I.loc
 obtain⟨sl,hL⟩:=u.any ho I.free (by simp)
 exact I.step (g':=s.gens) (d':=s.drawn) (ch:=[]) (λ_ z=>nomatch z) (λb o _ hb _ e n=>u.keep b o e n hb (by simp)) (λb o _ hb _ e n=>u.slot b o e n hb (by simp)) (λb o _ e n=>u.free b o e n (by simp)) (λb o _ e=>u.there b o e (by simp)) u.tups u.frzs u.tbls (λm' hm=>by
  obtain⟨o',es',ep',ho',r'⟩:=hm
  rw [ho]at ho';cases ho'
  exact⟨_,es',ep',hL,r'⟩) hok I.bare
theorem Inv.call {g':Array GenState}{t':Nat}{d':Drawn}{ch:List Addr} (I:Inv X pins σ H s) (u:Un (frs X.stack) ch H H' s.heap h') (hok:HOk X.prog X.w H' h') (hg:AllBare g')
  (hch:∀b∈ch,(b∈X.ex\/X.s₀.heap.objs.size<=b)/\b≠X.env.locals/\(∀x c,X.env.cells.lookup x=some c->c≠b)/\∀p∈X.pn++pins,p.1≠b) :
  Inv X pins σ H' { s with heap:=h',gens:=g',drawn:=d',toks:=t' }:=by
 obtain⟨m,⟨o,es,ep,ho,r⟩,_⟩:=id I.loc
 obtain⟨sl,hL⟩:=u.any ho I.free λz=>(hch _ z).2.1 rfl
 exact I.step (ch:=ch) hch (λb o hL hb hc e n=>u.keep b o e n (λz=>(List.mem_cons.mp (I.stkSub b z)).elim hL hb) hc) (λb o _ _ hc e n=>u.any e n hc) (λb o hc e n=>u.free b o e n hc) (λb o hc e=>u.there b o e hc) u.tups u.frzs u.tbls (λm' hm=>by
  obtain⟨o',es',ep',ho',r'⟩:=hm
  rw [ho]at ho';cases ho'
  exact⟨_,es',ep',hL,r'⟩) hok hg
theorem Inv.turned {t':Nat}{it:Addr} (I:Inv X pins σ H s) (k:∀b o,b≠it->s.heap.get? b=some o->h'.get? b=some o) (hn:H it=none) (hL:it≠X.env.locals)
  (h1:it∈X.ex\/X.s₀.heap.objs.size<=it) (h2:∀x c,X.env.cells.lookup x=some c->c≠it) (h3:∀p∈X.pn++pins,p.1≠it):Inv X pins σ H { s with heap:=h',toks:=t' }:=by
 have nit:∀b u,H b=some u->b≠it:=λb u e z=>by rw [z,hn]at e;cases e
 refine I.step (g':=s.gens) (d':=s.drawn) (ch:=[it]) (λb hb=>?_) (λb o _ _ hc e _=>k b o (λz=>hc (by simp [z])) e) (λb o _ _ hc e _=>⟨o.slots,k b o (λz=>hc (by simp [z])) e⟩) (λ_ _ _ _ n=>n)
  (λb o hc e=>⟨o,k b o (λz=>hc (by simp [z])) e⟩) (λ_ _ e=>e) (λ_ _ _ e=>e) (λb ps e=>⟨#[],by rw [e];simp⟩) (λm hm=>?_) (λb u e=>?_) I.bare
 ·have e:b=it:=by simpa using hb
  subst e
  exact⟨h1,hL,h2,h3⟩
 ·obtain⟨o,es,ep,ho,r⟩:=hm
  exact⟨o,es,ep,k _ o (Ne.symm hL) ho,r⟩
 ·refine(I.hok b u e).stay (λc v hc q=>k c v ?_ q) (λ_ q=>q) λ_ _ q=>q
  rcases hc with z | z
  ·rw [z];exact nit b u e
  ·exact nit c _ z
theorem Inv.tok (I:Inv X pins σ H s) (t:Nat):Inv X pins σ H { s with toks:=t }:=I.un (h':=s.heap) (t':=t) Un.refl I.hok
theorem Inv.kept {t':Nat} (I:Inv X pins σ H s) (k:∀b u,s.heap.get? b=some u->h'.get? b=some u):Inv X pins σ H { s with heap:=h',toks:=t' }:=I.un (Un.kept k) (I.hok.kept k)
theorem Inv.laid {a:Addr}{o:HO}{t':Nat} (I:Inv X pins σ H s) (k:∀b u,s.heap.get? b=some u->h'.get? b=some u) (hp:s.heap.objs.size<=a) (new:bB X.prog X.w (upd H a o) h' a o) :
  Inv X pins σ (upd H a o) { s with heap:=h',toks:=t' }:=I.un (Un.laid k hp (I.hok.fresh hp)) (I.hok.laid k hp new)
theorem Inv.write {x e:Addr}{o:HO}{t':Nat} (I:Inv X pins σ H s) (mu:Mut (H x)) (he:e=x\/H e=some (.own x)) (k:∀b u,b≠e->s.heap.get? b=some u->h'.get? b=some u) (heo:∃u,h'.get? e=some u)
  (new:bB X.prog X.w (upd H x o) h' x o):Inv X pins σ (upd H x o) { s with heap:=h',toks:=t' }:=I.un (Un.write mu he k heo) (I.hok.write mu he k heo new)
theorem Inv.pins_of {pins':List (Addr × Obj)} (I:Inv X pins σ H s) (h:∀p∈pins',s.heap.get? p.1=some p.2/\H p.1=none/\p.1≠X.env.locals/\p.1∉X.fs/\∀v,p.2.data≠.cell v):Inv X pins' σ H s:=
 ⟨I.ok,I.os,I.bare,I.base,I.loc,I.cell,I.free,I.freeC,λp hp=>(List.mem_append.mp hp).elim (λz=>I.pin p (List.mem_append_left _ z)) (h p),I.hok,I.len⟩
theorem je {N:List Str} (hN:N.Nodup){i j:Nat}{x:Str} (a:N[i]?=some x) (b:N[j]?=some x):i=j:=by
 obtain⟨h1,e1⟩:=List.getElem?_eq_some_iff.mp a
 obtain⟨h2,e2⟩:=List.getElem?_eq_some_iff.mp b
 exact(List.getElem_inj hN).mp (e1.trans e2.symm)
theorem jA {M:Model}{A:Around}{E:Value->Shared->Prop}{i:Nat}{x:Str}{v:V}{u:Value}{Q:Unit->Shared->Prop} (I:Inv X pins σ H s) (hN:X.N.Nodup) (hi:X.N[i]?=some x) (hx:Loc X.env.scope x) (r:bg v u)
  (h:∀s',Inv X pins (σ.set i (some v)) H s'->(∃a,Heap.SameBut a s.heap s'.heap/\(a=X.env.locals\/X.env.cells.lookup x=some a))->Q () s') (hf:X.fn x=true\/X.env.scope.names.lookup x=some .local:=by first | exact .inl rfl | exact .inr rfl | assumption):wpAny M A (storeName X.env x u) Q E s:=by
 obtain⟨m,hn,hl⟩:=id I.loc
 have hcls:(X.env.scope.kind == .class || (X.env.scope.kind == .module && X.env.locals != X.env.globals))=false:=by rw [I.ok.kind];rfl
 have hiσ:i < σ.length:=by rw [I.len];exact(List.getElem?_eq_some_iff.mp hi).1
 have cne:=I.cne
 have tracked:∀{a:Addr}{h':Heap},(∃o,s.heap.get? a=some o/\H a=none)->Heap.SameBut a s.heap h'->HOk X.prog X.w H h':=λ{a h'} ha hs b ob e=>by
  obtain⟨_,_,hfree⟩:=ha
  refine(I.hok b ob e).stay (λc w' hc q=>(hs.2 c ?_).trans q) (λ_ q=>q) λ_ _ q=>q
  rintro rfl
  rcases hc with rfl | hc
  ·rw [hfree]at e;cases e
  ·rw [hfree]at hc;cases hc
 rcases hx with hk | hk
 ·refine wpAny_storeName_local hk hn (λh' hn' hs=>?_) hcls
  obtain⟨oL,_,_,hoL,_⟩:=id hn
  refine h _ ⟨I.ok,I.os,I.bare,⟨λb o e n hb hx=>?_,λb o e n hb hx=>?_,I.base.free,λb o e hx=>?_,I.base.tups,I.base.frzs,I.base.tbls⟩,⟨_,hn',λj y v' e1 e2 e3=>?_⟩,λy c e=>?_,I.free,I.freeC,λp hp=>?_,tracked ⟨oL,hoL,I.free⟩ hs,by simpa using I.len⟩ ⟨_,hs,.inl rfl⟩
  ·exact(hs.2 b (Nat.ne_of_lt (Nat.lt_of_lt_of_le (Heap.lt_size e) I.ok.above))).trans (I.base.keep b o e n hb hx)
  ·obtain⟨sl,e1⟩:=I.base.slot b o e n hb hx
   exact⟨sl,(hs.2 b (Nat.ne_of_lt (Nat.lt_of_lt_of_le (Heap.lt_size e) I.ok.above))).trans e1⟩
  ·obtain⟨o',e1⟩:=I.base.there b o e hx
   exact⟨o',(hs.2 b (Nat.ne_of_lt (Nat.lt_of_lt_of_le (Heap.lt_size e) I.ok.above))).trans e1⟩
  ·by_cases hj:j=i
   ·subst hj
    rw [hi]at e1;cases e1
    rw [List.getElem?_set_self hiσ]at e2
    cases e2
    exact⟨u,r,.inl ⟨hk,by simp⟩⟩
   ·rw [List.getElem?_set_ne (Ne.symm hj)]at e2
    obtain⟨u',r',q⟩:=hl j y v' e1 e2 e3
    refine⟨u',r',?_⟩
    rcases q with⟨k,e⟩ | ⟨k,c,e,z⟩
    ·refine .inl ⟨k,?_⟩
     have:y≠x:=λe=>hj (je hN e1 (e ▸ hi))
     simp [this,e]
    ·exact .inr ⟨k,c,e,z.sameBut hs (cne y c e)⟩
  ·obtain⟨w',z⟩:=I.cell y c e
   exact⟨w',z.sameBut hs (cne y c e)⟩
  ·obtain⟨e,n,ne,nf,d⟩:=I.pin p hp
   exact⟨(hs.2 p.1 ne).trans e,n,ne,nf,d⟩
 ·have hfn:X.fn x=true:=by
   rcases hf with z | z
   ·exact z
   ·rw [z]at hk;cases hk
  obtain⟨c,hc⟩:=I.ok.has x (.inl hk)
  obtain⟨w',z⟩:=I.cell x c hc
  refine wpAny_storeName_cell I.ok.kind hk hc z (λh' hc' hs=>?_)
  obtain⟨oc,hoc,hocd⟩:=id z
  refine h { s with heap:=h' } ⟨I.ok,I.os,I.bare,⟨λb o e n hb hx=>?_,λb o e n hb hx=>?_,I.base.free,λb o e hx=>?_,I.base.tups,I.base.frzs,I.base.tbls⟩,⟨m,hn.sameBut hs (Ne.symm (cne x c hc)),λj y v' e1 e2 e3=>?_⟩,λy c' e=>?_,I.free,I.freeC,λp hp=>?_,tracked ⟨oc,hoc,I.freeC x c hc⟩ hs,by simpa using I.len⟩ ⟨c,hs,.inr hc⟩
  ·exact(hs.2 b (Nat.ne_of_lt (Nat.lt_of_lt_of_le (Heap.lt_size e) (I.ok.cab x c hfn hc)))).trans (I.base.keep b o e n hb hx)
  ·obtain⟨sl,e1⟩:=I.base.slot b o e n hb hx
   exact⟨sl,(hs.2 b (Nat.ne_of_lt (Nat.lt_of_lt_of_le (Heap.lt_size e) (I.ok.cab x c hfn hc)))).trans e1⟩
  ·obtain⟨o',e1⟩:=I.base.there b o e hx
   exact⟨o',(hs.2 b (Nat.ne_of_lt (Nat.lt_of_lt_of_le (Heap.lt_size e) (I.ok.cab x c hfn hc)))).trans e1⟩
  ·by_cases hj:j=i
   ·subst hj
    rw [hi]at e1;cases e1
    rw [List.getElem?_set_self hiσ]at e2
    cases e2
    exact⟨u,r,.inr ⟨.inl hk,c,hc,hc'⟩⟩
   ·rw [List.getElem?_set_ne (Ne.symm hj)]at e2
    obtain⟨u',r',q⟩:=hl j y v' e1 e2 e3
    refine⟨u',r',?_⟩
    rcases q with q | ⟨k,c',e,z'⟩
    ·exact .inl q
    ·refine .inr ⟨k,c',e,z'.sameBut hs ?_⟩
     rintro rfl
     exact hj (je hN e1 (I.ok.inj _ _ _ e hc ▸ hi))
  ·by_cases hcc:c'=c
   ·subst hcc;exact⟨_,hc'⟩
   ·obtain⟨w2,z2⟩:=I.cell y c' e
    exact⟨w2,z2.sameBut hs hcc⟩
  ·obtain⟨e,n,ne,nf,d⟩:=I.pin p hp
   refine⟨(hs.2 p.1 ?_).trans e,n,ne,nf,d⟩
   intro q
   rw [q,hoc]at e
   have q':oc=p.2:=Option.some.inj e
   exact d w' (by rw [<- q'];exact hocd)
theorem gt {M:Model}{A:Around}{E:Value->Shared->Prop}{i:Nat}{x:Str}{v:V}{u:Value}{Q:Unit->Shared->Prop} (I:Inv X pins σ H s) (hN:X.N.Nodup) (hi:X.N[i]?=some x) (hx:Loc X.env.scope x) (r:bg v u)
  (h:∀s',Inv X pins (σ.set i (some v)) H s'->Q () s') (hf:X.fn x=true\/X.env.scope.names.lookup x=some .local:=by first | exact .inl rfl | exact .inr rfl | assumption):wpAny M A (storeName X.env x u) Q E s:=
 jA I hN hi hx r (λs' I' _=>h s' I') hf
theorem Inv.call' {s':Shared}{ch:List Addr} (I:Inv X pins σ H s) (ho:s'.os=s.os) (u:Un (frs X.stack) ch H H' s.heap s'.heap) (hok:HOk X.prog X.w H' s'.heap) (hg:AllBare s'.gens)
  (hch:∀b∈ch,(b∈X.ex\/X.s₀.heap.objs.size<=b)/\b≠X.env.locals/\(∀x c,X.env.cells.lookup x=some c->c≠b)/\∀p∈X.pn++pins,p.1≠b):Inv X pins σ H' s':=by
 obtain⟨h',g',d',t',o'⟩:=s'
 have e:o'=s.os:=ho
 subst e
 exact I.call (g':=g') (t':=t') (d':=d') u hok hg hch
end
noncomputable abbrev XK:=Value->Option Addr->Hp->Prop
noncomputable abbrev St:=List (Option V)
noncomputable abbrev VK:=V->Hp->Prop
noncomputable abbrev TE:=St->Hp->VK->Prop
noncomputable abbrev TT:=St->Hp->(Bool->Hp->Prop)->Prop
noncomputable abbrev TA:=St->Hp->(List V->Hp->Prop)->Prop
structure Ends where
 nx:St->Hp->Prop
 rt:VK
 bk:St->Hp->Prop:=λ_ _=>False
 ct:St->Hp->Prop:=λ_ _=>False
noncomputable abbrev TS:=Ends->St->Hp->Prop
inductive EP (X:Cx) (pins:List (Addr × Obj)) (σ:St) (Q:VK) (u:Value) (s':Shared):Prop
 | mk (v H') (h1:Inv X pins σ H' s') (h2:bg v u) (h3:Q v H')
noncomputable def TP (X:Cx) (pins:List (Addr × Obj)) (σ:St) (Q:Bool->Hp->Prop) (b:Bool) (s':Shared):Prop:=∃H',Inv X pins σ H' s'/\Q b H'
inductive AP (X:Cx) (pins:List (Addr × Obj)) (σ:St) (Q:List V->Hp->Prop) (us:List Value) (s':Shared):Prop
 | mk (vs H') (h1:Inv X pins σ H' s') (h2:aX vs us) (h3:Q vs H')
noncomputable def SP (X:Cx) (pins:List (Addr × Obj)) (D:Ends) (f:Flow) (s':Shared):Prop:=
 match f with
 | .next=>∃σ' H',Inv X pins σ' H' s'/\D.nx σ' H'
 | .brk=>∃σ' H',Inv X pins σ' H' s'/\D.bk σ' H'
 | .cont=>∃σ' H',Inv X pins σ' H' s'/\D.ct σ' H'
 | .ret u=>∃v σ' H',Inv X pins σ' H' s'/\bg v u/\D.rt v H'
noncomputable def PE (X:Cx) (e:Expr) (t:TE):Prop:=
 ∀(pins:List (Addr × Obj)) (s:Shared) (σ:St) (H:Hp) (Q:VK),Inv X pins σ H s->t σ H Q->wpAny (model X.prog X.w) X.A (eval e X.env) (EP X pins σ Q) X.xe s
noncomputable def PT (X:Cx) (e:Expr) (t:TT):Prop:=
 ∀(pins:List (Addr × Obj)) (s:Shared) (σ:St) (H:Hp) (Q:Bool->Hp->Prop),Inv X pins σ H s->t σ H Q->wpAny (model X.prog X.w) X.A (isTrue e X.env (eval e X.env)) (TP X pins σ Q) X.xe s
noncomputable def PW (X:Cx) (e:Expr) (t:TT):Prop:=
 ∀(whole:Sem Value) (pins:List (Addr × Obj)) (s:Shared) (σ:St) (H:Hp) (Q:Bool->Hp->Prop),Inv X pins σ H s->t σ H Q->wpAny (model X.prog X.w) X.A (isTrue e X.env whole) (TP X pins σ Q) X.xe s
theorem PW.pt {X:Cx}{e:Expr}{t:TT} (h:PW X e t):PT X e t:=h _
noncomputable def PA (X:Cx) (es:List Expr) (t:TA):Prop:=
 ∀(pos:Pos) (pins:List (Addr × Obj)) (s:Shared) (σ:St) (H:Hp) (Q:List V->Hp->Prop),Inv X pins σ H s->t σ H Q->wpAny (model X.prog X.w) X.A (spliced (backTo pos (starEach es X.env))) (AP X pins σ Q) X.xe s
noncomputable def PS (X:Cx) (st:Stmt) (t:TS):Prop:=
 ∀(pins:List (Addr × Obj)) (s:Shared) (σ:St) (H:Hp) (D:Ends),Inv X pins σ H s->t D σ H->wpAny (model X.prog X.w) X.A (exec st X.env) (SP X pins D) X.xe s
noncomputable def PSs (X:Cx) (st:List Stmt) (t:TS):Prop:=
 ∀(pins:List (Addr × Obj)) (s:Shared) (σ:St) (H:Hp) (D:Ends),Inv X pins σ H s->t D σ H->wpAny (model X.prog X.w) X.A (execs st X.env) (SP X pins D) X.xe s
theorem thn {α:Type}{t:Sem α}{Q Q':α->Shared->Prop}{M:Model}{A:Around}{E:Value->Shared->Prop}{s:Shared} (h:wpAny M A t Q E s) (hQ:∀a s,Q a s->Q' a s):wpAny M A t Q' E s:=wpAny_mono h hQ λ_ _ x=>x
end L2
namespace L2
open PySem PySem.Spec PyProof.Rows
section
variable {X:Cx}
inductive eV (i:Nat) (σ:St) (H:Hp) (Q:VK):Prop
 | mk (v) (h1:σ[i]?=some (some v)) (h2:Q v H):eV i σ H Q
noncomputable def tC (v:V):TE:=λ_ H Q=>Q v H
theorem xH {i:Nat}{x:Str}{pos:Pos} (hN:X.N[i]?=some x) (hv:Vis X.env.scope x) (hd:(x == ("__debug__" : Str))=false:=by decide) (hcd:(x == ("__classdict__" : Str))=false:=by decide):PE X (.Name x pos) (eV i):=by
 intro pins s σ H Q I h
 obtain⟨v,e,h⟩:=h
 obtain⟨m,hn,hl⟩:=I.loc
 obtain⟨u,r,l⟩:=hl i x v hN e hv
 have fin:EP X pins σ Q u s:=⟨v,H,I,r,h⟩
 rcases l with⟨hk,hm⟩ | ⟨hk,c,hc,hcell⟩
 ·exact wpAny_Name (wpAny_loadName_local I.ok.kind hk hn hm fin) hd
 ·rcases hk with hk | hk
  ·exact wpAny_Name (wpAny_loadName_cell I.ok.kind hk hc hcell fin) hd
  ·exact wpAny_Name (wpAny_loadName_free I.ok.kind hk hc hcell fin hcd) hd
theorem ag {i j pos}:PE X (.Constant (.int i) j pos) (tC (.int i)):=λ_ _ _ H _ I h=>wpAny_Constant_int ⟨.int i,H,I.tok _,⟨_,rfl⟩,h⟩
theorem gK {b j pos}:PE X (.Constant (.bool b) j pos) (tC (.bl b)):=λ_ _ _ H _ I h=>Constant_bool ⟨.bl b,H,I,rfl,h⟩
theorem cr {j pos}:PE X (.Constant .none j pos) (tC .non):=λ_ _ _ H _ I h=>Constant_none ⟨.non,H,I,rfl,h⟩
theorem ah {x j pos}:PE X (.Constant (.str x) j pos) (tC (.str x)):=λ_ _ _ H _ I h=>Calls.Constant_str ⟨.str x,H,I.tok _,⟨_,rfl⟩,h⟩
noncomputable def Gl (X:Cx) (x:Str):Prop:=X.env.kindOf x=some .globalImplicit
theorem eE {E:Value->Shared->Prop}{pins:List (Addr × Obj)}{s:Shared}{σ:St}{H:Hp}{x:Str}{u:Value}{pos:Pos}{Q:Value->Shared->Prop} (I:Inv X pins σ H s) (hg:Gl X x) (hm:X.mg x=some u) (h:Q u s)
  (hd:(x == ("__debug__" : Str))=false:=by decide):wpAny (model X.prog X.w) X.A (eval (.Name x pos) X.env) Q E s:=
 Calls.Name_function_global I.ok.kind hg (Calls.loadGlobal_global (by rw [I.ok.glob];exact I.mod.glob.keeps I.bk) hm h) hd
theorem jg {E:Value->Shared->Prop}{pins:List (Addr × Obj)}{s:Shared}{σ:St}{H:Hp}{x:Str}{u:Value}{pos:Pos}{Q:Value->Shared->Prop} (I:Inv X pins σ H s) (hg:Gl X x) (hm:X.mg x=none) (hv:bootBuiltins x=some u) (h:Q u s)
  (hn:x≠"__name__":=by decide) (hd:(x == ("__debug__" : Str))=false:=by decide):wpAny (model X.prog X.w) X.A (eval (.Name x pos) X.env) Q E s:=by
 obtain⟨mb,h1,h2⟩:=I.mod.blt
 exact Calls.Name_function_global I.ok.kind hg (Calls.loadGlobal_builtin (by rw [I.ok.glob];exact I.mod.glob.keeps I.bk) hm (by rw [I.ok.blt];exact h1.keeps I.bk) ((h2 x hn).trans hv) h) hd
theorem b6 {x:Str}{v:V}{u:Value}{pos:Pos} (hg:Gl X x) (hm:X.mg x=some u) (r:bg v u) (hd:(x == ("__debug__" : Str))=false:=by decide):PE X (.Name x pos) (tC v):=
 λ_ _ _ H _ I h=>eE I hg hm ⟨v,H,I,r,h⟩ hd
theorem ee {x:Str}{v:V}{u:Value}{pos:Pos} (hg:Gl X x) (hm:X.mg x=none) (hv:bootBuiltins x=some u) (r:bg v u) (hn:x≠"__name__":=by decide) (hd:(x == ("__debug__" : Str))=false:=by decide):PE X (.Name x pos) (tC v):=
 λ_ _ _ H _ I h=>jg I hg hm hv ⟨v,H,I,r,h⟩ hn hd
variable {a b:Expr}{ta tb:TE}{pos:Pos}
noncomputable def PC (X:Cx) (op:CmpOp) (a b:Expr) (t:TE):Prop:=
 ∀(pins:List (Addr × Obj)) (s:Shared) (σ:St) (H:Hp) (Q:VK),Inv X pins σ H s->t σ H Q->
  wpAny (model X.prog X.w) X.A (eval a X.env) (λv s₁=>wpAny (model X.prog X.w) X.A (eval b X.env) (λu s₂=>wpAny (model X.prog X.w) X.A (compareOp op v u) (EP X pins σ Q) X.xe s₂) X.xe s₁) X.xe s
theorem mj (b:Expr){op:CmpOp} (h:op≠.In) (h2:op≠.NotIn):behindInMarks op b=false:=by
 have e1:(op == CmpOp.In)=false:=by cases op <;> first | rfl | exact absurd rfl h
 have e2:(op == CmpOp.NotIn)=false:=by cases op <;> first | rfl | exact absurd rfl h2
 cases b <;> simp [behindInMarks,e1,e2]
noncomputable def zS (ta:TE):TE:=λσ H Q=>ta σ H λx H1=>Q (.bl (decide (x=.non))) H1
noncomputable def yN (ta:TE):TE:=λσ H Q=>ta σ H λx H1=>Q (.bl (!decide (x=.non))) H1
theorem bg.none_iff {x:V}{v:Value} (r:bg x v):(v == Value.none)=decide (x=.non):=by
 cases x with
 | non=>cases r;rfl
 | bl _=>cases r;rfl
 | int _=>obtain⟨t,rfl⟩:=r;rfl
 | str _=>obtain⟨t,rfl⟩:=r;rfl
 | byt _=>obtain⟨t,rfl⟩:=r;rfl
 | flt _=>obtain⟨t,rfl⟩:=r;rfl
 | ref _=>cases r;rfl
 | ty _=>cases r;rfl
theorem xJ {j pos'} (ha:PE X a ta):PC X .Is a (.Constant .none j pos') (zS ta):=by
 intro pins s σ H Q I h
 refine thn (ha pins s σ H _ I h) λv s1 ⟨x,H1,I1,r1,q1⟩=>?_
 exact Constant_none (is_none_gen ⟨.bl _,H1,I1,by rw [r1.none_iff];rfl,q1⟩)
theorem lh {j pos'} (ha:PE X a ta):PC X .IsNot a (.Constant .none j pos') (yN ta):=by
 intro pins s σ H Q I h
 refine thn (ha pins s σ H _ I h) λv s1 ⟨x,H1,I1,r1,q1⟩=>?_
 exact Constant_none (isnot_none_gen ⟨.bl _,H1,I1,by rw [r1.none_iff];rfl,q1⟩)
inductive tbR (x:V) (H1:Hp) (Q:Bool->Hp->Prop):Prop
 | mk (c) (h1:x=.bl c) (h2:Q c H1):tbR x H1 Q
noncomputable def tB (t:TE):TT:=λσ H Q=>t σ H λx H1=>tbR x H1 Q
theorem nL {op:CmpOp}{t:TE} (h:PC X op a b t) (h1:behindInMarks op b=false:=by first | exact mj _ (by decide) (by decide) | rfl):PE X (.Compare a [op] [b] pos) t:=λpins s σ H Q I hw=>wpAny_Compare1 (h pins s σ H Q I hw) h1
theorem xE {op:CmpOp}{t:TE} (h:PC X op a b t) (h1:behindInMarks op b=false:=by first | exact mj _ (by decide) (by decide) | rfl):PT X (.Compare a [op] [b] pos) (tB t):=by
 intro pins s σ H Q I hw
 refine wpAny_isTrue_Compare1 (thn (h pins s σ H _ I hw) λv s1 h1=>thn h1 λu s2 h2=>thn h2 λc s3 ⟨x,H1,I1,r1,q1⟩=>?_) h1
 obtain⟨d,rfl,q⟩:=q1
 cases r1
 exact wpAny_truthy_bool ⟨H1,I1,q⟩
theorem cg {e:Expr}{t:TE} (h:PE X e t) (he:∀whole,isTrue e X.env whole=(do let v <- whole;standAt e.pos;holding [v] (truthy v)):=by intro _;rfl):PT X e (tB t):=by
 intro pins s σ H Q I hw
 refine isTrue_plain (thn (h pins s σ H _ I hw) λv s1 ⟨x,H1,I1,r1,q1⟩=>?_) (he _)
 obtain⟨d,rfl,q⟩:=q1
 cases r1
 exact wpAny_truthy_bool ⟨H1,I1,q⟩
variable {tA tB':TT}{rest:List Expr}
noncomputable def zV (t u:TT):TT:=λσ H Q=>t σ H λc H1=>if c=true then u σ H1 Q else Q false H1
noncomputable def tOr (t u:TT):TT:=λσ H Q=>t σ H λc H1=>if c=true then Q true H1 else u σ H1 Q
noncomputable def zQ (t:TT):TT:=λσ H Q=>t σ H λc H1=>Q (!c) H1
theorem lc (ha:PT X a tA):PW X (.BoolOp .And [a] pos) tA:=by
 intro wh pins s σ H Q I h
 refine isTrue_and (thn (ha pins s σ H Q I h) λc s1 e=>?_)
 cases c with
 | true=>exact isTrue_and_nil e
 | false=>exact e
theorem i5 (ha:PT X a tA):PW X (.BoolOp .Or [a] pos) tA:=by
 intro wh pins s σ H Q I h
 refine isTrue_or (thn (ha pins s σ H Q I h) λc s1 e=>?_)
 cases c with
 | false=>exact isTrue_or_nil e
 | true=>exact e
theorem ld (ha:PT X a tA) (hb:PW X (.BoolOp .And (b::rest) pos) tB'):PW X (.BoolOp .And (a::b::rest) pos) (zV tA tB'):=by
 intro wh pins s σ H Q I h
 refine isTrue_and (thn (ha pins s σ H _ I h) λc s1 ⟨H1,I1,q1⟩=>?_)
 cases c with
 | true=>exact hb wh pins s1 σ H1 Q I1 q1
 | false=>exact⟨H1,I1,q1⟩
theorem jJ (ha:PT X a tA) (hb:PW X (.BoolOp .Or (b::rest) pos) tB'):PW X (.BoolOp .Or (a::b::rest) pos) (tOr tA tB'):=by
 intro wh pins s σ H Q I h
 refine isTrue_or (thn (ha pins s σ H _ I h) λc s1 ⟨H1,I1,q1⟩=>?_)
 cases c with
 | true=>exact⟨H1,I1,q1⟩
 | false=>exact hb wh pins s1 σ H1 Q I1 q1
theorem cz (ha:PT X a tA):PT X (.UnaryOp .Not a pos) (zQ tA):=by
 intro pins s σ H Q I h
 exact isTrue_not (ha pins s σ H (λc H1=>Q (!c) H1) I h)
noncomputable def vN (ta tb:TE):TE:=λσ H Q=>ta σ H λx H1=>∃c,x=.bl c/\if c=true then tb σ H1 Q else Q (.bl false) H1
noncomputable def zP (ta tb:TE):TE:=λσ H Q=>ta σ H λx H1=>∃c,x=.bl c/\if c=true then Q (.bl true) H1 else tb σ H1 Q
theorem dh {op}{t:TE} (h:PE X a t):PE X (.BoolOp op [a] pos) t:=λpins s σ H Q I hw=>BoolOp_one (h pins s σ H Q I hw)
theorem dD (ha:PE X a ta) (hb:PE X (.BoolOp .And (b::rest) pos) tb):PE X (.BoolOp .And (a::b::rest) pos) (vN ta tb):=by
 intro pins s σ H Q I h
 refine BoolOp_and (thn (ha pins s σ H _ I h) λv s1 ⟨x,H1,I1,r1,q1⟩=>?_)
 obtain⟨c,rfl,q1⟩:=q1
 cases r1
 refine wpAny_truthy_bool ?_
 cases c with
 | true=>exact hb pins s1 σ H1 Q I1 q1
 | false=>exact⟨.bl false,H1,I1,rfl,q1⟩
theorem jK (ha:PE X a ta) (hb:PE X (.BoolOp .Or (b::rest) pos) tb):PE X (.BoolOp .Or (a::b::rest) pos) (zP ta tb):=by
 intro pins s σ H Q I h
 refine BoolOp_or (thn (ha pins s σ H _ I h) λv s1 ⟨x,H1,I1,r1,q1⟩=>?_)
 obtain⟨c,rfl,q1⟩:=q1
 cases r1
 refine wpAny_truthy_bool ?_
 cases c with
 | false=>exact hb pins s1 σ H1 Q I1 q1
 | true=>exact⟨.bl true,H1,I1,rfl,q1⟩
noncomputable def tIf (t:TT) (ta tb:TE):TE:=λσ H Q=>t σ H λc H1=>if c=true then ta σ H1 Q else tb σ H1 Q
theorem ja {c:Expr} (hc:PT X c tA) (ha:PE X a ta) (hb:PE X b tb):PE X (.IfExp c a b pos) (tIf tA ta tb):=by
 intro pins s σ H Q I h
 refine wpAny_IfExp (thn (hc pins s σ H _ I h) λd s1 ⟨H1,I1,q1⟩=>?_)
 cases d with
 | true=>exact ha pins s1 σ H1 Q I1 q1
 | false=>exact hb pins s1 σ H1 Q I1 q1
end
end L2
namespace L2
open PySem PySem.Spec PyProof.Rows
noncomputable def SqL (K:PySem.W.Frag) (H:Hp) (a:Addr) (xs:List V):Prop:=
 Rd H a (.lst xs)\/
  ∃(o:Obj) (its:Array Value) (n:Nat),K.lookup a=some o/\o.cls=.type "list"/\o.dict=none/\o.data=.seq its n/\its.size<=sizeLine/\aX xs its.toList
noncomputable def SqT (K:PySem.W.Frag) (H:Hp) (a:Addr) (xs:List V):Prop:=
 Rd H a (.tup xs)\/
  ∃(o:Obj) (its:Array Value) (n:Nat),K.lookup a=some o/\o.cls=.type "tuple"/\o.data=.seq its n/\its.size<=sizeLine/\aX xs its.toList
noncomputable def A9:Value->Option V
 | .none=>some .non
 | .bool b=>some (.bl b)
 | .int i _=>some (.int i)
 | .str x _=>some (.str x)
 | .bytes b _=>some (.byt b)
 | .float b _=>some (.flt b)
 | .ref a=>some (.ref a)
 | .type n=>some (.ty n)
 | _=>none
theorem bg.abs {x:V}{u:Value} (r:bg x u):A9 u=some x:=by
 cases x with
 | non=>cases r;rfl
 | bl _=>cases r;rfl
 | int _=>obtain⟨t,rfl⟩:=r;rfl
 | str _=>obtain⟨t,rfl⟩:=r;rfl
 | byt _=>obtain⟨t,rfl⟩:=r;rfl
 | flt _=>obtain⟨t,rfl⟩:=r;rfl
 | ref _=>cases r;rfl
 | ty _=>cases r;rfl
theorem bg.inj {x y:V}{u:Value} (r:bg x u) (q:bg y u):x=y:=Option.some.inj (r.abs.symm.trans q.abs)
theorem aX.inj:∀{xs ys:List V}{us:List Value},aX xs us->aX ys us->xs=ys
 | _,_,_,.nil,.nil=>rfl
 | _,_,_,.cons r t,.cons r' t'=>by rw [r.inj r',aX.inj t t']
section
variable {X:Cx}{pins:List (Addr × Obj)}{σ:St}{H:Hp}{s:Shared}{a:Addr}{xs ys:List V}
theorem SqL.of {K:PySem.W.Frag} (h:H a=some (.lst xs)):SqL K H a xs:=.inl (.inl h)
theorem SqT.of {K:PySem.W.Frag} (h:H a=some (.tup xs)):SqT K H a xs:=.inl (.inl h)
theorem Inv.list (I:Inv X pins σ H s) (h:SqL X.K H a xs):∃its:List Value,aX xs its/\PlainL s.heap a its.toArray/\xs.length<=sizeLine:=by
 rcases h with h | ⟨o,its,n,hk,hc,hd,hs,hz,r⟩
 ·obtain⟨z,its,n,r,e⟩:=h.ok I.hok
  exact⟨its,r,⟨_,n,e,rfl,rfl,rfl⟩,z⟩
 ·refine⟨its.toList,r,⟨o,n,I.kIn a o hk,hc,hd,by simpa using hs⟩,?_⟩
  have e:=r.length
  simp only [Array.length_toList]at e
  omega
theorem Inv.tuple (I:Inv X pins σ H s) (h:SqT X.K H a xs):∃its:List Value,aX xs its/\IsTup s.heap a its.toArray/\xs.length<=sizeLine:=by
 rcases h with h | ⟨o,its,n,hk,hc,hs,hz,r⟩
 ·obtain⟨z,its,r,p⟩:=h.ok I.hok
  exact⟨its,r,p,z⟩
 ·refine⟨its.toList,r,⟨o,I.kIn a o hk,hc,n,by simpa using hs⟩,?_⟩
  have e:=r.length
  simp only [Array.length_toList]at e
  omega
theorem Inv.list_inj (I:Inv X pins σ H s) (h:SqL X.K H a xs) (h':SqL X.K H a ys):xs=ys:=by
 obtain⟨its,r,⟨o,n,e,_,_,d⟩,_⟩:=I.list h
 obtain⟨its',r',⟨o',n',e',_,_,d'⟩,_⟩:=I.list h'
 rw [e]at e';cases e'
 rw [d]at d'
 injection d' with d1 _
 have:its=its':=by simpa using congrArg Array.toList d1
 subst this
 exact r.inj r'
theorem Inv.tuple_inj (I:Inv X pins σ H s) (h:SqT X.K H a xs) (h':SqT X.K H a ys):xs=ys:=by
 obtain⟨its,r,⟨o,e,_,n,d⟩,_⟩:=I.tuple h
 obtain⟨its',r',⟨o',e',_,n',d'⟩,_⟩:=I.tuple h'
 rw [e]at e';cases e'
 rw [d]at d'
 injection d' with d1 _
 have:its=its':=by simpa using congrArg Array.toList d1
 subst this
 exact r.inj r'
end
noncomputable abbrev Cx.wish (X:Cx) (E:Value->Shared->Prop):Cx:={ X with xe:=E }
noncomputable abbrev Cx.nox (X:Cx):Cx:=X.wish λ_ _=>False
theorem Cx.Ok.wish {X:Cx} (ok:X.Ok) (E:Value->Shared->Prop):(X.wish E).Ok:=
 ⟨ok.mod,ok.kind,ok.glob,ok.blt,ok.above,ok.inj,ok.has,ok.cab,ok.hd,ok.frames,ok.stk,ok.exf,ok.bs,ok.bsz,ok.noex,ok.exfs,ok.funs,ok.frf⟩
theorem Cx.Ok.unwish {X:Cx}{E:Value->Shared->Prop} (ok:(X.wish E).Ok):X.Ok:=
 ⟨ok.mod,ok.kind,ok.glob,ok.blt,ok.above,ok.inj,ok.has,ok.cab,ok.hd,ok.frames,ok.stk,ok.exf,ok.bs,ok.bsz,ok.noex,ok.exfs,ok.funs,ok.frf⟩
section
variable {X:Cx}{pins:List (Addr × Obj)}{σ:St}{H:Hp}{s:Shared}{E:Value->Shared->Prop}
theorem Inv.wish (I:Inv X pins σ H s) (E:Value->Shared->Prop):Inv (X.wish E) pins σ H s:=⟨I.ok.wish E,I.os,I.bare,I.base,I.loc,I.cell,I.free,I.freeC,I.pin,I.hok,I.len⟩
theorem Inv.unwish (I:Inv (X.wish E) pins σ H s):Inv X pins σ H s:=⟨I.ok.unwish,I.os,I.bare,I.base,I.loc,I.cell,I.free,I.freeC,I.pin,I.hok,I.len⟩
theorem SP.unwish {D:Ends}{f:Flow}{s':Shared} (h:SP (X.wish E) pins D f s'):SP X pins D f s':=by
 cases f with
 | next=>obtain⟨σ',H',I,q⟩:=h;exact⟨σ',H',I.unwish,q⟩
 | brk=>obtain⟨σ',H',I,q⟩:=h;exact⟨σ',H',I.unwish,q⟩
 | cont=>obtain⟨σ',H',I,q⟩:=h;exact⟨σ',H',I.unwish,q⟩
 | ret u=>obtain⟨v,σ',H',I,r,q⟩:=h;exact⟨v,σ',H',I.unwish,r,q⟩
theorem PSs.nox {st:List Stmt}{t:TS} (h:PSs X.nox st t):PSs X st t:=λpins s σ H D I hw=>
 wpAny_mono (h pins s σ H D (I.wish _) hw) (λ_ _ q=>q.unwish) λ_ _ z=>False.elim z
end
section
variable {X:Cx}{st:Stmt}{rest:List Stmt}{t u:TS}{e:Expr}{te:TE}{pos:Pos}
noncomputable def vK:TS:=λD σ H=>D.nx σ H
noncomputable def kr (t u:TS):TS:=λD σ H=>t { D with nx:=u D } σ H
theorem ay:PSs X [] vK:=λ_ _ σ H _ I h=>wpAny_execs_nil ⟨σ,H,I,h⟩
theorem ad (h1:PS X st t) (h2:PSs X rest u):PSs X (st::rest) (kr t u):=by
 intro pins s σ H D I h
 refine wpAny_execs_cons (thn (h1 pins s σ H { D with nx:=u D } I h) λf s1 q=>?_)
 cases f with
 | next=>
  obtain⟨σ',H',I',q⟩:=q
  exact h2 pins s1 σ' H' D I' q
 | ret v=>exact q
 | brk=>exact q
 | cont=>exact q
theorem af (h1:PS X st t):PSs X [st] t:=by
 intro pins s σ H D I h
 refine wpAny_execs_cons (thn (h1 pins s σ H D I h) λf s1 q=>?_)
 cases f with
 | next=>exact wpAny_execs_nil q
 | ret v=>exact q
 | brk=>exact q
 | cont=>exact q
theorem Inv.quiet {pins:List (Addr × Obj)}{σ:St}{H:Hp}{s:Shared} (I:Inv X pins σ H s):interactive X.env=false:=by simp [interactive,I.ok.kind]
noncomputable def vM (te:TE):TS:=λD σ H=>te σ H λ_ H1=>D.nx σ H1
theorem aY (he:PE X e te) (hs:swapsWith e none pos.line X.env=pure false:=by rfl):PS X (.Expr e pos) (vM te):=by
 intro pins s σ H D I h
 exact wpAny_Expr_any (thn (he pins s σ H _ I h) λv s1 ⟨x,H1,I1,r1,q1⟩=>⟨σ,H1,I1,q1⟩) I.quiet hs
noncomputable def uo (te:TE):TS:=λD σ H=>te σ H D.rt
theorem av (he:PE X e te):PS X (.Return (some e) pos) (uo te):=by
 intro pins s σ H D I h
 exact wpAny_Return_some (thn (he pins s σ H _ I h) λv s1 ⟨x,H1,I1,r1,q1⟩=>⟨x,σ,H1,I1,r1,q1⟩)
noncomputable def wP (c:TT) (t u:TS):TS:=λD σ H=>c σ H λb H1=>if b=true then t D σ H1 else u D σ H1
theorem aO {c:Expr}{a b:List Stmt}{tc:TT} (hc:PT X c tc) (ha:PSs X a t) (hb:PSs X b u):PS X (.If c a b pos) (wP tc t u):=by
 intro pins s σ H D I h
 refine wpAny_If (thn (hc pins s σ H _ I h) λd s1 ⟨H1,I1,q1⟩=>?_)
 cases d with
 | true=>exact ha pins s1 σ H1 D I1 q1
 | false=>exact hb pins s1 σ H1 D I1 q1
noncomputable def wN:TS:=λ_ _ _=>False
theorem gI:PS X st wN:=λ_ _ _ _ _ _ h=>h.elim
end
noncomputable abbrev TG:=V->St->Hp->(St->Hp->Prop)->Prop
noncomputable abbrev TGs:=List V->St->Hp->(St->Hp->Prop)->Prop
noncomputable def PG (X:Cx) (target:Expr) (t:TG):Prop:=
 ∀(pins:List (Addr × Obj)) (s:Shared) (σ:St) (H:Hp) (v:V) (u:Value) (Q:St->Hp->Prop),Inv X pins σ H s->bg v u->t v σ H Q->
  wpAny (model X.prog X.w) X.A (assign target X.env u) (λ_ s'=>∃σ' H',Inv X pins σ' H' s'/\Q σ' H') X.xe s
noncomputable def PGs (X:Cx) (ts:List Expr) (t:TGs):Prop:=
 ∀(pins:List (Addr × Obj)) (s:Shared) (σ:St) (H:Hp) (vs:List V) (us:List Value) (Q:St->Hp->Prop),Inv X pins σ H s->aX vs us->t vs σ H Q->
  wpAny (model X.prog X.w) X.A (assignInOrder ((assignEach ts X.env).map (·.2)) us) (λ_ s'=>∃σ' H',Inv X pins σ' H' s'/\Q σ' H') X.xe s
noncomputable abbrev yD:=V->V->V->Hp->(Hp->Prop)->Prop
noncomputable def zI (X:Cx) (t:yD):Prop:=
 ∀(pins:List (Addr × Obj)) (s:Shared) (σ:St) (H:Hp) (o i v:V) (ov iv u:Value) (Q:Hp->Prop),Inv X pins σ H s->bg o ov->bg i iv->bg v u->t o i v H Q->
  wpAny (model X.prog X.w) X.A (setItem ov iv u) (λ_ s'=>∃H',Inv X pins σ H' s'/\Q H') X.xe s
section
variable {X:Cx}{pos:Pos}
noncomputable def aA (i:Nat):TG:=λv σ H Q=>Q (σ.set i (some v)) H
theorem bO {i:Nat}{x:Str} (hN:X.N.Nodup) (hi:X.N[i]?=some x) (hx:Loc X.env.scope x) (hf:X.fn x=true\/X.env.scope.names.lookup x=some .local:=by first | exact .inl rfl | exact .inr rfl | assumption):PG X (.Name x pos) (aA i):=by
 intro pins s σ H v u Q I r h
 exact wpAny_assign_Name (gt I hN hi hx r (λs' I'=>⟨_,H,I',h⟩) hf)
noncomputable def A7:TGs:=λvs σ H Q=>vs=[]/\Q σ H
inductive wA (t:TG) (u:TGs) (vs:List V) (σ:St) (H:Hp) (Q:St->Hp->Prop):Prop
 | mk (v r) (h1:vs=v::r) (h2:t v σ H λσ' H'=>u r σ' H' Q):wA t u vs σ H Q
theorem oZ:PGs X [] A7:=by
 intro pins s σ H vs us Q I r h
 obtain⟨e,h⟩:=h
 subst e
 cases r
 exact assignInOrder_nil ⟨σ,H,I,h⟩
theorem gJ {e:Expr}{es:List Expr}{t:TG}{u:TGs} (h1:PG X e t) (h2:PGs X es u)
  (hs:(assignEach (e::es) X.env).map (·.2)=assign e X.env::(assignEach es X.env).map (·.2):=by rfl):PGs X (e::es) (wA t u):=by
 intro pins s σ H vs us Q I r h
 obtain⟨v,vr,e1,h⟩:=h
 subst e1
 cases r with
 | cons r rr=>
  rw [hs]
  refine assignInOrder_cons (thn (h1 pins s σ H _ _ _ I r h) λ_ s1 ⟨σ1,H1,I1,q1⟩=>?_)
  exact h2 pins s1 σ1 H1 _ _ Q I1 rr q1
inductive zB (K:PySem.W.Frag) (n:Nat) (t:TGs) (v:V) (σ:St) (H:Hp) (Q:St->Hp->Prop):Prop
 | mk (a xs) (h1:v=.ref a) (h2:SqT K H a xs) (h3:xs.length=n) (h4:t xs σ H Q):zB K n t v σ H Q
theorem su {es:List Expr}{k:Nat}{t:TGs}{n:Nat} (hc:X.calm=true) (h:PGs X es t)
  (hn:(assignEach es X.env).length=n:=by rfl) (hst:(assignEach es X.env).findIdx? (·.1)=none:=by rfl):PG X (.Tuple es k pos) (zB X.K n t):=by
 intro pins s σ H v u Q I r hw
 obtain⟨a,xs,e1,hq,hl,hw⟩:=hw
 subst e1
 cases r
 obtain⟨its,rv,ht,hz⟩:=I.tuple hq
 refine assign_Tuple_tuple (I.ok.hd hc) ht (by simp [hn,<- hl,rv.length]) hst λh' hx=>?_
 have I1:Inv X pins σ H { s with heap:=h' }:=I.kept (t':=s.toks) λb o e=>hx b o (Nat.ne_of_lt (Heap.lt_size e)) e
 exact h pins _ σ H xs _ Q I1 (by simpa using rv) hw
noncomputable def A6 (to ti:TE) (t:yD):TG:=λv σ H Q=>to σ H λo H1=>ti σ H1 λi H2=>t o i v H2 λH3=>Q σ H3
theorem sv {o i:Expr}{to ti:TE}{t:yD} (ho:PE X o to) (hi:PE X i ti) (hs:zI X t)
  (ha:∀v,assign (.Subscript o i pos) X.env v=(do
   let ov <- holding [v] (eval o X.env)
   let iv <- holding [v,ov] (eval i X.env)
   standAt pos
   holding [v,ov,iv] (setItem ov iv v)
   release [v,ov,iv] []):=by intro _;rfl):PG X (.Subscript o i pos) (A6 to ti t):=by
 intro pins s σ H v u Q I r h
 rw [ha]
 refine wpAny_bind (wpAny_holding (thn (ho pins s σ H _ I h) λov s1 ⟨x,H1,I1,r1,q1⟩=>?_))
 refine wpAny_bind (wpAny_holding (thn (hi pins s1 σ H1 _ I1 q1) λiv s2 ⟨y,H2,I2,r2,q2⟩=>?_))
 refine wpAny_bind (wpAny_standAt (wpAny_bind (wpAny_holding (thn (hs pins s2 σ H2 x y v ov iv u _ I2 r1 r2 r q2) λ_ s3 ⟨H3,I3,q3⟩=>?_))))
 exact wpAny_release ⟨σ,H3,I3,q3⟩
noncomputable def ur (te:TE) (g:TG):TS:=λD σ H=>te σ H λx H1=>g x σ H1 D.nx
theorem nH {tg e:Expr}{te:TE}{g:TG} (he:PE X e te) (hg:PG X tg g) (hs:swapsWithSole [tg] e pos.line X.env=pure false:=by rfl) (hw:swappedStores [tg] e X.env=pure none:=by rfl)
  (h1:(assignEach [tg] X.env).map (·.2)=[assign tg X.env]:=by rfl):PS X (.Assign [tg] e pos) (ur te g):=by
 intro pins s σ H D I h
 refine wpAny_Assign_stores (thn (he pins s σ H _ I h) λv s1 ⟨x,H1,I1,r1,q1⟩=>?_) hs hw
 rw [h1]
 exact thn (hg pins s1 σ H1 x v _ I1 r1 q1) λ_ s2 q=>q
theorem ax {i:Nat}{x:Str}{e:Expr}{te:TE}{pos':Pos} (hN:X.N.Nodup) (hi:X.N[i]?=some x) (hx:Loc X.env.scope x) (he:PE X e te) (hs:swapsWith e (some (.Name x pos')) pos.line X.env=pure false:=by rfl) (hf:X.fn x=true\/X.env.scope.names.lookup x=some .local:=by first | exact .inl rfl | exact .inr rfl | assumption) :
  PS X (.Assign [.Name x pos'] e pos) (ur te (aA i)):=by
 intro pins s σ H D I h
 refine wpAny_Assign_Name (thn (he pins s σ H _ I h) λv s1 ⟨y,H1,I1,r1,q1⟩=>?_) hs
 exact gt I1 hN hi hx r1 (λs2 I2=>⟨_,H1,I2,q1⟩) hf
end
section
variable {X:Cx}{pos:Pos}
noncomputable def qQ (c:TT) (tb:TS):TS:=λD σ H=>∃W:Nat->St->Hp->Prop,(∃m,W m σ H)/\∀m σ H,W m σ H->
 c σ H λb H1=>if b=true then ∃N:St->Hp->Prop,(∀σ' H',N σ' H'->∃m',m' < m/\W m' σ' H')/\tb { D with nx:=N,ct:=N,bk:=D.nx } σ H1 else D.nx σ H1
theorem j8 {c:Expr}{body:List Stmt}{tc:TT}{tb:TS} (hp:PassesOwn (model X.prog X.w) X.A X.env X.xe) (hc:PT X c tc) (hb:PSs X body tb):PS X (.While c body [] pos) (qQ tc tb):=by
 intro pins s σ H D I h
 obtain⟨W,⟨m0,w0⟩,turn⟩:=h
 refine wpAny_While (codeAny_whileLoop (λn s'=>∃σ' H',Inv X pins σ' H' s'/\W n σ' H') ?_ m0 ⟨σ,H,I,w0⟩)
 rintro n s1 ⟨σ1,H1,I1,w1⟩
 refine wpAny_passesOwn hp (thn (hc pins s1 σ1 H1 _ I1 (turn n σ1 H1 w1)) λb s2 ⟨H2,I2,q2⟩=>?_)
 cases b with
 | true=>
  obtain⟨N,hN,q2⟩:=q2
  rw [if_pos rfl]
  refine wpAny_passesOwn hp (thn (hb pins s2 σ1 H2 _ I2 q2) λf s3 q3=>?_)
  cases f with
  | next=>
   obtain⟨σ3,H3,I3,n3⟩:=q3
   obtain⟨m',hm,w3⟩:=hN σ3 H3 n3
   exact⟨m',hm,σ3,H3,I3,w3⟩
  | cont=>
   obtain⟨σ3,H3,I3,n3⟩:=q3
   obtain⟨m',hm,w3⟩:=hN σ3 H3 n3
   exact⟨m',hm,σ3,H3,I3,w3⟩
  | brk=>exact q3
  | ret v=>exact q3
 | false=>
  rw [if_neg Bool.false_ne_true]
  exact wpAny_execs_nil ⟨σ1,H2,I2,q2⟩
end
structure It where
 go:Nat->Hp->Prop
 yld:Nat->Hp->V->Hp->Prop
 stop:Nat->Hp->Prop
noncomputable def hJ (X:Cx) (pins:List (Addr × Obj)) (H:Hp) (b:Addr):Prop:=
 H b=none/\b≠X.env.locals/\b∉X.fs/\(b∈X.ex\/X.s₀.heap.objs.size<=b)/\(∀x c,X.env.cells.lookup x=some c->c≠b)/\∀p∈X.pn++pins,p.1≠b
theorem Inv.fpOk {X:Cx}{pins:List (Addr × Obj)}{σ:St}{H H':Hp}{s:Shared}{b:Addr} (I:Inv X pins σ H s) (hb:s.heap.objs.size<=b) (hn:H' b=none):hJ X pins H' b:=by
 refine⟨hn,Nat.ne_of_gt (Nat.lt_of_lt_of_le I.lt hb),I.nofs hb,.inr (Nat.le_trans I.sz hb),λx c e z=>?_,λp hp z=>?_⟩
 ·obtain⟨v,q⟩:=I.cell x c e
  exact absurd (Nat.lt_of_lt_of_le q.lt (by rw [z];exact hb)) (Nat.lt_irrefl _)
 ·exact absurd (Nat.lt_of_lt_of_le (Heap.lt_size (I.pin p hp).1) (by rw [z];exact hb)) (Nat.lt_irrefl _)
structure Turn (P:Program) (w:World) (K:PySem.W.Frag) (tg:Expr) (J:It) (fp:List Addr) (it:Addr) (tn:Nat->Heap->Prop):Prop where
 mem:it∈fp
 obj:∀i h,tn i h->∀b∈fp,∃o,h.get? b=some o/\∀v,o.data≠.cell v
 keep:∀i h h',tn i h->(∀b∈fp,∀o,h.get? b=some o->h'.get? b=some o)->tn i h'
 item:∀(X:Cx),X.prog=P->X.w=w->X.K=K->X.calm=true->∀(i:Nat) (pins:List (Addr × Obj)) (s:Shared) (σ:St) (H:Hp) (E:Value->Shared->Prop),Inv X pins σ H s->(∀b∈fp,hJ X pins H b)->tn i s.heap->J.go i H->
  wpAny (model P w) X.A (pyNext (.ref it)) (λr s1=>∃u,r=some u/\
   wpAny (model P w) X.A (letOwnedTupleGo tg (.ref it) u) (λ_ s2=>∃x H',Inv X pins σ H' s2/\bg x u/\J.yld i H x H'/\tn (i+1) s2.heap/\∀b∈fp,H' b=none) E s1) E s
 done:∀(X:Cx),X.prog=P->X.w=w->X.K=K->X.calm=true->∀(i:Nat) (pins:List (Addr × Obj)) (s:Shared) (σ:St) (H:Hp) (E:Value->Shared->Prop),Inv X pins σ H s->(∀b∈fp,hJ X pins H b)->tn i s.heap->J.stop i H->
  wpAny (model P w) X.A (pyNext (.ref it)) (λr s1=>r=none/\Inv X pins σ H s1) E s
 self:∀(A:Around) (i:Nat) (s:Shared) (Q:Value->Shared->Prop) (E:Value->Shared->Prop),tn i s.heap->Q (.ref it) s->wpAny (model P w) A (pyIter (.ref it)) Q E s
noncomputable abbrev TI:=St->Hp->(It->Hp->Prop)->Prop
noncomputable def PIE (X:Cx) (pins:List (Addr × Obj)) (σ:St) (tg:Expr) (R:It->Hp->Prop) (itv:Value) (s2:Shared):Prop:=
 ∃(it:Addr) (fp:List Addr) (tn:Nat->Heap->Prop) (J:It) (H':Hp),itv=.ref it/\Inv X pins σ H' s2/\Turn X.prog X.w X.K tg J fp it tn/\tn 0 s2.heap/\(∀b∈fp,hJ X pins H' b)/\R J H'
noncomputable def PI (X:Cx) (tg iter:Expr) (wi:TI):Prop:=
 ∀(pins:List (Addr × Obj)) (s:Shared) (σ:St) (H:Hp) (R:It->Hp->Prop),Inv X pins σ H s->wi σ H R->
  wpAny (model X.prog X.w) X.A (eval iter X.env) (λv s1=>wpAny (model X.prog X.w) X.A (pyIter v) (PIE X pins σ tg R) X.xe s1) X.xe s
theorem mB {M : Model} {A : Around} {E : Value → Shared → Prop} {s : Shared} {tg : Expr} {it : Addr} {u : Value} {o : Obj} {n : String} {vs : Array Value} {Q : Unit → Shared → Prop} (ho : s.heap.get? it = some o) (hc : o.cls = .type n) (hd : o.data = .fields vs)
    (hn : ["enumerate", "zip", "dict_itemiterator", "dict_reverseitemiterator", "odict_iterator", "itertools.zip_longest", "itertools.pairwise"].contains n = false) (hQ : Q () s) : wpAny M A (letOwnedTupleGo tg (.ref it) u) Q E s := by
  unfold letOwnedTupleGo
  cases tg <;> first
    | exact wpAny_pure hQ
    | (cases u <;> first
        | exact wpAny_pure hQ
        | (refine wpAny_bind (wpAny_load ho ?_)
           rw [hc, hd]
           show wpAny M A (if (["enumerate", "zip", "dict_itemiterator", "dict_reverseitemiterator", "odict_iterator", "itertools.zip_longest", "itertools.pairwise"].contains n && vs[0]? == some (rawInt _)) = true then _ else _) Q E s
           rw [if_neg (by intro h; rw [hn, Bool.false_and] at h; cases h)]
           exact wpAny_pure hQ))
noncomputable def Itl (K:PySem.W.Frag) (a:Addr):It:=
 ⟨λi H=>∃xs x,SqL K H a xs/\xs[i]?=some x,λi H x H'=>H'=H/\∀xs,SqL K H a xs->xs[i]?=some x,λi H=>∃xs,SqL K H a xs/\xs.length<=i⟩
noncomputable def Itt (K:PySem.W.Frag) (a:Addr):It:=
 ⟨λi H=>∃xs x,SqT K H a xs/\xs[i]?=some x,λi H x H'=>H'=H/\∀xs,SqT K H a xs->xs[i]?=some x,λi H=>∃xs,SqT K H a xs/\xs.length<=i⟩
noncomputable def Itr (lo:Int) (n:Nat):It:=⟨λi _=>i < n,λi H x H'=>H'=H/\x=.int (lo+i),λi _=>n<=i⟩
theorem pS {P:Program}{w:World}{K:PySem.W.Frag}{tg:Expr} (a it:Addr):Turn P w K tg (Itl K a) [it] it (λi h=>h.IsListIter it a i) where
 mem:=by simp
 obj:=λi h st b hb=>by
  have e:b=it:=by simpa using hb
  subst e
  obtain⟨o,e,c,d⟩:=st
  exact⟨o,e,λv z=>by rw [d]at z;cases z⟩
 keep:=λi h h' st k=>st.at λo e=>k it (by simp) o e
 item:=by
  intro X hP hw hK hc i pins s σ H E I hf st hg
  subst hP hw hK
  obtain⟨xs,x,hq,hx⟩:=hg
  obtain⟨its,rv,p,hz⟩:=I.list hq
  obtain⟨u,hu,ru⟩:=rv.get hx
  obtain⟨f0,f1,f2,f3,f4,f5⟩:=hf it (by simp)
  refine wpAny_pyNext_list_item st p.isList (x:=u) (by simpa using hu) λh' st' sb=>?_
  have I1:Inv X pins σ H { s with heap:=h' }:=I.turned (t':=s.toks) (λb o hb e=>(sb.2 b hb).trans e) f0 f1 f3 f4 f5
  obtain⟨o,e,c,d⟩:=id st'
  exact⟨u,rfl,mB (s:={ s with heap:=h' }) e c d (by decide) ⟨x,H,I1,ru,⟨rfl,λys hy=>by rw [I.list_inj hy hq];exact hx⟩,st',λb hb=>(hf b hb).1⟩⟩
 done:=by
  intro X hP hw hK hc i pins s σ H E I hf st hg
  subst hP hw hK
  obtain⟨xs,hq,hx⟩:=hg
  obtain⟨its,rv,p,hz⟩:=I.list hq
  obtain⟨f0,f1,f2,f3,f4,f5⟩:=hf it (by simp)
  have hl:=rv.length
  exact wpAny_pyNext_list_end (I.ok.hd hc) st p.isList (by simp;omega) λh' eb=>⟨rfl,I.turned (t':=s.toks) (λb o hb e=>eb b o hb e) f0 f1 f3 f4 f5⟩
 self:=λ_ _ _ _ _ st h=>wpAny_pyIter_listiter st h
theorem mL {P:Program}{w:World}{K:PySem.W.Frag}{tg:Expr} (a it:Addr):Turn P w K tg (Itt K a) [it] it (λi h=>h.IsTupleIter it a i) where
 mem:=by simp
 obj:=λi h st b hb=>by
  have e:b=it:=by simpa using hb
  subst e
  obtain⟨o,e,c,d⟩:=st
  exact⟨o,e,λv z=>by rw [d]at z;cases z⟩
 keep:=λi h h' st k=>st.at λo e=>k it (by simp) o e
 item:=by
  intro X hP hw hK hc i pins s σ H E I hf st hg
  subst hP hw hK
  obtain⟨xs,x,hq,hx⟩:=hg
  obtain⟨its,rv,p,hz⟩:=I.tuple hq
  obtain⟨u,hu,ru⟩:=rv.get hx
  obtain⟨f0,f1,f2,f3,f4,f5⟩:=hf it (by simp)
  refine wpAny_pyNext_tuple_item st (show s.heap.IsTuple a its.toArray from p) (x:=u) (by simpa using hu) λh' st' sb=>?_
  have I1:Inv X pins σ H { s with heap:=h' }:=I.turned (t':=s.toks) (λb o hb e=>(sb.2 b hb).trans e) f0 f1 f3 f4 f5
  obtain⟨o,e,c,d⟩:=id st'
  exact⟨u,rfl,mB (s:={ s with heap:=h' }) e c d (by decide) ⟨x,H,I1,ru,⟨rfl,λys hy=>by rw [I.tuple_inj hy hq];exact hx⟩,st',λb hb=>(hf b hb).1⟩⟩
 done:=by
  intro X hP hw hK hc i pins s σ H E I hf st hg
  subst hP hw hK
  obtain⟨xs,hq,hx⟩:=hg
  obtain⟨its,rv,p,hz⟩:=I.tuple hq
  obtain⟨f0,f1,f2,f3,f4,f5⟩:=hf it (by simp)
  have hl:=rv.length
  exact wpAny_pyNext_tuple_end (I.ok.hd hc) st (show s.heap.IsTuple a its.toArray from p) (by simp;omega) λh' eb=>⟨rfl,I.turned (t':=s.toks) (λb o hb e=>eb b o hb e) f0 f1 f3 f4 f5⟩
 self:=λ_ _ _ _ _ st h=>wpAny_pyIter_tupleiter st h
theorem mM {P:Program}{w:World}{K:PySem.W.Frag}{tg:Expr} (it:Addr) (lo:Int) (n:Nat):Turn P w K tg (Itr lo n) [it] it (λi h=>IsRangeIter h it (lo+(i:Nat) * 1) ((n:Int) - (i:Nat)) 1) where
 mem:=by simp
 obj:=λi h st b hb=>by
  have e:b=it:=by simpa using hb
  subst e
  exact⟨_,st,λv z=>by
   have z':Data.fields _=Data.cell v:=z
   cases z'⟩
 keep:=λi h h' st k=>k it (by simp) _ st
 item:=by
  intro X hP hw hK hc i pins s σ H E I hf st hg
  subst hP hw hK
  obtain⟨f0,f1,f2,f3,f4,f5⟩:=hf it (by simp)
  have W:=Walks.range (prog:=X.prog) (w:=X.w) (I.ok.hd hc) it lo 1 n
  refine W.item i s _ _ hg st λv h' tk hv st' kk=>?_
  obtain⟨t,rfl⟩:=hv
  have I1:Inv X pins σ H { s with heap:=h',toks:=tk }:=I.turned (λb o hb e=>kk b o (by simpa using hb) e) f0 f1 f3 f4 f5
  refine⟨_,rfl,mB (s:={ s with heap:=h',toks:=tk }) (n:="range_iterator") st' rfl rfl (by decide) ⟨.int (lo+i),H,I1,⟨t,?_⟩,⟨rfl,rfl⟩,st',λb hb=>(hf b hb).1⟩⟩
  rw [Int.mul_one]
 done:=by
  intro X hP hw hK hc i pins s σ H E I hf st hg
  subst hP hw hK
  obtain⟨f0,f1,f2,f3,f4,f5⟩:=hf it (by simp)
  exact wpAny_pyNext_range_end (I.ok.hd hc) st (by have:n<=i:=hg;omega) λh' eb=>⟨rfl,I.turned (t':=s.toks) (λb o hb e=>eb b o hb e) f0 f1 f3 f4 f5⟩
 self:=λ_ _ _ _ _ st h=>wpAny_pyIter_rangeiter st h
end L2
namespace L2
open PySem PySem.Spec PyProof.Rows
section
variable {X:Cx}{tg:Expr}
noncomputable def tM (K:PySem.W.Frag) (tl:TE):TI:=λσ H R=>tl σ H λx H1=>∃a,x=.ref a/\(∃xs,SqL K H1 a xs)/\R (Itl K a) H1
noncomputable def A4 (K:PySem.W.Frag) (tl:TE):TI:=λσ H R=>tl σ H λx H1=>∃a,x=.ref a/\(∃xs,SqT K H1 a xs)/\R (Itt K a) H1
theorem cq {l:Expr}{tl:TE} (hl:PE X l tl):PI X tg l (tM X.K tl):=by
 intro pins s σ H R I h
 refine thn (hl pins s σ H _ I h) λv s1 ⟨x,H1,I1,r1,q1⟩=>?_
 obtain⟨a,e,⟨xs,hq⟩,q⟩:=q1
 subst e
 cases r1
 obtain⟨its,rv,p,hz⟩:=I1.list hq
 refine wpAny_pyIter_list p.isList ?_
 refine⟨s1.heap.objs.size,[s1.heap.objs.size],_,_,H1,rfl,I1.kept (t':=s1.toks) λb o e=>Heap.get?_push_of_some _ e,pS a _,⟨_,Heap.get?_push_size _ rfl,rfl,rfl⟩,λb hb=>?_,q⟩
 have e:b=s1.heap.objs.size:=by simpa using hb
 subst e
 exact I1.fpOk (Nat.le_refl _) (I1.hok.fresh (Nat.le_refl _))
theorem xF {l:Expr}{tl:TE} (hl:PE X l tl):PI X tg l (A4 X.K tl):=by
 intro pins s σ H R I h
 refine thn (hl pins s σ H _ I h) λv s1 ⟨x,H1,I1,r1,q1⟩=>?_
 obtain⟨a,e,⟨xs,hq⟩,q⟩:=q1
 subst e
 cases r1
 obtain⟨its,rv,p,hz⟩:=I1.tuple hq
 refine wpAny_pyIter_tuple (show s1.heap.IsTuple a its.toArray from p) ?_
 refine⟨s1.heap.objs.size,[s1.heap.objs.size],_,_,H1,rfl,I1.kept (t':=s1.toks) λb o e=>Heap.get?_push_of_some _ e,mL a _,⟨_,Heap.get?_push_size _ rfl,rfl,rfl⟩,λb hb=>?_,q⟩
 have e:b=s1.heap.objs.size:=by simpa using hb
 subst e
 exact I1.fpOk (Nat.le_refl _) (I1.hok.fresh (Nat.le_refl _))
theorem sm {pins:List (Addr × Obj)}{σ:St}{H:Hp}{s:Shared}{R:It->Hp->Prop}{E:Value->Shared->Prop}{lo hi:Int}{t u v:Tok}{tk:Nat} (I:Inv X pins σ H s) (h1 : -(2 ^ 62)<=lo) (h2:lo < 2 ^ 62) (h3 : -(2 ^ 62)<=hi) (h4:hi < 2 ^ 62)
  (q:R (Itr lo (hi - lo).toNat) H):wpAny (model X.prog X.w) X.A (pyIter (.ref s.heap.objs.size)) (PIE X pins σ tg R) E { s with heap:=s.heap.push { cls:=.type "range", data:=.fields #[.int lo t,.int hi u,.int 1 v] },toks:=tk }:=by
 refine wpAny_pyIter_range (IsRange.new ..) (small_one h1 h2 h3 h4) ?_
 have I1:Inv X pins σ H { s with heap:=s.heap.push { cls:=.type "range", data:=.fields #[.int lo t,.int hi u,.int 1 v] },toks:=tk }:=I.kept λb o e=>Heap.get?_push_of_some _ e
 refine⟨(s.heap.push { cls:=.type "range", data:=.fields #[.int lo t,.int hi u,.int 1 v] }).objs.size,[(s.heap.push { cls:=.type "range", data:=.fields #[.int lo t,.int hi u,.int 1 v] }).objs.size],_,_,H,rfl,
  I1.kept (t':=tk) λb o e=>Heap.get?_push_of_some _ e,mM _ lo (hi - lo).toNat,?_,λb hb=>?_,q⟩
 ·have e1:lo+((0:Nat):Int) * 1=lo:=by simp
  have e2:(((hi - lo).toNat:Nat):Int) - ((0:Nat):Int)=Builtin.Range.rangeSize lo hi 1:=by rw [rangeSize_one];split <;> omega
  show IsRangeIter _ _ (lo+((0:Nat):Int) * 1) ((((hi - lo).toNat:Nat):Int) - ((0:Nat):Int)) 1
  rw [e1,e2]
  exact Heap.get?_push_size _ rfl
 ·have e:b=(s.heap.push { cls:=.type "range", data:=.fields #[.int lo t,.int hi u,.int 1 v] }).objs.size:=by simpa using hb
  subst e
  exact I1.fpOk (Nat.le_refl _) (I1.hok.fresh (Nat.le_refl _))
noncomputable def zz (ta:TA):TI:=λσ H R=>ta σ H λvs H1=>∃j:Int,vs=[.int j]/\-(2 ^ 62)<=j/\j < 2 ^ 62/\R (Itr 0 j.toNat) H1
theorem cI {a:Expr}{ta:TA}{p pos:Pos} (hg:Gl X "range") (hm:X.mg "range" = none) (ha:PA X [a] ta) (hs:starEach [a] X.env=[(false,eval a X.env)]:=by rfl):PI X tg (.Call (.Name "range" p) [a] [] pos) (zz ta):=by
 intro pins s σ H R I h
 refine Call_ (jg I hg hm boot_range (PyProof.Rows.callWith_type1 (thn (ha pos pins s σ H _ I h) λus s1 ⟨vs,H1,I1,r1,q1⟩=>?_) hs rfl))
 obtain⟨j,e,q1,q2,q⟩:=q1
 subst e
 cases r1 with
 | cons r rr=>
  cases rr
  obtain⟨t,rfl⟩:=r
  exact call_range_1 (sm I1 (by omega) (by omega) q1 q2 (by simpa using q))
noncomputable def zT (wi:TI) (g:TG) (tb:TS):TS:=λD σ H=>wi σ H λJ H1=>∃W:Nat->Nat->St->Hp->Prop,(∃m,W 0 m σ H1)/\∀i m σ H,W i m σ H->
 (J.stop i H/\D.nx σ H)\/(J.go i H/\∃N:St->Hp->Prop,(∀σ' H',N σ' H'->∃m',m' < m/\W (i+1) m' σ' H')/\∀x H',J.yld i H x H'->g x σ H' λσ2 H2=>tb { D with nx:=N,ct:=N,bk:=D.nx } σ2 H2)
noncomputable def j9 (fp:List Addr) (h:Heap):List (Addr × Obj):=fp.filterMap λb=>(h.get? b).map λo=>(b,o)
theorem eC {fp:List Addr}{h:Heap}{b:Addr}{o:Obj} (hb:b∈fp) (e:h.get? b=some o):(b,o)∈j9 fp h:=List.mem_filterMap.mpr ⟨b,hb,by rw [e];rfl⟩
theorem ql {fp:List Addr}{h:Heap}{p:Addr × Obj} (hp:p∈j9 fp h):p.1∈fp/\h.get? p.1=some p.2:=by
 obtain⟨b,hb,e⟩:=List.mem_filterMap.mp hp
 cases q:h.get? b with
 | none=>rw [q]at e;cases e
 | some o=>
  rw [q]at e
  have e':(b,o)=p:=Option.some.inj e
  subst e'
  exact⟨hb,q⟩
theorem Inv.pinned {pins:List (Addr × Obj)}{σ:St}{H:Hp}{s:Shared}{fp:List Addr} (I:Inv X pins σ H s) (hf:∀b∈fp,hJ X pins H b) (ho:∀b∈fp,∃o,s.heap.get? b=some o/\∀v,o.data≠.cell v):Inv X (pins++j9 fp s.heap) σ H s:=
 I.pins_of λp hp=>(List.mem_append.mp hp).elim (λz=>I.pin p (List.mem_append_right _ z)) λz=>by
  obtain⟨hb,e⟩:=ql z
  obtain⟨f0,f1,f2,_⟩:=hf p.1 hb
  obtain⟨o,e',d⟩:=ho p.1 hb
  rw [e]at e';cases e'
  exact⟨e,f0,f1,f2,d⟩
theorem Inv.unpinned {pins pl:List (Addr × Obj)}{σ:St}{H:Hp}{s:Shared} (I:Inv X (pins++pl) σ H s):Inv X pins σ H s:=I.pins_of λp hp=>I.pin p (List.mem_append_right _ (List.mem_append_left _ hp))
theorem cS {iter:Expr}{body:List Stmt}{wi:TI}{g:TG}{tb:TS}{pos:Pos} (hp:PassesOwn (model X.prog X.w) X.A X.env X.xe) (hc:X.calm=true) (hi:PI X tg iter wi) (hg:PG X tg g) (hb:PSs X body tb)
  (hs:∀x,foldedSetIterable iter X.env x=pure x:=by intro _;rfl):PS X (.For tg iter body [] pos) (zT wi g tb):=by
 intro pins s σ H D I h
 refine wpAny_For (thn (hi pins s σ H _ I h) λv s1 h1=>thn h1 λitv s2 h2=>?_) hs
 obtain⟨it,fp,tn,J,H2,e,I2,T,st2,f2,W,⟨m0,w0⟩,turn⟩:=h2
 subst e
 have stat:∀{H':Hp},(∀b∈fp,H' b=none)->∀b∈fp,hJ X pins H' b:=λhn b hb=>⟨hn b hb,(f2 b hb).2⟩
 refine codeAny_forLoop_any (λn s'=>∃i σ' H',Inv X pins σ' H' s'/\tn i s'.heap/\(∀b∈fp,H' b=none)/\W i n σ' H') ?_ m0 ⟨0,σ,H2,I2,st2,λb hb=>(f2 b hb).1,w0⟩
 rintro n s3 ⟨i,σ3,H3,I3,st3,fr3,w3⟩
 rcases turn i n σ3 H3 w3 with⟨stop,qn⟩ | ⟨go,N,hN,step⟩
 ·refine wpAny_passesOwn hp (thn (T.done X rfl rfl rfl hc i pins s3 σ3 H3 X.xe I3 (stat fr3) st3 stop) λr s4 ⟨hr,I4⟩=>?_)
  subst hr
  exact wpAny_execs_nil ⟨σ3,H3,I4,qn⟩
 ·refine wpAny_passesOwn hp (thn (T.item X rfl rfl rfl hc i pins s3 σ3 H3 X.xe I3 (stat fr3) st3 go) λr s4 ⟨u,hr,h4⟩=>?_)
  subst hr
  refine wpAny_passesOwn hp (thn h4 λ_ s5 ⟨x,H5,I5,r5,y5,st5,fr5⟩=>?_)
  have I5':=I5.pinned (stat fr5) (T.obj _ _ st5)
  refine wpAny_passesOwn hp (thn (hg _ s5 σ3 H5 x u _ I5' r5 (step x H5 y5)) λ_ s6 ⟨σ6,H6,I6,q6⟩=>?_)
  refine wpAny_passesOwn hp (thn (hb _ s6 σ6 H6 _ I6 q6) λf s7 q7=>?_)
  have again:∀{σ7:St}{H7:Hp},Inv X (pins++j9 fp s5.heap) σ7 H7 s7->N σ7 H7->∃m,m < n/\∃i σ' H',Inv X pins σ' H' s7/\tn i s7.heap/\(∀b∈fp,H' b=none)/\W i m σ' H':=λ{σ7 H7} I7 n7=>by
   obtain⟨m',hm,w7⟩:=hN σ7 H7 n7
   refine⟨m',hm,i+1,σ7,H7,I7.unpinned,T.keep _ _ _ st5 λb hb o e=>(I7.pin (b,o) (List.mem_append_right _ (List.mem_append_right _ (eC hb e)))).1,λb hb=>?_,w7⟩
   obtain⟨o,e,d⟩:=T.obj _ _ st5 b hb
   exact(I7.pin (b,o) (List.mem_append_right _ (List.mem_append_right _ (eC hb e)))).2.1
  cases f with
  | next=>obtain⟨σ7,H7,I7,n7⟩:=q7;exact again I7 n7
  | cont=>obtain⟨σ7,H7,I7,n7⟩:=q7;exact again I7 n7
  | brk=>obtain⟨σ7,H7,I7,q7⟩:=q7;exact⟨σ7,H7,I7.unpinned,q7⟩
  | ret v=>obtain⟨x7,σ7,H7,I7,r7,q7⟩:=q7;exact⟨x7,σ7,H7,I7.unpinned,r7,q7⟩
end
theorem dk {K:PySem.W.Frag}{a:Addr}{xs:List V}{g:TG}{tb:TS}{D:Ends}{σ:St}{H:Hp} (Pv:Nat->St->Hp->Prop) (h0:Pv 0 σ H) (hl:∀i σ H,i<=xs.length->Pv i σ H->SqL K H a xs)
  (hs:∀i x σ H,xs[i]?=some x->Pv i σ H->g x σ H λσ2 H2=>tb { D with nx:=Pv (i+1),ct:=Pv (i+1),bk:=D.nx } σ2 H2) (hd:∀σ H,Pv xs.length σ H->D.nx σ H) :
  ∃W:Nat->Nat->St->Hp->Prop,(∃m,W 0 m σ H)/\∀i m σ H,W i m σ H->
   ((Itl K a).stop i H/\D.nx σ H)\/((Itl K a).go i H/\∃N:St->Hp->Prop,(∀σ' H',N σ' H'->∃m',m' < m/\W (i+1) m' σ' H')/\∀x H',(Itl K a).yld i H x H'->g x σ H' λσ2 H2=>tb { D with nx:=N,ct:=N,bk:=D.nx } σ2 H2):=by
 refine⟨λi m σ H=>m=xs.length - i/\i<=xs.length/\Pv i σ H,⟨xs.length,by simp,Nat.zero_le _,h0⟩,?_⟩
 rintro i m σ H ⟨rfl,hi,p⟩
 have q:=hl i σ H hi p
 by_cases hlt:i < xs.length
 ·refine .inr ⟨⟨xs,xs[i],q,by simp [hlt]⟩,Pv (i+1),λσ' H' p'=>⟨xs.length - (i+1),by omega,rfl,hlt,p'⟩,λx H' y=>?_⟩
  obtain⟨e,y⟩:=y
  subst e
  exact hs i x σ _ (y xs q) p
 ·have e:i=xs.length:=by omega
  subst e
  exact .inl ⟨⟨xs,q,Nat.le_refl _⟩,hd σ H p⟩
theorem fH {lo:Int}{n:Nat}{g:TG}{tb:TS}{D:Ends}{σ:St}{H:Hp} (Pv:Nat->St->Hp->Prop) (h0:Pv 0 σ H)
  (hs:∀i σ H,i < n->Pv i σ H->g (.int (lo+i)) σ H λσ2 H2=>tb { D with nx:=Pv (i+1),ct:=Pv (i+1),bk:=D.nx } σ2 H2) (hd:∀σ H,Pv n σ H->D.nx σ H) :
  ∃W:Nat->Nat->St->Hp->Prop,(∃m,W 0 m σ H)/\∀i m σ H,W i m σ H->
   ((Itr lo n).stop i H/\D.nx σ H)\/((Itr lo n).go i H/\∃N:St->Hp->Prop,(∀σ' H',N σ' H'->∃m',m' < m/\W (i+1) m' σ' H')/\∀x H',(Itr lo n).yld i H x H'->g x σ H' λσ2 H2=>tb { D with nx:=N,ct:=N,bk:=D.nx } σ2 H2):=by
 refine⟨λi m σ H=>m=n - i/\i<=n/\Pv i σ H,⟨n,by simp,Nat.zero_le _,h0⟩,?_⟩
 rintro i m σ H ⟨rfl,hi,p⟩
 by_cases hlt:i < n
 ·refine .inr ⟨hlt,Pv (i+1),λσ' H' p'=>⟨n - (i+1),by omega,rfl,hlt,p'⟩,λx H' y=>?_⟩
  obtain⟨e,y⟩:=y
  subst e y
  exact hs i σ _ hlt p
 ·have e:i=n:=by omega
  subst e
  exact .inl ⟨Nat.le_refl _,hd σ H p⟩
end L2
namespace L2
open PySem PySem.Spec PyProof.Rows
noncomputable abbrev R2:=V->V->Hp->VK->Prop
noncomputable def OpR (X:Cx) (f:Value->Value->Sem Value) (r:R2):Prop:=
 ∀(pins:List (Addr × Obj)) (s:Shared) (σ:St) (H:Hp) (x y:V) (v u:Value) (Q:VK),Inv X pins σ H s->bg x v->bg y u->r x y H Q->
  wpAny (model X.prog X.w) X.A (f v u) (EP X pins σ Q) X.xe s
noncomputable def UnR (X:Cx) (f:Value->Sem Value) (r:V->Hp->VK->Prop):Prop:=
 ∀(pins:List (Addr × Obj)) (s:Shared) (σ:St) (H:Hp) (x:V) (v:Value) (Q:VK),Inv X pins σ H s->bg x v->r x H Q->
  wpAny (model X.prog X.w) X.A (f v) (EP X pins σ Q) X.xe s
noncomputable def cO (X:Cx) (f:Value) (r:List V->Hp->VK->Prop):Prop:=
 ∀(pins:List (Addr × Obj)) (s:Shared) (σ:St) (H:Hp) (xs:List V) (us:List Value) (Q:VK),Inv X pins σ H s->aX xs us->r xs H Q->
  wpAny (model X.prog X.w) X.A (call f us) (EP X pins σ Q) X.xe s
noncomputable def tOp (r:R2) (ta tb:TE):TE:=λσ H Q=>ta σ H λx H1=>tb σ H1 λy H2=>r x y H2 Q
noncomputable def tUn (r:V->Hp->VK->Prop) (ta:TE):TE:=λσ H Q=>ta σ H λx H1=>r x H1 Q
inductive rI (C:Int->Int->Prop) (g:Int->Int->V) (x:V) (y:V) (H:Hp) (Q:VK):Prop
 | mk (i j) (h1:x=.int i) (h2:y=.int j) (h3:C i j) (h4:Q (g i j) H):rI C g x y H Q
inductive rI0 (g:Int->Int->V) (x:V) (y:V) (H:Hp) (Q:VK):Prop
 | mk (i j) (h1:x=.int i) (h2:y=.int j) (h3:Q (g i j) H):rI0 g x y H Q
noncomputable def rU (g:Int->V):V->Hp->VK->Prop:=λx H Q=>∃i,x=.int i/\Q (g i) H
section
variable {X:Cx}{a b c:Expr}{ta tb tc:TE}{pos:Pos}
theorem yA (ha:PE X a ta) (hb:PE X b tb){pins:List (Addr × Obj)}{s:Shared}{σ:St}{H:Hp}{R:V->V->Hp->Prop} (I:Inv X pins σ H s)
  (h:ta σ H λx H1=>tb σ H1 λy H2=>R x y H2){Q:Value->Shared->Prop}{f:Value->Value->Sem Value}
  (hf:∀v u s2 x y H2,Inv X pins σ H2 s2->bg x v->bg y u->R x y H2->wpAny (model X.prog X.w) X.A (f v u) Q X.xe s2) :
  wpAny (model X.prog X.w) X.A (eval a X.env) (λv s₁=>wpAny (model X.prog X.w) X.A (eval b X.env) (λu s₂=>wpAny (model X.prog X.w) X.A (f v u) Q X.xe s₂) X.xe s₁) X.xe s:=by
 refine thn (ha pins s σ H _ I h) λv s1 ⟨x,H1,I1,r1,q1⟩=>?_
 refine thn (hb pins s1 σ H1 _ I1 q1) λu s2 ⟨y,H2,I2,r2,q2⟩=>?_
 exact hf v u s2 x y H2 I2 r1 r2 q2
theorem aJ {op:Operator}{r:R2} (ho:OpR X (binaryOp op) r) (ha:PE X a ta) (hb:PE X b tb):PE X (.BinOp a op b pos) (tOp r ta tb):=by
 intro pins s σ H Q I h
 exact wpAny_BinOp (yA ha hb I h λv u s2 x y H2 I2 rx ry q=>ho pins s2 σ H2 x y v u Q I2 rx ry q)
theorem p8 {op:UnaryOp}{r:V->Hp->VK->Prop} (ho:UnR X (unaryOp op) r) (ha:PE X a ta):PE X (.UnaryOp op a pos) (tUn r ta):=by
 intro pins s σ H Q I h
 exact UnaryOp_ (thn (ha pins s σ H _ I h) λv s1 ⟨x,H1,I1,r1,q1⟩=>ho pins s1 σ H1 x v Q I1 r1 q1)
theorem opI {f:Value->Value->Sem Value}{C:Int->Int->Prop}{g:Int->Int->Int}
  (rule:∀(i j:Int) (t u:Tok) (s:Shared) (Q:Value->Shared->Prop) (E:Value->Shared->Prop),C i j->Q (.int (g i j) s.toks) { s with toks:=s.toks+1 }->wpAny (model X.prog X.w) X.A (f (.int i t) (.int j u)) Q E s) :
  OpR X f (rI C λi j=>.int (g i j)):=by
 intro pins s σ H x y v u Q I rx ry h
 obtain⟨i,j,rfl,rfl,hc,q⟩:=h
 obtain⟨t,rfl⟩:=rx
 obtain⟨t',rfl⟩:=ry
 exact rule i j t t' s _ _ hc ⟨.int (g i j),H,I.tok _,⟨_,rfl⟩,q⟩
theorem zq {f:Value->Value->Sem Value}{g:Int->Int->Int}
  (rule:∀(i j:Int) (t u:Tok) (s:Shared) (Q:Value->Shared->Prop) (E:Value->Shared->Prop),Q (.int (g i j) s.toks) { s with toks:=s.toks+1 }->wpAny (model X.prog X.w) X.A (f (.int i t) (.int j u)) Q E s) :
  OpR X f (rI0 λi j=>.int (g i j)):=by
 intro pins s σ H x y v u Q I rx ry h
 obtain⟨i,j,rfl,rfl,q⟩:=h
 obtain⟨t,rfl⟩:=rx
 obtain⟨t',rfl⟩:=ry
 exact rule i j t t' s _ _ ⟨.int (g i j),H,I.tok _,⟨_,rfl⟩,q⟩
theorem uT {f:Value->Value->Sem Value}{g:Int->Int->Bool}
  (rule:∀(i j:Int) (t u:Tok) (s:Shared) (Q:Value->Shared->Prop) (E:Value->Shared->Prop),Q (.bool (g i j)) s->wpAny (model X.prog X.w) X.A (f (.int i t) (.int j u)) Q E s) :
  OpR X f (rI0 λi j=>.bl (g i j)):=by
 intro pins s σ H x y v u Q I rx ry h
 obtain⟨i,j,rfl,rfl,q⟩:=h
 obtain⟨t,rfl⟩:=rx
 obtain⟨t',rfl⟩:=ry
 exact rule i j t t' s _ _ ⟨.bl (g i j),H,I,rfl,q⟩
noncomputable def Ab (i j:Int):Prop:=0<=j/\j<=1000000/\i.natAbs < 2 ^ 64
noncomputable def yF (i j:Int):Prop:=(-(2 ^ 64) < i/\i < 2 ^ 64)\/(-(2 ^ 64) < j/\j < 2 ^ 64)
theorem yF.ok {i j:Int} (h:yF i j):IntMulOk i j:=by
 rcases h with⟨h1,h2⟩ | ⟨h1,h2⟩
 ·exact .of_left (intBits_le_64 h1 h2)
 ·exact .of_right (intBits_le_64 h1 h2)
theorem bE:OpR X (binaryOp .Add) (rI0 λi j=>.int (i+j)):=zq λ_ _ _ _ _ _ _ q=>add_int q
theorem fg:OpR X (binaryOp .Sub) (rI0 λi j=>.int (i - j)):=zq λ_ _ _ _ _ _ _ q=>sub_int q
theorem eo:OpR X (binaryOp .Mult) (rI yF λi j=>.int (i * j)):=opI λ_ _ _ _ _ _ _ hc q=>mul_int q hc.ok
theorem fY:OpR X (binaryOp .Mod) (rI (λ_ j=>0 < j) λi j=>.int (i % j)):=opI λi j _ _ _ _ _ hc q=>by
 have h1:(0:Int) < j:=hc
 exact mod_int' (by omega) (by rw [Int.fmod_eq_emod_of_nonneg i (by omega)];exact q)
theorem nM:OpR X (binaryOp .Pow) (rI Ab λi j=>.int (i ^ j.toNat)):=opI λ_ _ _ _ _ _ _ hc q=>pow_int_small hc.1 hc.2.1 hc.2.2 q
theorem unI {f:Value->Sem Value}{g:Int->Int}
  (rule:∀(i:Int) (t:Tok) (s:Shared) (Q:Value->Shared->Prop) (E:Value->Shared->Prop),Q (.int (g i) s.toks) { s with toks:=s.toks+1 }->wpAny (model X.prog X.w) X.A (f (.int i t)) Q E s) :
  UnR X f (rU λi=>.int (g i)):=by
 intro pins s σ H x v Q I rx h
 obtain⟨i,rfl,q⟩:=h
 obtain⟨t,rfl⟩:=rx
 exact rule i t s _ _ ⟨.int (g i),H,I.tok _,⟨_,rfl⟩,q⟩
theorem kl:UnR X (unaryOp .USub) (rU λi=>.int (-i)):=unI λ_ _ _ _ _ q=>neg_int q
end
noncomputable def yT:V->V->Bool
 | .non,.non=>true | .non,.int _=>true | .int _,.non=>true | .non,.bl _=>true | .bl _,.non=>true | .non,.str _=>true | .str _,.non=>true
 | .int _,.int _=>true | .bl _,.bl _=>true | .str _,.str _=>true | .byt _,.byt _=>true
 | .int _,.str _=>true | .str _,.int _=>true | .bl _,.str _=>true | .str _,.bl _=>true
 | _,_=>false
noncomputable def rEq:R2:=λx y H Q=>yT x y=true/\Q (.bl (decide (x=y))) H
noncomputable def rNe:R2:=λx y H Q=>yT x y=true/\Q (.bl (!decide (x=y))) H
theorem pK {i j:Int}:decide (V.int i=V.int j)=(i == j):=by
 rw [Bool.eq_iff_iff]
 simp
theorem tY {i j:Bool}:decide (V.bl i=V.bl j)=(i == j):=by
 rw [Bool.eq_iff_iff]
 simp
theorem pJ {i j:Str}:decide (V.str i=V.str j)=(i == j):=by
 rw [Bool.eq_iff_iff]
 simp
theorem pL {i j:Array UInt8}:decide (V.byt i=V.byt j)=(i.toList == j.toList):=by
 rw [Bool.eq_iff_iff]
 cases i
 cases j
 simp
section
variable {X:Cx}{a b c:Expr}{ta tb tc:TE}{pos:Pos}
theorem bn {pins:List (Addr × Obj)}{σ:St}{H:Hp}{s:Shared}{Q:VK}{k k':Bool} (I:Inv X pins σ H s) (q:Q (.bl k) H) (e:k=k'):EP X pins σ Q (.bool k') s:=by
 subst e
 exact⟨.bl k,H,I,rfl,q⟩
theorem bc:OpR X (compareOp .Eq) rEq:=by
 intro pins s σ H x y v u Q I rx ry h
 obtain⟨hs,q⟩:=h
 cases x with
 | non=>
  cases rx
  cases y with
  | non=>cases ry;exact PySem.EqNone.eq_none_none (bn I q (by simp))
  | bl j=>cases ry;exact PySem.EqNone.eq_none_bool (bn I q (by simp))
  | int j=>obtain⟨t',rfl⟩:=ry;exact PySem.EqNone.eq_none_int (bn I q (by simp))
  | str j=>obtain⟨t',rfl⟩:=ry;exact PySem.EqNone.eq_none_str (bn I q (by simp))
  | _=>exact absurd (show false=true from hs) Bool.false_ne_true
 | bl i=>
  cases rx
  cases y with
  | non=>cases ry;exact PySem.EqNone.eq_bool_none (bn I q (by simp))
  | bl j=>cases ry;exact eq_bool (bn I q tY)
  | str j=>obtain⟨t',rfl⟩:=ry;exact PySem.EqMixed.eq_bool_str (bn I q (by simp))
  | _=>exact absurd (show false=true from hs) Bool.false_ne_true
 | int i=>
  obtain⟨t,rfl⟩:=rx
  cases y with
  | non=>cases ry;exact PySem.EqNone.eq_int_none (bn I q (by simp))
  | int j=>obtain⟨t',rfl⟩:=ry;exact eq_int (bn I q pK)
  | str j=>obtain⟨t',rfl⟩:=ry;exact PySem.EqMixed.eq_int_str (bn I q (by simp))
  | _=>exact absurd (show false=true from hs) Bool.false_ne_true
 | str i=>
  obtain⟨t,rfl⟩:=rx
  cases y with
  | non=>cases ry;exact PySem.EqNone.eq_str_none (bn I q (by simp))
  | bl j=>cases ry;exact PySem.EqMixed.eq_str_bool (bn I q (by simp))
  | int j=>obtain⟨t',rfl⟩:=ry;exact PySem.EqMixed.eq_str_int (bn I q (by simp))
  | str j=>obtain⟨t',rfl⟩:=ry;exact eq_str (bn I q pJ)
  | _=>exact absurd (show false=true from hs) Bool.false_ne_true
 | byt i=>
  obtain⟨t,rfl⟩:=rx
  cases y with
  | byt j=>obtain⟨t',rfl⟩:=ry;exact PySem.W.eq_bytes (bn I q pL)
  | _=>exact absurd (show false=true from hs) Bool.false_ne_true
 | _=>cases y <;> exact absurd (show false=true from hs) Bool.false_ne_true
theorem wm:OpR X (compareOp .NotEq) rNe:=by
 intro pins s σ H x y v u Q I rx ry h
 obtain⟨hs,q⟩:=h
 cases x with
 | non=>
  cases rx
  cases y with
  | non=>cases ry;exact PySem.EqNone.ne_none_none (bn I q (by simp))
  | bl j=>cases ry;exact PySem.EqNone.ne_none_bool (bn I q (by simp))
  | int j=>obtain⟨t',rfl⟩:=ry;exact PySem.EqNone.ne_none_int (bn I q (by simp))
  | str j=>obtain⟨t',rfl⟩:=ry;exact PySem.EqNone.ne_none_str (bn I q (by simp))
  | _=>exact absurd (show false=true from hs) Bool.false_ne_true
 | bl i=>
  cases rx
  cases y with
  | non=>cases ry;exact PySem.EqNone.ne_bool_none (bn I q (by simp))
  | bl j=>cases ry;exact ne_bool (bn I q (congrArg not tY))
  | str j=>obtain⟨t',rfl⟩:=ry;exact PySem.EqMixed.ne_bool_str (bn I q (by simp))
  | _=>exact absurd (show false=true from hs) Bool.false_ne_true
 | int i=>
  obtain⟨t,rfl⟩:=rx
  cases y with
  | non=>cases ry;exact PySem.EqNone.ne_int_none (bn I q (by simp))
  | int j=>obtain⟨t',rfl⟩:=ry;exact ne_int (bn I q (congrArg not pK))
  | str j=>obtain⟨t',rfl⟩:=ry;exact PySem.EqMixed.ne_int_str (bn I q (by simp))
  | _=>exact absurd (show false=true from hs) Bool.false_ne_true
 | str i=>
  obtain⟨t,rfl⟩:=rx
  cases y with
  | non=>cases ry;exact PySem.EqNone.ne_str_none (bn I q (by simp))
  | bl j=>cases ry;exact PySem.EqMixed.ne_str_bool (bn I q (by simp))
  | int j=>obtain⟨t',rfl⟩:=ry;exact PySem.EqMixed.ne_str_int (bn I q (by simp))
  | str j=>obtain⟨t',rfl⟩:=ry;exact ne_str (bn I q (congrArg not pJ))
  | _=>exact absurd (show false=true from hs) Bool.false_ne_true
 | byt i=>
  obtain⟨t,rfl⟩:=rx
  cases y with
  | byt j=>obtain⟨t',rfl⟩:=ry;exact PySem.W.ne_bytes (bn I q (congrArg not pL))
  | _=>exact absurd (show false=true from hs) Bool.false_ne_true
 | _=>cases y <;> exact absurd (show false=true from hs) Bool.false_ne_true
theorem eO:OpR X (compareOp .Lt) (rI0 λi j=>.bl (decide (i < j))):=uT λ_ _ _ _ _ _ _ q=>lt_int q
theorem dq:OpR X (compareOp .LtE) (rI0 λi j=>.bl (decide (i<=j))):=uT λ_ _ _ _ _ _ _ q=>le_int q
theorem sC:OpR X (compareOp .Gt) (rI0 λi j=>.bl (decide (j < i))):=uT λ_ _ _ _ _ _ _ q=>gt_int q
theorem zo:OpR X (compareOp .GtE) (rI0 λi j=>.bl (decide (j<=i))):=uT λ_ _ _ _ _ _ _ q=>ge_int q
theorem qd:OpR X (compareOp .In) (λx y H Q=>∃i j,x=.str i/\y=.str j/\Q (.bl (!(Builtin.Str.occurrences j i 0 j.length 1).isEmpty)) H):=by
 intro pins s σ H x y v u Q I rx ry h
 obtain⟨i,j,rfl,rfl,q⟩:=h
 obtain⟨t,rfl⟩:=rx
 obtain⟨t',rfl⟩:=ry
 exact in_str (bn I q rfl)
theorem gL:OpR X (compareOp .NotIn) (λx y H Q=>∃i j,x=.str i/\y=.str j/\Q (.bl (!(!(Builtin.Str.occurrences j i 0 j.length 1).isEmpty))) H):=by
 intro pins s σ H x y v u Q I rx ry h
 obtain⟨i,j,rfl,rfl,q⟩:=h
 obtain⟨t,rfl⟩:=rx
 obtain⟨t',rfl⟩:=ry
 exact notIn_str (bn I q rfl)
theorem aE (b:Expr){op:CmpOp} (h:op≠.In:=by decide) (h2:op≠.NotIn:=by decide):behindInMarks op b=false:=by
 have e1:(op == CmpOp.In)=false:=by cases op <;> first | rfl | exact absurd rfl h
 have e2:(op == CmpOp.NotIn)=false:=by cases op <;> first | rfl | exact absurd rfl h2
 cases b <;> simp [behindInMarks,e1,e2]
theorem ba {op:CmpOp}{r:R2} (ho:OpR X (compareOp op) r) (ha:PE X a ta) (hb:PE X b tb) (hm:behindInMarks op b=false):PE X (.Compare a [op] [b] pos) (tOp r ta tb):=by
 intro pins s σ H Q I h
 exact wpAny_Compare1 (yA ha hb I h λv u s2 x y H2 I2 rx ry q=>ho pins s2 σ H2 x y v u Q I2 rx ry q) hm
inductive ttR (x:V) (H':Hp) (Q:Bool->Hp->Prop):Prop
 | mk (k) (h1:x=.bl k) (h2:Q k H'):ttR x H' Q
noncomputable def qR (t:TE):TT:=λσ H Q=>t σ H λx H'=>ttR x H' Q
theorem aC {op:CmpOp}{r:R2} (ho:OpR X (compareOp op) r) (ha:PE X a ta) (hb:PE X b tb) (hm:behindInMarks op b=false):PT X (.Compare a [op] [b] pos) (qR (tOp r ta tb)):=by
 intro pins s σ H Q I h
 refine wpAny_isTrue_Compare1 (thn (ha pins s σ H _ I h) λv s1 ⟨x,H1,I1,r1,q1⟩=>thn (hb pins s1 σ H1 _ I1 q1) λu s2 ⟨y,H2,I2,r2,q2⟩=>
  thn (ho pins s2 σ H2 x y v u _ I2 r1 r2 q2) λc s3 ⟨z,H3,I3,r3,k,e,q3⟩=>?_) hm
 subst e
 cases r3
 exact wpAny_truthy_bool ⟨H3,I3,q3⟩
noncomputable def ku (r r':R2) (ta tb tc:TE):TE:=λσ H Q=>ta σ H λx H1=>tb σ H1 λy H2=>r x y H2 λz H3=>∃k,z=.bl k/\
 (if k=true then tc σ H3 λw' H4=>r' y w' H4 Q else Q (.bl false) H3)
theorem jb {op op':CmpOp}{r r':R2} (ho:OpR X (compareOp op) r) (ho':OpR X (compareOp op') r') (ha:PE X a ta) (hb:PE X b tb) (hc:PE X c tc)
  (hm:lastMarks [op,op'] [b,c]=false:=by with_unfolding_all rfl):PE X (.Compare a [op,op'] [b,c] pos) (ku r r' ta tb tc):=by
 intro pins s σ H Q I h
 refine Compare_chain (thn (ha pins s σ H _ I h) λv s1 ⟨x,H1,I1,r1,q1⟩=>chain_link (thn (hb pins s1 σ H1 _ I1 q1) λu s2 ⟨y,H2,I2,r2,q2⟩=>
  thn (ho pins s2 σ H2 x y v u _ I2 r1 r2 q2) λd s3 ⟨z,H3,I3,r3,k,e,q3⟩=>?_)) hm
 subst e
 cases r3
 refine wpAny_truthy_bool ?_
 cases k with
 | false=>exact ite_ff ⟨.bl false,H3,I3,rfl,q3⟩
 | true=>exact ite_tt (chain_last (thn (hc pins s3 σ H3 _ I3 q3) λw' s4 ⟨z',H4,I4,r4,q4⟩=>ho' pins s4 σ H4 y z' u w' Q I4 r2 r4 q4))
theorem gG {op op':CmpOp}{r r':R2} (ho:OpR X (compareOp op) r) (ho':OpR X (compareOp op') r') (ha:PE X a ta) (hb:PE X b tb) (hc:PE X c tc)
  (hm:lastMarks [op,op'] [b,c]=false:=by with_unfolding_all rfl):PT X (.Compare a [op,op'] [b,c] pos) (qR (ku r r' ta tb tc)):=by
 intro pins s σ H Q I h
 refine isTrue_chain (thn (ha pins s σ H _ I h) λv s1 ⟨x,H1,I1,r1,q1⟩=>test_link (thn (hb pins s1 σ H1 _ I1 q1) λu s2 ⟨y,H2,I2,r2,q2⟩=>
  thn (ho pins s2 σ H2 x y v u _ I2 r1 r2 q2) λd s3 ⟨z,H3,I3,r3,k,e,q3⟩=>?_)) hm
 subst e
 cases r3
 refine wpAny_truthy_bool ?_
 cases k with
 | false=>
  obtain⟨k',e',q'⟩:=q3
  cases e'
  exact ite_ff ⟨H3,I3,q'⟩
 | true=>
  refine ite_tt (test_last (thn (hc pins s3 σ H3 _ I3 q3) λw' s4 ⟨z',H4,I4,r4,q4⟩=>thn (ho' pins s4 σ H4 y z' u w' _ I4 r2 r4 q4) λd' s5 ⟨z2,H5,I5,r5,k2,e2,q5⟩=>?_))
  subst e2
  cases r5
  exact wpAny_truthy_bool ⟨H5,I5,q5⟩
theorem ia:(sizeLine:Nat) < 2 ^ 63:=by rw [sizeLine_eq];decide
theorem dn {x:V}{us:List Value} (r:aX [x] us):∃u,us=[u]/\bg x u:=by
 cases r with
 | cons r1 r2=>cases r2;exact⟨_,rfl,r1⟩
theorem ou {x y:V}{us:List Value} (r:aX [x,y] us):∃u w',us=[u,w']/\bg x u/\bg y w':=by
 cases r with
 | cons r1 r2=>
  cases r2 with
  | cons r3 r4=>cases r4;exact⟨_,_,rfl,r1,r3⟩
theorem qD (hc:X.calm=true):cO X (.builtin "max") (λxs H Q=>∃i j,xs=[.int i,.int j]/\Q (.int (if j > i then j else i)) H):=by
 intro pins s σ H xs us Q I r h
 obtain⟨i,j,rfl,q⟩:=h
 obtain⟨u,w',rfl,⟨t,rfl⟩,⟨t',rfl⟩⟩:=ou r
 refine max_two_ints (I.ok.hd hc) λh' tk k=>⟨_,H,I.kept k,?_,q⟩
 by_cases hj:j > i
 ·rw [if_pos hj,if_pos hj];exact⟨_,rfl⟩
 ·rw [if_neg hj,if_neg hj];exact⟨_,rfl⟩
theorem qB (hc:X.calm=true):cO X (.builtin "min") (λxs H Q=>∃i j,xs=[.int i,.int j]/\Q (.int (if j < i then j else i)) H):=by
 intro pins s σ H xs us Q I r h
 obtain⟨i,j,rfl,q⟩:=h
 obtain⟨u,w',rfl,⟨t,rfl⟩,⟨t',rfl⟩⟩:=ou r
 refine min_two_ints (I.ok.hd hc) λh' tk k=>⟨_,H,I.kept k,?_,q⟩
 by_cases hj:j < i
 ·rw [if_pos hj,if_pos hj];exact⟨_,rfl⟩
 ·rw [if_neg hj,if_neg hj];exact⟨_,rfl⟩
theorem io:cO X (.type "int") (λxs H Q=>(∃i,xs=[.int i]/\Q (.int i) H)\/∃k,xs=[.bl k]/\Q (.int (if k then 1 else 0)) H):=by
 intro pins s σ H xs us Q I r h
 rcases h with⟨i,rfl,q⟩ | ⟨k,rfl,q⟩
 ·obtain⟨u,rfl,t,rfl⟩:=dn r
  exact call_int_int ⟨.int i,H,I,⟨_,rfl⟩,q⟩
 ·obtain⟨u,rfl,r1⟩:=dn r
  cases r1
  exact call_int_bool ⟨.int (if k then 1 else 0),H,I.tok _,⟨_,rfl⟩,q⟩
theorem bo:cO X (.type "str") (λxs H Q=>∃i,xs=[.int i]/\i.natAbs.log2 < 1920/\Q (.str (toString i)) H):=by
 intro pins s σ H xs us Q I r h
 obtain⟨i,rfl,hz,q⟩:=h
 obtain⟨u,rfl,t,rfl⟩:=dn r
 exact PySem.P.str_of_int hz ⟨.str _,H,I.tok _,⟨_,rfl⟩,q⟩
end
end L2
namespace L2
open PySem PySem.Spec PyProof.Rows
structure ObjM (h:Heap) (x dx C:Addr) (mA:Str->Option Value):Prop where
 obj:h.get? x=some (PySem.W.instObj C dx)
 ns:h.Ns1 dx mA
 ne:dx≠x
theorem jQ {h:Heap}{dx:Addr}{mA:Str->Option Value} (n:h.Ns1 dx mA):∃od,h.get? dx=some od/\∀name,PySem.W.lookIn name od=some (mA name):=by
 obtain⟨o,es,ep,ho,hd,hk,_,hm⟩:=n
 refine⟨o,ho,λname=>?_⟩
 have e:=hm name
 unfold nsFind findBy at e
 rw [<- Array.find?_toList]at e
 unfold PySem.W.lookIn
 rw [hd]
 dsimp only
 split
 ·rename_i y q
  rw [q]at e
  exact congrArg some e
 ·rename_i q
  rw [q]at e
  have a:es.toList.any (·.refKey)=false:=by
   rw [List.any_eq_false]
   intro y hy
   obtain⟨z,t,hkey⟩:=hk y (Array.mem_toList_iff.mp hy)
   simp [DictEntry.refKey,hkey]
  have a':¬es.toList.any (·.refKey)=true:=by rw [a];exact Bool.false_ne_true
  rw [if_neg a']
  exact congrArg some e
theorem ObjM.look {h:Heap}{x dx C:Addr}{mA:Str->Option Value} (I:ObjM h x dx C mA):∃od,PySem.W.InstAt h x (PySem.W.instObj C dx) C (some od)/\∀name,PySem.W.lookIn name od=some (mA name):=
 let ⟨od,ho,hl⟩:=jQ I.ns
 ⟨od,⟨I.obj,rfl,rfl,ho⟩,hl⟩
section
variable {prog:Program}{w:World}{A:Around}{E:Value->Shared->Prop}{s:Shared}{K:PySem.W.Frag}{x dx C f:Addr}{mA:Str->Option Value}{name:Str}{v:Value}
theorem vz {expr:Bool}{Q:Value->Shared->Prop} (X:K.In s.heap) (I:ObjM s.heap x dx C mA) (hg:PySem.W.plainGet K C name=true) (hh:PySem.W.hasDictIn K C=true)
  (ha:PySem.W.findIn K (.ref C) name=some none) (hv:mA name=some v) (hv':PySem.W.handedIn v=true) (h:Q v { s with toks:=s.toks+1 }) :
  wpAny (model prog w) A (getAttr (.ref x) name expr) Q E s:=by
 obtain⟨od,J,hl⟩:=I.look
 exact PySem.W.get_value X J (PySem.W.plainGet_of hg).1 (PySem.W.findObj_own hh ha rfl (by rw [hl,hv])) hv' h
theorem tO {pl:Sem Bool}{Q:Value × List Value->Shared->Prop} (X:K.In s.heap) (I:ObjM s.heap x dx C mA) (hg:PySem.W.plainGet K C name=true)
  (hf:PySem.W.findIn K (.ref C) name=some (some (.ref f))) (ht:PySem.W.isFn K (.ref f)=true) (hv:mA name=none) (h:Q (.ref f,[.ref x]) s) :
  wpAny (model prog w) A (getMethod (.ref x) name pl) Q E s:=by
 obtain⟨od,J,hl⟩:=I.look
 exact PySem.W.method_fn X J (PySem.W.plainGet_of hg).1 (PySem.W.plainGet_of hg).2 hf (beq_iff_eq.mp ht) (by show (PySem.W.lookIn name od).map (·.isSome)=some false;rw [hl,hv];rfl) h
theorem uw {ns:List Str}{Q:Unit->Shared->Prop} (X:K.In s.heap) (I:ObjM s.heap x dx C mA)
  (hs:PySem.W.findIn K (.ref C) "__setattr__" = some (some (.builtin "object.__setattr__"))) (hp:PySem.W.plainOver K C=true) (ht:PySem.W.takerIn K C name=some none) (hh:PySem.W.hasDictIn K C=true)
  (hw:PySem.Within mA ns) (hsz:ns.length<=sizeLine)
  (h:∀h',ObjM h' x dx C (λy=>if y=name then some v else mA y)->Heap.SameBut dx s.heap h'->Q () { s with heap:=h',toks:=s.toks+2 }) :
  wpAny (model prog w) A (setAttr (.ref x) name v) Q E s:=by
 obtain⟨od,J,hl⟩:=I.look
 refine PySem.W.set_plain X J hs (PySem.W.osa_open (s:={ s with toks:=s.toks+1 }) (r:=none) X J hp ht λb=>?_)
 obtain⟨cd,hc,hd'⟩:=PySem.W.any_some hh
 have hx:s.heap.get? x=some ⟨.ref C,some dx,.plain,#[]⟩:=I.obj
 refine wpAny_bind (wpAny_pure (wpAny_bind (wpAny_bind (wpAny_loadPart hx (wpAny_bind (PySem.W.Looks.here (s:={ s with toks:=s.toks+1 }) (PySem.W.looks_clsIn X hc) ?_))))))
 rw [hd']
 refine wpAny_pure (a:=some dx) (wpAny_bind (wpAny_pure (wpAny_bind ?_)))
 refine wpAny_nsSet1 (s:={ s with toks:=s.toks+1 }) I.ns λh' hn2 hs2=>?_
 obtain⟨oD,esD,epD,hoD,hdD,hcD⟩:=hn2.count (PySem.Within.cons name v hw)
 refine wpAny_bind (wpAny_lookBehind hoD (by rw [hdD];exact pastItsLine_dict (Nat.le_trans hcD (by rw [List.length_cons];omega))) ?_)
 exact wpAny_pure (h _ ⟨(hs2.2 _ (Ne.symm I.ne)).trans I.obj,hn2,I.ne⟩ hs2)
theorem sZ {R:Result->Shared->Prop}{vs:List Value}{kw:List (Str × Value)} (X:K.In s.heap) (hm:PySem.W.makesIn K C=true)
  (hi:PySem.W.findIn K (.ref C) "__init__" = some (some (.ref f))) (hf:PySem.W.typeIn K (.ref f)=some (.type "function"))
  (h:codeAny (model prog w) (A.under (.builtin "type.__call__" ⟨.ref C::vs,kw⟩)) (.call (.ref f) ⟨.ref (s.heap.objs.size+1)::vs,kw⟩) (PySem.W.InitBack (s.heap.objs.size+1) R)
   { s with heap:=(s.heap.push PySem.W.emptyDict).push (PySem.W.instObj C s.heap.objs.size) }) :
  codeAny (model prog w) A (.call (.ref C) ⟨vs,kw⟩) R s:=by
 obtain⟨hh,g,d,t,os⟩:=s
 exact PySem.W.make_core (PySem.W.makes_of X hm) (PySem.W.looks_findIn X hi) (λself=>PySem.W.bind_fn X self hf) (.inl rfl) h
end
noncomputable def cH (f:Str) (v:V):List (Str × V)->List (Str × V)
 | []=>[(f,v)]
 | (g,x)::r=>if g=f then (g,v)::r else (g,x)::cH f v r
theorem iy (f g:Str) (v:V):∀fs:List (Str × V),(cH f v fs).lookup g=if g=f then some v else fs.lookup g
 | []=>by
  show List.lookup g [(f,v)]=_
  by_cases h:g=f
  ·have hb:(g == f)=true:=beq_iff_eq.mpr h
   simp only [List.lookup,hb,if_pos h]
  ·have hb:(g == f)=false:=beq_eq_false_iff_ne.mpr h
   simp only [List.lookup,hb,if_neg h]
 | (k,x)::r=>by
  have ih:=iy f g v r
  rw [show cH f v ((k,x)::r)=(if k=f then (k,v)::r else (k,x)::cH f v r) from rfl]
  by_cases hk:k=f
  ·rw [if_pos hk]
   by_cases h:g=k
   ·have hb:(g == k)=true:=beq_iff_eq.mpr h
    simp only [List.lookup,hb,if_pos (h.trans hk)]
   ·have hb:(g == k)=false:=beq_eq_false_iff_ne.mpr h
    simp only [List.lookup,hb,if_neg (λe:g=f=>h (e.trans hk.symm))]
  ·rw [if_neg hk]
   by_cases h:g=k
   ·have hb:(g == k)=true:=beq_iff_eq.mpr h
    simp only [List.lookup,hb,if_neg (λe:g=f=>hk (h.symm.trans e))]
   ·have hb:(g == k)=false:=beq_eq_false_iff_ne.mpr h
    simp only [List.lookup,hb]
    exact ih
theorem ie (f:Str) (v:V):∀fs:List (Str × V),f∈(cH f v fs).map (·.1)/\∀g,g∈fs.map (·.1)->g∈(cH f v fs).map (·.1)
 | []=>⟨by simp [cH],λg h=>by simp at h⟩
 | (k,x)::r=>by
  obtain⟨i1,i2⟩:=ie f v r
  rw [show cH f v ((k,x)::r)=(if k=f then (k,v)::r else (k,x)::cH f v r) from rfl]
  by_cases hk:k=f
  ·rw [if_pos hk]
   subst hk
   exact⟨by simp,λg h=>by simpa using h⟩
  ·rw [if_neg hk]
   refine⟨?_,λg h=>?_⟩
   ·rw [List.map_cons]
    exact List.mem_cons_of_mem _ i1
   ·rw [List.map_cons]at h ⊢
    rcases List.mem_cons.mp h with e | e
    ·exact List.mem_cons.mpr (.inl e)
    ·exact List.mem_cons_of_mem _ (i2 g e)
theorem dy (f:Str) (v:V):∀fs:List (Str × V),(cH f v fs).length<=fs.length+1
 | []=>by simp [cH]
 | (k,x)::r=>by
  have ih:=dy f v r
  rw [show cH f v ((k,x)::r)=(if k=f then (k,v)::r else (k,x)::cH f v r) from rfl]
  by_cases hk:k=f
  ·rw [if_pos hk,List.length_cons,List.length_cons];omega
  ·rw [if_neg hk,List.length_cons,List.length_cons];omega
theorem dQ.some_of {v:V}{o:Option Value} (r:dQ (some v) o):∃u,o=some u/\bg v u:=by
 cases o with
 | none=>exact(show False from r).elim
 | some u=>exact⟨u,rfl,r⟩
theorem dQ.none_of {o:Option Value} (r:dQ none o):o=none:=by
 cases o with
 | none=>rfl
 | some u=>exact(show False from r).elim
theorem jW {v:V}{u:Value} (r:bg v u):PySem.W.handedIn u=true:=by
 cases v with
 | non=>cases (show u=Value.none from r);rfl
 | bl b=>cases (show u=Value.bool b from r);rfl
 | int i=>obtain⟨t,e⟩:=(show ∃t,u=Value.int i t from r);cases e;rfl
 | str x=>obtain⟨t,e⟩:=(show ∃t,u=Value.str x t from r);cases e;rfl
 | byt b=>obtain⟨t,e⟩:=(show ∃t,u=Value.bytes b t from r);cases e;rfl
 | flt b=>obtain⟨t,e⟩:=(show ∃t,u=Value.float b t from r);cases e;rfl
 | ref a=>cases (show u=Value.ref a from r);rfl
 | ty n=>cases (show u=Value.type n from r);rfl
section
variable {P:Program}{w:World}{H H':Hp}{h h':Heap}{a C dx:Addr}{fs fs':List (Str × V)}
theorem iM (hok:HOk P w H h) (e:H a=some (.ins C dx fs)):∃mA,ObjM h a dx C mA/\(∀f,dQ (fs.lookup f) (mA f))/\PySem.Within mA (fs.map (·.1))/\fs.length<=1000/\H dx=some (.own a):=by
 obtain⟨d,z,ne,ob,mA,n,r,q⟩:=(show bB P w H h a (.ins C dx fs) from hok a _ e)
 exact⟨mA,⟨ob,n,ne⟩,r,q,z,d⟩
end
structure Cls (K:PySem.W.Frag) (C:Addr):Prop where
 pg:PySem.W.plainGet K C Str.empty=true
 hd:PySem.W.hasDictIn K C=true
 po:PySem.W.plainOver K C=true
 sa:PySem.W.findIn K (.ref C) "__setattr__" = some (some (.builtin "object.__setattr__"))
theorem Cls.get {K:PySem.W.Frag}{C:Addr} (c:Cls K C) (f:Str):PySem.W.plainGet K C f=true:=c.pg
noncomputable def NoAttr (K:PySem.W.Frag) (C:Addr) (f:Str):Prop:=PySem.W.findIn K (.ref C) f=some none
theorem NoAttr.taker {K:PySem.W.Frag}{C:Addr}{f:Str} (n:NoAttr K C f):PySem.W.takerIn K C f=some none:=by
 unfold PySem.W.takerIn
 rw [show PySem.W.findIn K (.ref C) f=some none from n]
 rfl
structure Meth (K:PySem.W.Frag) (C:Addr) (m:Str) (f:Addr):Prop where
 at_:PySem.W.findIn K (.ref C) m=some (some (.ref f))
 fn:PySem.W.isFn K (.ref f)=true
 kp:PySem.W.keepIn K (.ref f)=true
section
variable {X:Cx}{pins:List (Addr × Obj)}{σ:St}{H:Hp}{s:Shared}{a C dx:Addr}{fs:List (Str × V)}{f:Str}{v:V}{A:Around}{E:Value->Shared->Prop}
theorem ji {b:Bool}{Q:Value->Shared->Prop} (I:Inv X pins σ H s) (e:H a=some (.ins C dx fs)) (c:Cls X.K C) (n:NoAttr X.K C f) (l:fs.lookup f=some v)
  (h:∀u s',Inv X pins σ H s'->bg v u->Q u s'):wpAny (model X.prog X.w) A (getAttr (.ref a) f b) Q E s:=by
 obtain⟨mA,O,r,_,_,_⟩:=iM I.hok e
 obtain⟨u,hu,ru⟩:=dQ.some_of (v:=v) (o:=mA f) (by rw [<- l];exact r f)
 exact vz I.kIn O (c.get f) c.hd n hu (jW ru) (h u _ (I.tok _) ru)
theorem ge {m:Str}{g:Addr}{pl:Sem Bool}{Q:Value × List Value->Shared->Prop} (I:Inv X pins σ H s) (e:H a=some (.ins C dx fs)) (c:Cls X.K C) (k:Meth X.K C m g) (l:fs.lookup m=none)
  (h:Q (.ref g,[.ref a]) s):wpAny (model X.prog X.w) A (getMethod (.ref a) m pl) Q E s:=by
 obtain⟨mA,O,r,_,_,_⟩:=iM I.hok e
 have hn:mA m=none:=dQ.none_of (by rw [<- l];exact r m)
 exact tO I.kIn O (c.get m) k.at_ k.fn hn h
theorem j3 {y:V}{u:Value}{Q:Unit->Shared->Prop} (I:Inv X pins σ H s) (e:H a=some (.ins C dx fs)) (c:Cls X.K C) (n:NoAttr X.K C f) (hl:fs.length < 1000) (ry:bg y u)
  (h:∀s',Inv X pins σ (upd H a (.ins C dx (cH f y fs))) s'->Q () s'):wpAny (model X.prog X.w) A (setAttr (.ref a) f u) Q E s:=by
 obtain⟨mA,O,r,wi,_,ho⟩:=iM I.hok e
 have hz:(fs.map (·.1)).length<=sizeLine:=by rw [List.length_map,sizeLine_eq];omega
 refine uw I.kIn O c.sa c.po n.taker c.hd wi hz λh' O' sb=>h _ ?_
 have hd:∃o,h'.get? dx=some o:=let ⟨o,_,_,e',_⟩:=O'.ns;⟨o,e'⟩
 refine I.write (x:=a) (e:=dx) (by rw [e];exact True.intro) (.inr ho) (λb q hb z=>(sb.2 b hb).trans z) hd ?_
 refine⟨by rw [al O.ne];exact ho,?_,O.ne,O'.obj,_,O'.ns,λg=>?_,λg hg=>?_⟩
 ·have:=dy f y fs;omega
 ·show dQ ((cH f y fs).lookup g) (if g=f then some u else mA g)
  rw [iy]
  by_cases q:g=f
  ·rw [if_pos q,if_pos q];exact ry
  ·rw [if_neg q,if_neg q];exact r g
 ·by_cases q:g=f
  ·rw [q];exact(ie f y fs).1
  ·refine(ie f y fs).2 g (wi g λz=>hg ?_)
   show (if g=f then some u else mA g)=none
   rw [if_neg q];exact z
theorem Inv.made (I:Inv X pins σ H s):Inv X pins σ (upd (upd H s.heap.objs.size (.own (s.heap.objs.size+1))) (s.heap.objs.size+1) (.ins C s.heap.objs.size []))
  { s with heap:=(s.heap.push PySem.W.emptyDict).push (PySem.W.instObj C s.heap.objs.size) }:=by
 have e1:(s.heap.push PySem.W.emptyDict).get? s.heap.objs.size=some PySem.W.emptyDict:=Heap.get?_push_size s.heap rfl
 have e2:((s.heap.push PySem.W.emptyDict).push (PySem.W.instObj C s.heap.objs.size)).get? (s.heap.objs.size+1)=some (PySem.W.instObj C s.heap.objs.size):=by
  have:=Heap.get?_push_size (s.heap.push PySem.W.emptyDict) (o:=PySem.W.instObj C s.heap.objs.size) rfl
  rwa [Heap.size_push]at this
 have e3:(s.heap.push PySem.W.emptyDict).Ns s.heap.objs.size (λ_=>none):=⟨PySem.W.emptyDict,#[],_,e1,rfl,(λe he=>absurd he (by simp)),λ_=>rfl⟩
 have I1:=I.laid (a:=s.heap.objs.size) (o:=.own (s.heap.objs.size+1)) (h':=s.heap.push PySem.W.emptyDict) (t':=s.toks) (λb u q=>Heap.get?_push_of_some _ q) (Nat.le_refl _) ⟨_,e1⟩
 refine I1.laid (a:=s.heap.objs.size+1) (o:=.ins C s.heap.objs.size []) (t':=s.toks) (λb u q=>Heap.get?_push_of_some _ q) (Nat.le_of_eq (Heap.size_push _ _)) ?_
 have ne:s.heap.objs.size≠s.heap.objs.size+1:=Nat.ne_of_lt (Nat.lt_succ_self _)
 refine⟨by rw [al ne,aj],Nat.zero_le _,ne,e2,λ_=>none,(Heap.Ns1.of_empty e3).at λo q=>Heap.get?_push_of_some _ q,λ_=>True.intro,λy hy=>absurd rfl hy⟩
theorem pO {prog:Program}{w:World}{env:Env}{e:Expr}{f:Str}{pos:Pos}{s:Shared}{Q:Value->Shared->Prop} (hb:attributeBase e f env (eval e env)=eval e env)
  (h:wpAny (model prog w) A (eval e env) (λo s₁=>wpAny (model prog w) A (getAttr o f true) Q E s₁) E s):wpAny (model prog w) A (eval (.Attribute e f pos) env) Q E s:=
 Attribute_any_ h (by rw [arm_eval_Attribute,hb])
end
inductive zD (K:PySem.W.Frag) (f:Str) (x:V) (H1:Hp) (Q:VK):Prop
 | mk (a C dx fs v) (h1:x=.ref a) (h2:H1 a=some (.ins C dx fs)) (h3:Cls K C) (h4:NoAttr K C f) (h5:fs.lookup f=some v) (h6:Q v H1):zD K f x H1 Q
noncomputable def zU (K:PySem.W.Frag) (ta:TE) (f:Str):TE:=λσ H Q=>ta σ H λx H1=>zD K f x H1 Q
noncomputable def zX (K:PySem.W.Frag) (ta tv:TE) (f:Str):TS:=λD σ H=>tv σ H λy H1=>ta σ H1 λx H2=>∃a C dx fs,x=.ref a/\H2 a=some (.ins C dx fs)/\Cls K C/\NoAttr K C f/\fs.length < 1000/\
 D.nx σ (upd H2 a (.ins C dx (cH f y fs)))
noncomputable def yE (X:Cx) (op:Operator) (rd:V->V->Hp->VK->Prop):Prop:=
 ∀(pins:List (Addr × Obj)) (s:Shared) (σ:St) (H:Hp) (x y:V) (u v:Value) (Q:VK),Inv X pins σ H s->bg x u->bg y v->rd x y H Q->wpAny (model X.prog X.w) X.A (inplaceOp op u v) (EP X pins σ Q) X.xe s
noncomputable def uF (K:PySem.W.Frag) (ta tv:TE) (rd:V->V->Hp->VK->Prop) (f:Str):TS:=λD σ H=>ta σ H λx H1=>∃a C dx fs v,x=.ref a/\H1 a=some (.ins C dx fs)/\Cls K C/\NoAttr K C f/\fs.lookup f=some v/\
 tv σ H1 λy H2=>rd v y H2 λz H3=>∃dx' fs',H3 a=some (.ins C dx' fs')/\fs'.length < 1000/\D.nx σ (upd H3 a (.ins C dx' (cH f z fs')))
section
variable {X:Cx}{o e value:Expr}{f:Str}{pos pos' tpos:Pos}{ta tv:TE}
theorem bR (he:PE X e ta) (hb:attributeBase e f X.env (eval e X.env)=eval e X.env):PE X (.Attribute e f pos) (zU X.K ta f):=by
 intro pins s σ H Q I h
 refine pO hb (thn (he pins s σ H _ I h) λu s1 ⟨x,H1,I1,rx,a,C,dx,fs,v,ex,ea,c,n,l,q⟩=>?_)
 subst ex
 obtain rfl:u=Value.ref a:=rx
 exact ji I1 ea c n l λu' s2 I2 ru=>⟨v,H1,I2,ru,q⟩
theorem bz (ha:PE X o ta) (hv:PE X value tv) (hs:swapsWith value (some (.Attribute o f pos')) pos.line X.env=pure false):PS X (.Assign [.Attribute o f pos'] value pos) (zX X.K ta tv f):=by
 intro pins s σ H D I h
 refine plainObj_wpAny_Assign_Attribute (thn (hv pins s σ H _ I h) λu s1 ⟨y,H1,I1,ry,q⟩=>thn (ha pins s1 σ H1 _ I1 q) λov s2 ⟨x,H2,I2,rx,a,C,dx,fs,ex,ea,c,n,l,q2⟩=>?_) hs
 subst ex
 obtain rfl:ov=Value.ref a:=rx
 exact j3 I2 ea c n l ry λs3 I3=>⟨σ,_,I3,q2⟩
theorem de {op:Operator}{rd:V->V->Hp->VK->Prop} (ha:PE X o ta) (hv:PE X value tv) (hop:yE X op rd):PS X (.AugAssign (.Attribute o f tpos) op value pos) (uF X.K ta tv rd f):=by
 intro pins s σ H D I h
 refine wpAny_AugAssign_AttributeAny (thn (ha pins s σ H _ I h) λov s1 ⟨x,H1,I1,rx,a,C,dx,fs,v,ex,ea,c,n,l,q⟩=>?_)
 subst ex
 obtain rfl:ov=Value.ref a:=rx
 refine ji I1 ea c n l λu s2 I2 ru=>thn (hv pins s2 σ H1 _ I2 q) λw3 s3 ⟨y,H2,I3,ry,q3⟩=>thn (hop pins s3 σ H2 v y u w3 _ I3 ru ry q3) λw4 s4 ⟨z,H3,I4,rz,dx',fs',ea',l',q4⟩=>?_
 exact j3 I4 ea' c n l' rz λs5 I5=>⟨σ,_,I5,q4⟩
noncomputable def A2:V->V->Hp->VK->Prop:=λx y H Q=>∃i j,x=.int i/\y=.int j/\Q (.int (i+j)) H
noncomputable def zZ:V->V->Hp->VK->Prop:=λx y H Q=>∃i j,x=.int i/\y=.int j/\Q (.int (i - j)) H
theorem ls:yE X .Add A2:=by
 rintro pins s σ H x y u v Q I rx ry ⟨i,j,rfl,rfl,q⟩
 obtain⟨t,rfl⟩:=(show ∃t,u=Value.int i t from rx)
 obtain⟨t',rfl⟩:=(show ∃t',v=Value.int j t' from ry)
 exact PyProof.Rows.iadd_int ⟨.int (i+j),H,I.tok _,⟨_,rfl⟩,q⟩
theorem tL:yE X .Sub zZ:=by
 rintro pins s σ H x y u v Q I rx ry ⟨i,j,rfl,rfl,q⟩
 obtain⟨t,rfl⟩:=(show ∃t,u=Value.int i t from rx)
 obtain⟨t',rfl⟩:=(show ∃t',v=Value.int j t' from ry)
 exact PyProof.Rows.isub_int ⟨.int (i - j),H,I.tok _,⟨_,rfl⟩,q⟩
end
section
variable {X:Cx}{pins:List (Addr × Obj)}{σ:St}{H:Hp}{s:Shared}{A:Around}{E:Value->Shared->Prop}{Q:Value->Shared->Prop}{c:Value}{b:Bool}
inductive TyOf (K:PySem.W.Frag) (H:Hp):V->Value->Prop where
 | non:TyOf K H .non (.type "NoneType")
 | bl (x:Bool):TyOf K H (.bl x) (.type "bool")
 | int (i:Int):TyOf K H (.int i) (.type "int")
 | str (x:Str):TyOf K H (.str x) (.type "str")
 | flt (x:UInt64):TyOf K H (.flt x) (.type "float")
 | lst {a:Addr}{xs:List V} (e:H a=some (.lst xs)):TyOf K H (.ref a) (.type "list")
 | frz {a:Addr}{o:Obj}{xs:List V} (e:H a=some (.frz o (.lst xs))):TyOf K H (.ref a) (.type "list")
 | tup {a:Addr}{xs:List V} (e:H a=some (.tup xs)):TyOf K H (.ref a) (.type "tuple")
 | dK {a:Addr}{kvs:List (Key × V)} (e:H a=some (.dK kvs)):TyOf K H (.ref a) (.type "dict")
 | dT {a:Addr}{kvs:List (List Key × V)} (e:H a=some (.dT kvs)):TyOf K H (.ref a) (.type "dict")
 | ins {a C dx:Addr}{fs:List (Str × V)} (e:H a=some (.ins C dx fs)) (cl:Cls K C) (ha:PySem.W.findIn K (.ref C) "__class__" = some (some (.builtin "object.__class__")))
   (hn:PySem.W.specialIn K (.builtin "object.__class__") "__get__" = some (some (.builtin "getset_descriptor.__get__"))) (htk:PySem.W.takesIn K (.builtin "object.__class__")=some true)
   (hm:PySem.W.mroIn K C (.type "object")=some true):TyOf K H (.ref a) (.ref C)
theorem qp {x:V}{u t:Value} (I:Inv X pins σ H s) (rx:bg x u) (ty:TyOf X.K H x t) (e:PySem.W.kitOne X.K t c=some b) (h:∀tk,Q (.bool b) { s with toks:=tk }) :
  wpAny (model X.prog X.w) A (call (.builtin "isinstance") [u,c]) Q E s:=by
 cases ty with
 | non=>cases (show u=Value.none from rx);exact PySem.W.kia_one PySem.W.kitx_none I.kIn True.intro e (λz=>nomatch z) h
 | bl y=>cases (show u=Value.bool y from rx);exact PySem.W.kia_one PySem.W.kitx_bool I.kIn True.intro e (λz=>nomatch z) h
 | int i=>obtain⟨t,q⟩:=(show ∃t,u=Value.int i t from rx);cases q;exact PySem.W.kia_one PySem.W.kitx_int I.kIn True.intro e (λz=>nomatch z) h
 | str y=>obtain⟨t,q⟩:=(show ∃t,u=Value.str y t from rx);cases q;exact PySem.W.kia_one PySem.W.kitx_str I.kIn True.intro e (λz=>nomatch z) h
 | flt y=>obtain⟨t,q⟩:=(show ∃t,u=Value.float y t from rx);cases q;exact PySem.W.kia_one PySem.W.kitx_float I.kIn True.intro e (λz=>nomatch z) h
 | @lst a xs ea=>
  cases (show u=Value.ref a from rx)
  obtain⟨_,_,n,_,h1⟩:=(show bB X.prog X.w H s.heap a (.lst xs) from I.hok a _ ea)
  exact PySem.W.kia_one PySem.W.kitx_list I.kIn ⟨_,h1,rfl⟩ e (λz=>nomatch z) h
 | @frz a ob xs ea=>
  cases (show u=Value.ref a from rx)
  obtain⟨_,_,_,n,_,h1⟩:=(show bB X.prog X.w H s.heap a (.frz ob (.lst xs)) from I.hok a _ ea)
  exact PySem.W.kia_one PySem.W.kitx_list I.kIn ⟨_,h1,rfl⟩ e (λz=>nomatch z) h
 | @tup a xs ea=>
  cases (show u=Value.ref a from rx)
  obtain⟨_,_,_,p⟩:=(show bB X.prog X.w H s.heap a (.tup xs) from I.hok a _ ea)
  obtain⟨o,h1,h2,_⟩:=p
  exact PySem.W.kia_one PySem.W.kitx_tuple I.kIn ⟨o,h1,h2⟩ e (λz=>nomatch z) h
 | @dK a kvs ea=>
  cases (show u=Value.ref a from rx)
  obtain⟨_,_,vs,_,p⟩:=(show bB X.prog X.w H s.heap a (.dK kvs) from I.hok a _ ea)
  obtain⟨o,es,ep,h1,h2,_⟩:=p
  exact PySem.W.kia_one PySem.W.kitx_dict I.kIn ⟨o,h1,h2.1⟩ e (λz=>nomatch z) h
 | @dT a kvs ea=>
  cases (show u=Value.ref a from rx)
  obtain⟨_,_,xs,_,o,es,ep,h1,h2,_⟩:=(show bB X.prog X.w H s.heap a (.dT kvs) from I.hok a _ ea)
  exact PySem.W.kia_one PySem.W.kitx_dict I.kIn ⟨o,h1,h2.1⟩ e (λz=>nomatch z) h
 | @ins a C dx fs ea cl ha hn htk hm=>
  cases (show u=Value.ref a from rx)
  obtain⟨mA,O,_⟩:=iM I.hok ea
  obtain⟨od,J,_⟩:=O.look
  exact PySem.W.kia_one (PySem.W.kitx_own (cl.get _) cl.hd ha hn htk hm) I.kIn J e (λz=>nomatch z) h
end
end L2
namespace L2
open PySem PySem.Spec PyProof.Rows
structure Room (k:Nat) (A:Around):Prop where
 hd:A.handled=none
 dp:A.depth+3 * k+5 < recursionLimit
 un:A.units+16 * k+200 < cLine
 gd:A.guards=some []
theorem Room.mono {j k:Nat}{A:Around} (r:Room k A) (h:j<=k):Room j A:=⟨r.hd,by have:=r.dp;omega,by have:=r.un;omega,r.gd⟩
theorem Room.deeper {k:Nat}{A:Around} (r:Room (k+1) A) (env:Env):Room k (A.deeper env):=
 ⟨r.hd,by have:=r.dp;show A.depth+1+3 * k+5 < _;omega,by have:=r.un;show A.units+3+16 * k+200 < _;omega,r.gd⟩
theorem nT {A:Around}{C:Addr}{us:List Value}{kw:List (Str × Value)}:(A.under (.builtin "type.__call__" ⟨.ref C::us,kw⟩)).depth=A.depth+1:=by
 first | rfl | simp [Around.under,Code.weight,Code.isCreation,Code.isGuard,Code.isCaller,Code.frames,Code.isFrame,guardIds]
theorem nS {A:Around}{C:Addr}{us:List Value}{kw:List (Str × Value)}:(A.under (.builtin "type.__call__" ⟨.ref C::us,kw⟩)).units=A.units+1:=by
 first | rfl | simp [Around.under,Code.cUnits,Code.frames,Code.isFrame]
theorem Room.make {k:Nat}{A:Around} (r:Room (k+1) A) (C:Addr) (us:List Value) (kw:List (Str × Value)):Room k (A.under (.builtin "type.__call__" ⟨.ref C::us,kw⟩)):=
 ⟨r.hd,by have:=r.dp;rw [nT];omega,by have:=r.un;rw [nS];omega,by have h:=r.gd;first | (unfold Around.under;simp [h,pushGuards,Code.guards,Code.isGuard,guardIds]) | (simp [Around.under,h,pushGuards,Code.guards,Code.isGuard,guardIds])⟩
theorem Room.depth {k:Nat}{A:Around} (r:Room k A):A.depth < recursionLimit:=by have:=r.dp;omega
theorem Room.units {k:Nat}{A:Around} (r:Room k A):A.units+64 < cLine:=by have:=r.un;omega
noncomputable def eR:TA:=λ_ H Q=>Q [] H
noncomputable def bV (ta:TE) (tr:TA):TA:=λσ H Q=>ta σ H λx H1=>tr σ H1 λxs H2=>Q (x::xs) H2
section
variable {X:Cx}{e:Expr}{es:List Expr}{te:TE}{t:TA}{pos:Pos}
theorem ac:PA X [] eR:=λ_ _ _ _ H Q I h=>Calls.spliced_nil ⟨[],H,I,.nil,h⟩
theorem aD (ha:PE X e te) (hr:PA X es t) (hs:starEach (e::es) X.env=(false,eval e X.env)::starEach es X.env:=by rfl):PA X (e::es) (bV te t):=by
 intro pos pins s σ H Q I h
 rw [hs]
 show wpAny _ _ (spliced ((false,eval e X.env)::backTo pos (starEach es X.env))) _ _ s
 refine Calls.spliced_cons (thn (ha pins s σ H _ I h) λu s1 ⟨x,H1,I1,r1,q1⟩=>?_)
 exact thn (hr pos pins s1 σ H1 _ I1 q1) λus s2 ⟨xs,H2,I2,r2,q2⟩=>⟨x::xs,H2,I2,.cons r1 r2,q2⟩
noncomputable def zO (t:TA):TE:=λσ H Q=>t σ H λxs H1=>xs.length<=sizeLine/\∀p,H1 p=none->Q (.ref p) (upd H1 p (.tup xs))
noncomputable def zR (t:TA):TE:=λσ H Q=>t σ H λxs H1=>xs.length<=sizeLine/\∀p,H1 p=none->Q (.ref p) (upd H1 p (.lst xs))
theorem bQ {x1} (h:PA X es t):PE X (.Tuple es x1 pos) (zO t):=by
 intro pins s σ H Q I hq
 refine wpAny_Tuple_spliced (thn (h pos pins s σ H _ I hq) λus s1 ⟨xs,H1,I1,r,z,q⟩=>⟨by rw [<- r.length];exact z,?_⟩)
 have hf:H1 s1.heap.objs.size=none:=I1.hok.fresh (Nat.le_refl _)
 refine⟨.ref s1.heap.objs.size,upd H1 s1.heap.objs.size (.tup xs),I1.laid (t':=s1.toks) (λb u e=>Heap.get?_push_of_some _ e) (Nat.le_refl _) ?_,rfl,q _ hf⟩
 exact⟨z,us,r,⟨_,Heap.get?_push_size _ rfl,rfl,_,rfl⟩⟩
theorem aH (h:PA X es t):PE X (.List es pos) (zR t):=by
 intro pins s σ H Q I hq
 refine wpAny_List_spliced (thn (h pos pins s σ H _ I hq) λus s1 ⟨xs,H1,I1,r,z,q⟩=>⟨by rw [<- r.length];exact z,?_⟩)
 have hf:H1 s1.heap.objs.size=none:=I1.hok.fresh (Nat.le_refl _)
 refine⟨.ref s1.heap.objs.size,upd H1 s1.heap.objs.size (.lst xs),I1.laid (t':=s1.toks) (λb u e=>Heap.get?_push_of_some _ e) (Nat.le_refl _) ?_,rfl,q _ hf⟩
 exact⟨z,us,0,r,Heap.get?_push_size _ rfl⟩
end
noncomputable abbrev Sp:=List V->Hp->VK->XK->Prop
noncomputable abbrev CXT:=List Env->Hp->Shared->XK->Value->Shared->Prop
structure Env0 (P:Program) (w:World) (K:PySem.W.Frag) (mg:Str->Option Value) (base:Heap) (A:Around) (outer:List Env) (s:Shared) (H:Hp):Prop where
 frames:A.frames=some outer
 mod:Mod K mg base
 bs:∀b o,base.get? b=some o->s.heap.get? b=some o/\H b=none
 bsz:base.objs.size<=s.heap.objs.size
 funs:s.heap.FunFrames base outer
 frf:∀b∈frs outer,H b=none
 hok:HOk P w H s.heap
 bare:AllBare s.gens
noncomputable def CE (outer:List Env) (P:Program) (w:World) (H:Hp) (s:Shared) (Q:VK) (u:Value) (s':Shared):Prop:=
 ∃v H',s'.os=s.os/\AllBare s'.gens/\Un (frs outer) [] H H' s.heap s'.heap/\HOk P w H' s'.heap/\bg v u/\Q v H'
noncomputable def CR (CX:CXT) (outer:List Env) (P:Program) (w:World) (H:Hp) (s:Shared) (Q:VK) (E:XK) (r:Result) (s':Shared):Prop:=
 match r with
 | .ok (.ret u)=>CE outer P w H s Q u s'
 | .ok _=>False
 | .error e=>CX outer H s E e s'
structure FnOk (P:Program) (w:World) (K:PySem.W.Frag) (mg:Str->Option Value) (base:Heap) (CX:CXT) (k:Nat) (f:Addr) (fd:FuncData) (ps:List Str) (sp:Sp):Prop where
 len:∀vs H Q E,sp vs H Q E->vs.length=ps.length
 run:∀(A:Around) (outer:List Env) (s:Shared) (H:Hp) (args:Args) (us:List Value) (vs:List V) (Q:VK) (E:XK),Room k A->Env0 P w K mg base A outer s H->BindsTo s fd args (ps.zip us)->aX vs us->sp vs H Q E->
  codeAny (model P w) A (.call (.ref f) args) (CR CX outer P w H s Q E) s
theorem FnOk.mono {P:Program}{w:World}{K:PySem.W.Frag}{mg:Str->Option Value}{base:Heap}{CX:CXT}{j k:Nat}{f:Addr}{fd:FuncData}{ps:List Str}{sp:Sp} (F:FnOk P w K mg base CX j f fd ps sp) (h:j<=k) :
  FnOk P w K mg base CX k f fd ps sp:=⟨F.len,λA outer s H args us vs Q E hr=>F.run A outer s H args us vs Q E (hr.mono h)⟩
theorem FnOk.imp {P:Program}{w:World}{K:PySem.W.Frag}{mg:Str->Option Value}{base:Heap}{CX:CXT}{k:Nat}{f:Addr}{fd:FuncData}{ps:List Str}{sp sp':Sp} (F:FnOk P w K mg base CX k f fd ps sp)
  (h:∀vs H Q E,sp' vs H Q E->sp vs H Q E):FnOk P w K mg base CX k f fd ps sp':=
 ⟨λvs H Q E q=>F.len vs H Q E (h _ _ _ _ q),λA outer s H args us vs Q E hr he hb hv hs=>F.run A outer s H args us vs Q E hr he hb hv (h _ _ _ _ hs)⟩
theorem Env0.make {P:Program}{w:World}{K:PySem.W.Frag}{mg:Str->Option Value}{base:Heap}{A:Around}{outer:List Env}{s:Shared}{H:Hp} (e:Env0 P w K mg base A outer s H) (C:Addr) (us:List Value) (kw:List (Str × Value)) :
  Env0 P w K mg base (A.under (.builtin "type.__call__" ⟨.ref C::us,kw⟩)) outer s H:=⟨by first | exact e.frames | (simpa [Around.under,Code.envs,Code.isFrame,pushEnvs] using e.frames),e.mod,e.bs,e.bsz,e.funs,e.frf,e.hok,e.bare⟩
section
variable {X:Cx}{pins:List (Addr × Obj)}{σ:St}{H:Hp}{s s':Shared}
theorem Inv.env0 (I:Inv X pins σ H s):Env0 X.prog X.w X.K X.mg X.base X.A X.stack s H:=
 ⟨I.ok.frames,I.ok.mod,I.bs,Nat.le_trans I.ok.bsz I.sz,I.stack,I.stkFree,I.hok,I.bare⟩
theorem Inv.after {Q:VK}{u:Value} (I:Inv X pins σ H s) (h:CE X.stack X.prog X.w H s Q u s'):EP X pins σ Q u s':=by
 obtain⟨v,H',os,bare,un,hok,r,q⟩:=h
 obtain⟨hh,g,d,t,os'⟩:=s'
 obtain rfl:os'=s.os:=os
 exact⟨v,H',I.call (h':=hh) (g':=g) (d':=d) (t':=t) (ch:=[]) un hok bare (λb z=>absurd z (by simp)),r,q⟩
end
noncomputable def iS (sp:Sp) (dvs:List V) (E:XK) (t:TA):TE:=λσ H Q=>t σ H λvs H1=>sp (vs++dvs) H1 Q E
noncomputable def vL (C:Addr) (m:Str) (sp:Sp) (dvs:List V) (E:XK) (ta:TE) (t:TA):TE:=λσ H Q=>ta σ H λx H1=>∃a dx fs,x=.ref a/\H1 a=some (.ins C dx fs)/\fs.lookup m=none/\
 t σ H1 λvs H2=>sp (x::(vs++dvs)) H2 Q E
noncomputable def yP (C:Addr) (sp:Sp) (dvs:List V) (E:XK) (t:TA):TE:=λσ H Q=>t σ H λvs H1=>∀x dx,H1 x=none->H1 dx=none->dx≠x->
 sp (.ref x::(vs++dvs)) (upd (upd H1 dx (.own x)) x (.ins C dx [])) (λv H2=>v=.non/\Q (.ref x) H2) E
noncomputable def bA (K:PySem.W.Frag) (fd:FuncData) (ps:List Str) (ds:List Value):Prop:=
 ∀(s:Shared) (us:List Value),K.In s.heap->(us++ds).length=ps.length->BindsTo s fd ⟨us,[]⟩ (ps.zip (us++ds))
theorem bA.all {K:PySem.W.Frag}{fd:FuncData}{ps:List Str} (h:∀us:List Value,us.length=ps.length->bindArgs fd ⟨us,[]⟩=pure (ps.zip us)):bA K fd ps []:=λs us _ hl=>by
 rw [List.append_nil]at hl ⊢
 exact .of_eq (h us hl)
noncomputable def cU (CX:CXT) (X:Cx) (E:XK):Prop:=∀(pins:List (Addr × Obj)) (σ:St) (H:Hp) (s:Shared) (e:Value) (s':Shared),Inv X pins σ H s->CX X.stack H s E e s'->X.xe e s'
section
variable {X:Cx}{CX:CXT}{k:Nat}{f C:Addr}{fd:FuncData}{ps:List Str}{sp:Sp}{dvs:List V}{ds:List Value}{E:XK}{x m:Str}{p pos apos:Pos}{e o:Expr}{es:List Expr}{ta:TE}{t:TA}
theorem j6 {pins:List (Addr × Obj)}{σ:St}{H:Hp}{s:Shared}{Q:VK}{us:List Value}{vs:List V} (F:FnOk X.prog X.w X.K X.mg X.base CX k f fd ps sp) (hr:Room k X.A) (hb:bA X.K fd ps ds) (hd:aX dvs ds) (hx:cU CX X E)
  (I:Inv X pins σ H s) (r:aX vs us) (h:sp (vs++dvs) H Q E):wpAny (model X.prog X.w) X.A (call (.ref f) us) (EP X pins σ Q) X.xe s:=by
 have r2:aX (vs++dvs) (us++ds):=r.append hd
 have hl:(us++ds).length=ps.length:=by rw [<- r2.length];exact F.len _ _ _ _ h
 refine wpAny_call (codeAny_mono (F.run X.A X.stack s H ⟨us,[]⟩ (us++ds) (vs++dvs) Q E hr I.env0 (hb s us I.kIn hl) r2 h) λr s' hq=>?_)
 cases r with
 | error e=>exact hx pins σ H s e s' I hq
 | ok fl=>
  cases fl with
  | ret u=>exact I.after hq
  | next=>exact False.elim hq
  | brk=>exact False.elim hq
  | cont=>exact False.elim hq
theorem au (F:FnOk X.prog X.w X.K X.mg X.base CX k f fd ps sp) (hr:Room k X.A) (hg:Gl X x) (hm:X.mg x=some (.ref f)) (hk:PySem.W.keepIn X.K (.ref f)=true) (hb:bA X.K fd ps ds) (hd:aX dvs ds) (hx:cU CX X E)
  (ha:PA X (e::es) t) (hdb:(x == ("__debug__" : Str))=false:=by decide) (he:starEach (e::es) X.env=(false,eval e X.env)::starEach es X.env:=by rfl) (hpl:(backTo pos (starEach es X.env)).any (·.1)=false:=by rfl) :
  PE X (.Call (.Name x p) (e::es) [] pos) (iS sp dvs E t):=by
 intro pins s σ H Q I h
 refine wpAny_Call_Name_kw (eE I hg hm ?_ hdb)
 refine PySem.W.callWith_K (h₀:=X.base) I.ok.mod.kin hk (thn (ha pos pins s σ H _ I h) λus s1 ⟨vs,H1,I1,r,q⟩=>⟨I1.kIn,?_⟩) he hpl
 exact j6 F hr hb hd hx I1 r q
theorem aW {pl:Sem Bool} (he:PE X o ta) (c:Cls X.K C) (hm:Meth X.K C m f) (F:FnOk X.prog X.w X.K X.mg X.base CX k f fd ps sp) (hr:Room k X.A) (hb:bA X.K fd ps ds) (hd:aX dvs ds) (hx:cU CX X E) (ha:PA X (e::es) t)
  (hst:starEach (e::es) X.env=(false,eval e X.env)::starEach es X.env:=by rfl) (hpl:(backTo pos (starEach es X.env)).any (·.1)=false:=by rfl)
  (ht:eval (.Call (.Attribute o m apos) (e::es) [] pos) X.env=(do
   let ov <- eval o X.env
   standAt apos.atName
   let (f,first) <- holding [ov] (getMethod ov m pl)
   callWith pos f first (backTo pos (starEach (e::es) X.env)) (backToKw pos (keywordEach [] X.env))):=by rfl) :
  PE X (.Call (.Attribute o m apos) (e::es) [] pos) (vL C m sp dvs E ta t):=by
 intro pins s σ H Q I h
 refine PySem.W.methodCall_KW (pl:=pl) (thn (he pins s σ H _ I h) λu s1 ⟨x,H1,I1,rx,a,dx,fs,ex,ea,l,q⟩=>?_) ht
 subst ex
 obtain rfl:u=Value.ref a:=rx
 refine ge I1 ea c hm l ?_
 refine PySem.W.callWith_K (first:=[.ref a]) (h₀:=X.base) I.ok.mod.kin hm.kp (thn (ha pos pins s1 σ H1 _ I1 q) λus s2 ⟨vs,H2,I2,r,q2⟩=>⟨I2.kIn,?_⟩) hst hpl
 exact j6 (us:=.ref a::us) (vs:=.ref a::vs) F hr hb hd hx I2 (.cons rfl r) q2
theorem aK {pl:Sem Bool} (he:PE X o ta) (c:Cls X.K C) (hm:Meth X.K C m f) (F:FnOk X.prog X.w X.K X.mg X.base CX k f fd ps sp) (hr:Room k X.A) (hb:bA X.K fd ps ds) (hd:aX dvs ds) (hx:cU CX X E)
  (ht:eval (.Call (.Attribute o m apos) [] [] pos) X.env=(do
   let ov <- eval o X.env
   standAt apos.atName
   let (f,first) <- holding [ov] (getMethod ov m pl)
   callWith pos f first (backTo pos (starEach [] X.env)) (backToKw pos (keywordEach [] X.env))):=by rfl) :
  PE X (.Call (.Attribute o m apos) [] [] pos) (vL C m sp dvs E ta eR):=by
 intro pins s σ H Q I h
 refine PySem.W.methodCall_KW (pl:=pl) (thn (he pins s σ H _ I h) λu s1 ⟨x,H1,I1,rx,a,dx,fs,ex,ea,l,q⟩=>?_) ht
 subst ex
 obtain rfl:u=Value.ref a:=rx
 refine ge I1 ea c hm l ?_
 exact PySem.W.callWith_K0 (first:=[.ref a]) I1.kIn hm.kp (j6 (us:=[.ref a]) (vs:=[.ref a]) F hr hb hd hx I1 (.cons rfl .nil) q)
structure Mk (K:PySem.W.Frag) (C f:Addr):Prop where
 makes:PySem.W.makesIn K C=true
 init:PySem.W.findIn K (.ref C) "__init__" = some (some (.ref f))
 fn:PySem.W.isFn K (.ref f)=true
 kp:PySem.W.keepIn K (.ref C)=true
theorem sh {pins:List (Addr × Obj)}{σ:St}{H:Hp}{s:Shared}{Q:VK}{us:List Value}{vs:List V} (M:Mk X.K C f) (F:FnOk X.prog X.w X.K X.mg X.base CX k f fd ps sp) (hr:Room (k+1) X.A) (hb:bA X.K fd ps ds) (hd:aX dvs ds)
  (hx:cU CX X E) (I:Inv X pins σ H s) (r:aX vs us)
  (h:∀x dx,H x=none->H dx=none->dx≠x->sp (.ref x::(vs++dvs)) (upd (upd H dx (.own x)) x (.ins C dx [])) (λv H2=>v=.non/\Q (.ref x) H2) E) :
  wpAny (model X.prog X.w) X.A (call (.ref C) us) (EP X pins σ Q) X.xe s:=by
 have hq:=h (s.heap.objs.size+1) s.heap.objs.size (I.hok.fresh (Nat.le_succ _)) (I.hok.fresh (Nat.le_refl _)) (Nat.ne_of_lt (Nat.lt_succ_self _))
 have I2:=Inv.made (C:=C) I
 have r2:aX (V.ref (s.heap.objs.size+1)::(vs++dvs)) (Value.ref (s.heap.objs.size+1)::(us++ds)):=.cons rfl (r.append hd)
 have hl:(Value.ref (s.heap.objs.size+1)::us++ds).length=ps.length:=by
  have e:=r2.length
  rw [F.len _ _ _ _ hq]at e
  exact e.symm
 refine wpAny_call (sZ (f:=f) I.kIn M.makes M.init (beq_iff_eq.mp M.fn) (codeAny_mono (F.run _ X.stack _ _ ⟨Value.ref (s.heap.objs.size+1)::us,[]⟩ (Value.ref (s.heap.objs.size+1)::(us++ds)) _ _ E (hr.make C us [])
  (I2.env0.make C us []) (hb _ (Value.ref (s.heap.objs.size+1)::us) I2.kIn hl) r2 hq) λr s' hq'=>?_))
 cases r with
 | error e=>exact hx pins σ _ _ e s' I2 hq'
 | ok fl=>
  cases fl with
  | ret u=>
   obtain⟨v,H',I3,rv,ev,q3⟩:=I2.after hq'
   subst ev
   exact⟨rv,⟨V.ref (s.heap.objs.size+1),H',I3,rfl,q3⟩⟩
  | next=>exact False.elim hq'
  | brk=>exact False.elim hq'
  | cont=>exact False.elim hq'
theorem bF (M:Mk X.K C f) (F:FnOk X.prog X.w X.K X.mg X.base CX k f fd ps sp) (hr:Room (k+1) X.A) (hg:Gl X x) (hm:X.mg x=some (.ref C)) (hb:bA X.K fd ps ds) (hd:aX dvs ds) (hx:cU CX X E)
  (ha:PA X (e::es) t) (hdb:(x == ("__debug__" : Str))=false:=by decide) (he:starEach (e::es) X.env=(false,eval e X.env)::starEach es X.env:=by rfl) (hpl:(backTo pos (starEach es X.env)).any (·.1)=false:=by rfl) :
  PE X (.Call (.Name x p) (e::es) [] pos) (yP C sp dvs E t):=by
 intro pins s σ H Q I h
 refine wpAny_Call_Name_kw (eE I hg hm ?_ hdb)
 refine PySem.W.callWith_K (h₀:=X.base) I.ok.mod.kin M.kp (thn (ha pos pins s σ H _ I h) λus s1 ⟨vs,H1,I1,r,q⟩=>⟨I1.kIn,?_⟩) he hpl
 exact sh M F hr hb hd hx I1 r q
end
section
variable {X:Cx}{CX:CXT}{k:Nat}{f C:Addr}{fd:FuncData}{ps ks:List Str}{sp:Sp}{E:XK}{x m:Str}{p pos apos kpos:Pos}{e o:Expr}{es:List Expr}{kws:List Keyword}{te ta:TE}{t tk:TA}{nm:Option Str}
variable {g:List Value->List Value->List Value}{gV:List V->List V->List V}
end
structure FnScope (N P:List Str) (sc:Scope):Prop where
 kind:sc.kind=.function
 co:sc.isCoroutine=false
 gen:sc.isGenerator=false
 nd:N.Nodup
 pre:N.take P.length=P
 par:∀x∈P,sc.names.lookup x=some .local\/sc.names.lookup x=some .cell
 nofree:∀y∈sc.names,y.2≠.free
theorem kd {kindOf:Str->Option NameKind}{x:Str}:∀{binds:List (Str × Value)}{m:Str->Option Value},(∀v,(x,v)∉binds)->bindL kindOf binds m x=m x
 | [],_,_=>rfl
 | (n,v)::r,m,h=>by
  unfold bindL
  rw [kd λw hw=>h w (List.mem_cons_of_mem _ hw)]
  split
  ·have:x≠n:=by rintro rfl;exact h v List.mem_cons_self
   simp [this]
  ·rfl
theorem kf {kindOf:Str->Option NameKind}{x:Str}:∀{binds:List (Str × Value)}{m:Str->Option Value},(∀v,(x,v)∉binds)->bindC kindOf binds m x=m x
 | [],_,_=>rfl
 | (n,v)::r,m,h=>by
  unfold bindC
  rw [kf λw hw=>h w (List.mem_cons_of_mem _ hw)]
  split
  ·rfl
  ·have:x≠n:=by rintro rfl;exact h v List.mem_cons_self
   simp [this]
theorem ke {kindOf:Str->Option NameKind}{x:Str}{v:Value}:∀{P:List Str}{vs:List Value}{i:Nat}{m:Str->Option Value},P.Nodup->P[i]?=some x->vs[i]?=some v->kindOf x=some .local->
  bindL kindOf (P.zip vs) m x=some v
 | [],_,_,_,_,h,_,_=>by simp at h
 | _::_,[],_,_,_,_,h,_=>by simp at h
 | p::P,w::vs,0,m,nd,h1,h2,hk=>by
  simp at h1 h2;subst h1;subst h2
  show bindL kindOf ((p,w)::P.zip vs) m p=_
  unfold bindL
  rw [kd λv hv=>(List.nodup_cons.mp nd).1 (List.of_mem_zip hv).1,if_pos hk]
  simp
 | p::P,w::vs,i+1,m,nd,h1,h2,hk=>by
  show bindL kindOf ((p,w)::P.zip vs) m x=_
  unfold bindL
  exact ke (i:=i) (List.nodup_cons.mp nd).2 (by simpa using h1) (by simpa using h2) hk
theorem kh {kindOf:Str->Option NameKind}{x:Str}{v:Value}:∀{P:List Str}{vs:List Value}{i:Nat}{m:Str->Option Value},P.Nodup->P[i]?=some x->vs[i]?=some v->kindOf x≠some .local->
  bindC kindOf (P.zip vs) m x=some v
 | [],_,_,_,_,h,_,_=>by simp at h
 | _::_,[],_,_,_,_,h,_=>by simp at h
 | p::P,w::vs,0,m,nd,h1,h2,hk=>by
  simp at h1 h2;subst h1;subst h2
  show bindC kindOf ((p,w)::P.zip vs) m p=_
  unfold bindC
  rw [kf λv hv=>(List.nodup_cons.mp nd).1 (List.of_mem_zip hv).1,if_neg hk]
  simp
 | p::P,w::vs,i+1,m,nd,h1,h2,hk=>by
  show bindC kindOf ((p,w)::P.zip vs) m x=_
  unfold bindC
  exact kh (i:=i) (List.nodup_cons.mp nd).2 (by simpa using h1) (by simpa using h2) hk
noncomputable def gv (N:List Str) (vs:List V):St:=vs.map some++List.replicate (N.length - vs.length) none
noncomputable def fM (CX:CXT) (P:Program) (w:World) (K:PySem.W.Frag) (mg:Str->Option Value) (base:Heap) (N:List Str) (qual:Str) (scope:Scope) (f:Addr) (cd:Value) (A:Around) (outer:List Env) (s:Shared) (H:Hp) (E:XK):Cx where
 prog:=P
 w:=w
 K:=K
 mg:=mg
 base:=base
 A:=A.deeper (envOfC qual scope s.heap.objs.size f cd)
 N:=N
 s₀:=s
 H₀:=H
 env:=envOfC qual scope s.heap.objs.size f cd
 outer:=outer
 stack:=envOfC qual scope s.heap.objs.size f cd::outer
 ex:=[]
 calm:=true
 fn:=λ_=>true
 pn:=[]
 xe:=λe s'=>wpAny (model P w) (A.deeper (envOfC qual scope s.heap.objs.size f cd)) (leaving (envOfC qual scope s.heap.objs.size f cd) e) (λ_ s''=>CX outer H s E e s'') (λe' s''=>CX outer H s E e' s'') s'
theorem mI {sc:Scope}{n:Nat}{x:Str} (h:sc.names.lookup x=some .cell):∃c,(cellsFrom n sc.names []).lookup x=some c:=by
 have q:=PySem.W.cellsFrom_some sc.names n [] (.inl h)
 exact Option.isSome_iff_exists.mp q
theorem qq {CX:CXT}{P:Program}{w:World}{K:PySem.W.Frag}{mg:Str->Option Value}{base:Heap}{N ps:List Str}{qual:Str}{scope:Scope}{f:Addr}{cd:Value}{A:Around}{outer:List Env}{s s1:Shared}{H:Hp}{E:XK}{us:List Value}{vs:List V}
  (S:FnScope N ps scope) (hd:A.handled=none) (e0:Env0 P w K mg base A outer s H) (hl:vs.length=ps.length) (r:aX vs us)
  (x:InCallC s s.heap.objs.size (bindL (envOfC qual scope s.heap.objs.size f cd).kindOf (ps.zip us) λ_=>none) (cellsFrom (s.heap.objs.size+1) scope.names []) (bindC (envOfC qual scope s.heap.objs.size f cd).kindOf (ps.zip us) λ_=>none) s1) :
  Inv (fM CX P w K mg base N qual scope f cd A outer s H E) [] (gv N vs) H s1:=by
 have hpl:ps.length<=N.length:=by have:=congrArg List.length S.pre;rw [List.length_take]at this;omega
 obtain⟨h1,tk,rfl,hk⟩:=x.done
 have noA:∀b:Addr,b∉(fM CX P w K mg base N qual scope f cd A outer s H E).ex:=λb z=>absurd (show b∈([]:List Addr) from z) (by simp)
 refine⟨⟨e0.mod,S.kind,rfl,rfl,Nat.le_refl _,λy z c h1 h2=>?_,λy hy=>?_,λy c _ h=>?_,λ_=>hd,Around.frames_deeper e0.frames,.inr ⟨rfl,rfl⟩,λb z=>absurd z (noA b),e0.bs,e0.bsz,λb _ _=>noA b,λb z=>absurd z (noA b),e0.funs,e0.frf⟩,
  rfl,e0.bare,Un.kept hk,⟨_,x.toInCall.ns,λi y v h1 h2 h3=>?_⟩,λy c h=>⟨_,x.cell y c h⟩,e0.hok.fresh (Nat.le_refl _),λy c h=>?_,λp hp=>absurd (show p∈([]:List (Addr × Obj)) from hp) (by simp),e0.hok.kept hk,?_⟩
 ·exact name_of_addr x.apart (PySem.mem_of_lookup h1) (PySem.mem_of_lookup h2)
 ·have hy:scope.names.lookup y=some .cell\/scope.names.lookup y=some .free:=hy
  rcases hy with hy | hy
  ·exact mI hy
  ·exact absurd rfl (S.nofree _ (PySem.mem_of_lookup hy))
 ·exact Nat.le_of_lt (x.above y c (PySem.mem_of_lookup h))
 ·have hi:i < vs.length:=by
   unfold gv at h2
   by_cases hi:i < vs.length
   ·exact hi
   ·rw [List.getElem?_append_right (by simpa using hi)]at h2
    rw [List.getElem?_replicate]at h2
    split at h2 <;> cases h2
  have ha:vs[i]?=some v:=by
   unfold gv at h2
   rw [List.getElem?_append_left (by simpa using hi),List.getElem?_map]at h2
   cases e:vs[i]? with
   | none=>rw [e]at h2;cases h2
   | some a=>rw [e]at h2;cases h2;rfl
  obtain⟨u,hu,rv⟩:=r.get ha
  have hp:ps[i]?=some y:=by
   rw [<- S.pre,List.getElem?_take_of_lt (by omega)];exact h1
  have ndP:ps.Nodup:=by rw [<- S.pre];exact S.nd.sublist (List.take_sublist _ _)
  refine⟨u,rv,?_⟩
  rcases S.par y (List.mem_of_getElem? hp) with k | k
  ·exact .inl ⟨k,ke ndP hp hu k⟩
  ·obtain⟨c,e⟩:=mI (n:=s.heap.objs.size+1) k
   refine .inr ⟨.inl k,c,e,?_⟩
   have q:=x.cell y c e
   rw [kh ndP hp hu (by show scope.names.lookup y≠_;rw [k];decide)]at q
   exact q
 ·exact e0.hok.fresh (Nat.le_of_lt (x.above y c (PySem.mem_of_lookup h)))
 ·unfold gv
  show _=N.length
  rw [List.length_append,List.length_map,List.length_replicate]
  omega
theorem wB {CX:CXT}{P:Program}{w:World}{K:PySem.W.Frag}{mg:Str->Option Value}{base:Heap}{k:Nat}{f:Addr}{name qual:Str}{params:Arguments}{body:List Stmt}{scope:Scope}{dV kV doc pm cdv ct oc:Value}{an od:Option Addr}
  {osl:Array (Option Value)}{N ps:List Str}{sp:Sp} (lk:K.lookup f=some ⟨oc,od,.func (PySem.W.fnOf name qual params body scope dV kV doc pm an cdv ct),osl⟩) (hcd:PySem.W.codeIn K cdv qual=true) (S:FnScope N ps scope)
  (len:∀vs H Q E,sp vs H Q E->vs.length=ps.length)
  (hbody:∀(A:Around) (outer:List Env) (s:Shared) (H:Hp) (vs:List V) (Q:VK) (E:XK),Room k (A.deeper (envOfC qual scope s.heap.objs.size f cdv))->sp vs H Q E->
   ∃t,PSs (fM CX P w K mg base N qual scope f cdv A outer s H E) body t/\t { nx:=λ_ H'=>Q .non H',rt:=Q } (gv N vs) H) :
  FnOk P w K mg base CX (k+1) f (PySem.W.fnOf name qual params body scope dV kV doc pm an cdv ct) ps sp:=by
 refine⟨len,λA outer s H args us vs Q E hr e0 hb r hsp=>?_⟩
 have hl:=len _ _ _ _ hsp
 have KX:K.In s.heap:=e0.mod.kin.keeps λb o e=>(e0.bs b o e).1
 have lim:s.heap.NoLimit:=e0.mod.nolimit.keeps λb o e=>(e0.bs b o e).1
 have hkind:∀y∈ps.zip us,scope.names.lookup y.1=some .local\/(scope.names.lookup y.1=some .cell/\((cellsFrom (s.heap.objs.size+1) scope.names []).lookup y.1).isSome=true):=λ⟨n,v⟩ hy=>by
  rcases S.par n (List.of_mem_zip hy).1 with q | q
  ·exact .inl q
  ·exact .inr ⟨q,PySem.W.cellsFrom_some _ _ _ (.inl q)⟩
 refine codeAny_call_function hr.depth (KX _ _ lk) rfl S.co S.gen rfl (PySem.W.codeRec_of KX hcd) (hb _ _ _ _ ?_)
 refine wpAny_newFunctionEnv_cells S.kind hkind λenv he s1 x=>?_
 subst he
 refine⟨lim.keeps x.toInCall.keep,codeAny_func ?_⟩
 obtain⟨t,ht,hq⟩:=hbody A outer s H vs Q E (hr.deeper _) hsp
 have I:Inv (fM CX P w K mg base N qual scope f cdv A outer s H E) [] (gv N vs) H s1:=qq S hr.hd e0 hl r x
 refine wpAny_mono (ht [] s1 (gv N vs) H _ I hq) (λfl s' hs=>?_) λe s' hs=>hs
 have fin:∀{σ':St}{H':Hp}{v:V}{u:Value},Inv (fM CX P w K mg base N qual scope f cdv A outer s H E) [] σ' H' s'->bg v u->Q v H'->CE outer P w H s Q u s':=
  λ{σ' H' v u} J rv q=>⟨v,H',J.os,J.bare,J.base,J.hok,rv,q⟩
 cases fl with
 | ret u=>
  obtain⟨v,σ',H',J,rv,q⟩:=hs
  exact fin J rv q
 | next=>
  obtain⟨σ',H',J,q⟩:=hs
  exact fin (v:=V.non) (u:=Value.none) J rfl q
 | brk=>
  obtain⟨_,_,_,q⟩:=hs
  exact False.elim q
 | cont=>
  obtain⟨_,_,_,q⟩:=hs
  exact False.elim q
end L2
namespace L2
open PySem PySem.Spec PyProof.Rows
section
variable {X:Cx}{x:Str}{p pos:Pos}{e:Expr}{es:List Expr}{t:TA}{id T:String}{r:List V->Hp->VK->Prop}
noncomputable def tCB (r:List V->Hp->VK->Prop) (t:TA):TE:=λσ H Q=>t σ H λvs H1=>r vs H1 Q
theorem aI (hc:cO X (.builtin id) r) (hg:Gl X x) (hm:X.mg x=none) (hv:bootBuiltins x=some (.builtin id)) (ha:PA X (e::es) t) (hn:x≠"__name__":=by decide) (hdb:(x == ("__debug__" : Str))=false:=by decide)
  (he:starEach (e::es) X.env=(false,eval e X.env)::starEach es X.env:=by rfl) (hpl:(backTo pos (starEach es X.env)).any (·.1)=false:=by rfl):PE X (.Call (.Name x p) (e::es) [] pos) (tCB r t):=by
 intro pins s σ H Q I h
 refine wpAny_Call_Name_kw (jg I hg hm hv ?_ hn hdb)
 exact PyProof.Rows.callWith_builtin1 (thn (ha pos pins s σ H _ I h) λus s1 ⟨vs,H1,I1,r1,q1⟩=>hc pins s1 σ H1 vs us Q I1 r1 q1) he hpl
theorem aV (hc:cO X (.type T) r) (hg:Gl X x) (hm:X.mg x=none) (hv:bootBuiltins x=some (.type T)) (ha:PA X (e::es) t) (hn:x≠"__name__":=by decide) (hdb:(x == ("__debug__" : Str))=false:=by decide)
  (he:starEach (e::es) X.env=(false,eval e X.env)::starEach es X.env:=by rfl) (hpl:(backTo pos (starEach es X.env)).any (·.1)=false:=by rfl):PE X (.Call (.Name x p) (e::es) [] pos) (tCB r t):=by
 intro pins s σ H Q I h
 refine wpAny_Call_Name_kw (jg I hg hm hv ?_ hn hdb)
 exact PyProof.Rows.callWith_type1 (thn (ha pos pins s σ H _ I h) λus s1 ⟨vs,H1,I1,r1,q1⟩=>hc pins s1 σ H1 vs us Q I1 r1 q1) he hpl
end
end L2
namespace HT
open PySem PyProof.Rows
section
open PySem.SeqAt
open PySem.AutoSeq1 (wpAny_loadPart')
open PySem.MeetsSeq PySem.MeetsSeq2 PySem.MeetsSeq3
end
section
variable {prog:Program}{w:World}{A:Around}{E:Value->Shared->Prop}{s:Shared}
noncomputable def sIx (n d:Nat):Option Int->Nat
 | none=>d
 | some v=>if v < 0 then (v+(n:Int)).toNat else min v.toNat n
theorem sIx_nat (n d k:Nat):sIx n d (some (k:Int))=min k n:=by
 show (if (k:Int) < 0 then ((k:Int)+(n:Int)).toNat else min (k:Int).toNat n)=min k n
 rw [if_neg (by omega),Int.toNat_natCast]
theorem xu (n d:Nat) (hd:d<=n) (o:Option Int):sIx n d o<=n:=by
 cases o with
 | none=>exact hd
 | some v=>
  show (if v < 0 then (v+(n:Int)).toNat else min v.toNat n)<=n
  by_cases hv:v < 0
  ·rw [if_pos hv];omega
  ·rw [if_neg hv];exact Nat.min_le_right _ _
theorem pM (v:Int) (n d:Nat):(if v < 0 then max (v+(n:Int)) 0 else min v (n:Int))=((sIx n d (some v):Nat):Int):=by
 show (if v < 0 then max (v+(n:Int)) 0 else min v (n:Int))=(((if v < 0 then (v+(n:Int)).toNat else min v.toNat n):Nat):Int)
 by_cases hv:v < 0
 ·simp only [if_pos hv];omega
 ·simp only [if_neg hv];omega
theorem on (lo hi:Option Int) (n:Nat):Builtin.Slice.sliceAdjust lo hi 1 (n:Int)=(((sIx n 0 lo:Nat):Int),((sIx n n hi:Nat):Int)):=by
 have h1:¬((1:Int) < 0):=by omega
 unfold Builtin.Slice.sliceAdjust
 simp only [h1,if_false]
 refine Prod.ext ?_ ?_
 ·cases lo with
  | none=>rfl
  | some v=>exact pM v n 0
 ·cases hi with
  | none=>rfl
  | some v=>exact pM v n n
theorem nJ (i j:Nat):Builtin.Slice.slicePlaces (i:Int) (j:Int) 1=j - i:=by
 unfold Builtin.Slice.slicePlaces
 have h1:(1:Int) > 0:=by omega
 simp only [h1,if_true,Int.ediv_one]
 split <;> omega
theorem iZ {v:Value}{o:Option Int}{Q:Option Int->Shared->Prop} (p:IsPart v o) (h:Q o s):wpAny (model prog w) A (Builtin.Slice.slicePartIndex v) Q E s:=by
 cases p with
 | none=>exact slicePart_none h
 | int i t=>exact slicePart_int h
theorem i4 {sl:Addr}{vl vu:Value}{lo hi:Option Int}{n:Nat}{Q:Int × Int × Nat->Shared->Prop} (hs:s.heap.IsSliceOf sl vl vu .none) (pl:IsPart vl lo) (pu:IsPart vu hi)
  (h:Q (((sIx n 0 lo:Nat):Int),1,sIx n n hi - sIx n 0 lo) s):wpAny (model prog w) A (Builtin.Slice.sliceApplied (.ref sl) (pure (n:Int))) Q E s:=by
 obtain⟨os,hos,hcs,hds⟩:=id hs
 unfold Builtin.Slice.sliceApplied Builtin.Slice.sliceFields
 refine wpAny_bind (wpAny_bind (wpAny_field hos hds (x:=vl) rfl (wpAny_bind (wpAny_field hos hds (x:=vu) rfl (wpAny_bind (wpAny_field hos hds (x:=.none) rfl (wpAny_pure ?_)))))))
 refine wpAny_bind (slicePart_none ?_)
 show wpAny _ _ (if ((1:Int) == 0)=true then _ else _) _ _ s
 rw [if_neg (by decide)]
 refine wpAny_bind (iZ pl (wpAny_bind (iZ pu (wpAny_bind (wpAny_pure ?_)))))
 show wpAny _ _ (match Builtin.Slice.sliceAdjust lo hi 1 (n:Int) with | (lo,hi)=>pure (lo,(1:Int),Builtin.Slice.slicePlaces lo hi 1)) _ _ s
 rw [on lo hi n]
 show wpAny _ _ (pure (((sIx n 0 lo:Nat):Int),(1:Int),Builtin.Slice.slicePlaces ((sIx n 0 lo:Nat):Int) ((sIx n n hi:Nat):Int) 1)) _ _ s
 rw [nJ]
 exact wpAny_pure h
theorem sr (xs:Array Value) (i k:Nat):((List.range k).filterMap λ(m:Nat)=>xs[((i:Int)+(m:Int) * 1).toNat]?).toArray=((xs.toList.drop i).take k).toArray:=by
 have e:(λ(m:Nat)=>xs[((i:Int)+(m:Int) * 1).toNat]?)=λm=>xs[i+m]?:=by
  funext m
  have:((i:Int)+(m:Int) * 1).toNat=i+m:=by omega
  rw [this]
 rw [e]
 have:=pick_run xs i k
 rw [List.filterMap_map]at this
 have e2:((λx=>xs[x]?) ∘ λx=>i+x)=λm=>xs[i+m]?:=rfl
 rw [e2]at this
 rw [this]
theorem getItem_tuple_cut {t sl:Addr}{items:Array Value}{vl vu:Value}{lo hi:Option Int}{Q:Value->Shared->Prop} (ht:IsTup s.heap t items) (hs:s.heap.IsSliceOf sl vl vu .none) (pl:IsPart vl lo) (pu:IsPart vu hi)
  (hw:¬(sIx items.size 0 lo=0/\sIx items.size items.size hi=items.size))
  (h:Q (.ref s.heap.objs.size) { s with heap:=s.heap.push { cls:=.type "tuple", data:=.seq ((items.toList.drop (sIx items.size 0 lo)).take (sIx items.size items.size hi - sIx items.size 0 lo)).toArray } })
  (hsz:items.size<=sizeLine):wpAny (model prog w) A (getItem (.ref t) (.ref sl)) Q E s:=by
 have htake:sizeOk (.seq ((items.toList.drop (sIx items.size 0 lo)).take (sIx items.size items.size hi - sIx items.size 0 lo)).toArray):=by
  show ((items.toList.drop (sIx items.size 0 lo)).take (sIx items.size items.size hi - sIx items.size 0 lo)).toArray.size<=sizeLine
  rw [List.size_toArray,List.length_take,List.length_drop,Array.length_toList]
  omega
 have hj:sIx items.size items.size hi<=items.size:=xu _ _ (Nat.le_refl _) hi
 obtain⟨os,hos,hcs,hds⟩:=id hs
 have hTs:s.TypeIs (.ref sl) "slice":=⟨os,hos,hcs⟩
 unfold getItem
 try with_reducible refine wpAny_holding ?_
 first | refine wpAny_bind (wpAny_pure ?_) | skip
 refine wpAny_bind (wpAny_sequenceKey ht.typeIs (by decide) ?_)
 refine wpAny_bind (wpAny_callSpecial?_slot (name:=Str.ofString "__getitem__") ht.typeIs PyProof.Rows.slot_tuple_getitem
  (wpAny_call_entry PyProof.Rows.slot_tuple_getitem ht.typeIs entry_tuple_getitem ?_ (args_tuple_getitem _ _)))
 show wpAny _ _ (Builtin.Tuple.tupleItemsOf (.ref t) >>= _) _ _ s
 refine wpAny_bind (tupleItemsOf_ ht ?_)
 refine wpAny_bind (wpAny_typeOf hTs ?_)
 rw [if_pos (by decide)]
 refine wpAny_bind (i4 hs pl pu ?_)
 have hno:¬((((sIx items.size 0 lo:Nat):Int) == 0 && (1:Int) == 1 && (sIx items.size items.size hi - sIx items.size 0 lo) == items.size)=true):=by
  intro q
  rw [Bool.and_eq_true,Bool.and_eq_true]at q
  have q1:((sIx items.size 0 lo:Nat):Int)=0:=eq_of_beq q.1.1
  have q2:sIx items.size items.size hi - sIx items.size 0 lo=items.size:=eq_of_beq q.2
  exact hw ⟨by omega,by omega⟩
 show wpAny _ _ (if (((sIx items.size 0 lo:Nat):Int) == 0 && (1:Int) == 1 && (sIx items.size items.size hi - sIx items.size 0 lo) == items.size)=true then _ else _) _ _ s
 rw [if_neg hno,sr]
 first
  | exact wpAny_bind (m:=Builtin.Tuple.tupleExact _) (wpAny_newObj_type (wpAny_pure ⟨_,rfl,wpAny_pure h⟩) htake)
  | exact wpAny_bind (m:=Builtin.Tuple.tupleExact _) (wpAny_newObj_type (wpAny_bind (wpAny_pure (wpAny_pure ⟨_,rfl,wpAny_pure h⟩))) htake)
  | exact wpAny_bind (wpAny_bind (m:=Builtin.Tuple.tupleExact _) (wpAny_newObj_type (wpAny_pure (wpAny_pure ⟨_,rfl,wpAny_pure h⟩)) htake))
  | exact wpAny_bind (wpAny_bind (m:=Builtin.Tuple.tupleExact _) (wpAny_newObj_type (wpAny_pure ⟨_,rfl,wpAny_pure h⟩) htake))
end
end HT
namespace L2
open PySem PySem.Spec PyProof.Rows
noncomputable abbrev TO:=St->Hp->(Option Int->Hp->Prop)->Prop
noncomputable def PO (X:Cx) (e:Option Expr) (t:TO):Prop:=
 ∀(pins:List (Addr × Obj)) (s:Shared) (σ:St) (H:Hp) (Q:Option Int->Hp->Prop),Inv X pins σ H s->t σ H Q->
  wpAny (model X.prog X.w) X.A (evalPart e X.env) (λu s'=>∃o H',Inv X pins σ H' s'/\IsPart u o/\Q o H') X.xe s
noncomputable def uq:TO:=λ_ H Q=>Q none H
noncomputable def yM (t:TE):TO:=λσ H Q=>t σ H λx H1=>∃i,x=.int i/\Q (some i) H1
section
variable {X:Cx}{e:Expr}{te:TE}{lo hi:Option Expr}{tl th:TO}{pos p2:Pos}
theorem bD:PO X none uq:=by
 intro pins s σ H Q I h
 rw [evalPart_none]
 exact wpAny_pure ⟨none,H,I,.none,h⟩
theorem bu (h:PE X e te):PO X (some e) (yM te):=by
 intro pins s σ H Q I hw
 rw [evalPart_some]
 refine thn (h pins s σ H _ I hw) λu s1 ⟨x,H1,I1,r1,q1⟩=>?_
 obtain⟨i,rfl,q⟩:=q1
 obtain⟨t,rfl⟩:=r1
 exact⟨some i,H1,I1,.int i t,q⟩
noncomputable def SlR (X:Cx) (r:V->Option Int->Option Int->Hp->VK->Prop):Prop:=
 ∀(pins:List (Addr × Obj)) (s:Shared) (σ:St) (H:Hp) (x:V) (v vl vu:Value) (lo hi:Option Int) (sl:Addr) (Q:VK),Inv X pins σ H s->bg x v->s.heap.IsSliceOf sl vl vu .none->IsPart vl lo->IsPart vu hi->r x lo hi H Q->
  ∃T id,typeLookup (.type T) "__getitem__" = pure (some (.builtin id))/\s.TypeIs v T/\wpAny (model X.prog X.w) X.A (getItem v (.ref sl)) (EP X pins σ Q) X.xe s
noncomputable def tSl (r:V->Option Int->Option Int->Hp->VK->Prop) (te:TE) (tl th:TO):TE:=λσ H Q=>te σ H λx H1=>tl σ H1 λl H2=>th σ H2 λu H3=>r x l u H3 Q
theorem bj {r:V->Option Int->Option Int->Hp->VK->Prop} (hr:SlR X r) (he:PE X e te) (hl:PO X lo tl) (hu:PO X hi th):PE X (.Subscript e (.Slice lo hi none p2) pos) (tSl r te tl th):=by
 intro pins s σ H Q I h
 refine Subscript_ (thn (he pins s σ H _ I h) λv s1 ⟨x,H1,I1,r1,q1⟩=>?_)
 refine wpAny_Slice (thn (hl pins s1 σ H1 _ I1 q1) λvl s2 ⟨l,H2,I2,pl,q2⟩=>thn (hu pins s2 σ H2 _ I2 q2) λvu s3 ⟨u,H3,I3,pu,q3⟩=>?_)
 rw [evalPart_none]
 refine wpAny_pure ?_
 have I4:Inv X pins σ H3 { s3 with heap:=s3.heap.push { cls:=.type "slice", data:=.fields #[vl,vu,.none] } }:=I3.kept (t':=s3.toks) λb ob q=>Heap.get?_push_of_some _ q
 obtain⟨T,id,hT,ht,hg⟩:=hr pins { s3 with heap:=s3.heap.push { cls:=.type "slice", data:=.fields #[vl,vu,.none] } } σ H3 x v vl vu l u s3.heap.objs.size Q I4 r1 (Heap.IsSliceOf.new ..) pl pu q3
 show wpAny (model X.prog X.w) X.A (subscriptTail e (.Slice lo hi none p2) v (.ref s3.heap.objs.size)) (EP X pins σ Q) X.xe { s3 with heap:=s3.heap.push { cls:=.type "slice", data:=.fields #[vl,vu,.none] } }
 exact tail_any (ops:=[.ref s3.heap.objs.size,v]) ht hT hg (by with_unfolding_all rfl)
noncomputable def da (xs:List V) (lo hi:Option Int):List V:=(xs.drop (HT.sIx xs.length 0 lo)).take (HT.sIx xs.length xs.length hi - HT.sIx xs.length 0 lo)
theorem dz (xs:List V) (lo hi:Option Int):(da xs lo hi).length<=xs.length:=by
 unfold da
 rw [List.length_take,List.length_drop]
 omega
noncomputable def A0 (K:PySem.W.Frag):V->Option Int->Option Int->Hp->VK->Prop:=λx lo hi H Q=>∃a xs,x=.ref a/\SqT K H a xs/\
 ¬(HT.sIx xs.length 0 lo=0/\HT.sIx xs.length xs.length hi=xs.length)/\∀p,H p=none->Q (.ref p) (upd H p (.tup (da xs lo hi)))
theorem wS:SlR X (A0 X.K):=by
 intro pins s σ H x v vl vu lo hi sl Q I rx hs pl pu h
 obtain⟨a,xs,rfl,hx,hw,q⟩:=h
 cases rx
 obtain⟨its,r,ht,hz⟩:=I.tuple hx
 have hlen:its.toArray.size=xs.length:=by rw [List.size_toArray];exact r.length.symm
 refine⟨"tuple", _,PyProof.Rows.slot_tuple_getitem.lookup,ht.typeIs,?_⟩
 refine HT.getItem_tuple_cut ht hs pl pu (by rw [hlen];exact hw) ?_ (by rw [hlen];exact hz)
 rw [hlen]
 refine⟨.ref s.heap.objs.size,_,I.laid (t':=s.toks) (o:=.tup (da xs lo hi)) (λb ob q=>Heap.get?_push_of_some _ q) (Nat.le_refl _) ?_,rfl,q _ (I.hok.fresh (Nat.le_refl _))⟩
 exact⟨Nat.le_trans (dz xs lo hi) hz,_,(r.drop (HT.sIx xs.length 0 lo)).take (HT.sIx xs.length xs.length hi - HT.sIx xs.length 0 lo),IsTup.new _ _⟩
end
end L2
namespace L2
open PySem PySem.Spec PyProof.Rows
noncomputable def ixN (n:Nat) (i:Int):Option Nat:=if 0<=i then (if i < n then some i.toNat else none) else if -(n:Int)<=i then some (i+n).toNat else none
noncomputable def atI {α:Type} (xs:List α) (i:Int):Option α:=(ixN xs.length i).bind λj=>xs[j]?
theorem pD {n:Nat}{i:Int}{j:Nat} (h:ixN n i=some j):seqIndex? i n=some j/\j < n/\-(n:Int)<=i/\i < n:=by
 unfold ixN at h
 by_cases h0:0<=i
 ·rw [if_pos h0]at h
  by_cases h1:i < n
  ·rw [if_pos h1]at h
   have e:i.toNat=j:=Option.some.inj h
   exact⟨by rw [seqIndex_of h0 h1,e],by omega,by omega,h1⟩
  ·rw [if_neg h1]at h;cases h
 ·rw [if_neg h0]at h
  by_cases h1 : -(n:Int)<=i
  ·rw [if_pos h1]at h
   have e:(i+n).toNat=j:=Option.some.inj h
   exact⟨by rw [seqIndex_neg (by omega) h1,e],by omega,h1,by omega⟩
  ·rw [if_neg h1]at h;cases h
theorem lD {α:Type}{xs:List α}{i:Int}{v:α} (h:atI xs i=some v):∃j,seqIndex? i xs.length=some j/\xs[j]?=some v/\j < xs.length/\-(xs.length:Int)<=i/\i < xs.length:=by
 unfold atI at h
 cases e:ixN xs.length i with
 | none=>rw [e]at h;cases h
 | some j=>
  rw [e]at h
  obtain⟨h1,h2,h3,h4⟩:=pD e
  exact⟨j,h1,h,h2,h3,h4⟩
theorem dB {α:Type}{xs:List α}{j:Nat}{v:α} (h:xs[j]?=some v):atI xs (j:Int)=some v:=by
 have hj:j < xs.length:=(List.getElem?_eq_some_iff.mp h).1
 have e:ixN xs.length (j:Int)=some j:=by
  unfold ixN
  rw [if_pos (by omega),if_pos (by omega)];simp
 unfold atI;rw [e];exact h
noncomputable def vF (b:Expr):Prop:=∀o i,subscripted b false o i=operate [o,i] (getItem o i)
noncomputable def IxR (X:Cx) (r:R2):Prop:=
 ∀(value slice:Expr) (pins:List (Addr × Obj)) (s:Shared) (σ:St) (H:Hp) (x y:V) (v u:Value) (Q:VK),Inv X pins σ H s->bg x v->bg y u->r x y H Q->
  subscripted slice false v u=operate [v,u] (getItem v u)->wpAny (model X.prog X.w) X.A (subscriptTail value slice v u) (EP X pins σ Q) X.xe s
noncomputable def MtR (X:Cx) (id:String) (r:V->List V->Hp->VK->Prop):Prop:=
 ∀(pins:List (Addr × Obj)) (s:Shared) (σ:St) (H:Hp) (x:V) (xs:List V) (v:Value) (us:List Value) (Q:VK),Inv X pins σ H s->bg x v->aX xs us->r x xs H Q->
  wpAny (model X.prog X.w) X.A (call (.builtin id) (v::us)) (EP X pins σ Q) X.xe s
section
variable {X:Cx}{a b:Expr}{ta tb:TE}{pos:Pos}
theorem b9 {r:R2} (hr:IxR X r) (ha:PE X a ta) (hb:PE X b tb) (hs:vF b):PE X (.Subscript a b pos) (tOp r ta tb):=by
 intro pins s σ H Q I h
 exact Subscript_ (yA ha hb I h λv u s2 x y H2 I2 rx ry q=>hr a b pins s2 σ H2 x y v u Q I2 rx ry q (hs _ _))
inductive xD (K:PySem.W.Frag) (x:V) (y:V) (H:Hp) (Q:VK):Prop
 | mk (p xs i v) (h1:x=.ref p) (h2:y=.int i) (h3:SqL K H p xs) (h4:atI xs i=some v) (h5:Q v H):xD K x y H Q
inductive zi (K:PySem.W.Frag) (x:V) (y:V) (H:Hp) (Q:VK):Prop
 | mk (p xs i v) (h1:x=.ref p) (h2:y=.int i) (h3:SqT K H p xs) (h4:atI xs i=some v) (h5:Q v H):zi K x y H Q
inductive zj (x:V) (y:V) (H:Hp) (Q:VK):Prop
 | mk (z i c) (h1:x=.str z) (h2:y=.int i) (h3:z.length<=sizeLine) (h4:atI z.cps.toList i=some c) (h5:Q (.str ⟨#[c]⟩) H):zj x y H Q
theorem aT:IxR X (xD X.K):=by
 intro value slice pins s σ H x y v u Q I rx ry h hs
 obtain⟨p,xs,i,z,rfl,rfl,hq,he,q⟩:=h
 cases rx
 obtain⟨t,rfl⟩:=ry
 obtain⟨its,r,pl,hz⟩:=I.list hq
 obtain⟨j,h1,h2,h3,h4,h5⟩:=lD he
 obtain⟨w,ew,rw'⟩:=r.get h2
 have hl:=r.length
 have hn:=ia
 have fin:EP X pins σ Q w s:=⟨z,H,I,rw',q⟩
 by_cases h0:0<=i
 ·have hj:i.toNat=j:=by
   rw [seqIndex_of h0 h5]at h1
   exact Option.some.inj h1
  exact item_listR pl.isList h0 (by omega) (by rw [hj];simpa using ew) fin hs
 ·have hj:(i+(its.toArray.size:Int)).toNat=j:=by
   rw [seqIndex_neg (by omega) h4]at h1
   rw [List.size_toArray,<- hl]
   exact Option.some.inj h1
  exact subscriptTail_builtinR (x:=w) pl.isList.typeIs slot_list_getitem.lookup
   (wpAny_getItem_list_neg (Q:=λr s'=>r=w/\EP X pins σ Q r s') pl.isList (by omega) (by rw [List.size_toArray] <;> omega) (by omega) (by rw [hj];simpa using ew) ⟨rfl,fin⟩) hs
theorem eF:IxR X (zi X.K):=by
 intro value slice pins s σ H x y v u Q I rx ry h hs
 obtain⟨p,xs,i,z,rfl,rfl,hq,he,q⟩:=h
 cases rx
 obtain⟨t,rfl⟩:=ry
 obtain⟨its,r,pl,hz⟩:=I.tuple hq
 obtain⟨j,h1,h2,h3,h4,h5⟩:=lD he
 obtain⟨w,ew,rw'⟩:=r.get h2
 have hl:=r.length
 have hn:=ia
 have fin:EP X pins σ Q w s:=⟨z,H,I,rw',q⟩
 exact subscriptTail_builtinR (x:=w) pl.typeIs slot_tuple_getitem.lookup
  (getItem_tuple (j:=j) (Q:=λr s'=>r=w/\EP X pins σ Q r s') pl (by omega) (by omega) (by rw [List.size_toArray,<- hl];exact h1) (by simpa using ew) ⟨rfl,fin⟩) hs
theorem tI:IxR X zj:=by
 intro value slice pins s σ H x y v u Q I rx ry h hs
 obtain⟨z,i,c,rfl,rfl,hz,he,q⟩:=h
 obtain⟨t,rfl⟩:=rx
 obtain⟨t',rfl⟩:=ry
 obtain⟨j,h1,h2,h3,h4,h5⟩:=lD he
 have hl:z.cps.toList.length=z.length:=by simp [Str.length]
 rw [hl]at h1 h4 h5
 have hn:=ia
 exact tail_any (typeIs_str s z t) slot_str_getitem.lookup (getItem_str (c:=c) (by
  have e1:decide (i < -(2 ^ 63:Int))=false:=decide_eq_false (by omega)
  have e2:decide (i>=2 ^ 63)=false:=decide_eq_false (by omega)
  rw [e1,e2,Bool.or_false]) (by rw [h1];simpa using h2) ⟨.str ⟨#[c]⟩,H,I.tok _,⟨_,rfl⟩,q⟩) hs
theorem nR (its:List Value) (n j:Nat) (u:Value):Obj.mapSeq (·.setIfInBounds j u) { cls:=.type "list", data:=.seq its.toArray n }={ cls:=.type "list", data:=.seq (its.set j u).toArray n }:=by
 simp [Obj.mapSeq]
theorem Inv.lst {pins:List (Addr × Obj)}{σ:St}{H:Hp}{s:Shared}{p:Addr}{xs:List V} (I:Inv X pins σ H s) (h:H p=some (.lst xs)) :
  ∃(its:List Value) (n:Nat),aX xs its/\s.heap.get? p=some { cls:=.type "list", data:=.seq its.toArray n }/\xs.length<=sizeLine:=by
 obtain⟨z,its,n,r,e⟩:=I.hok p _ h
 exact⟨its,n,r,e,z⟩
theorem Inv.lstUpd {pins:List (Addr × Obj)}{σ:St}{H:Hp}{s:Shared}{p:Addr}{xs ys:List V}{its its':List Value}{n n':Nat}{f:Obj->Obj} (I:Inv X pins σ H s) (h:H p=some (.lst xs))
  (ho:s.heap.get? p=some { cls:=.type "list", data:=.seq its.toArray n }) (hf:f { cls:=.type "list", data:=.seq its.toArray n }={ cls:=.type "list", data:=.seq its'.toArray n' }) (r:aX ys its') (hz:ys.length<=sizeLine) (t:Nat) :
  Inv X pins σ (upd H p (.lst ys)) { s with heap:=s.heap.update p f,toks:=t }:=by
 have e:(s.heap.update p f).get? p=some { cls:=.type "list", data:=.seq its'.toArray n' }:=by
  rw [Heap.get?_update_self f ho (by rw [hf] <;> rfl),hf]
 refine I.write (x:=p) (e:=p) (by rw [h];trivial) (.inl rfl) (λb u hb q=>(Heap.get?_update_other _ _ (Ne.symm hb)).trans q) ⟨_,e⟩ ?_
 exact⟨hz,its',n',r,e⟩
noncomputable def zh:V->V->V->Hp->(Hp->Prop)->Prop:=λo i v H Q=>∃p xs k j,o=.ref p/\i=.int k/\H p=some (.lst xs)/\ixN xs.length k=some j/\Q (upd H p (.lst (xs.set j v)))
theorem lU:zI X zh:=by
 intro pins s σ H o i v ov iv u Q I ro ri rv h
 obtain⟨p,xs,k,j,rfl,rfl,hp,hj,q⟩:=h
 cases ro
 obtain⟨t,rfl⟩:=ri
 obtain⟨its,n,r,ho,hz⟩:=I.lst hp
 obtain⟨h1,h2,h3,h4⟩:=pD hj
 have hl:=r.length
 have hn:=ia
 have I':Inv X pins σ (upd H p (.lst (xs.set j v))) { s with heap:=s.heap.update p (Obj.mapSeq (·.setIfInBounds j u)) }:=
  I.lstUpd hp ho (nR its n j u) (r.set rv j) (by rw [List.length_set];exact hz) s.toks
 by_cases h0:0<=k
 ·have hk:k.toNat=j:=by
   rw [seqIndex_of h0 h4]at h1
   exact Option.some.inj h1
  exact PySem.W.ki_setAt ho h0 (by omega) (by rw [List.size_toArray,<- hl];exact h4) (by rw [hk];exact⟨_,I',q⟩)
 ·have hk:(k+(its.toArray.size:Int)).toNat=j:=by
   rw [seqIndex_neg (by omega) h3]at h1
   rw [List.size_toArray,<- hl]
   exact Option.some.inj h1
  exact PySem.W.ki_setBack ho (by omega) (by rw [List.size_toArray,<- hl];exact h3) (by omega) (by rw [hk];exact⟨_,I',q⟩)
theorem kL (lo hi:Option Int) (n:Nat):(sliceBounds lo hi none n).1=((HT.sIx n 0 lo:Nat):Int)/\(sliceBounds lo hi none n).2.1=((HT.sIx n n hi:Nat):Int)/\(sliceBounds lo hi none n).2.2=1:=by
 refine⟨?_,?_,rfl⟩
 ·cases lo with
  | none=>simp [sliceBounds,HT.sIx]
  | some i=>
   simp only [sliceBounds,HT.sIx,Option.getD_none,show (1:Int) > 0 by decide,if_true]
   by_cases h:i < 0
   ·simp only [h,if_true] <;> omega
   ·simp only [h,if_false] <;> omega
 ·cases hi with
  | none=>simp [sliceBounds,HT.sIx]
  | some i=>
   simp only [sliceBounds,HT.sIx,Option.getD_none,show (1:Int) > 0 by decide,if_true]
   by_cases h:i < 0
   ·simp only [h,if_true] <;> omega
   ·simp only [h,if_false] <;> omega
theorem js (its:List Value) (lo hi:Option Int):slicePick its.toArray lo hi none=((its.drop (HT.sIx its.length 0 lo)).take (HT.sIx its.length its.length hi - HT.sIx its.length 0 lo)).toArray:=by
 obtain⟨h1,h2,h3⟩:=kL lo hi its.toArray.size
 unfold slicePick
 rw [h1,h2,h3]
 simp only [sliceRange_one,pick_run,List.size_toArray] <;> rfl
inductive zf (K:PySem.W.Frag) (x:V) (lo:Option Int) (hi:Option Int) (H:Hp) (Q:VK):Prop
 | mk (a xs) (h1:x=.ref a) (h2:SqL K H a xs) (h3:∀p,H p=none->Q (.ref p) (upd H p (.lst (da xs lo hi)))):zf K x lo hi H Q
theorem bN:SlR X (zf X.K):=by
 intro pins s σ H x v vl vu lo hi sl Q I rx hs pl pu h
 obtain⟨a,xs,rfl,hx,q⟩:=h
 cases rx
 obtain⟨its,r,ht,hz⟩:=I.list hx
 have hlen:=r.length
 refine⟨"list", _,slot_list_getitem.lookup,ht.isList.typeIs,?_⟩
 refine wpAny_getItem_list_slice ht.isList hs pl pu .none (by simp) ?_ (by rw [List.size_toArray] <;> omega)
 rw [js,<- hlen]
 refine⟨.ref s.heap.objs.size,_,I.laid (t':=s.toks) (o:=.lst (da xs lo hi)) (λb ob q=>Heap.get?_push_of_some _ q) (Nat.le_refl _) ?_,rfl,q _ (I.hok.fresh (Nat.le_refl _))⟩
 exact⟨Nat.le_trans (dz xs lo hi) hz,_,0,(r.drop (HT.sIx xs.length 0 lo)).take (HT.sIx xs.length xs.length hi - HT.sIx xs.length 0 lo),Heap.get?_push_size _ rfl⟩
noncomputable def gU:V->Bool
 | .non=>true
 | .bl _=>true
 | .int _=>true
 | .str _=>true
 | _=>false
noncomputable def eqV:V->V->Bool
 | .non,.non=>true
 | .bl a,.bl b=>a == b
 | .bl a,.int b=>(if a then 1 else 0) == b
 | .int a,.bl b=>a == (if b then 1 else 0)
 | .int a,.int b=>a == b
 | .str a,.str b=>a == b
 | _,_=>false
theorem yt {A:Around}{s:Shared}{y x:V}{u v:Value} (ry:bg y u) (rx:bg x v) (fy:gU y=true) (fx:gU x=true):SeqAt.EqAt A s u v (eqV y x):=by
 cases y with
 | non=>
  cases ry
  cases x with
  | non=>cases rx;exact SeqAt.EqAt.same _
  | bl b=>cases rx;exact SeqAt.EqAt.none_bool b
  | int b=>obtain⟨t,rfl⟩:=rx;exact SeqAt.EqAt.none_int b t
  | str b=>obtain⟨t,rfl⟩:=rx;exact SeqAt.EqAt.none_str b t
  | _=>exact absurd (show false=true from fx) Bool.false_ne_true
 | bl a=>
  cases ry
  cases x with
  | non=>cases rx;exact SeqAt.EqAt.bool_none a
  | bl b=>cases rx;exact SeqAt.EqAt.bool_bool a b
  | int b=>obtain⟨t,rfl⟩:=rx;exact SeqAt.EqAt.bool_int a b t
  | str b=>obtain⟨t,rfl⟩:=rx;exact SeqAt.EqAt.bool_str a b t
  | _=>exact absurd (show false=true from fx) Bool.false_ne_true
 | int a=>
  obtain⟨t',rfl⟩:=ry
  cases x with
  | non=>cases rx;exact SeqAt.EqAt.int_none a t'
  | bl b=>cases rx;exact SeqAt.EqAt.int_bool a t' b
  | int b=>obtain⟨t,rfl⟩:=rx;exact SeqAt.EqAt.int_int a t' b t
  | str b=>obtain⟨t,rfl⟩:=rx;exact SeqAt.EqAt.int_str a t' b t
  | _=>exact absurd (show false=true from fx) Bool.false_ne_true
 | str a=>
  obtain⟨t',rfl⟩:=ry
  cases x with
  | non=>cases rx;exact SeqAt.EqAt.str_none a t'
  | bl b=>cases rx;exact SeqAt.EqAt.str_bool a t' b
  | int b=>obtain⟨t,rfl⟩:=rx;exact SeqAt.EqAt.str_int a t' b t
  | str b=>obtain⟨t,rfl⟩:=rx;exact SeqAt.EqAt.str_str a t' b t
  | _=>exact absurd (show false=true from fx) Bool.false_ne_true
 | _=>exact absurd (show false=true from fy) Bool.false_ne_true
noncomputable def eqU (x:V) (u:Value):Bool:=match u with
 | .none=>eqV .non x
 | .bool b=>eqV (.bl b) x
 | .int i _=>eqV (.int i) x
 | .str z _=>eqV (.str z) x
 | _=>false
theorem tS {x y:V}{u:Value} (r:bg y u) (f:gU y=true):eqU x u=eqV y x:=by
 cases y with
 | non=>cases r;rfl
 | bl b=>cases r;rfl
 | int i=>obtain⟨t,rfl⟩:=r;rfl
 | str z=>obtain⟨t,rfl⟩:=r;rfl
 | _=>exact absurd (show false=true from f) Bool.false_ne_true
theorem hG {x:V}:∀{xs:List V}{us:List Value},aX xs us->xs.all gU=true->us.any (eqU x)=xs.any λy=>eqV y x
 | _,_,.nil,_=>rfl
 | y::xs,u::us,.cons r t,f=>by
  rw [List.all_cons,Bool.and_eq_true]at f
  rw [List.any_cons,List.any_cons,tS r f.1,hG t f.2]
theorem fj {A:Around}{s:Shared}{x:V}{v:Value} (rx:bg x v) (fx:gU x=true):∀{xs:List V}{us:List Value},aX xs us->xs.all gU=true->∀u∈us,SeqAt.EqAt A s u v (eqU x u)
 | _,_,.nil,_=>λu hu=>by cases hu
 | y::xs,u::us,.cons r t,f=>λu' hu=>by
  rw [List.all_cons,Bool.and_eq_true]at f
  rcases List.mem_cons.mp hu with rfl | hu
  ·rw [tS r f.1];exact yt r rx f.1 fx
  ·exact fj rx fx t f.2 u' hu
noncomputable def inV (x:V) (xs:List V):Bool:=xs.any λy=>eqV y x
inductive rIn (K:PySem.W.Frag) (neg:Bool) (x:V) (y:V) (H:Hp) (Q:VK):Prop
 | mk (p xs) (h1:y=.ref p) (h2:(SqL K H p xs\/SqT K H p xs)) (h3:gU x=true) (h4:xs.all gU=true) (h5:Q (.bl (if neg then !inV x xs else inV x xs)) H):rIn K neg x y H Q
theorem bw:OpR X (compareOp .In) (rIn X.K false):=by
 intro pins s σ H x y v u Q I rx ry h
 obtain⟨p,xs,rfl,hq,fx,fs,q⟩:=h
 cases ry
 rcases hq with hq | hq
 ·obtain⟨its,r,pl,hz⟩:=I.list hq
  refine SeqAt.in_listAt (eqU x) pl.isList (λw hw=>fj rx fx r fs w (by simpa using hw)) ⟨.bl _,H,I,rfl,?_⟩
  rw [show its.toArray.any (eqU x)=its.any (eqU x) by simp,hG r fs]
  exact q
 ·obtain⟨its,r,pl,hz⟩:=I.tuple hq
  refine SeqAt.in_tupleAt (eqU x) pl (λw hw=>fj rx fx r fs w (by simpa using hw)) ⟨.bl _,H,I,rfl,?_⟩
  rw [show its.toArray.any (eqU x)=its.any (eqU x) by simp,hG r fs]
  exact q
theorem ll:OpR X (compareOp .NotIn) (rIn X.K true):=by
 intro pins s σ H x y v u Q I rx ry h
 obtain⟨p,xs,rfl,hq,fx,fs,q⟩:=h
 cases ry
 rcases hq with hq | hq
 ·obtain⟨its,r,pl,hz⟩:=I.list hq
  refine SeqAt.notIn_listAt (eqU x) pl.isList (λw hw=>fj rx fx r fs w (by simpa using hw)) ⟨.bl _,H,I,rfl,?_⟩
  rw [show its.toArray.any (eqU x)=its.any (eqU x) by simp,hG r fs]
  exact q
 ·obtain⟨its,r,pl,hz⟩:=I.tuple hq
  refine SeqAt.notIn_tupleAt (eqU x) pl (λw hw=>fj rx fx r fs w (by simpa using hw)) ⟨.bl _,H,I,rfl,?_⟩
  rw [show its.toArray.any (eqU x)=its.any (eqU x) by simp,hG r fs]
  exact q
theorem aQ:cO X (.builtin "len") (λxs H Q=>∃p ys,xs=[.ref p]/\(SqL X.K H p ys\/SqT X.K H p ys)/\Q (.int ys.length) H):=by
 intro pins s σ H xs us Q I r h
 obtain⟨p,ys,rfl,hq,q⟩:=h
 obtain⟨u,rfl,rx⟩:=dn r
 cases rx
 have hn:=ia
 rcases hq with hq | hq
 ·obtain⟨its,r',pl,hz⟩:=I.list hq
  have hlen:=r'.length
  exact Calls.call_len_list pl.isList (by simp only [List.size_toArray] <;> omega) ⟨.int ys.length,H,I.tok _,⟨s.toks+1,by rw [List.size_toArray,hlen]⟩,q⟩
 ·obtain⟨its,r',pl,hz⟩:=I.tuple hq
  have hlen:=r'.length
  exact len_tuple pl (by simp only [List.size_toArray] <;> omega) ⟨.int ys.length,H,I.tok _,⟨s.toks+1,by rw [List.size_toArray,hlen]⟩,q⟩
theorem dc:cO X (.builtin "len") (λxs H Q=>∃z,xs=[.str z]/\z.length<=sizeLine/\Q (.int z.length) H):=by
 intro pins s σ H xs us Q I r h
 obtain⟨z,rfl,hz,q⟩:=h
 obtain⟨u,rfl,t,rfl⟩:=dn r
 have hn:=ia
 exact len_str (by omega) ⟨.int z.length,H,I.tok _,⟨_,rfl⟩,q⟩
theorem db:cO X (.type "list") (λxs H Q=>∃p ys,xs=[.ref p]/\(SqL X.K H p ys\/SqT X.K H p ys)/\∀l,H l=none->Q (.ref l) (upd H l (.lst ys))):=by
 intro pins s σ H xs us Q I r h
 obtain⟨p,ys,rfl,hq,q⟩:=h
 obtain⟨u,rfl,rx⟩:=dn r
 cases rx
 have fin:∀(its:List Value),aX ys its->ys.length<=sizeLine->∀(h':Heap) (c':Nat),(∀b o',s.heap.get? b=some o'->h'.get? b=some o')->
   h'.get? s.heap.objs.size=some { cls:=.type "list", dict:=none,data:=.seq its.toArray c',slots:=#[] }->EP X pins σ Q (.ref s.heap.objs.size) { s with heap:=h' }:=λits r' hz h' c' kp e=>
  ⟨.ref s.heap.objs.size,_,I.laid (t':=s.toks) kp (Nat.le_refl _) (show bB X.prog X.w _ h' _ (.lst ys) from ⟨hz,its,c',r',e⟩),rfl,q _ (I.hok.fresh (Nat.le_refl _))⟩
 rcases hq with hq | hq
 ·obtain⟨its,r',pl,hz⟩:=I.list hq
  have hlen:=r'.length
  obtain⟨o,ho,hc,n,hd⟩:=pl.isList
  exact call_list_seq p (.inl rfl) ho hc hd (λh' c' kp e=>fin its r' hz h' c' kp e) (by simp only [List.size_toArray] <;> omega)
 ·obtain⟨its,r',pl,hz⟩:=I.tuple hq
  have hlen:=r'.length
  obtain⟨o,ho,hc,n,hd⟩:=pl
  exact call_list_seq p (.inr rfl) ho hc hd (λh' c' kp e=>fin its r' hz h' c' kp e) (by simp only [List.size_toArray] <;> omega)
noncomputable def tyV (K:PySem.W.Frag) (T:String) (x:V) (H:Hp):Prop:=match x with
 | .str _=>T = "str"
 | .int _=>T = "int"
 | .ref p=>(T = "list"/\∃xs,SqL K H p xs)\/(T = "tuple"/\∃o,K.lookup p=some o/\o.cls=.type "tuple"/\o.dict=none)\/
   (T = "dict"/\((∃kvs,H p=some (.dK kvs))\/∃kvs,H p=some (.dT kvs)))\/(T = "set"/\∃S n,H p=some (.set S n))
 | _=>False
theorem wL {pins:List (Addr × Obj)}{σ:St}{H:Hp}{s:Shared}{T:String}{x:V}{v:Value} (I:Inv X pins σ H s) (r:bg x v) (ty:tyV X.K T x H) :
  s.TypeIs v T/\∀a,v=.ref a->∃ob,s.heap.get? a=some ob/\ob.dict=none:=by
 cases x with
 | str z=>
  obtain⟨t,rfl⟩:=r
  cases (show T = "str" from ty)
  exact⟨typeIs_str s z t,λ_ e=>nomatch e⟩
 | int i=>
  obtain⟨t,rfl⟩:=r
  cases (show T = "int" from ty)
  exact⟨typeIs_int s i t,λ_ e=>nomatch e⟩
 | ref p=>
  cases r
  rcases ty with⟨rfl,xs,hq⟩ | ⟨rfl,o,hk,hc,hd⟩ | ⟨rfl,hk⟩ | ⟨rfl,S,n,hk⟩
  ·obtain⟨its,_,pl,_⟩:=I.list hq
   refine⟨pl.isList.typeIs,λa e=>?_⟩
   cases e
   obtain⟨o,n,e,c,hd,_⟩:=pl
   exact⟨o,e,hd⟩
  ·refine⟨⟨o,I.kIn p o hk,hc⟩,λa e=>?_⟩
   cases e
   exact⟨o,I.kIn _ o hk,hd⟩
  ·have z:∃o,s.heap.get? p=some o/\o.ExactDict:=by
    rcases hk with⟨kvs,hk⟩ | ⟨kvs,hk⟩
    ·obtain⟨_,_,_,_,o,_,_,e,ex,_⟩:=I.hok p _ hk
     exact⟨o,e,ex⟩
    ·obtain⟨_,_,_,_,o,_,_,e,ex,_⟩:=I.hok p _ hk
     exact⟨o,e,ex⟩
   obtain⟨o,e,ex⟩:=z
   refine⟨⟨o,e,ex.1⟩,λa e2=>?_⟩
   cases e2
   exact⟨o,e,ex.2.1⟩
  ·obtain⟨o,_,_,_,e,ex,_⟩:=I.hok p _ hk
   refine⟨⟨o,e,ex.1⟩,λa e2=>?_⟩
   cases e2
   exact⟨o,e,ex.2.1⟩
 | _=>exact False.elim ty
noncomputable def tBM (K:PySem.W.Frag) (T:String) (r:V->List V->Hp->VK->Prop) (to:TE) (t:TA):TE:=λσ H Q=>to σ H λx H1=>tyV K T x H1/\t σ H1 λxs H2=>r x xs H2 Q
variable {o e:Expr}{es:List Expr}{to:TE}{t:TA}{name:Str}{apos cpos:Pos}{T id:String}{r:V->List V->Hp->VK->Prop}
theorem bW (pa:PlainAttrs T) (slot:Slot T name id) (hty:typeOf (.builtin id)=pure (.type "method_descriptor")) (hm:MtR X id r) (ho:PE X o to) (ha:PA X (e::es) t)
  (hbase:attributeBase o name X.env (eval o X.env)=eval o X.env:=by rfl)
  (hfew:((backTo cpos (starEach (e::es) X.env)).all (λx=>!x.1) && (backToKw cpos (keywordEach [] X.env)).all (λx=>x.1.isSome)
   && decide ((e::es).length+([]:List Keyword).length+(if ([]:List Keyword).isEmpty then 0 else 1) < 30))=true:=by rfl)
  (hline:(apos.endLine == cpos.line)=true:=by rfl) (hs:starEach (e::es) X.env=(false,eval e X.env)::starEach es X.env:=by rfl) (hplain:(backTo cpos (starEach es X.env)).any (·.1)=false:=by rfl) :
  PE X (.Call (.Attribute o name apos) (e::es) [] cpos) (tBM X.K T r to t):=by
 intro pins s σ H Q I h
 refine wpAny_Call_method_late hbase hfew hline rfl (thn (ho pins s σ H _ I h) λv s1 ⟨x,H1,I1,r1,ty,q1⟩=>?_)
 obtain⟨h1,h2⟩:=wL I1 r1 ty
 refine⟨T,id,pa,slot,hty,h1,h2,?_⟩
 have hA:=ha cpos pins s1 σ H1 _ I1 q1
 rw [hs]at hA ⊢
 refine Calls.callWith_builtin (by show (false || (backTo cpos (starEach es X.env)).any (·.1))=false;rw [hplain] <;> rfl) (Calls.evalArgs_plain ?_)
 exact thn hA λus s2 ⟨vs,H2,I2,r2,q2⟩=>hm pins s2 σ H2 x vs v us Q I2 r1 r2 q2
end
end L2
namespace L2
open PySem PySem.Spec PyProof.Rows
noncomputable def MtM (X:Cx) (id:String) (r:V->List V->Hp->VK->Prop):Prop:=
 ∀(pins:List (Addr × Obj)) (s:Shared) (σ:St) (H:Hp) (x:V) (xs:List V) (v:Value) (us:List Value) (Q:VK),Inv X pins σ H s->bg x v->aX xs us->r x xs H Q->
  wpAny (model X.prog X.w) X.A (call (.builtin id) (v::us)) (EP X pins σ Q) X.xe s
theorem aX.one:∀{x:V}{us:List Value},aX [x] us->∃u,us=[u]/\bg x u
 | _,_,.cons r .nil=>⟨_,rfl,r⟩
theorem aX.eraseIdx:∀{xs:List V}{us:List Value} (i:Nat),aX xs us->aX (xs.eraseIdx i) (us.eraseIdx i)
 | _,_,_,.nil=>.nil
 | _,_,0,.cons _ t=>t
 | _,_,i+1,.cons r t=>.cons r (aX.eraseIdx i t)
theorem aX.rep {xs:List V}{us:List Value} (h:aX xs us):∀k:Nat,aX (List.replicate k xs).flatten (List.replicate k us).flatten
 | 0=>.nil
 | k+1=>by
  rw [List.replicate_succ,List.replicate_succ,List.flatten_cons,List.flatten_cons]
  exact aX.append h (aX.rep h k)
theorem jS {α:Type}:∀(l:List α) (i:Nat),(l.eraseIdx i).length<=l.length
 | [],_=>Nat.le_refl _
 | _::_,0=>Nat.le_succ _
 | _::r,i+1=>Nat.succ_le_succ (jS r i)
theorem jY (its:List Value):∀(k:Nat) (acc:List Value),
  List.foldl (λx1 x2=>x1++x2) acc.toArray (List.replicate k its.toArray)=(acc++(List.replicate k its).flatten).toArray
 | 0,acc=>by simp
 | k+1,acc=>by
  have e:acc.toArray++its.toArray=(acc++its).toArray:=by simp
  have e2:(acc++its)++(List.replicate k its).flatten=acc++(List.replicate (k+1) its).flatten:=by
   rw [List.replicate_succ,List.flatten_cons,List.append_assoc]
  rw [<- e2,<- jY its k (acc++its),<- e,List.replicate_succ,List.foldl_cons]
section
variable {X:Cx}{pins:List (Addr × Obj)}{σ:St}{H:Hp}{s:Shared}{l b:Addr}{xs ys zs:List V}
theorem Inv.lset {its its':List Value}{n:Nat}{f:Array Value->Array Value}{t':Nat} (I:Inv X pins σ H s) (hH:H l=some (.lst xs))
  (e:s.heap.get? l=some { cls:=.type "list", data:=.seq its.toArray n }) (hf:f its.toArray=its'.toArray) (hv:aX ys its') (hz:ys.length<=sizeLine) :
  Inv X pins σ (upd H l (.lst ys)) { s with heap:=s.heap.update l (Obj.mapSeq f),toks:=t' }:=by
 have q:=PySem.IsL.update e f
 rw [hf]at q
 refine I.write (x:=l) (e:=l) (by rw [hH];exact trivial) (.inl rfl) (λb' u hb hu=>(Heap.get?_update_other s.heap (Obj.mapSeq f) (Ne.symm hb)).trans hu) ⟨_,q⟩ ?_
 exact⟨hz,its',_,hv,q⟩
theorem Inv.lnew {its:List Value}{t':Nat} (I:Inv X pins σ H s) (hv:aX ys its) (hz:ys.length<=sizeLine) :
  Inv X pins σ (upd H s.heap.objs.size (.lst ys)) { s with heap:=s.heap.push { cls:=.type "list", data:=.seq its.toArray },toks:=t' }:=
 I.laid (λ_ _ q=>Heap.get?_push_of_some _ q) (Nat.le_refl _) ⟨hz,its,0,hv,Heap.get?_push_size _ rfl⟩
theorem Inv.fresh (I:Inv X pins σ H s):H s.heap.objs.size=none:=I.hok.fresh (Nat.le_refl _)
theorem Inv.lstM (I:Inv X pins σ H s) (hH:H l=some (.lst xs)):xs.length<=sizeLine/\∃(its:List Value) (n:Nat),aX xs its/\xs.length=its.length/\s.heap.get? l=some { cls:=.type "list", data:=.seq its.toArray n }:=by
 obtain⟨z,its,n,r,e⟩:=I.hok l _ hH
 exact⟨z,its,n,r,r.length,e⟩
theorem mi {n:Nat} (h:n<=sizeLine):Builtin.List.listTooLong n=false:=by
 unfold Builtin.List.listTooLong
 exact decide_eq_false (by omega)
end
section
variable {X:Cx}
inductive oX (x:V) (vs:List V) (H:Hp) (Q:VK):Prop
 | mk (l xs y) (h1:x=.ref l) (h2:vs=[y]) (h3:H l=some (.lst xs)) (h4:xs.length < sizeLine) (h5:Q .non (upd H l (.lst (xs++[y])))):oX x vs H Q
theorem df:MtM X "list.append" oX:=by
 intro pins s σ H x vs v us Q I rx rv h
 obtain⟨l,xs,y,rfl,rfl,hH,hz,q⟩:=h
 cases rx
 obtain⟨u,rfl,ru⟩:=rv.one
 obtain⟨z,its,n,r,hl,e⟩:=I.lstM hH
 refine call_meets F.slot_list_append ⟨_,e,rfl⟩ F.entry_list_append (F.args_list_append_2 _ _) (PySem.list_append l its.toArray n u (by rw [List.size_toArray];omega)) ⟨e,?_⟩
 refine⟨.non,_,I.lset (its':=its++[u]) hH e (by simp) (r.append (.cons ru .nil)) ?_,rfl,q⟩
 rw [List.length_append,List.length_singleton]
 omega
noncomputable def uL:V->List V->Hp->VK->Prop:=λx vs H Q=>∃l b xs zs,x=.ref l/\vs=[.ref b]/\H l=some (.lst xs)/\H b=some (.lst zs)/\xs.length+zs.length<=sizeLine/\Q .non (upd H l (.lst (xs++zs)))
theorem jP:MtM X "list.extend" uL:=by
 intro pins s σ H x vs v us Q I rx rv h
 obtain⟨l,b,xs,zs,rfl,rfl,hH,hB,hz,q⟩:=h
 cases rx
 obtain⟨u,rfl,ru⟩:=rv.one
 cases ru
 obtain⟨z,its,n,r,hl,e⟩:=I.lstM hH
 obtain⟨z2,its2,n2,r2,hl2,e2⟩:=I.lstM hB
 have hsz:its.toArray.size+its2.toArray.size<=sizeLine:=by rw [List.size_toArray,List.size_toArray];omega
 have hlong:¬(!its.toArray.isEmpty && Builtin.List.listTooLong (its.toArray.size+its2.toArray.size))=true:=by
  rw [mi hsz,Bool.and_false]
  exact Bool.false_ne_true
 refine call_meets F.slot_list_extend ⟨_,e,rfl⟩ F.entry_list_extend (F.args_list_extend_2 _ _)
  (AutoSeq1.list_extend_list_list_0 l its.toArray n b its2.toArray n2 hlong (by rw [List.size_toArray];omega) (by omega)) ⟨e,e2,?_⟩
 refine⟨.non,_,I.lset (its':=its++its2) hH e (by simp) (r.append r2) ?_,rfl,q⟩
 rw [List.length_append]
 omega
noncomputable def xC:V->List V->Hp->VK->Prop:=λx vs H Q=>∃l xs i k y,x=.ref l/\vs=[.int i]/\H l=some (.lst xs)/\-(2 ^ 63)<=i/\i < 2 ^ 63/\seqIndex? i xs.length=some k/\xs[k]?=some y/\Q y (upd H l (.lst (xs.eraseIdx k)))
theorem mn:MtM X "list.pop" xC:=by
 intro pins s σ H x vs v us Q I rx rv h
 obtain⟨l,xs,i,k,y,rfl,rfl,hH,h1,h2,hk,hy,q⟩:=h
 cases rx
 obtain⟨u,rfl,ru⟩:=rv.one
 obtain⟨t,rfl⟩:=ru
 obtain⟨z,its,n,r,hl,e⟩:=I.lstM hH
 obtain⟨w,hw,rw'⟩:=r.get hy
 refine call_meets F.slot_list_pop ⟨_,e,rfl⟩ F.entry_list_pop (F.args_list_pop_2 _ _)
  (MeetsSeq.list_pop_at l its.toArray n i t k w (fitsIndex_both h1 h2) (by rw [List.size_toArray,<- hl];exact hk) (by rw [<- Array.getElem?_toList];exact hw) (by rw [List.size_toArray];omega)) ⟨e,?_⟩
 refine⟨y,_,I.lset (its':=its.eraseIdx k) hH e ?_ (r.eraseIdx k) ?_,rw',q⟩
 ·show its.toArray.eraseIdxIfInBounds k=(its.eraseIdx k).toArray
  rw [List.eraseIdxIfInBounds_toArray]
 ·have:=jS xs k
  omega
inductive uM (x:V) (y:V) (H:Hp) (Q:VK):Prop
 | mk (l b xs zs) (h1:x=.ref l) (h2:y=.ref b) (h3:H l=some (.lst xs)) (h4:H b=some (.lst zs)) (h5:xs.length+zs.length<=sizeLine) (h6:∀p,H p=none->Q (.ref p) (upd H p (.lst (xs++zs)))):uM x y H Q
theorem bK:OpR X (binaryOp .Add) uM:=by
 intro pins s σ H x y v u Q I rx ry h
 obtain⟨l,b,xs,zs,rfl,rfl,hH,hB,hz,q⟩:=h
 cases rx
 cases ry
 obtain⟨z,its,n,r,hl,e⟩:=I.lstM hH
 obtain⟨z2,its2,n2,r2,hl2,e2⟩:=I.lstM hB
 refine PySem.P.add_list e e2 ?_ (by rw [List.size_toArray,List.size_toArray];omega)
 have ea:its.toArray++its2.toArray=(its++its2).toArray:=by simp
 rw [ea]
 exact⟨.ref _,_,I.lnew (t':=s.toks) (r.append r2) (by rw [List.length_append];omega),rfl,q _ I.fresh⟩
noncomputable def A1:R2:=λx y H Q=>∃l k xs,x=.ref l/\y=.int k/\H l=some (.lst xs)/\-(2 ^ 63)<=k/\k < 2 ^ 63/\xs.length * k.toNat<=sizeLine/\
 ∀p,H p=none->Q (.ref p) (upd H p (.lst (List.replicate k.toNat xs).flatten))
theorem vt {α:Type} (xs:List α) (k:Nat):(List.replicate k xs).flatten.length=k * xs.length:=by
 induction k with
 | zero=>simp
 | succ k ih=>rw [List.replicate_succ,List.flatten_cons,List.length_append,ih,Nat.succ_mul,Nat.add_comm]
theorem sB:OpR X (binaryOp .Mult) A1:=by
 intro pins s σ H x y v u Q I rx ry h
 obtain⟨l,k,xs,rfl,rfl,hH,h1,h2,hz,q⟩:=h
 cases rx
 obtain⟨t,rfl⟩:=ry
 obtain⟨z,its,n,r,hl,e⟩:=I.lstM hH
 have hlen:its.toArray.size * k.toNat<=sizeLine:=by rw [List.size_toArray,<- hl];exact hz
 have hcap:¬its.toArray.size * k.toNat > (2 ^ 63 - 1) / 8:=by
  have:(sizeLine:Nat)<=(2 ^ 63 - 1) / 8:=by decide
  omega
 have hfit:¬(!Builtin.List.listFitsIndex k)=true:=by
  rw [fitsIndex_both h1 h2]
  exact Bool.false_ne_true
 have hlong:¬Builtin.List.listTooLong (its.toArray.size * k.toNat)=true:=by
  rw [mi hlen]
  exact Bool.false_ne_true
 have hnew:List.foldl (λx1 x2=>x1++x2) #[] (List.replicate (if its.toArray.isEmpty=true then 0 else k.toNat) its.toArray)=(List.replicate k.toNat its).flatten.toArray:=by
  have f0:∀m:Nat,List.foldl (λx1 x2=>x1++x2) #[] (List.replicate m its.toArray)=(List.replicate m its).flatten.toArray:=λm=>by
   have:=jY its m []
   rw [List.nil_append]at this
   exact this
  rw [f0]
  cases its with
  | nil=>simp
  | cons a r'=>rw [if_neg (by simp)]
 refine wpAny_binaryOp_repeat_ref (T:="list") (U:="int") (by decide) ⟨_,e,rfl⟩ (λs'=>typeIs_int s' k t) noFill_list_mul F.fills_int_mul F.slot_int_rmul repeat_list F.slot_int_index.lookup
  (call_meets F.slot_int_rmul (typeIs_int s k t) F.entry_int_rmul (F.args_int_rmul_2 _ _) (int___rmul___int_list k t l its.toArray n)
   ⟨e,rfl,⟨_,e,rfl⟩,call_meets F.slot_list_mul ⟨_,e,rfl⟩ F.entry_list_mul (F.args_list_mul_2 _ _) (AutoListH.list___mul___list_int_3 l its.toArray n k t hfit hcap hlong) ⟨e,?_⟩⟩)
 rw [hnew]
 exact⟨.ref _,_,I.lnew (t':=s.toks) (r.rep k.toNat) (by rw [vt,Nat.mul_comm];exact hz),rfl,q _ I.fresh⟩
end
section
variable {prog:Program}{w:World}{A:Around}{E:Value->Shared->Prop}{s:Shared}
end
section
variable {X:Cx}
end
end L2
namespace L2
open PySem PySem.Spec PyProof.Rows
section
variable {κ:Type} [DecidableEq κ]
noncomputable def valV (kvs:List (κ × V)) (k:κ):Option V:=(kvs.find? λkv=>decide (kv.1=k)).map (·.2)
noncomputable def dZ (kvs:List (κ × V)) (k:κ) (v:V):List (κ × V):=
 if (kvs.any λkv=>decide (kv.1=k))=true then kvs.map (λkv=>if kv.1=k then (kv.1,v) else kv) else kvs++[(k,v)]
theorem bZ {p:κ × V}{r:List (κ × V)}{k:κ} (e:p.1=k):valV (p::r) k=some p.2:=by simp [valV,List.find?_cons,e]
theorem cb {p:κ × V}{r:List (κ × V)}{k:κ} (e:¬p.1=k):valV (p::r) k=valV r k:=by simp [valV,List.find?_cons,e]
theorem gp (k:κ):∀kvs:List (κ × V),(kvs.any λkv=>decide (kv.1=k))=(valV kvs k).isSome
 | []=>rfl
 | p::r=>by
  rw [List.any_cons]
  by_cases e:p.1=k
  ·simp only [bZ e,decide_eq_true e,Bool.true_or,Option.isSome_some]
  ·rw [cb e,decide_eq_false e,Bool.false_or];exact gp k r
theorem lG (k j:κ) (y:V):∀kvs:List (κ × V),valV (kvs.map λkv=>if kv.1=k then (kv.1,y) else kv) j=(valV kvs j).map λx=>if j=k then y else x
 | []=>rfl
 | p::r=>by
  have ih:=lG k j y r
  rw [List.map_cons]
  by_cases h:p.1=k
  ·rw [if_pos h]
   by_cases e:p.1=j
   ·rw [bZ (p:=(p.1,y)) e,bZ e,Option.map_some,if_pos (e.symm.trans h)]
   ·rw [cb (p:=(p.1,y)) e,cb e,ih]
  ·rw [if_neg h]
   by_cases e:p.1=j
   ·rw [bZ (p:=p) e,bZ e,Option.map_some,if_neg (λz=>h (e.trans z))]
   ·rw [cb (p:=p) e,cb e,ih]
theorem jy (k j:κ) (y:V):∀kvs:List (κ × V),valV kvs k=none->valV (kvs++[(k,y)]) j=if j=k then some y else valV kvs j
 | [],_=>by
  by_cases e:k=j
  ·rw [if_pos e.symm];exact bZ (p:=(k,y)) e
  ·rw [if_neg (λz=>e z.symm)];exact cb (p:=(k,y)) e
 | p::r,hn=>by
  rw [List.cons_append]
  have hk:¬p.1=k:=λz=>by rw [bZ z]at hn;cases hn
  rw [cb hk]at hn
  have ih:=jy k j y r hn
  by_cases e:p.1=j
  ·rw [bZ e,bZ e,if_neg (λz=>hk (e.trans z))]
  ·rw [cb e,cb e,ih]
theorem qM (kvs:List (κ × V)) (k j:κ) (y:V):valV (dZ kvs k y) j=if j=k then some y else valV kvs j:=by
 unfold dZ
 by_cases a:(kvs.any λkv=>decide (kv.1=k))=true
 ·rw [if_pos a,lG]
  rw [gp]at a
  by_cases e:j=k
  ·obtain⟨x,hx⟩:=Option.isSome_iff_exists.mp a
   rw [if_pos e,e,hx,Option.map_some,if_pos rfl]
  ·rw [if_neg e]
   cases valV kvs j with
   | none=>rfl
   | some x=>rw [Option.map_some,if_neg e]
 ·rw [if_neg a]
  refine jy k j y kvs ?_
  rw [gp]at a
  cases q:valV kvs k with
  | none=>rfl
  | some x=>rw [q]at a;exact(a rfl).elim
theorem dw (kvs:List (κ × V)) (k:κ) (v:V):(dZ kvs k v).length<=kvs.length+1:=by
 unfold dZ
 split
 ·rw [List.length_map];omega
 ·rw [List.length_append,List.length_cons,List.length_nil];omega
theorem dQ.isSome_eq {o:Option V}{u:Option Value} (r:dQ o u):o.isSome=u.isSome:=by
 cases o with
 | none=>cases u with
  | none=>rfl
  | some _=>exact(show False from r).elim
 | some _=>cases u with
  | none=>exact(show False from r).elim
  | some _=>rfl
theorem dQ.getD {o:Option V}{u:Option Value}{d:V}{d':Value} (r:dQ o u) (rd:bg d d'):bg (o.getD d) (u.getD d'):=by
 cases o with
 | none=>cases u with
  | none=>exact rd
  | some _=>exact(show False from r).elim
 | some _=>cases u with
  | none=>exact(show False from r).elim
  | some _=>exact r
theorem KV.val {kvs:List (κ × V)}{vs:List (κ × Value)} (r:KV kvs vs) (k:κ):dQ (valV kvs k) (valueAt vs k):=by
 unfold KV at r
 induction r with
 | nil=>exact True.intro
 | @cons p q ps qs h t ih=>
  obtain⟨h1,h2⟩:=h
  by_cases e:p.1=k
  ·have e':q.1=k:=h1.symm.trans e
   have b:valueAt (q::qs) k=some q.2:=by simp [valueAt,List.find?_cons,e']
   rw [bZ e,b];exact h2
  ·have e':¬q.1=k:=λz=>e (h1.trans z)
   have b:valueAt (q::qs) k=valueAt qs k:=by simp [valueAt,List.find?_cons,e']
   rw [cb e,b];exact ih
theorem KV.any {kvs:List (κ × V)}{vs:List (κ × Value)} (r:KV kvs vs) (k:κ):(kvs.any λkv=>decide (kv.1=k))=vs.any λkv=>decide (kv.1=k):=by
 unfold KV at r
 induction r with
 | nil=>rfl
 | cons h t ih=>rw [List.any_cons,List.any_cons,ih,h.1]
theorem KV.repl {kvs:List (κ × V)}{vs:List (κ × Value)} (r:KV kvs vs) (k:κ){y:V}{u:Value} (ry:bg y u) :
  KV (kvs.map λkv=>if kv.1=k then (kv.1,y) else kv) (vs.map λkv=>if kv.1=k then (kv.1,u) else kv):=by
 unfold KV at r ⊢
 induction r with
 | nil=>exact .nil
 | @cons p q ps qs h t ih=>
  rw [List.map_cons,List.map_cons]
  refine .cons ?_ ih
  obtain⟨h1,h2⟩:=h
  by_cases e:p.1=k
  ·rw [if_pos e,if_pos (h1.symm.trans e)];exact⟨h1,ry⟩
  ·rw [if_neg e,if_neg (λz=>e (h1.trans z))];exact⟨h1,h2⟩
theorem KV.put {kvs:List (κ × V)}{vs:List (κ × Value)} (r:KV kvs vs) (k:κ){y:V}{u:Value} (ry:bg y u):KV (dZ kvs k y) (stored vs k u):=by
 unfold dZ stored
 rw [r.any k]
 by_cases e:(vs.any λkv=>decide (kv.1=k))=true
 ·rw [if_pos e,if_pos e];exact r.repl k ry
 ·rw [if_neg e,if_neg e];exact Paired.snoc r ⟨rfl,ry⟩
theorem KV.length {kvs:List (κ × V)}{vs:List (κ × Value)} (r:KV kvs vs):kvs.length=vs.length:=Paired.length r
end
theorem pA {P:Program}{w:World}{k:Key}{u:Value} (r:bg (kV k) u):(bI P w).is k u=true:=by
 cases k with
 | inl i=>obtain⟨t,e⟩:=(show ∃t,u=Value.int i t from r);subst e;exact mq P w i t
 | inr x=>obtain⟨t,e⟩:=(show ∃t,u=Value.str x t from r);subst e;exact mo P w x t
theorem jU {P:Program}{w:World}:∀{ks:List Key}{us:List Value},aX (ks.map kV) us->ItemsAre (bI P w) ks us
 | [],_,r=>by rw [List.map_nil]at r;cases r;exact .nil
 | k::ks,_,r=>by
  rw [List.map_cons]at r
  cases r with
  | cons h t=>exact .cons (pA h) (jU t)
noncomputable abbrev KT (H:Hp):List (List Key × V)->List (List Key × Addr × Value)->Prop:=Paired λp q=>p.1=q.1/\H q.2.1=some (.tup (p.1.map kV))/\bg p.2 q.2.2
theorem KT.val {H:Hp}{kvs:List (List Key × V)}{xs:List (List Key × Addr × Value)} (r:KT H kvs xs) (k:List Key):dQ (valV kvs k) ((atKey xs k).map (·.2)):=by
 induction r with
 | nil=>exact True.intro
 | @cons p q ps qs h t ih=>
  obtain⟨h1,_,h2⟩:=h
  by_cases e:p.1=k
  ·have e':q.1=k:=h1.symm.trans e
   have b:atKey (q::qs) k=some q.2:=by simp [atKey,List.find?_cons,e']
   rw [bZ e,b];exact h2
  ·have e':¬q.1=k:=λz=>e (h1.trans z)
   have b:atKey (q::qs) k=atKey qs k:=by simp [atKey,List.find?_cons,e']
   rw [cb e,b];exact ih
theorem KT.repl {H:Hp}{kvs:List (List Key × V)}{xs:List (List Key × Addr × Value)} (r:KT H kvs xs) (k:List Key){y:V}{u:Value} (ry:bg y u) :
  KT H (kvs.map λkv=>if kv.1=k then (kv.1,y) else kv) (xs.map (putAt k u)):=by
 induction r with
 | nil=>exact .nil
 | @cons p q ps qs h t ih=>
  rw [List.map_cons,List.map_cons]
  refine .cons ?_ ih
  obtain⟨h1,h2,h3⟩:=h
  unfold putAt
  by_cases e:p.1=k
  ·rw [if_pos e,if_pos (h1.symm.trans e)];exact⟨h1,h2,ry⟩
  ·rw [if_neg e,if_neg (λz=>e (h1.trans z))];exact⟨h1,h2,h3⟩
theorem KT.put {H:Hp}{kvs:List (List Key × V)}{xs:List (List Key × Addr × Value)} (r:KT H kvs xs) (k:List Key){b:Addr}{y:V}{u:Value} (hb:H b=some (.tup (k.map kV))) (ry:bg y u) :
  KT H (dZ kvs k y) (storedH xs k b u):=by
 have e:(kvs.any λkv=>decide (kv.1=k))=(atKey xs k).isSome:=by
  rw [gp,(r.val k).isSome_eq,Option.isSome_map]
 unfold dZ storedH
 rw [e]
 by_cases q:(atKey xs k).isSome=true
 ·rw [if_pos q,if_pos q];exact r.repl k ry
 ·rw [if_neg q,if_neg q];exact Paired.snoc r ⟨rfl,hb,ry⟩
theorem KT.keeps {H H':Hp}{kvs:List (List Key × V)}{xs:List (List Key × Addr × Value)} (r:KT H kvs xs) (ht:∀b ys,H b=some (.tup ys)->H' b=some (.tup ys)):KT H' kvs xs:=
 Paired.mapP r λ_ _ z=>⟨z.1,ht _ _ z.2.1,z.2.2⟩
section
variable {P:Program}{w:World}{H:Hp}{h:Heap}{a:Addr}
theorem wj {u:HO} (ok:HOk P w H h) (e:Rd H a u):bB P w H h a u:=e.ok ok
theorem tV {kvs:List (Key × V)} (ok:HOk P w H h) (e:Rd H a (.dK kvs)):kvs.length<=sizeLine/\(a == sysModules)=false/\∃vs,KV kvs vs/\h.DictOf (bI P w) a vs:=
 show bB P w H h a (.dK kvs) from wj ok e
theorem wC {kvs:List (Key × V)} (ok:HOk P w H h) (e:H a=some (.dK kvs)):kvs.length<=sizeLine/\(a == sysModules)=false/\∃vs,KV kvs vs/\h.DictOf (bI P w) a vs:=tV ok (.inl e)
theorem nV {ks:List Key} (ok:HOk P w H h) (e:H a=some (.tup (ks.map kV))):(tupleKind (bI P w)).is h ks a:=by
 obtain⟨_,its,r,o,h1,h2,n,h3⟩:=(show bB P w H h a (.tup (ks.map kV)) from ok a _ e)
 exact⟨o,its.toArray,n,h1,h2,h3,by simpa using jU r⟩
theorem tU {kvs:List (List Key × V)} (ok:HOk P w H h) (e:Rd H a (.dT kvs)):kvs.length<=sizeLine/\(a == sysModules)=false/\
  ∃xs,KT H kvs xs/\h.DictOfH (tupleKind (bI P w)) a xs:=by
 obtain⟨z,y,xs,r,o,es,ep,h1,h2,h3,h4,h5⟩:=(show bB P w H h a (.dT kvs) from wj ok e)
 refine⟨z,y,xs,r,o,es,ep,h1,h2,h3,h4,λx hx=>?_,h5⟩
 have all:∀{l:List (List Key × V)}{m:List (List Key × Addr × Value)},KT H l m->∀x∈m,(tupleKind (bI P w)).is h x.1 x.2.1:=by
  intro l m q
  induction q with
  | nil=>intro x hx;exact nomatch hx
  | @cons p q ps qs hq t ih=>
   intro x hx
   rcases List.mem_cons.mp hx with e | hx
   ·subst e
    exact nV ok (by rw [<- hq.1];exact hq.2.1)
   ·exact ih x hx
 exact all r x hx
theorem zF {kvs:List (List Key × V)} (ok:HOk P w H h) (e:H a=some (.dT kvs)):kvs.length<=sizeLine/\(a == sysModules)=false/\
  ∃xs,KT H kvs xs/\h.DictOfH (tupleKind (bI P w)) a xs:=tU ok (.inl e)
end
noncomputable def ug (H:Hp) (a:Addr) (y:V) (r:Option V):Prop:=
 (∃kvs k,Rd H a (.dK kvs)/\y=kV k/\r=valV kvs k)\/∃kvs k b,Rd H a (.dT kvs)/\y=.ref b/\H b=some (.tup (k.map kV))/\r=valV kvs k
noncomputable def qF (H:Hp) (a:Addr) (y v:V) (H':Hp):Prop:=
 (∃kvs k,H a=some (.dK kvs)/\y=kV k/\kvs.length < sizeLine/\H'=upd H a (.dK (dZ kvs k v)))\/
 ∃kvs k b,H a=some (.dT kvs)/\y=.ref b/\H b=some (.tup (k.map kV))/\kvs.length < sizeLine/\H'=upd H a (.dT (dZ kvs k v))
theorem ug.k {H:Hp}{a:Addr}{kvs:List (Key × V)}{k:Key} (e:H a=some (.dK kvs)):ug H a (kV k) (valV kvs k):=.inl ⟨kvs,k,.inl e,rfl,rfl⟩
theorem qF.k {H:Hp}{a:Addr}{kvs:List (Key × V)}{k:Key}{v:V} (e:H a=some (.dK kvs)) (hl:kvs.length < sizeLine):qF H a (kV k) v (upd H a (.dK (dZ kvs k v))):=.inl ⟨kvs,k,e,rfl,hl,rfl⟩
section
variable {X:Cx}{pins:List (Addr × Obj)}{σ:St}{H:Hp}{s:Shared}{a:Addr}{y v:V}{u r:Value}{o:Option V}{A:Around}{E:Value->Shared->Prop}
theorem Inv.big (I:Inv X pins σ H s):sysModules < s.heap.objs.size:=by
 have h:mainGlobals < s.heap.objs.size:=(I.mod.glob.keeps I.bk).lt
 exact Nat.lt_trans (by decide) h
theorem lA {h':Heap}{t':Nat}{ob:HO} (I:Inv X pins σ H s) (mu:Mut (H a)) (hs:Heap.SameBut a s.heap h') (he:∃q,h'.get? a=some q) (new:bB X.prog X.w (upd H a ob) h' a ob) :
  Inv X pins σ (upd H a ob) { s with heap:=h',toks:=t' }:=
 I.write (x:=a) (e:=a) mu (.inl rfl) (λb q hb z=>(hs.2 b hb).trans z) he new
theorem tW {P:Program}{w:World}{H':Hp}{h':Heap}{kvs:List (Key × V)}{vs:List (Key × Value)} (z:kvs.length<=sizeLine) (hd:(a == sysModules)=false) (rel:KV kvs vs) (dd:h'.DictOf (bI P w) a vs) :
  bB P w H' h' a (.dK kvs):=⟨z,hd,vs,rel,dd⟩
theorem qy {H':Hp}{Q:Unit->Shared->Prop} (hu:A.units+1 < cLine) (I:Inv X pins σ H s) (g:qF H a y v H') (ry:bg y u) (rv:bg v r) (h:∀s',Inv X pins σ H' s'->Q () s') :
  wpAny (model X.prog X.w) A (setItem (.ref a) u r) Q E s:=by
 rcases g with⟨kvs,k,e,ey,l,eH⟩ | ⟨kvs,k,b,e,ey,eb,l,eH⟩
 ·subst ey eH
  obtain⟨z,hd,vs,rel,dd⟩:=wC I.hok e
  have hz:vs.length<=sizeLine:=by rw [<- rel.length];exact z
  have hl:(dZ kvs k v).length<=sizeLine:=by have:=dw kvs k v;omega
  refine wpAny_setItem_pairs (hsz:=hz) (pA ry) dd λh' dd' hs=>h _ ?_
  have he:∃q,h'.get? a=some q:=let ⟨q,_,_,hq,_⟩:=dd';⟨q,hq⟩
  exact lA I (by rw [e];exact True.intro) hs he (tW hl hd (rel.put k rv) dd')
 ·subst ey eH
  cases (show u=Value.ref b from ry)
  obtain⟨z,hd,xs,rel,dd⟩:=zF I.hok e
  have hz:xs.length<=sizeLine:=by rw [<- Paired.length rel];exact z
  have hl:(dZ kvs k v).length<=sizeLine:=by have:=dw kvs k v;omega
  refine wpAny_setItem_heap (hsz:=hz) (tupleKind_room_in1 hu) (nV I.hok eb) dd λh' dd' hs=>h _ ?_
  obtain⟨q,es,ep,hq,h2,h3,h4,_,h5⟩:=dd'
  refine lA I (by rw [e];exact True.intro) hs ⟨q,hq⟩ ⟨hl,hd,_,(rel.put k eb rv).keeps λc ys ec=>?_,q,es,ep,hq,h2,h3,h4,h5⟩
  rw [al (eP ec e (λz=>nomatch z))]
  exact ec
end
section
variable {X:Cx}{pins:List (Addr × Obj)}{σ:St}{H:Hp}{s:Shared}{a:Addr}{kvs:List (Key × V)}{k:Key}{u:Value}{A:Around}{E:Value->Shared->Prop}
end
noncomputable def za (td ty tv:TE):TS:=λD σ H=>tv σ H λv H1=>td σ H1 λx H2=>ty σ H2 λy H3=>∃a H4,x=.ref a/\qF H3 a y v H4/\D.nx σ H4
section
variable {X:Cx}{o i e value:Expr}{pos pos' tpos:Pos}{td ty tv:TE}
theorem iJ (hu:X.A.units+1 < cLine) (ho:PE X o td) (hi:PE X i ty) (hv:PE X value tv) (hs:swapsWith value (some (.Subscript o i pos')) pos.line X.env=pure false) :
  PS X (.Assign [.Subscript o i pos'] value pos) (za td ty tv):=by
 intro pins s σ H D I h
 refine wpAny_Assign_Subscript (thn (hv pins s σ H _ I h) λr s1 ⟨v,H1,I1,rv,q1⟩=>thn (ho pins s1 σ H1 _ I1 q1) λu s2 ⟨x,H2,I2,rx,q2⟩=>thn (hi pins s2 σ H2 _ I2 q2) λiv s3 ⟨y,H3,I3,ry,a,H4,ex,g,q3⟩=>?_) hs
 subst ex
 obtain rfl:u=Value.ref a:=rx
 exact qy hu I3 g ry rv λs4 I4=>⟨σ,H4,I4,q3⟩
end
theorem mF {P:Program}{w:World}{H:Hp} (h:Heap) (hb:sysModules < h.objs.size):bB P w H (h.push { cls:=.type "dict", data:=.dict #[] }) h.objs.size (.dK []):=
 ⟨Nat.zero_le _,beq_eq_false_iff_ne.mpr (Ne.symm (Nat.ne_of_lt hb)),[],.nil,Heap.DictOf.new h⟩
section
variable {X:Cx}{pos:Pos}
end
noncomputable def mR:List (TE × TE)->St->Hp->(List (V × V)->Hp->Prop)->Prop
 | [],_,H,Q=>Q [] H
 | (tk,tv)::r,σ,H,Q=>tk σ H λx H1=>tv σ H1 λy H2=>mR r σ H2 λps H3=>Q ((x,y)::ps) H3
noncomputable abbrev VV:List (V × V)->List (Value × Value)->Prop:=Paired λp q=>bg p.1 q.1/\bg p.2 q.2
noncomputable def PPs (X:Cx) (pos:Pos) (keys:List (Option Expr)) (values:List Expr) (trs:List (TE × TE)):Prop:=
 ∀(pins:List (Addr × Obj)) (s:Shared) (σ:St) (H:Hp) (Q:List (V × V)->Hp->Prop),Inv X pins σ H s->mR trs σ H Q->
  wpAny (model X.prog X.w) X.A (evalPairs (pairTrees keys values X.env pos)) (λvs s'=>∃ps H',Inv X pins σ H' s'/\VV ps vs/\Q ps H') X.xe s
theorem oY {X:Cx}{pos:Pos}:PPs X pos [] [] []:=λpins s σ H Q I h=>pairTrees_nil_walk ⟨[],H,I,.nil,h⟩
theorem fe {X:Cx}{pos:Pos}{k v:Expr}{ks:List (Option Expr)}{vs:List Expr}{tk tv:TE}{trs:List (TE × TE)} (hk:PE X k tk) (hv:PE X v tv) (hr:PPs X pos ks vs trs) :
  PPs X pos (some k::ks) (v::vs) ((tk,tv)::trs):=λpins s σ H Q I h=>
 pairTrees_cons_walk (thn (hk pins s σ H _ I h) λu s1 ⟨x,H1,I1,rx,q1⟩=>thn (hv pins s1 σ H1 _ I1 q1) λw2 s2 ⟨y,H2,I2,ry,q2⟩=>
  thn (hr pins s2 σ H2 _ I2 q2) λws s3 ⟨ps,H3,I3,rel,q3⟩=>⟨(x,y)::ps,H3,I3,.cons ⟨rx,ry⟩ rel,q3⟩)
noncomputable def dE (kvs more:List (Key × V)):List (Key × V):=more.foldl (λacc kv=>dZ acc kv.1 kv.2) kvs
theorem KV.merge:∀{more:List (Key × V)}{rs:List (Key × Value)}{kvs:List (Key × V)}{vs:List (Key × Value)},KV more rs->KV kvs vs->KV (dE kvs more) (merged vs rs):=by
 intro more rs kvs vs r
 unfold KV at r
 induction r generalizing kvs vs with
 | nil=>intro q;exact q
 | @cons p q ps qs h t ih=>
  intro r0
  have e:KV (dZ kvs p.1 p.2) (stored vs q.1 q.2):=by
   have:=r0.put p.1 h.2
   rw [<- h.1];exact this
  exact ih e
theorem dF:∀(more kvs:List (Key × V)),(dE kvs more).length<=kvs.length+more.length
 | [],kvs=>by show kvs.length<=kvs.length+0;omega
 | p::r,kvs=>by
  have h1:=dF r (dZ kvs p.1 p.2)
  have h2:=dw kvs p.1 p.2
  show (dE (dZ kvs p.1 p.2) r).length<=_
  rw [List.length_cons];omega
theorem jp {P:Program}{w:World}:∀{kvs:List (Key × V)}{ws:List (Value × Value)},VV (kvs.map λkv=>(kV kv.1,kv.2)) ws->∃rs,Carries (bI P w) ws rs/\KV kvs rs
 | [],_,r=>by rw [List.map_nil]at r;cases r;exact⟨[],True.intro,.nil⟩
 | p::kvs,_,r=>by
  rw [List.map_cons]at r
  cases r with
  | @cons a b as bs h t=>
   obtain⟨rs,c,q⟩:=jp (P:=P) (w:=w) t
   obtain⟨b1,b2⟩:=b
   exact⟨(p.1,b2)::rs,⟨pA h.1,rfl,c⟩,.cons ⟨rfl,h.2⟩ q⟩
noncomputable def yQ (trs:List (TE × TE)):TE:=λσ H Q=>∀p,H p=none->mR trs σ (upd H p (.dK [])) λps H2=>H2 p=some (.dK [])/\∃kvs:List (Key × V),ps=kvs.map (λkv=>(kV kv.1,kv.2))/\kvs.length<=15/\Q (.ref p) (upd H2 p (.dK (dE [] kvs)))
theorem pb {X:Cx}{pos:Pos}{keys:List (Option Expr)}{values:List Expr}{trs:List (TE × TE)} (h:PPs X pos keys values trs) (hall:keys.all (·.isSome)=true) (hl:keys.length=values.length) (h0:keys≠[])
  (h15:keys.length<=15):PE X (.Dict keys values pos) (yQ trs):=by
 intro pins s σ H Q I q
 have hn:=I.hok.fresh (Nat.le_refl s.heap.objs.size)
 have I1:=I.laid (a:=s.heap.objs.size) (o:=.dK []) (h':=s.heap.push { cls:=.type "dict", data:=.dict #[] }) (t':=s.toks) (λ_ _ q=>Heap.get?_push_of_some _ q) (Nat.le_refl _) (mF s.heap I.big)
 refine wpAny_Dict_walk (knd:=bI X.prog X.w) hall hl h0 h15 (thn (h pins _ σ _ _ I1 (q _ hn)) λws s2 ⟨ps,H2,I2,rel,e,kvs,ep,lk,q2⟩=>?_)
 subst ep
 obtain⟨rs,c,rk⟩:=jp (P:=X.prog) (w:=X.w) rel
 obtain⟨z,hd,vs0,r0,dd⟩:=wC I2.hok e
 cases r0
 refine⟨rs,c,dd,λh' dd' hs=>⟨.ref s.heap.objs.size,_,?_,rfl,q2⟩⟩
 have hz:(dE [] kvs).length<=sizeLine:=by
  have h1:=dF kvs []
  rw [List.length_nil]at h1
  rw [sizeLine_eq];omega
 have he:∃q,h'.get? s.heap.objs.size=some q:=let ⟨q,_,_,hq,_⟩:=dd';⟨q,hq⟩
 exact lA I2 (by rw [e];exact True.intro) hs he (tW hz hd (rk.merge .nil) dd')
structure M1 (X:Cx) (o:Expr) (m:Str) (apos:Pos) (e:Expr) (cpos:Pos):Prop where
 base:attributeBase o m X.env (eval o X.env)=eval o X.env
 few:((backTo cpos (starEach [e] X.env)).all (λx=>!x.1) && (backToKw cpos (keywordEach [] X.env)).all (λx=>x.1.isSome)
  && decide (([e]:List Expr).length+([]:List Keyword).length+(if ([]:List Keyword).isEmpty then 0 else 1) < 30))=true
 line:(apos.endLine == cpos.line)=true
 trees:backTo cpos (starEach [e] X.env)=[(false,eval e X.env)]
noncomputable def IsD (H:Hp) (a:Addr):Prop:=(∃kvs,Rd H a (.dK kvs))\/∃kvs,Rd H a (.dT kvs)
theorem ym {X:Cx}{pins:List (Addr × Obj)}{σ:St}{H:Hp}{s:Shared}{a:Addr} (I:Inv X pins σ H s) (d:IsD H a) :
  s.TypeIs (.ref a) "dict"/\(∀b,Value.ref a=.ref b->∃ob,s.heap.get? b=some ob/\ob.dict=none)/\(a == sysModules)=false:=by
 rcases d with⟨kvs,e⟩ | ⟨kvs,e⟩
 ·obtain⟨_,hd,vs,_,dd⟩:=tV I.hok e
  refine⟨dd.typeIs,λb q=>?_,hd⟩
  cases q
  obtain⟨ob,_,_,h1,h2,_⟩:=dd
  exact⟨ob,h1,h2.2.1⟩
 ·obtain⟨_,hd,xs,_,dd⟩:=tU I.hok e
  refine⟨dd.typeIs,λb q=>?_,hd⟩
  cases q
  obtain⟨ob,_,_,h1,h2,_⟩:=dd
  exact⟨ob,h1,h2.2.1⟩
section
variable {X:Cx}{pins:List (Addr × Obj)}{σ:St}{H:Hp}{s:Shared}{a:Addr}{y d:V}{u r:Value}{o:Option V}{A:Around}{E:Value->Shared->Prop}
theorem yu {Q:Value->Shared->Prop} (hu:A.units+1 < cLine) (I:Inv X pins σ H s) (g:ug H a y o) (ry:bg y u) (h:∀w' s',Inv X pins σ H s'->bg (o.getD .non) w'->Q w' s') :
  wpAny (model X.prog X.w) A (call (.builtin "dict.get") [.ref a,u]) Q E s:=by
 rcases g with⟨kvs,k,e,ey,l⟩ | ⟨kvs,k,b,e,ey,eb,l⟩
 ·subst ey
  obtain⟨z,hd,vs,rel,dd⟩:=tV I.hok e
  refine call_meetsIn PySem.F.slot_dict_get dd.typeIs PySem.F.entry_dict_get (PySem.F.args_dict_get_2 _ _) (meets_dict_get (bI X.prog X.w) a (pA ry) hd) ⟨_,dd.mapOf,h _ _ (I.tok _) ?_⟩
  rw [l]
  exact(rel.val k).getD rfl
 ·subst ey
  cases (show u=Value.ref b from ry)
  obtain⟨z,hd,xs,rel,dd⟩:=tU I.hok e
  refine call_meetsIn PySem.F.slot_dict_get dd.typeIs PySem.F.entry_dict_get (PySem.F.args_dict_get_2 _ _) (meetsH_dict_get (tupleKind (bI X.prog X.w)) a b hd) ⟨tupleKind_room_in1 hu,k,xs,nV I.hok eb,dd,h _ _ (I.tok _) ?_⟩
  rw [l]
  exact(rel.val k).getD rfl
end
noncomputable def wQ (td ty:TE):TE:=λσ H Q=>td σ H λx H1=>∃a,x=.ref a/\IsD H1 a/\ty σ H1 λy H2=>∃o,ug H2 a y o/\Q (o.getD .non) H2
section
variable {X:Cx}{o e f:Expr}{apos cpos:Pos}{td ty tx:TE}
theorem sx (hu:X.A.units+1 < cLine) (ho:PE X o td) (he:PE X e ty) (m:M1 X o "get" apos e cpos):PE X (.Call (.Attribute o "get" apos) [e] [] cpos) (wQ td ty):=by
 intro pins s σ H Q I h
 refine wpAny_Call_method m.base m.few m.line PySem.F.plainAttrs_dict PySem.F.slot_dict_get PySem.F.type_dict_get (thn (ho pins s σ H _ I h) λu s1 ⟨x,H1,I1,rx,a,ex,d,q1⟩=>?_)
 subst ex
 obtain rfl:u=Value.ref a:=rx
 obtain⟨t1,t2,_⟩:=ym I1 d
 refine⟨t1,t2,?_⟩
 rw [m.trees]
 refine Calls.callWith_builtin rfl (Calls.evalArgs_plain (Calls.spliced_cons (thn (he pins s1 σ H1 _ I1 q1) λiv s2 ⟨y,H2,I2,ry,ov,g,q2⟩=>Calls.spliced_nil ?_)))
 exact yu hu I2 g ry λw' s3 I3 rw'=>⟨_,H2,I3,rw',q2⟩
end
section
variable {X:Cx}{pins:List (Addr × Obj)}{σ:St}{H:Hp}{s:Shared}{a:Addr}{kvs:List (Key × V)}{A:Around}{E:Value->Shared->Prop}
end
section
variable {X:Cx}{pins:List (Addr × Obj)}{σ:St}{H:Hp}{s:Shared}{a:Addr}{y:V}{u:Value}{A:Around}{E:Value->Shared->Prop}
end
end L2
namespace Att
open PySem PySem.W PySem.Calls PyProof.Rows
theorem iB {P:Params}{h:Heap}:∀(ns:List Int) (vs:List Value),WellAll P h vs (ns.map WData.int)->IntsAre vs ns:=by
 intro ns
 induction ns with
 | nil=>
  intro vs w
  rw [List.map_nil]at w
  cases w
  exact .nil
 | cons n ns ih=>
  intro vs w
  rw [List.map_cons]at w
  cases w with
  | cons a b=>
   cases a
   exact .cons _ _ (ih _ b)
theorem pW {l:OpenLaw}{n:Nat} (hn:l.most=some n){P:Params}{h:Heap}{args:List WData}{vals:List Value}
  (hpre:l.row.toRowW.claim.pre args=true) (hwl:WellAll P h vals args) :
  ∃a vs ns,vals=[Value.ref a]/\args=[WData.list (ns.map WData.int)]/\h.get? a=some { cls:=.type "list", data:=.seq vs.toArray }/\IntsAre vs ns/\ns.length<=n:=by
 have hsh:WShape.hasAll [] args [.list .int]=true:=(pre_splitW hpre).1
 have hc:l.pre.holds [] { args:=args }=true:=(pre_splitW hpre).2
 obtain⟨d,r,rfl,h1,h2⟩:=hasAllW_cons hsh
 obtain rfl:=hasAllW_nil h2
 obtain⟨xs,rfl,h3⟩:=hasW_list h1
 obtain⟨ns,rfl⟩:=items_int h3
 have hlen:ns.length<=n:=by
  unfold OpenLaw.pre at hc
  have h4:(WTm.not (.lt (.lit (.int (n:Int))) (.len (.arg 0)))).holds [] { args:=[.list (ns.map .int)] }=true:=by
   have h4:=(holds_andW hc).1
   rw [hn]at h4
   exact h4
  have h5:=condW_of h4 (w_not (w_lt w_lit (w_len_list (w_arg rfl))))
  rw [List.length_map]at h5
  refine Nat.le_of_not_lt λq=>?_
  have q':(n:Int) < ((ns.length:Nat):Int):=by omega
  first
   | (rw [decide_eq_true q']at h5;exact absurd h5 (by decide))
   | (simp at h5;omega)
 cases hwl with
 | cons w1 w2=>
  cases w2
  cases w1 with
  | list ho hall=>exact⟨_,_,ns,rfl,rfl,ho,iB ns _ hall,hlen⟩
theorem qb (l:OpenLaw) (args:List WData):l.row.toRowW.claim.post args (.bool true) args=true:=
 postW_of (r:=l.row.toRowW) (X:=(true == true))
  (show WShape.has [] (.bool true) .bool=true by first | rfl | decide | simp [WShape.has,WShape.arms,WShape.armsAll])
  (show (WTm.eq .res (.lit (.bool true))).value [] { args:=args,res:=some (.bool true),after:=args }=some (.bool (true == true)) from w_eq_bool (w_res rfl) w_lit) rfl
theorem attach_call {l:OpenLaw}{n:Nat}{q:Program}{loose:List Str}{XP:(Str->Option Value)->Heap->Prop}{YP:World->Heap->Prop}{d:DefRec}
  (hn:l.most=some n) (hdf:d.params.defaults=[])
  (call:∀(w:World) (s₀ s₁:Shared) (mg mb:Str->Option Value) (fa:Addr) (o:Obj) (pm cd doc:Value) (a:Addr) (vs:List Value) (ns:List Int),
   Ground q loose [] XP w s₀ mg mb s₁.heap->YP w s₁.heap->
   s₁.heap.get? fa=some o->o.data=.func (docDef d.name d.params d.body d.scope pm cd doc)->s₁.heap.CodeRec cd d.name->mg d.name=some (.ref fa)->
   s₁.heap.get? a=some { cls:=.type "list", data:=.seq vs.toArray }->IntsAre vs ns->ns.length<=n->s₁.gens = #[]->
   codeAny (model l.prog w) callerA (.call (.ref fa) ⟨[.ref a],[]⟩) (λr s'=>r=.ok (.ret (.bool true))/\OldK s₁.heap s'.heap/\s'.os=s₁.os/\AllBare s'.gens) s₁) :
  WalkO q loose XP YP l.row.toRowW d [] (λf vs=>PySem.call f vs):=by
 intro w s₀ s₁ mg mb G Y fa o pm cd doc dV kV ho hd hcd hD hmg hg args vals as hpre hlay hrd hwl hlo
 obtain rfl:dV=.none:=Dflts.none hD hdf
 obtain rfl:kV=.none:=Dflts.noKw hD
 obtain⟨a,vs,ns,rfl,rfl,hobj,hints,hlen⟩:=pW hn hpre hwl
 refine enter_call (codeAny_mono (call w s₀ s₁ mg mb fa o pm cd doc a vs ns G Y ho (fd_plain hd) hcd hmg hobj hints hlen hg) λr s' hq=>?_)
 obtain⟨rfl,h2,h3,h4⟩:=hq
 exact⟨.inl ⟨.bool true,.bool true,[],rfl,λ_=>rfl,.bool true,qb l _,λ_=>⟨List.Pairwise.nil,λ_ hm=>(nomatch hm)⟩⟩,h2,h3,h4⟩
section
variable {prog:Program}{w:World}{A:Around}{E:Value->Shared->Prop}{s:Shared}{K:Frag}
end
end Att
namespace L2
open PySem PySem.Spec PyProof.Rows
theorem jx:∀{vs:List Value}{ns:List Int},IntsAre vs ns->aX (ns.map V.int) vs
 | _,_,.nil=>.nil
 | _,_,.cons n t h=>.cons ⟨t,rfl⟩ (jx h)
noncomputable def vG (H:Hp):Prop:=∀b,H b=none\/∃o xs,H b=some (.frz o (.lst xs))
theorem tD {P:Program}{w:World}{K:PySem.W.Frag}{mg mb:Str->Option Value}{CX:CXT}{k:Nat}{fa a:Addr}{fd:FuncData}{x:Str}{sp:Sp}{s₁:Shared}{vs:List Value}{ns:List Int}
  (KX:K.In s₁.heap) (hns:s₁.heap.Ns mainGlobals mg) (hb:s₁.heap.Ns builtinsNs mb) (hbb:∀x:Str,x≠"__name__"->mb x=bootBuiltins x) (hlim:s₁.heap.NoLimit) (hg:s₁.gens = #[])
  (ha:s₁.heap.get? a=some { cls:=.type "list", data:=.seq vs.toArray }) (hi:IntsAre vs ns) (hl:ns.length<=sizeLine) (hr:Room k callerA)
  (F:∀base:Heap,K.In base->base.Ns mainGlobals mg->FnOk P w K mg base CX k fa fd [x] sp) (hbind:∀(s:Shared) (u:Value),BindsTo s fd ⟨[u],[]⟩ [(x,u)])
  (hsp:∀H:Hp,vG H->SqL K H a (ns.map V.int)->sp [.ref a] H (λv _=>v=.bl true) λ_ _ _=>False)
  (hCX:∀H e s',CX [] H s₁ (λ_ _ _=>False) e s'->False) :
  codeAny (model P w) callerA (.call (.ref fa) ⟨[.ref a],[]⟩) (λr s'=>r=.ok (.ret (.bool true))/\OldK s₁.heap s'.heap/\s'.os=s₁.os/\AllBare s'.gens) s₁:=by
 have rv:=jx hi
 have lenV:=hi.length
 have core:∀H:Hp,vG H->SqL K H a (ns.map V.int)->HOk P w H s₁.heap->(∀b,H b≠none->b=a)->(H a≠none->K.lookup a=none)->
   codeAny (model P w) callerA (.call (.ref fa) ⟨[.ref a],[]⟩) (λr s'=>r=.ok (.ret (.bool true))/\OldK s₁.heap s'.heap/\s'.os=s₁.os/\AllBare s'.gens) s₁:=by
  intro H hO hS hok hA hK
  have base_of:∀{b:Addr}{o:Obj},s₁.heap.get? b=some o->H b=none->(lv s₁.heap H).get? b=some o:=λe n=>tN e n
  have noA:∀{b:Addr}{o:Obj}{es:Array DictEntry}{ep:Nat},s₁.heap.get? b=some o->o.data=.dict es ep->H b=none:=λ{b o es ep} e d=>by
   cases q:H b with
   | none=>rfl
   | some u=>
    have e':b=a:=hA b (by rw [q];simp)
    subst e'
    rw [ha]at e;cases e
    have d':Data.seq vs.toArray _=Data.dict es ep:=d
    cases d'
  have nsK:∀{b:Addr}{m:Str->Option Value},s₁.heap.Ns b m->(lv s₁.heap H).Ns b m:=λ{b m} ⟨o,es,ep,e,d,r⟩=>⟨o,es,ep,base_of e (noA e d),d,r⟩
  have hKb:K.In (lv s₁.heap H):=λb o e=>base_of (KX b o e) (by
   cases q:H b with
   | none=>rfl
   | some u=>
    have e':b=a:=hA b (by rw [q];simp)
    subst e'
    rw [hK (by rw [q];simp)]at e;cases e)
  have hM:Mod K mg (lv s₁.heap H):=⟨hKb,nsK hns,⟨mb,nsK hb,hbb⟩,let ⟨mc,h1,h2⟩:=hlim;⟨mc,nsK h1,h2⟩⟩
  have e0:Env0 P w K mg (lv s₁.heap H) callerA [] s₁ H:=⟨rfl,hM,λb o e=>vm e,Nat.le_of_eq (qr _ _),trivial,λb hb=>absurd (show b∈([]:List Addr) from hb) (by simp),hok,.of_eq hg⟩
  refine codeAny_mono ((F _ hKb (nsK hns)).run callerA [] s₁ H ⟨[.ref a],[]⟩ [.ref a] [.ref a] _ _ hr e0 (hbind s₁ (.ref a)) (.cons rfl .nil) (hsp H hO hS)) λr s' h=>?_
  cases r with
  | error e=>exact(hCX H e s' h).elim
  | ok fl=>
   cases fl with
   | next=>exact False.elim h
   | brk=>exact False.elim h
   | cont=>exact False.elim h
   | ret u=>
    obtain⟨v,H',os,bare,un,hok',r',q⟩:=h
    have q':v=.bl true:=q
    subst q'
    obtain rfl:u=Value.bool true:=r'
    refine⟨rfl,OldK.of_keep λb o e=>?_,os,bare⟩
    cases q:H b with
    | none=>exact un.keep b o e q (by intro z;exact absurd (show b∈([]:List Addr) from z) (by simp)) (by simp)
    | some u=>
     rcases hO b with z | ⟨ob,xs,z⟩
     ·rw [q]at z;cases z
     ·have z2:=un.frzs b ob _ z
      obtain⟨e1,_⟩:=hok b _ z
      obtain⟨e2,_⟩:=hok' b _ z2
      rw [e]at e1;cases e1
      exact e2
 cases hk:K.lookup a with
 | some o=>
  have e:=KX a o hk
  rw [ha]at e
  cases e
  refine core (λ_=>none) (λ_=>.inl rfl) (.inr ⟨_,vs.toArray,_,hk,rfl,rfl,rfl,by rw [List.size_toArray,lenV];exact hl,by simpa using rv⟩) (λb u z=>by have z':(none:Option HO)=some u:=z;cases z') (λb z=>absurd rfl z) λz=>absurd rfl z
 | none=>
  refine core (λb=>if b=a then some (.frz { cls:=.type "list", data:=.seq vs.toArray } (.lst (ns.map V.int))) else none) (λb=>?_) (.inl (.inr ⟨{ cls:=.type "list", data:=.seq vs.toArray },if_pos rfl⟩)) (λb u z=>?_) (λb z=>?_) λ_=>hk
  ·by_cases hb:b=a
   ·exact .inr ⟨_,_,if_pos hb⟩
   ·exact .inl (if_neg hb)
  ·by_cases hb:b=a
   ·have z':=(if_pos hb).symm.trans z
    cases z'
    subst hb
    exact⟨ha,by rw [List.length_map];exact hl,vs,_,rv,ha⟩
   ·have z':=(if_neg hb).symm.trans z
    cases z'
  ·by_cases hb:b=a
   ·exact hb
   ·exact absurd (if_neg hb) z
end L2
namespace L2
open PySem PySem.Spec PyProof.Rows
theorem uj {l:PySem.W.OpenLaw}{n k:Nat}{q:Program}{loose:List Str}{XP:(Str->Option Value)->Heap->Prop}{YP:World->Heap->Prop}{d:DefRec}{K:Params->PySem.W.Frag}{CX:World->CXT}{sp:World->Sp}{x:Str}
  (hn:l.most=some n) (hn2:n<=sizeLine) (hdf:d.params.defaults=[]) (hr:Room k callerA)
  (hY:∀(w:World) (h:Heap),YP w h->(K w.params).In h)
  (F:∀(w:World) (mg:Str->Option Value) (fa:Addr) (h:Heap),(K w.params).In h->h.Ns mainGlobals mg->mg d.name=some (.ref fa)->
   ∃fd:FuncData,(∀(s:Shared) (u:Value),BindsTo s fd ⟨[u],[]⟩ [(x,u)])/\
    ∀base:Heap,(K w.params).In base->base.Ns mainGlobals mg->FnOk l.prog w (K w.params) mg base (CX w) k fa fd [x] (sp w))
  (hsp:∀(w:World) (H:Hp) (a:Addr) (ns:List Int),ns.length<=n->vG H->SqL (K w.params) H a (ns.map V.int)->sp w [.ref a] H (λv _=>v=.bl true) λ_ _ _=>False)
  (hCX:∀(w:World) (H:Hp) (s:Shared) (e:Value) (s':Shared),CX w [] H s (λ_ _ _=>False) e s'->False) :
  PySem.W.WalkO q loose XP YP l.row.toRowW d [] (λf vs=>PySem.call f vs):=by
 refine Att.attach_call hn hdf λw s₀ s₁ mg mb fa o pm cd doc a vs ns G Y ho hd hcd hmg hobj hints hlen hg=>?_
 have KX:=hY w _ Y
 obtain⟨fd,hb,hF⟩:=F w mg fa _ KX G.T.g hmg
 exact tD KX G.T.g G.T.b G.T.builtins G.T.nolimit hg hobj hints (Nat.le_trans hlen hn2) hr hF hb (λH hO hS=>hsp w H a ns hlen hO hS) λH e s'=>hCX w H s₁ e s'
theorem qK {l:PySem.W.OpenLaw}{n k:Nat}{q:Program}{loose:List Str}{XP:(Str->Option Value)->Heap->Prop}{YP:World->Heap->Prop}{d:DefRec}{K:Params->PySem.W.Frag}{CX:CXT}{sp:PySem.W.Frag->Sp}{x:Str}
  (hn:l.most=some n) (hn2:n<=sizeLine) (hdf:d.params.defaults=[]) (hr:Room k callerA)
  (hY:∀(w:World) (h:Heap),YP w h->(K w.params).In h)
  (F:∀(w:World) (mg:Str->Option Value) (fa:Addr) (h:Heap),(K w.params).In h->h.Ns mainGlobals mg->mg d.name=some (.ref fa)->
   ∃fd:FuncData,(∀(s:Shared) (u:Value),BindsTo s fd ⟨[u],[]⟩ [(x,u)])/\
    ∀base:Heap,(K w.params).In base->base.Ns mainGlobals mg->FnOk l.prog w (K w.params) mg base CX k fa fd [x] (sp (K w.params)))
  (hsp:∀(K:PySem.W.Frag) (H:Hp) (a:Addr) (ns:List Int),ns.length<=n->vG H->SqL K H a (ns.map V.int)->sp K [.ref a] H (λv _=>v=.bl true) λ_ _ _=>False)
  (hCX:∀(H:Hp) (s:Shared) (e:Value) (s':Shared),CX [] H s (λ_ _ _=>False) e s'->False) :
  PySem.W.WalkO q loose XP YP l.row.toRowW d [] (λf vs=>PySem.call f vs):=
 uj (K:=K) (CX:=λ_=>CX) (sp:=λw=>sp (K w.params)) hn hn2 hdf hr hY F (λw H a ns h1 h2 h3=>hsp (K w.params) H a ns h1 h2 h3) λ_ H s e s'=>hCX H s e s'
end L2
namespace L2
open PySem PySem.Spec PyProof.Rows
noncomputable def bi (s:Stmt) (j:Nat):Stmt:=match s with
 | .ClassDef _ _ _ body _ _ _ _ _ _ _=>body.getD j (.Pass ⟨0,0,0,0⟩)
 | _=>.Pass ⟨0,0,0,0⟩
noncomputable def gY (s:Stmt):Arguments:=match s with
 | .FunctionDef _ a _ _ _ _ _ _ _ _=>a
 | _=>{ posonlyargs:=[],args:=[],vararg:=none,kwonlyargs:=[],kw_defaults:=[],kwarg:=none,defaults:=[] }
noncomputable def eG (s:Stmt):List Stmt:=match s with
 | .FunctionDef _ _ b _ _ _ _ _ _ _=>b
 | _=>[]
noncomputable def aw (s:Stmt):Scope:=match s with
 | .FunctionDef _ _ _ _ _ _ sc _ _ _=>sc
 | _=>{ kind:=.function,names:=[],isGenerator:=false,isCoroutine:=false }
noncomputable abbrev CX0:CXT:=λ_ _ _ _ _ _=>False
noncomputable abbrev E0:XK:=λ_ _ _=>False
theorem ar {X:Cx}:cU CX0 X E0:=λ_ _ _ _ _ _ _ h=>h.elim
structure Fun (K:PySem.W.Frag) (x qual:Str) (st:Stmt) (f:Addr) (fd:FuncData):Prop where
 ex:∃(oc:Value) (od:Option Addr) (kV doc pm:Value) (an:Option Addr) (cdv ct:Value) (osl:Array (Option Value)),
  fd=PySem.W.fnOf x qual (gY st) (eG st) (aw st) .none kV doc pm an cdv ct/\K.lookup f=some ⟨oc,od,.func fd,osl⟩/\PySem.W.codeIn K cdv qual=true
 kp:PySem.W.keepIn K (.ref f)=true
section
variable {P:Program}{w:World}{K:PySem.W.Frag}{mg:Str->Option Value}{base:Heap}
theorem Fun.ok {x qual:Str}{st:Stmt}{f:Addr}{fd:FuncData}{N ps:List Str}{k:Nat}{sp:Sp} (F:Fun K x qual st f fd) (S:FnScope N ps (aw st)) (len:∀vs H Q E,sp vs H Q E->vs.length=ps.length)
  (hbody:∀(cdv:Value) (A:Around) (outer:List Env) (s:Shared) (H:Hp) (vs:List V) (Q:VK) (E:XK),Room k (A.deeper (envOfC qual (aw st) s.heap.objs.size f cdv))->sp vs H Q E->
   ∃t,PSs (fM CX0 P w K mg base N qual (aw st) f cdv A outer s H E).nox (eG st) t/\t { nx:=λ_ H'=>Q .non H',rt:=Q } (gv N vs) H):FnOk P w K mg base CX0 (k+1) f fd ps sp:=by
 obtain⟨oc,od,kV,doc,pm,an,cdv,ct,osl,rfl,lk,hcd⟩:=F.ex
 refine wB lk hcd S len λA outer s H vs Q E hr hsp=>?_
 obtain⟨t,h,q⟩:=hbody cdv A outer s H vs Q E hr hsp
 exact⟨t,h.nox,q⟩
theorem Fun.binds {x qual:Str}{st:Stmt}{f:Addr}{fd:FuncData}{ps:List Str} (F:Fun K x qual st f fd)
  (h:∀(kV doc pm:Value) (an:Option Addr) (cdv ct:Value) (us:List Value),us.length=ps.length->bindArgs (PySem.W.fnOf x qual (gY st) (eG st) (aw st) .none kV doc pm an cdv ct) ⟨us,[]⟩=pure (ps.zip us)):bA K fd ps []:=by
 obtain⟨oc,od,kV,doc,pm,an,cdv,ct,osl,rfl,lk,hcd⟩:=F.ex
 exact .all (h kV doc pm an cdv ct)
theorem fun_mk {x qual:Str}{st:Stmt}{f:Addr}{oc:Value}{od an:Option Addr}{osl:Array (Option Value)}{kV doc pm cdv ct:Value} (l:K.lookup f=some ⟨oc,od,.func (PySem.W.fnOf x qual (gY st) (eG st) (aw st) .none kV doc pm an cdv ct),osl⟩)
  (c:PySem.W.codeIn K cdv qual=true) (k:PySem.W.keepIn K (.ref f)=true):Fun K x qual st f (PySem.W.fnOf x qual (gY st) (eG st) (aw st) .none kV doc pm an cdv ct):=⟨⟨oc,od,kV,doc,pm,an,cdv,ct,osl,rfl,l,c⟩,k⟩
end
theorem aM {A:Around}{k:Nat} (hr:Room k A):A.units+1 < cLine:=Nat.lt_of_le_of_lt (Nat.add_le_add_left (by decide:1<=64) _) hr.units
theorem be {n:Nat} (h:n<=1000):n < sizeLine:=Nat.lt_of_le_of_lt h (by decide)
section
variable {X:Cx}
theorem pv (i:Nat){x:Str}{pos:Pos} (hN:X.N[i]?=some x:=by rfl) (hv:Vis X.env.scope x:=by first | exact Or.inl rfl | exact Or.inr (Or.inl rfl) | exact Or.inr (Or.inr rfl)) (hd:(x == ("__debug__" : Str))=false:=by decide)
  (hcd:(x == ("__classdict__" : Str))=false:=by decide):PE X (.Name x pos) (eV i):=xH hN hv hd hcd
end
theorem aF {A B:Prop} (h:B):if false=true then A else B:=by
 rw [if_neg Bool.false_ne_true]
 exact h
theorem b5 {A B:Prop} (h:A):if true=true then A else B:=by
 rw [if_pos rfl]
 exact h
theorem cj {c A B:Prop} [Decidable c] (h1:c->A) (h2:¬c->B):if c then A else B:=by
 by_cases h:c
 ·rw [if_pos h]
  exact h1 h
 ·rw [if_neg h]
  exact h2 h
section
variable {κ:Type} [DecidableEq κ]
end
end L2
set_option maxHeartbeats 4000000
namespace L2
open PySem PySem.Spec PyProof.Rows
section
variable {X:Cx}{pins:List (Addr × Obj)}{σ:St}{H:Hp}{s:Shared}{h':Heap}
end
section
variable {X:Cx}
end
section
variable {prog:Program}{w:World}{A:Around}{E:Value->Shared->Prop}{s:Shared}
end
end L2
namespace L2
open PySem PySem.Spec PyProof.Rows
section
variable {prog:Program}{w:World}{A:Around}{E:Value->Shared->Prop}{s:Shared}
end
end L2
namespace L2
open PySem PySem.Spec PyProof.Rows
section
variable {prog:Program}{w:World}{A:Around}{E:Value->Shared->Prop}{s:Shared}{a₀:Array Keyed}{p:Array (Nat × Nat × Nat)}
end
end L2
namespace L2
open PySem PySem.Spec PyProof.Rows
noncomputable def ky (q:Keyed):Int:=numOf q.1
end L2
namespace L2
open PySem PySem.Spec PyProof.Rows
section
variable {prog:Program}{w:World}{A:Around}{E:Value->Shared->Prop}{s:Shared}
end
end L2
namespace L2
open PySem PySem.Spec PyProof.Rows
section
variable {prog:Program}{w:World}{A:Around}{E:Value->Shared->Prop}{s:Shared}
end
end L2
namespace L2
open PySem PySem.Spec PyProof.Rows
section
variable {prog:Program}{w:World}{A:Around}{E:Value->Shared->Prop}{s:Shared}{a₀:Array Keyed}{p:Array (Nat × Nat × Nat)}
end
end L2
namespace L2
open PySem PySem.Spec PyProof.Rows
section
variable {prog:Program}{w:World}{A:Around}{E:Value->Shared->Prop}{s:Shared}{a₀:Array Keyed}
end
end L2
namespace L2
open PySem PySem.Spec PyProof.Rows
noncomputable def most:Nat:=1000
section
variable {prog:Program}{w:World}{A:Around}{E:Value->Shared->Prop}{s:Shared}{hb:Heap}{fa:Addr}{mp:Str->Option Value}{bk:List (Addr × Obj)}{a st:Addr}{xs:List Value}{ks:List Int}{ka:Array Value}{c1 c2:Nat}
end
end L2
namespace L2
open PySem PySem.Spec PyProof.Rows
section
variable {X:Cx}{pins:List (Addr × Obj)}{σ:St}{H:Hp}{s:Shared}
end
section
variable {X:Cx}{e:Expr}{kws:List Keyword}{t tk:TA}{p pos:Pos}
end
end L2
namespace L2
open PySem PySem.Spec PyProof.Rows
section
variable {X:Cx}{pins:List (Addr × Obj)}{σ:St}{H:Hp}{s:Shared}
end
section
variable {X:Cx}
end
section
variable {X:Cx}
end
end L2
namespace L2
open PySem PySem.Spec PyProof.Rows
end L2
namespace Strip
section
variable {M:Type} [DecidableEq M]
noncomputable abbrev Row (M:Type):=Int × Int × M
noncomputable def Has (r:Row M) (n:Int):Prop:=r.1<=n/\n<=r.2.1
noncomputable instance (r:Row M) (n:Int):Decidable (Has r n):=by unfold Has;exact inferInstance
noncomputable def wD:List (Row M)->Int->Option M
 | [],_=>none
 | r::t,n=>match wD t n with
  | some m=>some m
  | none=>if Has r n then some r.2.2 else none
noncomputable def Lt (r s:Row M):Prop:=r.2.1 < s.1
structure Rising (rs:List (Row M)):Prop where
 lt:rs.Pairwise Lt
 le:∀r∈rs,r.1<=r.2.1
noncomputable def ot (r s:Row M):Prop:=r.2.1+1=s.1/\r.2.2=s.2.2
noncomputable instance (r s:Row M):Decidable (ot r s):=by unfold ot;exact inferInstance
structure Tidy (rs:List (Row M)):Prop where
 up:Rising rs
 no:∀(i:Nat) (r s:Row M),rs[i]?=some r->rs[i+1]?=some s->¬ot r s
end
end Strip
namespace L2
open PySem PySem.Spec PyProof.Rows
section
variable {T:Addr}{pos:Pos}{q:Str}{H H':Hp}
end
end L2
namespace L2
open PySem PySem.Spec PyProof.Rows
section
variable {X:Cx}
theorem cv:cO X (.builtin "isinstance") (λxs H Q=>∃x n t b,xs=[x,.ty n]/\TyOf X.K H x t/\PySem.W.kitOne X.K t (.type n)=some b/\Q (.bl b) H):=by
 intro pins s σ H xs us Q I r h
 obtain⟨x,n,t,b,rfl,ty,e,q⟩:=h
 obtain⟨u,u2,rfl,rx,rt⟩:=ou r
 cases (show u2=Value.type n from rt)
 exact qp I rx ty e λtk=>⟨.bl b,H,I.tok _,rfl,q⟩
end
end L2
namespace L2
open PySem PySem.Spec PyProof.Rows
end L2
namespace Strip
section
variable {M:Type} [DecidableEq M]
end
end Strip
namespace L2
open PySem PySem.Spec PyProof.Rows
noncomputable def cA (X:Cx) (scope:Scope) (cl:List (Str × Addr)) (N:List Str) (C:Addr) (fp:List Addr) (s:Shared) (H:Hp):Cx where
 prog:=X.prog
 w:=X.w
 K:=X.K
 mg:=X.mg
 base:=X.base
 A:=X.A
 N:=N
 s₀:=s
 H₀:=H
 env:=compEnvC scope cl C X.env
 outer:=X.stack
 stack:=X.stack
 ex:=fp
 fn:=λ_=>false
 calm:=true
 pn:=[]
 xe:=λ_ _=>False
noncomputable def bS (sub:List Nat) (σ:St):St:=sub.map λi=>(σ[i]?).join
noncomputable def PTs (X:Cx) (ifs:List Expr) (t:TT):Prop:=
 ∀(pins:List (Addr × Obj)) (s:Shared) (σ:St) (H:Hp) (Q:Bool->Hp->Prop),Inv X pins σ H s->t σ H Q->
  wpAny (model X.prog X.w) X.A (forIn ifs true λc r=>if r=true then do let ok <- isTrue c X.env (eval c X.env);pure (ForInStep.yield ok) else pure (ForInStep.yield r)) (TP X pins σ Q) X.xe s
theorem cY {X:Cx}:PTs X [] (λ_ H Q=>Q true H):=λ_ _ _ H _ I h=>wpAny_tests_nil ⟨H,I,h⟩
theorem lf {X:Cx}{c:Expr}{t:TT} (h:PT X c t):PTs X [c] t:=λpins s σ H Q I q=>wpAny_tests_one (h pins s σ H Q I q)
noncomputable def iR (wi:TI) (sub:List Nat) (tt:TT) (te:TE):TE:=λσ H Q=>wi σ H λJ H1=>∀D,H1 D=none->∃W:Nat->Nat->List V->Hp->Prop,(∃m,W 0 m [] (upd H1 D (.lst [])))/\∀i m ys H2,W i m ys H2->
 (J.stop i H2/\Q (.ref D) H2)\/(J.go i H2/\∃N:List V->Hp->Prop,(∀ys' H',N ys' H'->∃m',m' < m/\W (i+1) m' ys' H')/\∀v H3,J.yld i H2 v H3->tt (some v::bS sub σ) H3 λb H4=>if b=true then
  te (some v::bS sub σ) H4 λy H5=>H5 D=some (.lst ys)/\ys.length < sizeLine/\N (ys++[y]) (upd H5 D (.lst (ys++[y])))
  else N ys H4)
noncomputable def PEC (X:Cx) (e iter:Expr) (scope:Scope) (te:TE):Prop:=
 ∀(pos:Pos) (pins:List (Addr × Obj)) (s:Shared) (σ:St) (H:Hp) (Q:VK) (use:Option (Value->Sem Unit)) (QV:Value->Shared->Prop),Inv X pins σ H s->te σ H Q->
  (∀(D C:Addr) (H':Hp) (s':Shared),Inv X pins σ H' s'->hJ X pins H' C->(∃m,s'.heap.Ns C m)->Q (.ref D) H'->compPost (model X.prog X.w) X.A X.xe use QV (.ref D) C (.ok .next) s')->
  wpAny (model X.prog X.w) X.A (comprehension e scope X.env pos (newList []) false (eval iter X.env) use) QV X.xe s
theorem hJ.turn {X:Cx}{pins:List (Addr × Obj)}{σ:St}{H:Hp}{s:Shared}{h':Heap}{C:Addr} (f:hJ X pins H C) (I:Inv X pins σ H s) (hs:Heap.SameBut C s.heap h'):Inv X pins σ H { s with heap:=h' }:=
 I.turned (h':=h') (t':=s.toks) (it:=C) (λb o n e=>(hs.2 b n).trans e) f.1 f.2.1 f.2.2.2.1 f.2.2.2.2.1 f.2.2.2.2.2
theorem ff {X:Cx}{elt tg iter:Expr}{ifs:List Expr}{scope:Scope}{pos:Pos}{te:TE} (h:PEC X (.ListComp elt [⟨tg,iter,ifs,0⟩] scope pos) iter scope te):PE X (.ListComp elt [⟨tg,iter,ifs,0⟩] scope pos) te:=by
 intro pins s σ H Q I q
 rw [eval_ListComp]
 refine h _ pins s σ H Q none _ I q λD C H' s' K1 fC ⟨m,hm⟩ q=>⟨m,hm,λh' hsb'=>⟨.ref D,H',fC.turn K1 hsb',rfl,q⟩⟩
theorem uQ {X:Cx}{elt tg iter:Expr}{ifs:List Expr}{scope:Scope}{pos spos py:Pos}{te:TE}{i:Nat}{y:Str} (hN:X.N.Nodup) (hi:X.N[i]?=some y) (hx:Loc X.env.scope y)
  (h:PEC X (.ListComp elt [⟨tg,iter,ifs,0⟩] scope pos) iter scope te) (hsw:swapsWith (.ListComp elt [⟨tg,iter,ifs,0⟩] scope pos) (some (.Name y py)) spos.line X.env=pure true:=by rfl)
  (hf:X.fn y=true\/X.env.scope.names.lookup y=some .local:=by first | exact .inl rfl | exact .inr rfl | assumption):PS X (.Assign [.Name y py] (.ListComp elt [⟨tg,iter,ifs,0⟩] scope pos) spos) (ur te (aA i)):=by
 intro pins s σ H D I q
 rw [exec_Assign_Name_used _ _ _ _ hsw]
 refine wpAny_bind (wpAny_standAt (wpAny_bind ?_))
 show wpAny _ X.A (do let _ <- comprehension (.ListComp elt [⟨tg,iter,ifs,0⟩] scope pos) scope X.env _ (newList []) false (eval iter X.env) (some (assign (.Name y py) X.env))) _ _ s
 refine wpAny_bind (wpAny_mono (h _ pins s σ H _ (some (assign (.Name y py) X.env)) (λ_ s'=>SP X pins D .next s') I q λDa C H' s' K1 fC hm q=>?_) (λ_ s' hq=>wpAny_pure (wpAny_pure hq)) λ_ _ e=>e)
 show wpAny _ X.A (assign (.Name y py) X.env (.ref Da)) _ _ _
 refine wpAny_assign_Name (jA K1 hN hi hx (v:=.ref Da) rfl (λs2 I2 hh=>?_) hf)
 obtain⟨m,hm⟩:=hm
 obtain⟨a,hsb,ha⟩:=hh
 have hne:C≠a:=by
  rcases ha with z | z
  ·rw [z];exact fC.2.1
  ·exact λe=>fC.2.2.2.2.1 _ _ z e.symm
 exact⟨m,hm.sameBut hsb hne,λh' hs'=>⟨_,H',fC.turn I2 hs',q⟩⟩
section
variable {prog:Program}{w:World}{A:Around}{R:Result->Shared->Prop}{s:Shared}
noncomputable abbrev jZ (prog:Program) (w:World) (A:Around) (env:Env) (R:Result->Shared->Prop):Value->Shared->Prop:=notedBy (model prog w) A env λx s'=>R (.error x) s'
theorem nY {elt tg iter:Expr}{ifs:List Expr}{scope:Scope}{pos:Pos}{it acc:Value}{env:Env} (J:Nat->Shared->Prop)
  (go:∀n s,J n s->wpAny (model prog w) A (pyNext it) (λr s1=>match r with
   | none=>R (.ok .next) s1
   | some v=>wpAny (model prog w) A (letOwnedTupleGo tg it v) (λ_ s1'=>wpAny (model prog w) A (assign tg env v) (λ_ s2=>
     wpAny (model prog w) A (forIn ifs true λc r=>if r=true then do let ok <- isTrue c env (eval c env);pure (ForInStep.yield ok) else pure (ForInStep.yield r)) (λb s3=>
      if b=true then wpAny (model prog w) A (eval elt env) (λx s4=>wpAny (model prog w) A (call (.builtin "list.append") [acc,x]) (λ_ s5=>∃m,m < n/\J m s5) (jZ prog w A env R) s4) (jZ prog w A env R) s3
      else ∃m,m < n/\J m s3) (jZ prog w A env R) s2) (jZ prog w A env R) s1') (jZ prog w A env R) s1) (jZ prog w A env R) s)
  (n:Nat) (h0:J n s):codeAny (model prog w) A (.compLoop (.ListComp elt [⟨tg,iter,ifs,0⟩] scope pos) 0 it acc env) R s:=by
 refine codeAny_loop rfl J (λn s hI=>?_) n h0
 have e:((compTurn (.ListComp elt [⟨tg,iter,ifs,0⟩] scope pos) 0 it acc env).onRaise λx=>do noteFrame x env;theTreesLotGoes x)=((compTurn (.ListComp elt [⟨tg,iter,ifs,0⟩] scope pos) 0 it acc env).onRaise λx=>do noteFrame x env;theTreesLotGoes x):=rfl
 show wpAny _ A ((compTurn (.ListComp elt [⟨tg,iter,ifs,0⟩] scope pos) 0 it acc env).onRaise λx=>do noteFrame x env;theTreesLotGoes x) _ _ s
 apply wpAny_noted
 rw [compTurn_list]
 refine wpAny_bind (wpAny_standAt (wpAny_bind (thn (go n s hI) λr s1 h1=>?_)))
 cases r with
 | none=>exact wpAny_pure h1
 | some v=>
  refine wpAny_bind (thn h1 λ_ s1' h1'=>wpAny_bind (thn h1' λ_ s2 h2=>wpAny_bind (thn h2 λb s3 h3=>?_)))
  cases b with
  | false=>exact wpAny_pure ⟨rfl,h3⟩
  | true=>exact wpAny_bind (wpAny_bind (thn h3 λx s4 h4=>wpAny_bind (thn h4 λ_ s5 h5=>wpAny_pure (wpAny_pure ⟨rfl,h5⟩))))
end
noncomputable def zK (g:TG) (n:Nat) (sub:List Nat) (tt:TT) (te:TE) (σ:St) (Q:VK) (J:It) (H1:Hp):Prop:=∀D,H1 D=none->∃W:Nat->Nat->List V->Hp->Prop,(∃m,W 0 m [] (upd H1 D (.lst [])))/\∀i m ys H2,W i m ys H2->
 (J.stop i H2/\Q (.ref D) H2)\/(J.go i H2/\∃N:List V->Hp->Prop,(∀ys' H',N ys' H'->∃m',m' < m/\W (i+1) m' ys' H')/\∀v H3,J.yld i H2 v H3->∀τ:List (Option V),τ.length=n->g v (τ++bS sub σ) H3 λσ' H'=>(∃τ':List (Option V),τ'.length=n/\σ'=τ'++bS sub σ)/\tt σ' H' λc H4=>if c=true then
  te σ' H4 λy H5=>H5 D=some (.lst ys)/\ys.length < sizeLine/\N (ys++[y]) (upd H5 D (.lst (ys++[y])))
  else N ys H4)
section
variable {X:Cx}
theorem qc {elt tg iter:Expr}{xn:List Str}{g:TG}{CB:St->VK->It->Hp->Prop}{pos:Pos}{ifs:List Expr}{scope:Scope}{cl:List (Str × Addr)}{sub:List Nat}{fv:List Str}{wi:TI}{tt:TT}{te:TE}
  (hc:X.calm=true) (hi:PI X tg iter wi) (hclos:closureFor scope X.env=pure cl)
  (hcell:∀y∈scope.names,y.2≠.cell) (hkind:scope.kind=.function) (hnames:∀y∈scope.names,y.2=.local->scope.names.lookup y.1=some .local)
  (hl:sub.length=fv.length) (hsub:∀(j:Nat) (i:Nat) (y:Str),sub[j]?=some i->fv[j]?=some y->X.N[i]?=some y/\Vis X.env.scope y/\X.env.kindOf y≠some .local)
  (hvis:∀y∈fv,(compEnvC scope cl 0 X.env).kindOf y=some .cell\/(compEnvC scope cl 0 X.env).kindOf y=some .free)
  (hcl:∀y c,cl.lookup y=some c->X.env.cells.lookup y=some c) (hcl2:∀y∈fv,cl.lookup y=X.env.cells.lookup y)
  (hhas:∀y,((compEnvC scope cl 0 X.env).kindOf y=some .cell\/(compEnvC scope cl 0 X.env).kindOf y=some .free)->∃c,cl.lookup y=some c)
  (hg:∀C fp s H,PG (cA X scope cl (xn++fv) C fp s H) tg g) (ht:∀C fp s H,PTs (cA X scope cl (xn++fv) C fp s H) ifs tt) (he:∀C fp s H,PE (cA X scope cl (xn++fv) C fp s H) elt te)
  (hCB:∀σ Q J H1,CB σ Q J H1->zK g xn.length sub tt te σ Q J H1) (hs:∀x,foldedSetIterable iter X.env x=pure x:=by intro _;rfl):PEC X (.ListComp elt [⟨tg,iter,ifs,0⟩] scope pos) iter scope (λσ H Q=>wi σ H λJ H1=>CB σ Q J H1):=by
 intro upos pins s σ H Q use QV I h hend
 refine wpAny_comprehension_free (use:=use) rfl hs hclos hkind hnames ?_
 refine thn (hi pins s σ H _ I h) λv s1 h1=>thn h1 λitv s2 h2=>?_
 obtain⟨it,fp,tn,J,H2,e,I2,T,st2,f2,h⟩:=h2
 subst e
 refine wpAny_newList ?_ (Nat.zero_le _)
 have nD:H2 s2.heap.objs.size=none:=I2.hok.fresh (Nat.le_refl _)
 obtain⟨W,⟨m0,w0⟩,turn⟩:=hCB _ _ _ _ h s2.heap.objs.size nD
 have I3:=I2.lnew (ys:=[]) (its:=[]) (t':=s2.toks) .nil (Nat.zero_le _)
 generalize hs3:({ s2 with heap:=s2.heap.push { cls:=.type "list", data:=.seq ([]:List Value).toArray },toks:=s2.toks }:Shared)=s3 at I3
 have hDlt:s2.heap.objs.size < s3.heap.objs.size:=by rw [<- hs3];show _ < (s2.heap.push _).objs.size;rw [Heap.size_push];exact Nat.lt_succ_self _
 have old3:∀b o,s2.heap.get? b=some o->s3.heap.get? b=some o:=λb o e=>by rw [<- hs3];exact Heap.get?_push_of_some _ e
 generalize hD:s2.heap.objs.size=D at *
 refine wpAny_newFunctionEnv hcell (by intro y hy;simp at hy) (λh₁ hns hsb=>?_) hkind
 generalize hC:s3.heap.objs.size=C at *
 have kept:∀b o,s3.heap.get? b=some o->h₁.get? b=some o:=λb o e=>(hsb.2 b (by rw [<- hC];exact Nat.ne_of_lt (Heap.lt_size e))).trans (Heap.get?_push_of_some _ e)
 have nC:upd H2 D (.lst []) C=none:=I3.hok.fresh (Nat.le_of_eq hC)
 have fC:hJ X pins (upd H2 D (.lst [])) C:=I3.fpOk (Nat.le_of_eq hC) nC
 have fp3:∀b∈fp,b < s2.heap.objs.size:=λb hb=>by obtain⟨o,e,_⟩:=T.obj _ _ st2 b hb;exact Heap.lt_size e
 have fpC:∀b∈fp,b≠C:=λb hb=>by rw [<- hC];exact Nat.ne_of_lt (Nat.lt_of_lt_of_le (fp3 b hb) (by rw [hD];exact Nat.le_of_lt (hC ▸ hDlt)))
 have fpD:∀b∈fp,b≠D:=λb hb=>by rw [<- hD];exact Nat.ne_of_lt (fp3 b hb)
 have ok':(cA X scope cl (xn++fv) C fp s3 (upd H2 D (.lst []))).Ok:=by
  refine⟨I.ok.mod,hkind,I.ok.glob,I.ok.blt,Nat.le_of_eq hC,λy z c e1 e2=>I.ok.inj y z c (hcl y c e1) (hcl z c e2),λy hy=>hhas y hy,(λy c e _=>by cases e),λ_=>I.ok.hd hc,I.ok.frames,.inl rfl,λb hb=>⟨fpC b hb,λy c e=>(f2 b hb).2.2.2.2.1 y c (hcl y c e)⟩,I3.bs,Nat.le_trans I.ok.bsz I3.sz,
   λb o e hb=>?_,λb hb hf=>?_,I3.stack,I3.stkFree⟩
  ·rcases (f2 b hb).2.2.2.1 with z | z
   ·exact I.ok.noex b o e z
   ·exact absurd (Nat.lt_of_lt_of_le (Heap.lt_size e) (Nat.le_trans I.ok.bsz z)) (Nat.lt_irrefl _)
  ·rcases List.mem_cons.mp (I3.stkSub b hf) with z | z
   ·exact(f2 b hb).2.1 z
   ·exact(f2 b hb).2.2.1 z
 have lenσ:∀τ:List (Option V),τ.length=xn.length->(τ++bS sub σ).length=(xn++fv).length:=λτ ht=>by
  unfold bS
  rw [List.length_append,List.length_append,List.length_map,hl,ht]
 have I4:∀t',Inv (cA X scope cl (xn++fv) C fp s3 (upd H2 D (.lst []))) [] (List.replicate xn.length none++bS sub σ) (upd H2 D (.lst [])) { s3 with heap:=h₁,toks:=t' }:=λt'=>by
  refine⟨ok',rfl,I3.bare,Un.kept kept,⟨_,hns,λi y v e1 e2 e3=>?_⟩,λy c e=>?_,nC,λy c e=>I3.freeC y c (hcl y c e),(λp hp=>by cases hp),I3.hok.kept kept,lenσ _ (List.length_replicate ..)⟩
  ·by_cases hi:i < xn.length
   ·rw [List.getElem?_append_left (by rw [List.length_replicate];exact hi),List.getElem?_replicate,if_pos hi]at e2
    cases e2
   ·have e1:(xn++fv)[i]?=some y:=e1
    rw [List.getElem?_append_right (by omega)]at e1
    rw [List.getElem?_append_right (by rw [List.length_replicate];omega),List.length_replicate]at e2
    generalize i - xn.length=j at e1 e2
    unfold bS at e2
    rw [List.getElem?_map]at e2
    cases ei:sub[j]? with
    | none=>rw [ei]at e2;cases e2
    | some i=>
     rw [ei]at e2
     have e2:(σ[i]?).join=some v:=Option.some.inj e2
     obtain⟨n1,n2,n3⟩:=hsub j i y ei e1
     have e4:σ[i]?=some (some v):=by
      cases q:σ[i]? with
      | none=>rw [q]at e2;cases e2
      | some w'=>rw [q]at e2;cases w' with
       | none=>cases e2
       | some v'=>cases e2;rfl
     obtain⟨m,hn,hl'⟩:=I3.loc
     obtain⟨u,ru,lu⟩:=hl' i y v n1 e4 n2
     refine⟨u,ru,?_⟩
     rcases lu with⟨k1,_⟩ | ⟨k1,c,ec,ic⟩
     ·exact absurd k1 n3
     ·have hy:=List.mem_of_getElem? e1
      exact .inr ⟨hvis y hy,c,(hcl2 y hy).trans ec,ic.keeps kept⟩
  ·obtain⟨v,z⟩:=I3.cell y c (hcl y c e)
   exact⟨v,z.keeps kept⟩
 have back:∀{σ':St}{H':Hp}{s':Shared},Inv (cA X scope cl (xn++fv) C fp s3 (upd H2 D (.lst []))) [] σ' H' s'->Q (.ref D) H'->
   compPost (model X.prog X.w) X.A X.xe use QV (.ref D) C (.ok .next) s':=λ{σ' H' s'} J' q=>by
  obtain⟨m,hm,_⟩:=id J'.loc
  have hos:s'.os=s3.os:=J'.os
  have K1:Inv X pins σ H' s':=I3.call' (ch:=fp) hos J'.base J'.hok J'.bare λb hb=>⟨(f2 b hb).2.2.2.1,(f2 b hb).2.1,(f2 b hb).2.2.2.2.1,(f2 b hb).2.2.2.2.2⟩
  exact hend D C H' s' K1 ⟨J'.free,fC.2⟩ ⟨m,hm⟩ q
 have stat:∀{H':Hp},(∀b∈fp,H' b=none)->∀b∈fp,hJ (cA X scope cl (xn++fv) C fp s3 (upd H2 D (.lst []))) [] H' b:=λhn b hb=>
  ⟨hn b hb,fpC b hb,ok'.exfs b hb,.inl hb,(ok'.exf b hb).2,(λp hp=>by cases hp)⟩
 have loop:∀t',codeAny (model X.prog X.w) X.A (.compLoop (.ListComp elt [⟨tg,iter,ifs,0⟩] scope pos) 0 (.ref it) (.ref D) (compEnvC scope cl C X.env)) (compPost (model X.prog X.w) X.A X.xe use QV (.ref D) C) { s3 with heap:=h₁,toks:=t' }:=λt'=>by
  refine nY (λn s'=>∃(i:Nat) (ys:List V) (H':Hp) (τ:List (Option V)),τ.length=xn.length/\Inv (cA X scope cl (xn++fv) C fp s3 (upd H2 D (.lst []))) [] (τ++bS sub σ) H' s'/\tn i s'.heap/\(∀b∈fp,H' b=none)/\W i n ys H') ?_ m0
   ⟨0,[],_,_,List.length_replicate ..,I4 t',T.keep _ _ _ st2 (λb hb o e=>kept b o (old3 b o e)),λb hb=>by rw [al (fpD b hb)];exact(f2 b hb).1,w0⟩
  rintro n s5 ⟨i,ys,H5,τ,hτ,I5,st5,fr5,w5⟩
  rcases turn i n ys H5 w5 with⟨stop,q⟩ | ⟨go,NN,hNN,step⟩
  ·refine wpAny_mono (T.done (cA X scope cl (xn++fv) C fp s3 (upd H2 D (.lst []))) rfl rfl rfl rfl i [] s5 _ H5 (λ_ _=>False) I5 (stat fr5) st5 stop) (λr s6 hh=>?_) λ_ _ f=>f.elim
   obtain⟨hr,I6⟩:=hh
   subst hr
   exact back I6 q
  ·refine wpAny_mono (T.item (cA X scope cl (xn++fv) C fp s3 (upd H2 D (.lst []))) rfl rfl rfl rfl i [] s5 _ H5 (λ_ _=>False) I5 (stat fr5) st5 go) (λr s6 hh=>?_) λ_ _ f=>f.elim
   obtain⟨u,hr,h6⟩:=hh
   subst hr
   refine wpAny_mono h6 (λ_ s7 hh=>?_) λ_ _ f=>f.elim
   obtain⟨v,H7,I7,r7,y7,st7,fr7⟩:=hh
   have I7':=I7.pinned (stat fr7) (T.obj _ _ st7)
   refine wpAny_mono (hg C fp s3 _ _ s7 _ H7 v u _ I7' r7 (step v H7 y7 τ hτ)) (λ_ s8 hh=>?_) λ_ _ f=>f.elim
   obtain⟨_,H8,I8,⟨τ',hτ',rfl⟩,step⟩:=hh
   have again:∀{H9:Hp}{s9:Shared}{ys9:List V}{m9:Nat},Inv (cA X scope cl (xn++fv) C fp s3 (upd H2 D (.lst []))) ([]++j9 fp s7.heap) (τ'++bS sub σ) H9 s9->m9 < n->W (i+1) m9 ys9 H9->
     ∃m,m < n/\∃(i:Nat) (ys:List V) (H':Hp) (τ:List (Option V)),τ.length=xn.length/\Inv (cA X scope cl (xn++fv) C fp s3 (upd H2 D (.lst []))) [] (τ++bS sub σ) H' s9/\tn i s9.heap/\(∀b∈fp,H' b=none)/\W i m ys H':=λ{H9 s9 ys9 m9} I9 hm w9=>by
    refine⟨m9,hm,i+1,ys9,H9,_,hτ',I9.unpinned,T.keep _ _ _ st7 λb hb o e=>(I9.pin (b,o) (List.mem_append_right _ (List.mem_append_right _ (eC hb e)))).1,λb hb=>?_,w9⟩
    obtain⟨o,e,d⟩:=T.obj _ _ st7 b hb
    exact(I9.pin (b,o) (List.mem_append_right _ (List.mem_append_right _ (eC hb e)))).2.1
   refine wpAny_mono (ht C fp s3 _ _ s8 _ H8 _ I8 step) (λok s9 hh=>?_) λ_ _ f=>f.elim
   obtain⟨H9,I9,q9⟩:=hh
   cases ok with
   | false=>
    rw [if_neg Bool.false_ne_true]at q9 ⊢
    obtain⟨m',hm,w'⟩:=hNN _ _ q9
    exact again I9 hm w'
   | true=>
    rw [if_pos rfl]at q9 ⊢
    refine wpAny_mono (he C fp s3 _ _ s9 _ H9 _ I9 q9) (λxv sa hh=>?_) λ_ _ f=>f.elim
    obtain⟨y,Ha,Ia,ra,hDa,hsz,qa⟩:=hh
    obtain⟨m',hm,w'⟩:=hNN _ _ qa
    refine wpAny_mono (df (X:=cA X scope cl (xn++fv) C fp s3 (upd H2 D (.lst []))) _ sa _ Ha (.ref D) [y] (.ref D) [xv] (λ_ H'=>H'=upd Ha D (.lst (ys++[y]))) Ia rfl (.cons ra .nil) ⟨D,ys,y,rfl,rfl,hDa,hsz,rfl⟩) (λ_ sb hh=>?_) λ_ _ f=>f.elim
    obtain⟨_,Hb,Ib,_,rfl⟩:=hh
    exact again Ib hm w'
 exact codeAny_compStart_list (loop _) (T.self X.A 0 _ _ _ (T.keep _ _ _ st2 (λb hb o e=>kept b o (old3 b o e))) (loop _))
theorem m6 {elt iter:Expr}{x:Str}{px pos:Pos}{ifs:List Expr}{scope:Scope}{cl:List (Str × Addr)}{sub:List Nat}{fv:List Str}{wi:TI}{tt:TT}{te:TE}
  (hc:X.calm=true) (hi:PI X (.Name x px) iter wi) (hclos:closureFor scope X.env=pure cl)
  (hcell:∀y∈scope.names,y.2≠.cell) (hkind:scope.kind=.function) (hnames:∀y∈scope.names,y.2=.local->scope.names.lookup y.1=some .local) (hx:scope.names.lookup x=some .local)
  (hnd:(x::fv).Nodup) (hl:sub.length=fv.length) (hsub:∀(j:Nat) (i:Nat) (y:Str),sub[j]?=some i->fv[j]?=some y->X.N[i]?=some y/\Vis X.env.scope y/\X.env.kindOf y≠some .local)
  (hvis:∀y∈fv,(compEnvC scope cl 0 X.env).kindOf y=some .cell\/(compEnvC scope cl 0 X.env).kindOf y=some .free)
  (hcl:∀y c,cl.lookup y=some c->X.env.cells.lookup y=some c) (hcl2:∀y∈fv,cl.lookup y=X.env.cells.lookup y)
  (hhas:∀y,((compEnvC scope cl 0 X.env).kindOf y=some .cell\/(compEnvC scope cl 0 X.env).kindOf y=some .free)->∃c,cl.lookup y=some c)
  (ht:∀C fp s H,PTs (cA X scope cl (x::fv) C fp s H) ifs tt) (he:∀C fp s H,PE (cA X scope cl (x::fv) C fp s H) elt te)
  (hs:∀x,foldedSetIterable iter X.env x=pure x:=by intro _;rfl):PEC X (.ListComp elt [⟨.Name x px,iter,ifs,0⟩] scope pos) iter scope (iR wi sub tt te):=by
 refine qc (xn:=[x]) (g:=aA 0) hc hi hclos hcell hkind hnames hl hsub hvis hcl hcl2 hhas (λC fp s H=>bO (i:=0) hnd rfl (.inl (lookup_relabel_local hx)) (.inr (lookup_relabel_local hx))) ht he (λσ Q J H1 h D nD=>?_) hs
 obtain⟨W,w0,st⟩:=h D nD
 refine⟨W,w0,λi m ys H2 hw=>(st i m ys H2 hw).imp id λ⟨go,N,hN,h⟩=>⟨go,N,hN,λv H3 y τ hτ=>?_⟩⟩
 match τ,hτ with
 | [t0],_=>exact⟨⟨[some v],rfl,rfl⟩,h v H3 y⟩
end
end L2
namespace Strip
section
variable {M:Type} [DecidableEq M]
structure Part (cs:List (Row M)) (f day:Int) (G:Int->M):Prop where
 tidy:Tidy cs
 day:∀n,wD cs n=if f<=n/\n < day then some (G n) else none
end
end Strip
namespace L2
open PySem PySem.Spec PyProof.Rows
section
variable {X:Cx}{pins:List (Addr × Obj)}{σ:St}{H:Hp}{s:Shared}
end
section
variable {X:Cx}
end
end L2
namespace L2
open PySem PySem.Spec PyProof.Rows
theorem dO {K:PySem.W.Frag}{a D:Addr}{xs:List V}{σ:St}{sub:List Nat}{tt:TT}{te:TE}{Q:VK}{H:Hp} (Pv:Nat->List V->Hp->Prop) (h0:Pv 0 [] (upd H D (.lst []))) (hl:∀i ys H,i<=xs.length->Pv i ys H->SqL K H a xs)
  (hs:∀i x ys H,xs[i]?=some x->Pv i ys H->tt (some x::bS sub σ) H λb H4=>if b=true then te (some x::bS sub σ) H4 λy H5=>H5 D=some (.lst ys)/\ys.length < sizeLine/\Pv (i+1) (ys++[y]) (upd H5 D (.lst (ys++[y]))) else Pv (i+1) ys H4)
  (hd:∀ys H,Pv xs.length ys H->Q (.ref D) H) :
  ∃W:Nat->Nat->List V->Hp->Prop,(∃m,W 0 m [] (upd H D (.lst [])))/\∀i m ys H2,W i m ys H2->
   ((Itl K a).stop i H2/\Q (.ref D) H2)\/((Itl K a).go i H2/\∃N:List V->Hp->Prop,(∀ys' H',N ys' H'->∃m',m' < m/\W (i+1) m' ys' H')/\∀v H3,(Itl K a).yld i H2 v H3->tt (some v::bS sub σ) H3 λb H4=>if b=true then
    te (some v::bS sub σ) H4 λy H5=>H5 D=some (.lst ys)/\ys.length < sizeLine/\N (ys++[y]) (upd H5 D (.lst (ys++[y])))
    else N ys H4):=by
 refine⟨λi m ys H=>m=xs.length - i/\i<=xs.length/\Pv i ys H,⟨xs.length,rfl,Nat.zero_le _,h0⟩,?_⟩
 rintro i m ys H ⟨rfl,hi,p⟩
 have q:=hl i ys H hi p
 by_cases hlt:i < xs.length
 ·refine .inr ⟨⟨xs,xs[i],q,by simp [hlt]⟩,Pv (i+1),λys' H' p'=>⟨xs.length - (i+1),by omega,rfl,hlt,p'⟩,λx H' y=>?_⟩
  obtain⟨e,y⟩:=y
  subst e
  exact hs i x ys _ (y xs q) p
 ·have e:i=xs.length:=by omega
  subst e
  exact .inl ⟨⟨xs,q,Nat.le_refl _⟩,hd ys H p⟩
end L2
namespace L2
open PySem PySem.Spec PyProof.Rows
end L2
namespace L2
open PySem PySem.Spec PyProof.Rows
section
variable {X:Cx}
theorem mt_startswith:MtR X "str.startswith" (λx xs H Q=>∃i j,x=.str i/\xs=[.str j]/\Q (.bl (Txt.startswith i j)) H):=by
 intro pins s σ H x xs v us Q I rx rv h
 obtain⟨i,j,rfl,rfl,q⟩:=h
 obtain⟨t,rfl⟩:=rx
 obtain⟨u,rfl,t',rfl⟩:=dn rv
 exact PySem.SC.startswith ⟨.bl _,H,I,rfl,q⟩
theorem dG:cO X (.type "int") (λxs H Q=>∃x n,xs=[.str x]/\PySem.intText? x=some n/\x.length<=640/\Q (.int n) H):=by
 intro pins s σ H xs us Q I r h
 obtain⟨x,n,rfl,hn,hl,q⟩:=h
 obtain⟨u,rfl,t,rfl⟩:=dn r
 exact PySem.W.KIN.call_text hn hl ⟨.int n,H,I.tok _,⟨_,rfl⟩,q⟩
theorem kM:SlR X (λx lo hi H Q=>∃z,x=.str z/\z.length<=sizeLine/\Q (.str (Txt.slice z lo hi)) H):=by
 intro pins s σ H x v vl vu lo hi sl Q I rx hs pl pu h
 obtain⟨z,rfl,hz,q⟩:=h
 obtain⟨t,rfl⟩:=rx
 refine⟨"str", _,slot_str_getitem.lookup,typeIs_str s z t,?_⟩
 have fin:∀l u:Option (Int × Tok),vl=partValue l->vu=partValue u->l.map (·.1)=lo->u.map (·.1)=hi->
   wpAny (model X.prog X.w) X.A (getItem (.str z t) (.ref sl)) (EP X pins σ Q) X.xe s:=λl u e1 e2 e3 e4=>by
  subst e1 e2 e3 e4
  refine wpAny_getItem_str_slice (l:=l) (u:=u) (st:=none) hs rfl ?_
  have q2:∀t',EP X pins σ Q (.str (Txt.slice z (l.map (·.1)) (u.map (·.1))) t') s:=λt'=>⟨.str _,H,I,⟨t',rfl⟩,q⟩
  unfold sliceMade
  unfold Txt.slice at q2
  unfold Txt.slice at q
  by_cases c:((((none:Option (Int × Tok)).map (·.1)).getD 1:Int) == 1 && (slicePicked z l u none).length == z.length)=true
  ·rw [if_pos c]
   rw [if_pos (show ((1:Int) == 1 && (Builtin.Str.strSliceIndices (l.map (·.1)) (u.map (·.1)) 1 z.length).length == z.length)=true from c)]at q2
   exact q2 t
  ·rw [if_neg c]
   rw [if_neg (show ¬((1:Int) == 1 && (Builtin.Str.strSliceIndices (l.map (·.1)) (u.map (·.1)) 1 z.length).length == z.length)=true from c)]at q
   refine⟨?_,⟨.str _,H,I.tok _,⟨_,rfl⟩,q⟩⟩
   have hle:=Txt.slice_le z (l.map (·.1)) (u.map (·.1))
   unfold Txt.slice at hle
   rw [if_neg (show ¬((1:Int) == 1 && (Builtin.Str.strSliceIndices (l.map (·.1)) (u.map (·.1)) 1 z.length).length == z.length)=true from c)]at hle
   exact Nat.le_trans hle hz
 cases pl with
 | none=>cases pu with
  | none=>exact fin none none rfl rfl rfl rfl
  | int j tj=>exact fin none (some (j,tj)) rfl rfl rfl rfl
 | int i ti=>cases pu with
  | none=>exact fin (some (i,ti)) none rfl rfl rfl rfl
  | int j tj=>exact fin (some (i,ti)) (some (j,tj)) rfl rfl rfl rfl
noncomputable def Its (x:Str):It:=⟨λi _=>i < x.cps.size,λi H v H'=>H'=H/\∃c,x.cps[i]?=some c/\v=.str ⟨#[c]⟩,λi _=>x.cps.size<=i⟩
theorem mO {P:Program}{w:World}{K:PySem.W.Frag}{tg:Expr} (x:Str) (t:Tok) (it:Addr):Turn P w K tg (Its x) [it] it (λi h=>h.IsStrIter it "str_ascii_iterator" x t i) where
 mem:=by simp
 obj:=λi h st b hb=>by
  have e:b=it:=by simpa using hb
  subst e
  obtain⟨o,e,c,d⟩:=st
  exact⟨o,e,λv z=>by rw [d]at z;cases z⟩
 keep:=λi h h' st k=>let ⟨o,ho,r⟩:=st;⟨o,k it (by simp) o ho,r⟩
 item:=by
  intro X hP hw hK hc i pins s σ H E I hf st hg
  subst hP hw hK
  have hg:i < x.cps.size:=hg
  obtain⟨f0,f1,f2,f3,f4,f5⟩:=hf it (by simp)
  refine wpAny_pyNext_ascii_item st (c:=x.cps[i]) (by simp [hg]) λh' st' sb=>?_
  have I1:Inv X pins σ H { s with heap:=h',toks:=s.toks+1 }:=I.turned (λb o hb e=>(sb.2 b hb).trans e) f0 f1 f3 f4 f5
  obtain⟨o,e,c,d⟩:=id st'
  exact⟨_,rfl,mB (s:={ s with heap:=h',toks:=s.toks+1 }) e c d (by decide) ⟨.str ⟨#[x.cps[i]]⟩,H,I1,⟨_,rfl⟩,⟨rfl,_,by simp [hg],rfl⟩,st',λb hb=>(hf b hb).1⟩⟩
 done:=by
  intro X hP hw hK hc i pins s σ H E I hf st hg
  subst hP hw hK
  have hg:x.cps.size<=i:=hg
  obtain⟨f0,f1,f2,f3,f4,f5⟩:=hf it (by simp)
  exact wpAny_pyNext_ascii_end (I.ok.hd hc) st (by simp;omega) λh' eb=>⟨rfl,I.turned (t':=s.toks) (λb o hb e=>eb b o hb e) f0 f1 f3 f4 f5⟩
 self:=λ_ _ _ _ _ st h=>wpAny_pyIter_striter_ascii st h
theorem pR {P:Program}{w:World}{K:PySem.W.Frag}{tg:Expr} (x:Str) (t:Tok) (it:Addr):Turn P w K tg (Its x) [it] it (λi h=>h.IsStrIter it "str_iterator" x t i) where
 mem:=by simp
 obj:=λi h st b hb=>by
  have e:b=it:=by simpa using hb
  subst e
  obtain⟨o,e,c,d⟩:=st
  exact⟨o,e,λv z=>by rw [d]at z;cases z⟩
 keep:=λi h h' st k=>let ⟨o,ho,r⟩:=st;⟨o,k it (by simp) o ho,r⟩
 item:=by
  intro X hP hw hK hc i pins s σ H E I hf st hg
  subst hP hw hK
  have hg:i < x.cps.size:=hg
  obtain⟨f0,f1,f2,f3,f4,f5⟩:=hf it (by simp)
  refine wpAny_pyNext_wide_item st (c:=x.cps[i]) (by simp [hg]) λh' st' sb=>?_
  have I1:Inv X pins σ H { s with heap:=h',toks:=s.toks+1 }:=I.turned (λb o hb e=>(sb.2 b hb).trans e) f0 f1 f3 f4 f5
  obtain⟨o,e,c,d⟩:=id st'
  exact⟨_,rfl,mB (s:={ s with heap:=h',toks:=s.toks+1 }) e c d (by decide) ⟨.str ⟨#[x.cps[i]]⟩,H,I1,⟨_,rfl⟩,⟨rfl,_,by simp [hg],rfl⟩,st',λb hb=>(hf b hb).1⟩⟩
 done:=by
  intro X hP hw hK hc i pins s σ H E I hf st hg
  subst hP hw hK
  have hg:x.cps.size<=i:=hg
  obtain⟨f0,f1,f2,f3,f4,f5⟩:=hf it (by simp)
  exact wpAny_pyNext_wide_end (I.ok.hd hc) st (by simp;omega) λh' eb=>⟨rfl,I.turned (t':=s.toks) (λb o hb e=>eb b o hb e) f0 f1 f3 f4 f5⟩
 self:=λ_ _ _ _ _ st h=>wpAny_pyIter_striter_wide st h
noncomputable def zy (tl:TE):TI:=λσ H R=>tl σ H λv H1=>∃x,v=.str x/\R (Its x) H1
theorem nK {tg l:Expr}{tl:TE} (hl:PE X l tl):PI X tg l (zy tl):=by
 intro pins s σ H R I h
 refine thn (hl pins s σ H _ I h) λv s1 ⟨y,H1,I1,r1,q1⟩=>?_
 obtain⟨x,e,q⟩:=q1
 subst e
 obtain⟨t,rfl⟩:=r1
 have fp:∀b∈[s1.heap.objs.size],hJ X pins H1 b:=λb hb=>by
  have e:b=s1.heap.objs.size:=by simpa using hb
  subst e
  exact I1.fpOk (Nat.le_refl _) (I1.hok.fresh (Nat.le_refl _))
 cases ha:x.cps.all (· < 128)
 ·refine wpAny_pyIter_wide ha ?_
  exact⟨s1.heap.objs.size,[s1.heap.objs.size],_,_,H1,rfl,I1.kept (t':=s1.toks) λb o e=>Heap.get?_push_of_some _ e,pR x t _,⟨_,Heap.get?_push_size _ rfl,rfl,rfl⟩,fp,q⟩
 ·refine wpAny_pyIter_ascii ha ?_
  exact⟨s1.heap.objs.size,[s1.heap.objs.size],_,_,H1,rfl,I1.kept (t':=s1.toks) λb o e=>Heap.get?_push_of_some _ e,mO x t _,⟨_,Heap.get?_push_size _ rfl,rfl,rfl⟩,fp,q⟩
theorem mH {x:Str}{D:Addr}{σ:St}{sub:List Nat}{tt:TT}{te:TE}{Q:VK}{H:Hp} (Pv:Nat->List V->Hp->Prop) (h0:Pv 0 [] (upd H D (.lst [])))
  (hs:∀i c ys H,x.cps[i]?=some c->Pv i ys H->tt (some (.str ⟨#[c]⟩)::bS sub σ) H λb H4=>if b=true then te (some (.str ⟨#[c]⟩)::bS sub σ) H4 λy H5=>H5 D=some (.lst ys)/\ys.length < sizeLine/\Pv (i+1) (ys++[y]) (upd H5 D (.lst (ys++[y]))) else Pv (i+1) ys H4)
  (hd:∀ys H,Pv x.cps.size ys H->Q (.ref D) H) :
  ∃W:Nat->Nat->List V->Hp->Prop,(∃m,W 0 m [] (upd H D (.lst [])))/\∀i m ys H2,W i m ys H2->
   ((Its x).stop i H2/\Q (.ref D) H2)\/((Its x).go i H2/\∃N:List V->Hp->Prop,(∀ys' H',N ys' H'->∃m',m' < m/\W (i+1) m' ys' H')/\∀v H3,(Its x).yld i H2 v H3->tt (some v::bS sub σ) H3 λb H4=>if b=true then
    te (some v::bS sub σ) H4 λy H5=>H5 D=some (.lst ys)/\ys.length < sizeLine/\N (ys++[y]) (upd H5 D (.lst (ys++[y])))
    else N ys H4):=by
 refine⟨λi m ys H=>m=x.cps.size - i/\i<=x.cps.size/\Pv i ys H,⟨_,rfl,Nat.zero_le _,h0⟩,?_⟩
 rintro i m ys H ⟨rfl,hi,p⟩
 by_cases hlt:i < x.cps.size
 ·refine .inr ⟨hlt,Pv (i+1),λys' H' p'=>⟨_,by omega,rfl,hlt,p'⟩,λv H' y=>?_⟩
  obtain⟨rfl,c,ec,rfl⟩:=y
  exact hs i c ys _ ec p
 ·have e:i=x.cps.size:=by omega
  subst e
  exact .inl ⟨Nat.le_refl _,hd ys H p⟩
end
end L2
namespace L2
open PySem PySem.Spec PyProof.Rows
section
variable {X:Cx}
theorem ip (hc:X.calm=true):cO X (.builtin "all") (λxs H Q=>∃(a:Addr) (bs:List Bool),xs=[.ref a]/\SqL X.K H a (bs.map V.bl)/\Q (.bl (bs.all id)) H):=by
 intro pins s σ H xs us Q I r h
 obtain⟨a,bs,rfl,hS,q⟩:=h
 obtain⟨u,rfl,ru⟩:=dn r
 cases (show u=Value.ref a from ru)
 obtain⟨its,rv,p,hz⟩:=I.list hS
 have hlen:=rv.length
 rw [List.length_map]at hlen
 have hne:a≠s.heap.objs.size:=λz=>by
  obtain⟨o,e,_⟩:=p.isList
  exact Nat.lt_irrefl _ (z ▸ Heap.lt_size e)
 obtain⟨f0,f1,f2,f3,f4,f5⟩:=I.fpOk (Nat.le_refl _) (I.hok.fresh (Nat.le_refl _))
 refine call_all_walk (wpAny_pyIter_list p.isList ?_)
 have I1:=λo=>I.kept (h':=s.heap.push o) (t':=s.toks) λb ob e=>Heap.get?_push_of_some _ e
 refine⟨s.heap.objs.size,_,_,_,_,_,λi=>bs.getD i false,rfl,Walks.list (A:=X.A.in1) (I.ok.hd hc) _ a hne its.toArray,⟨⟨_,Heap.get?_push_size _ rfl,rfl,rfl⟩,p.isList.at λo e=>Heap.get?_push_of_some _ e⟩,?_,λh' tk hk=>?_⟩
 ·intro i v s' Q' E' hv hQ
  have hv:its[i]?=some v:=by simpa using hv
  have hi:i < bs.length:=by rw [hlen];exact(List.getElem?_eq_some_iff.mp hv).1
  obtain⟨u',hu,ru'⟩:=rv.get (i:=i) (x:=V.bl bs[i]) (by rw [List.getElem?_map,List.getElem?_eq_getElem hi];rfl)
  rw [hv]at hu
  cases hu
  cases (show v=Value.bool bs[i] from ru')
  have e:bs.getD i false=bs[i]:=by rw [List.getD_eq_getElem?_getD,List.getElem?_eq_getElem hi];rfl
  have hQ:Q' (bs.getD i false) s':=hQ
  rw [e]at hQ
  exact wpAny_truthy_bool hQ
 ·refine⟨.bl _,H,(I1 _).turned (t':=tk) (λb o hb e=>hk b o (by simpa using hb) e) f0 f1 f3 f4 f5,rfl,?_⟩
  have e:(List.range its.toArray.size).all (λi=>bs.getD i false)=bs.all id:=by
   rw [List.size_toArray,<- hlen]
   rw [Bool.eq_iff_iff,List.all_eq_true,List.all_eq_true]
   constructor
   ·intro h b hb
    obtain⟨i,hi,rfl⟩:=List.getElem_of_mem hb
    have:=h i (List.mem_range.mpr hi)
    rw [List.getD_eq_getElem?_getD,List.getElem?_eq_getElem hi]at this
    exact this
   ·intro h i hi
    have hi:=List.mem_range.mp hi
    rw [List.getD_eq_getElem?_getD,List.getElem?_eq_getElem hi]
    exact h _ (List.getElem_mem hi)
  rw [e]
  exact q
theorem fG {α:Type}:∀{l:List (Str × α)}{z:Str}{k:α},l.lookup z=some k->∃p∈l,z=p.1/\p.2=k
 | [],_,_,e=>by cases e
 | (n,k')::r,z,k,e=>by
  rw [List.lookup_cons]at e
  split at e
  ·rename_i h
   cases e
   exact⟨(n,k'),List.mem_cons_self,eq_of_beq h,rfl⟩
  ·obtain⟨p,hp,q⟩:=fG e
   exact⟨p,List.mem_cons_of_mem _ hp,q⟩
theorem sy {elt iter:Expr}{x y:Str}{c:Addr}{i:Nat}{px pos:Pos}{ifs:List Expr}{scope:Scope}{wi:TI}{tt:TT}{te:TE}
  (hc:X.calm=true) (hi:PI X (.Name x px) iter wi) (hclos:closureFor scope X.env=pure [(y,c)]) (hkind:scope.kind=.function)
  (hall:∀p∈scope.names,p.2=.local\/(p.1=y/\p.2=.free)) (hnames:∀p∈scope.names,p.2=.local->scope.names.lookup p.1=some .local) (hx:scope.names.lookup x=some .local)
  (hxy:x≠y) (hN:X.N[i]?=some y) (hv:Vis X.env.scope y) (hk:X.env.kindOf y≠some .local)
  (hvis:(compEnvC scope [(y,c)] 0 X.env).kindOf y=some .cell\/(compEnvC scope [(y,c)] 0 X.env).kindOf y=some .free) (hcy:X.env.cells.lookup y=some c)
  (ht:∀C fp s H,PTs (cA X scope [(y,c)] [x,y] C fp s H) ifs tt) (he:∀C fp s H,PE (cA X scope [(y,c)] [x,y] C fp s H) elt te)
  (hs:∀x,foldedSetIterable iter X.env x=pure x:=by intro _;rfl):PE X (.ListComp elt [⟨.Name x px,iter,ifs,0⟩] scope pos) (iR wi [i] tt te):=by
 have one:∀{z c'},[(y,c)].lookup z=some c'->z=y/\c'=c:=λ{z c'} e=>by
  obtain⟨p,hp,e1,e2⟩:=fG e
  cases List.mem_singleton.mp hp
  exact⟨e1,e2.symm⟩
 have self:[(y,c)].lookup y=some c:=by rw [List.lookup_cons];simp
 refine ff ?_
 refine m6 (cl:=[(y,c)]) (fv:=[y]) hc hi hclos (λp hp z=>?_) hkind hnames hx ?_ rfl (λj k z e1 e2=>?_) (λz hz=>?_) (λz c' e=>?_) (λz hz=>?_) (λz hz=>?_) ht he hs
 ·rcases hall p hp with q | ⟨_,q⟩ <;> rw [q]at z <;> cases z
 ·exact List.nodup_cons.mpr ⟨λh=>hxy (List.mem_singleton.mp h),List.nodup_cons.mpr ⟨(λh=>nomatch h),List.nodup_nil⟩⟩
 ·cases j with
  | zero=>cases e1;cases e2;exact⟨hN,hv,hk⟩
  | succ j=>cases e1
 ·cases List.mem_singleton.mp hz
  exact hvis
 ·obtain⟨rfl,rfl⟩:=one e
  exact hcy
 ·cases List.mem_singleton.mp hz
  rw [self,hcy]
 ·have far:∀k,(k=.cell\/k=.free)->(compEnvC scope [(y,c)] 0 X.env).kindOf z=some k->∃c',[(y,c)].lookup z=some c':=λk hkk e=>by
   obtain⟨p,hp,e1,e2⟩:=fG (show (scope.names.map _).lookup z=some k from e)
   obtain⟨⟨n,kk⟩,hq,rfl⟩:=List.mem_map.mp hp
   rcases hall _ hq with q | ⟨q,_⟩
   ·have q:kk=.local:=q
    subst q
    have e2:NameKind.local=k:=e2
    rcases hkk with r | r <;> rw [r]at e2 <;> cases e2
   ·have q:n=y:=q
    subst q
    refine⟨c,?_⟩
    have:z=n:=by
     rw [e1]
     dsimp only
     split <;> rfl
    rw [this]
    exact self
  rcases hz with e | e
  ·exact far _ (.inl rfl) e
  ·exact far _ (.inr rfl) e
end
end L2
namespace L2
open PySem PySem.Spec PyProof.Rows
end L2
namespace L2
open PySem PySem.Spec PyProof.Rows
end L2
namespace Strip
section
variable {M:Type} [DecidableEq M]
end
end Strip
namespace L2
open PySem PySem.Spec PyProof.Rows
noncomputable abbrev Ac:=Str × Int × Int × V × V
noncomputable def tupB (b:Ac):List V:=[.str b.1,.int b.2.1,.int b.2.2.1,b.2.2.2.1,b.2.2.2.2]
end L2
namespace Strip
open L2 PySem
end Strip
namespace L2
open PySem PySem.Spec PyProof.Rows
inductive Caps (X:Cx) (scope:Scope) (cl0:List (Str × Addr)):List (Str × Addr)->List Nat->Prop
 | nil:Caps X scope cl0 [] []
 | cons {y:Str}{c:Addr}{i:Nat}{cl:List (Str × Addr)}{sub:List Nat} (hN:X.N[i]?=some y) (hv:Vis X.env.scope y) (hk:X.env.kindOf y≠some .local)
   (hvis:(compEnvC scope cl0 0 X.env).kindOf y=some .cell\/(compEnvC scope cl0 0 X.env).kindOf y=some .free) (hc:X.env.cells.lookup y=some c) (t:Caps X scope cl0 cl sub):Caps X scope cl0 ((y,c)::cl) (i::sub)
section
variable {X:Cx}{scope:Scope}{cl0:List (Str × Addr)}
theorem Caps.len:∀{cl:List (Str × Addr)}{sub:List Nat},Caps X scope cl0 cl sub->sub.length=(cl.map (·.1)).length
 | _,_,.nil=>rfl
 | _,_,.cons _ _ _ _ _ t=>congrArg (· + 1) t.len
theorem Caps.at:∀{cl:List (Str × Addr)}{sub:List Nat},Caps X scope cl0 cl sub->∀(j i:Nat) (y:Str),sub[j]?=some i->(cl.map (·.1))[j]?=some y->X.N[i]?=some y/\Vis X.env.scope y/\X.env.kindOf y≠some .local
 | _,_,.nil,_,_,_,e,_=>by simp at e
 | _,_,.cons hN hv hk _ _ t,j,i,y,e1,e2=>by
  cases j with
  | zero=>
   simp at e1 e2
   subst e1 e2
   exact⟨hN,hv,hk⟩
  | succ j=>exact t.at j i y (by simpa using e1) (by simpa using e2)
theorem Caps.vis:∀{cl:List (Str × Addr)}{sub:List Nat},Caps X scope cl0 cl sub->∀y∈cl.map (·.1),(compEnvC scope cl0 0 X.env).kindOf y=some .cell\/(compEnvC scope cl0 0 X.env).kindOf y=some .free
 | _,_,.nil,_,h=>by simp at h
 | _,_,.cons _ _ _ hvis _ t,y,h=>by
  rcases List.mem_cons.mp h with e | h
  ·rw [e];exact hvis
  ·exact t.vis y h
theorem Caps.cell:∀{cl:List (Str × Addr)}{sub:List Nat},Caps X scope cl0 cl sub->∀y c,cl.lookup y=some c->X.env.cells.lookup y=some c
 | _,_,.nil,_,_,h=>by cases h
 | _,_,.cons (y:=z) (c:=d) _ _ _ _ hc t,y,c,h=>by
  rw [List.lookup_cons]at h
  split at h
  ·rename_i e
   cases h
   rw [eq_of_beq e]
   exact hc
  ·exact t.cell y c h
theorem fZ {α:Type}:∀{l:List (Str × α)}{y:Str},y∈l.map (·.1)->∃c,l.lookup y=some c
 | [],_,h=>by simp at h
 | (n,k)::r,y,h=>by
  rw [List.lookup_cons]
  split
  ·exact⟨k,rfl⟩
  ·rename_i e
   rcases List.mem_cons.mp h with z | z
   ·rw [z]at e
    simp at e
   ·exact fZ z
noncomputable def i0 (ys:List Str) (p:Str × NameKind):Prop:=p.2=.local\/p.2=.globalImplicit\/(p.1∈ys/\p.2=.free)
noncomputable instance (ys:List Str) (p:Str × NameKind):Decidable (i0 ys p):=by unfold i0;exact inferInstance
theorem bP {elt iter:Expr}{x:Str}{cl:List (Str × Addr)}{sub:List Nat}{px pos:Pos}{ifs:List Expr}{wi:TI}{tt:TT}{te:TE}
  (hc:X.calm=true) (hi:PI X (.Name x px) iter wi) (hclos:closureFor scope X.env=pure cl) (hkind:scope.kind=.function)
  (hall:∀p∈scope.names,i0 (cl.map (·.1)) p) (hnames:∀p∈scope.names,p.2=.local->scope.names.lookup p.1=some .local) (hx:scope.names.lookup x=some .local)
  (hnd:(x::cl.map (·.1)).Nodup) (caps:Caps X scope cl cl sub)
  (ht:∀C fp s H,PTs (cA X scope cl (x::cl.map (·.1)) C fp s H) ifs tt) (he:∀C fp s H,PE (cA X scope cl (x::cl.map (·.1)) C fp s H) elt te)
  (hs:∀x,foldedSetIterable iter X.env x=pure x:=by intro _;rfl):PEC X (.ListComp elt [⟨.Name x px,iter,ifs,0⟩] scope pos) iter scope (iR wi sub tt te):=by
 refine m6 (cl:=cl) (fv:=cl.map (·.1)) hc hi hclos (λp hp z=>?_) hkind hnames hx hnd caps.len caps.at caps.vis caps.cell (λy hy=>?_) (λz hz=>?_) ht he hs
 ·rcases hall p hp with q | q | ⟨_,q⟩ <;> rw [q]at z <;> cases z
 ·obtain⟨c,e⟩:=fZ hy
  rw [e,caps.cell y c e]
 ·have far:∀k,(k=.cell\/k=.free)->(compEnvC scope cl 0 X.env).kindOf z=some k->∃c',cl.lookup z=some c':=λk hkk e=>by
   obtain⟨p,hp,e1,e2⟩:=fG (show (scope.names.map _).lookup z=some k from e)
   obtain⟨⟨n,kk⟩,hq,rfl⟩:=List.mem_map.mp hp
   rcases hall _ hq with q | q | ⟨q,_⟩
   ·have q:kk=.local:=q
    subst q
    have e2:NameKind.local=k:=e2
    rcases hkk with r | r <;> rw [r]at e2 <;> cases e2
   ·have q:kk=.globalImplicit:=q
    subst q
    have e2:NameKind.globalImplicit=k:=e2
    rcases hkk with r | r <;> rw [r]at e2 <;> cases e2
   ·have q:n∈cl.map (·.1):=q
    have:z=n:=by
     rw [e1]
     dsimp only
     split <;> rfl
    rw [this]
    exact fZ q
  rcases hz with e | e
  ·exact far _ (.inl rfl) e
  ·exact far _ (.inr rfl) e
end
theorem gh {lo:Int}{n:Nat}{D:Addr}{σ:St}{sub:List Nat}{tt:TT}{te:TE}{Q:VK}{H:Hp} (Pv:Nat->List V->Hp->Prop) (h0:Pv 0 [] (upd H D (.lst [])))
  (hs:∀i ys H2,i < n->Pv i ys H2->tt (some (.int (lo+i))::bS sub σ) H2 λb H4=>if b=true then te (some (.int (lo+i))::bS sub σ) H4 λy H5=>H5 D=some (.lst ys)/\ys.length < sizeLine/\Pv (i+1) (ys++[y]) (upd H5 D (.lst (ys++[y]))) else Pv (i+1) ys H4)
  (hd:∀ys H2,Pv n ys H2->Q (.ref D) H2) :
  ∃W:Nat->Nat->List V->Hp->Prop,(∃m,W 0 m [] (upd H D (.lst [])))/\∀i m ys H2,W i m ys H2->
   ((Itr lo n).stop i H2/\Q (.ref D) H2)\/((Itr lo n).go i H2/\∃N:List V->Hp->Prop,(∀ys' H',N ys' H'->∃m',m' < m/\W (i+1) m' ys' H')/\∀v H3,(Itr lo n).yld i H2 v H3->tt (some v::bS sub σ) H3 λb H4=>if b=true then
    te (some v::bS sub σ) H4 λy H5=>H5 D=some (.lst ys)/\ys.length < sizeLine/\N (ys++[y]) (upd H5 D (.lst (ys++[y]))) else N ys H4):=by
 refine⟨λi m ys H2=>m=n - i/\i<=n/\Pv i ys H2,⟨n,by simp,Nat.zero_le _,h0⟩,?_⟩
 rintro i m ys H2 ⟨rfl,hi,p⟩
 by_cases hlt:i < n
 ·refine .inr ⟨hlt,Pv (i+1),λys' H' p'=>⟨n - (i+1),by omega,rfl,hlt,p'⟩,λv H3 y=>?_⟩
  obtain⟨e,e2⟩:=y
  subst e e2
  exact hs i ys _ hlt p
 ·have e:i=n:=by omega
  subst e
  exact .inl ⟨Nat.le_refl _,hd ys H2 p⟩
end L2
namespace L2
open PySem PySem.Spec PyProof.Rows
theorem Inv.turnedL {X:Cx}{pins:List (Addr × Obj)}{σ:St}{H:Hp}{s:Shared}{h':Heap}{t':Nat}{ch:List Addr} (I:Inv X pins σ H s) (k:∀b o,b∉ch->s.heap.get? b=some o->h'.get? b=some o) (hf:∀b∈ch,hJ X pins H b):Inv X pins σ H { s with heap:=h',toks:=t' }:=by
 have nit:∀b u,H b=some u->b∉ch:=λb u e z=>by rw [(hf b z).1]at e;cases e
 refine I.step (g':=s.gens) (d':=s.drawn) (ch:=ch) (λb hb=>?_) (λb o _ _ hc e _=>k b o hc e) (λb o _ _ hc e _=>⟨o.slots,k b o hc e⟩) (λ_ _ _ _ n=>n)
  (λb o hc e=>⟨o,k b o hc e⟩) (λ_ _ e=>e) (λ_ _ _ e=>e) (λb ps e=>⟨#[],by rw [e];simp⟩) (λm hm=>?_) (λb u e=>?_) I.bare
 ·obtain⟨f0,f1,f2,f3,f4,f5⟩:=hf b hb
  exact⟨f3,f1,f4,f5⟩
 ·obtain⟨o,es,ep,ho,r⟩:=hm
  exact⟨o,es,ep,k _ o (λz=>(hf _ z).2.1 rfl) ho,r⟩
 ·refine(I.hok b u e).stay (λc v hc q=>k c v ?_ q) (λ_ q=>q) λ_ _ q=>q
  rcases hc with z | z
  ·rw [z];exact nit b u e
  ·exact nit c _ z
noncomputable def Ite (K:PySem.W.Frag) (a:Addr):It:=
 ⟨λi H=>∃xs x,SqL K H a xs/\xs[i]?=some x,λi H v H'=>∃(t:Addr) (x:V),v=.ref t/\H t=none/\H'=upd H t (.tup [.int (i:Int),x])/\∀xs,SqL K H a xs->xs[i]?=some x,λi H=>∃xs,SqL K H a xs/\xs.length<=i⟩
theorem pT {P:Program}{w:World}{K:PySem.W.Frag}{elts:List Expr}{kk:Nat}{pos:Pos} (a e it:Addr) (hne:e≠it):Turn P w K (.Tuple elts kk pos) (Ite K a) [e,it] e (λi h=>(∃old,IsEnum h e it (i:Int) old)/\h.IsListIter it a i) where
 mem:=by simp
 obj:=λi h st b hb=>by
  obtain⟨⟨old,he⟩,o,ho,c,d⟩:=st
  rcases List.mem_cons.mp hb with z | z
  ·subst z
   exact⟨_,he,λv z=>by
    have z':Data.fields _=Data.cell v:=z
    cases z'⟩
  ·rcases List.mem_cons.mp z with z | z
   ·subst z
    exact⟨o,ho,λv z=>by rw [d]at z;cases z⟩
   ·cases z
 keep:=λi h h' st k=>⟨let ⟨old,he⟩:=st.1;⟨old,k e (by simp) _ he⟩,st.2.at λo q=>k it (by simp) o q⟩
 item:=by
  intro X hP hw hK hc i pins s σ H E I hf st hg
  subst hP hw hK
  obtain⟨⟨old,he⟩,hit⟩:=st
  obtain⟨xs,x,hq,hx⟩:=hg
  obtain⟨its,rv,p,hz⟩:=I.list hq
  obtain⟨u,hu,ru⟩:=rv.get hx
  refine wpAny_pyNext_enum_item he hit p.isList (x:=u) (by simpa using hu) hne λh1 heo hit1 ht1 hz1 hk1=>?_
  refine⟨_,rfl,wpAny_letOwnedTupleGo_enum heo λh2 he2 hs2=>?_⟩
  have hs2:Heap.SameBut e h1 h2:=hs2
  have el:e < s.heap.objs.size:=Heap.lt_size he
  have ht2:h2.get? s.heap.objs.size=some { cls:=.type "tuple", data:=.seq #[.int i s.toks,u] }:=(hs2.2 _ (Nat.ne_of_gt el)).trans ht1
  have nt:H s.heap.objs.size=none:=I.hok.fresh (Nat.le_refl _)
  have I1:Inv X pins σ (upd H s.heap.objs.size (.tup [.int (i:Int),x])) { s with heap:=s.heap.push { cls:=.type "tuple", data:=.seq #[.int i s.toks,u] },toks:=s.toks+1 }:=
   I.laid (a:=s.heap.objs.size) (o:=.tup [.int (i:Int),x]) (λ_ _ q=>Heap.get?_push_of_some _ q) (Nat.le_refl _) ⟨by show 2<=sizeLine;decide,[.int i s.toks,u],.cons ⟨_,rfl⟩ (.cons ru .nil),_,Heap.get?_push_size _ rfl,rfl,0,rfl⟩
  have fp1:∀b∈[e,it],hJ X pins (upd H s.heap.objs.size (.tup [.int (i:Int),x])) b:=λb hb=>by
   obtain⟨f0,f1,f2,f3,f4,f5⟩:=hf b hb
   refine⟨?_,f1,f2,f3,f4,f5⟩
   have hb2:b < s.heap.objs.size:=by
    rcases List.mem_cons.mp hb with z | z
    ·rw [z];exact el
    ·rcases List.mem_cons.mp z with z | z
     ·rw [z]
      obtain⟨o,ho,_⟩:=hit
      exact Heap.lt_size ho
     ·cases z
   rw [al (Nat.ne_of_lt hb2)]
   exact f0
  have I2:Inv X pins σ (upd H s.heap.objs.size (.tup [.int (i:Int),x])) { s with heap:=h2,toks:=s.toks+1 }:=I1.turnedL (h':=h2) (t':=s.toks+1) (λb o hb ho=>by
   have b1:b≠e:=λz=>hb (by rw [z];simp)
   have b2:b≠it:=λz=>hb (by rw [z];simp)
   by_cases bs:b=s.heap.objs.size
   ·rw [bs]at ho ⊢
    have ho:(s.heap.push { cls:=.type "tuple", data:=.seq #[.int i s.toks,u] }).get? s.heap.objs.size=some o:=ho
    rw [Heap.get?_push_size _ rfl]at ho
    cases ho
    exact ht2
   ·have ho2:s.heap.get? b=some o:=(Heap.get?_push_ne _ b _ bs).symm.trans ho
    exact(hs2.2 b b1).trans (hk1 b o b1 b2 ho2)) fp1
  refine⟨.ref s.heap.objs.size,_,I2,rfl,⟨s.heap.objs.size,x,rfl,nt,rfl,λys hy=>by rw [I.list_inj hy hq];exact hx⟩,⟨⟨u,?_⟩,hit1.extBut hs2.extBut (Ne.symm hne)⟩,λb hb=>(fp1 b hb).1⟩
  have:((i+1:Nat):Int)=(i:Int)+1:=by omega
  rw [this]
  exact he2
 done:=by
  intro X hP hw hK hc i pins s σ H E I hf st hg
  subst hP hw hK
  obtain⟨⟨old,he⟩,hit⟩:=st
  obtain⟨xs,hq,hx⟩:=hg
  obtain⟨its,rv,p,hz⟩:=I.list hq
  obtain⟨f0,f1,f2,f3,f4,f5⟩:=hf it (by simp)
  have hl:=rv.length
  exact wpAny_pyNext_enum_end (I.ok.hd hc) he hit p.isList (by simp;omega) λh' eb=>⟨rfl,I.turned (t':=s.toks) (λb o hb q=>eb b o hb q) f0 f1 f3 f4 f5⟩
 self:=λ_ _ _ _ _ st h=>let ⟨old,he⟩:=st.1;wpAny_pyIter_enum he h
noncomputable def zA (K:PySem.W.Frag) (ta:TA):TI:=λσ H R=>ta σ H λvs H1=>∃a,vs=[.ref a]/\(∃xs,SqL K H1 a xs)/\R (Ite K a) H1
theorem uR {X:Cx}{elts:List Expr}{kk:Nat}{pt:Pos}{a:Expr}{ta:TA}{p pos:Pos} (hg:Gl X "enumerate") (hm:X.mg "enumerate" = none) (ha:PA X [a] ta) (hs:starEach [a] X.env=[(false,eval a X.env)]:=by rfl) :
  PI X (.Tuple elts kk pt) (.Call (.Name "enumerate" p) [a] [] pos) (zA X.K ta):=by
 intro pins s σ H R I h
 refine Call_ (jg I hg hm (PyProof.Rows.Boot.«enumerate») (PyProof.Rows.callWith_type1 (thn (ha pos pins s σ H _ I h) λus s1 ⟨vs,H1,I1,r1,q1⟩=>?_) hs rfl))
 obtain⟨b,e,⟨xs,hq⟩,q⟩:=q1
 subst e
 cases r1 with
 | cons r rr=>
  cases rr
  cases r
  obtain⟨its,rv,pp,hz⟩:=I1.list hq
  refine call_enumerate_list pp.isList λh' hE hI hsz hk=>?_
  refine wpAny_pyIter_enum hE ?_
  refine⟨s1.heap.objs.size+1,[s1.heap.objs.size+1,s1.heap.objs.size],_,_,H1,rfl,I1.kept (t':=s1.toks) hk,pT b _ _ (Nat.succ_ne_self _),⟨⟨_,hE⟩,hI⟩,λc hc=>?_,q⟩
  rcases List.mem_cons.mp hc with z | z
  ·subst z
   exact I1.fpOk (Nat.le_succ _) (I1.hok.fresh (Nat.le_succ _))
  ·rcases List.mem_cons.mp z with z | z
   ·subst z
    exact I1.fpOk (Nat.le_refl _) (I1.hok.fresh (Nat.le_refl _))
   ·cases z
theorem tR {K:PySem.W.Frag}{a:Addr}{xs:List V}{g:TG}{tb:TS}{D:Ends}{σ:St}{H:Hp} (Pv:Nat->St->Hp->Prop) (h0:Pv 0 σ H) (hl:∀i σ H,i<=xs.length->Pv i σ H->SqL K H a xs)
  (hs:∀i x σ H t,xs[i]?=some x->Pv i σ H->H t=none->g (.ref t) σ (upd H t (.tup [.int (i:Int),x])) λσ2 H2=>tb { D with nx:=Pv (i+1),ct:=Pv (i+1),bk:=D.nx } σ2 H2) (hd:∀σ H,Pv xs.length σ H->D.nx σ H) :
  ∃W:Nat->Nat->St->Hp->Prop,(∃m,W 0 m σ H)/\∀i m σ H,W i m σ H->
   ((Ite K a).stop i H/\D.nx σ H)\/((Ite K a).go i H/\∃N:St->Hp->Prop,(∀σ' H',N σ' H'->∃m',m' < m/\W (i+1) m' σ' H')/\∀x H',(Ite K a).yld i H x H'->g x σ H' λσ2 H2=>tb { D with nx:=N,ct:=N,bk:=D.nx } σ2 H2):=by
 refine⟨λi m σ H=>m=xs.length - i/\i<=xs.length/\Pv i σ H,⟨xs.length,by simp,Nat.zero_le _,h0⟩,?_⟩
 rintro i m σ H ⟨rfl,hi,p⟩
 have q:=hl i σ H hi p
 by_cases hlt:i < xs.length
 ·refine .inr ⟨⟨xs,xs[i],q,by simp [hlt]⟩,Pv (i+1),λσ' H' p'=>⟨xs.length - (i+1),by omega,rfl,hlt,p'⟩,λx H' y=>?_⟩
  obtain⟨t,y1,e1,nt,e2,y⟩:=y
  subst e1 e2
  exact hs i y1 σ _ t (y xs q) p nt
 ·have e:i=xs.length:=by omega
  subst e
  exact .inl ⟨⟨xs,q,Nat.le_refl _⟩,hd σ H p⟩
theorem kz:∀{zs:List Str}{us:List Value},aX (zs.map V.str) us->StrsAre us zs
 | [],_,r=>by cases r;exact .nil
 | z::zs,_,r=>by
  rw [List.map_cons]at r
  cases r with
  | cons a t=>
   obtain⟨tk,rfl⟩:=a
   exact .cons z tk (kz t)
theorem du {X:Cx}:MtR X "str.join" (λx xs H Q=>∃i l zs,x=.str i/\xs=[.ref l]/\H l=some (.lst (zs.map V.str))/\(zs.map (·.length)).sum+zs.length * i.length<=16777216/\Q (.str (Txt.join i zs)) H):=by
 intro pins s σ H x xs v us Q I rx rv h
 obtain⟨i,l,zs,rfl,rfl,hl,hz,q⟩:=h
 obtain⟨t,rfl⟩:=rx
 obtain⟨u,rfl,ru⟩:=aX.one rv
 cases ru
 obtain⟨_,its,n,r,_,e⟩:=I.lstM hl
 exact join_list (items:=its.toArray) ⟨_,e,rfl,n,rfl⟩ (by simpa using kz r) hz λt' k=>⟨.str _,H,I.tok _,⟨_,rfl⟩,q⟩
end L2
namespace L2
open PySem PySem.Spec PyProof.Rows
section
variable {X:Cx}
variable {scope:Scope}{cl0:List (Str × Addr)}
end
end L2
namespace L2
open PySem PySem.Spec PyProof.Rows PySem.Builtin PySem.Builtin.ObjectAttr
noncomputable abbrev jr:List Value:=[.type "ValueError", .type "Exception", .type "BaseException", .type "object"]
noncomputable abbrev iz (C U:Addr):List Value:=.ref C::.ref U::jr
theorem qH (self:Value) (C U:Addr):refuseLoop self "__setattr__" (iz C U)=pure ():=by
 rw [refuseLoop_ref,refuseLoop_ref]
 exact PySem.F.store_ValueError.passes self
section
variable {prog:Program}{w:World}{A:Around}{E:Value->Shared->Prop}{s:Shared}{K:PySem.W.Frag}{x C U:Addr}{ox:Obj}{od:Option Obj}{cd:ClassData}{name:Str}{v:Value}
theorem yH {R:Result->Shared->Prop}{tk:Tok} (X:K.In s.heap) (I:PySem.W.InstAt s.heap x ox C od) (hc:PySem.W.clsIn K C=some cd) (hm:cd.mro=iz C U) (ha:PySem.W.findIn K (.ref C) name=some none)
  (h:∀b,wpAny (model prog w) A.in1 (storeInOwnDict (.ref x) (.ref C) (.str name tk) name v b)
   (λfin s'=>match fin with | .done f=>R (.ok f) s' | .again c'=>c'.quiet=true/\codeAny (model prog w) A c' R s') (λe s'=>R (.error e) s') s) :
  codeAny (model prog w) A (.call (.builtin "object.__setattr__") ⟨[.ref x,.str name tk,v],[]⟩) R s:=by
 have O:=PySem.F.store_object
 have sub:PySem.W.Looks (model prog w) s.heap (isInstance (.ref x) (.type "object")) true:=I.type.andThen (PySem.W.looks_mroIn X (by unfold PySem.W.mroIn;rw [hc,Option.bind_some,hm];rfl))
 have hmr:PySem.W.Looks (model prog w) s.heap (mroOf (.ref C)) cd.mro:=(PySem.W.looks_clsIn X hc).andThen .now
 refine codeAny_call_builtin O.slot.plain O.entry (@PySem.W.check_slot (model prog w) _ _ s "object.__setattr__" "object" "__setattr__" (.ref x) [.str name tk,v] [] _ O.kind O.split sub (O.args _ _ _) ?_)
 rw [PySem.W.osa_eq,refuse_eq]
 refine wpAny_bind (wpAny_bind (I.type.here (wpAny_bind (hmr.here ?_))))
 rw [hm,qH]
 exact wpAny_pure (wpAny_bind (I.type.here (wpAny_bind ((PySem.W.looks_findIn X ha).here (wpAny_bind (wpAny_pure (h _)))))))
theorem yG {Q:Unit->Shared->Prop}{vs:Array Value} (X:K.In s.heap) (hx:s.heap.get? x=some { cls:=.ref C,data:=.fields vs }) (hs:PySem.W.findIn K (.ref C) "__setattr__" = some (some (.builtin "object.__setattr__")))
  (hc:PySem.W.clsIn K C=some cd) (hm:cd.mro=iz C U) (hd:cd.hasDict=true) (ha:PySem.W.findIn K (.ref C) name=some none)
  (h:∀h',h'.get? x=some { cls:=.ref C,dict:=some s.heap.objs.size,data:=.fields vs }->h'.Ns1 s.heap.objs.size (λy=>if y=name then some v else none)->(∀b o,b≠x->s.heap.get? b=some o->h'.get? b=some o)->∀tk,Q () { s with heap:=h',toks:=tk }) :
  wpAny (model prog w) A (setAttr (.ref x) name v) Q E s:=by
 have I:PySem.W.InstAt s.heap x { cls:=.ref C,data:=.fields vs } C none:=⟨hx,rfl,rfl,True.intro⟩
 refine PySem.W.set_plain X I hs (yH (s:={ s with toks:=s.toks+1 }) X I hc hm ha λb=>?_)
 have hxs:x≠s.heap.objs.size:=Nat.ne_of_lt (Heap.lt_size hx)
 refine wpAny_bind (wpAny_pure (wpAny_bind ?_))
 show wpAny _ _ (instanceDict x true) _ _ _
 unfold instanceDict
 refine wpAny_bind (wpAny_loadPart hx (wpAny_bind (PySem.W.Looks.here (s:={ s with toks:=s.toks+1 }) (PySem.W.looks_clsIn X hc) ?_)))
 rw [hd]
 dsimp only
 rw [if_neg (by decide),if_neg (by simp [typeHasDict])]
 refine wpAny_bind (wpAny_alloc (wpAny_bind (wpAny_update (Heap.get?_push_of_some _ hx) (wpAny_pure ?_))))
 generalize eh:(s.heap.push { cls:=.type "dict", data:=.dict #[] }).update x (λo=>{ cls:=o.cls,dict:=some s.heap.objs.size,data:=o.data,slots:=o.slots })=h1
 have hx1:h1.get? x=some { cls:=.ref C,dict:=some s.heap.objs.size,data:=.fields vs }:=by
  rw [<- eh]
  exact Heap.get?_update_self _ (Heap.get?_push_of_some _ hx) rfl
 have hd1:h1.get? s.heap.objs.size=some { cls:=.type "dict", data:=.dict #[] }:=by
  rw [<- eh,Heap.get?_update_ne _ _ _ _ (Ne.symm hxs)]
  exact Heap.get?_push_size _ rfl
 have keep1:∀b o,b≠x->s.heap.get? b=some o->h1.get? b=some o:=λb o hb e=>by
  rw [<- eh,Heap.get?_update_ne _ _ _ _ hb]
  exact Heap.get?_push_of_some _ e
 have n1:h1.Ns1 s.heap.objs.size (λ_=>none):=Heap.Ns1.of_empty ⟨_,#[],_,hd1,rfl,λe he=>absurd he (by simp),λ_=>rfl⟩
 show wpAny _ _ (storeInDict s.heap.objs.size (.str name s.toks) name v) _ _ { s with heap:=h1,toks:=s.toks+1 }
 unfold storeInDict newKeyGuard
 refine wpAny_bind (wpAny_pure (wpAny_bind (wpAny_nsSet1 (s:={ s with heap:=h1,toks:=s.toks+1 }) n1 λh2 n2 sb=>?_)))
 have sb:Heap.SameBut s.heap.objs.size h1 h2:=sb
 obtain⟨o2,es2,ep2,ho2,hd2,hc2⟩:=n2.count (PySem.Within.cons name v PySem.Within.nil)
 refine wpAny_bind (wpAny_lookBehind ho2 (by rw [hd2];exact pastItsLine_dict (Nat.le_trans hc2 (by rw [List.length_cons,List.length_nil,sizeLine_eq];omega))) ?_)
 exact wpAny_pure (h h2 ((sb.2 x hxs).trans hx1) n2 (λb o hb e=>(sb.2 b (Nat.ne_of_lt (Heap.lt_size e))).trans (keep1 b o hb e)) _)
theorem yI {Q:Value->Shared->Prop}{expr:Bool} (X:K.In s.heap) (I:PySem.W.InstAt s.heap x ox C od) (hc:PySem.W.clsIn K C=some cd) (hm:cd.mro=iz C U)
  (hga:PySem.W.findIn K (.ref C) "__getattribute__" = some (some (.builtin "BaseException.__getattribute__"))) (hgn:PySem.W.findIn K (.ref C) "__getattr__" = some none)
  (hf:PySem.W.findObj K C od name=some (.value v)) (hv:PySem.W.handedIn v=true) (h:Q v { s with toks:=s.toks+1 }):wpAny (model prog w) A (getAttr (.ref x) name expr) Q E s:=by
 obtain⟨hh,g,d,t,os⟩:=s
 have L0:=I.type (M:=model prog w)
 have L1:=PySem.W.looks_findIn (M:=model prog w) X hga
 have L2:=PySem.W.looks_findIn (M:=model prog w) X hgn
 have L3:=PySem.W.looks_find (M:=model prog w) X I hf
 have sub:PySem.W.Looks (model prog w) hh (isInstance (.ref x) (.type "BaseException")) true:=I.type.andThen (PySem.W.looks_mroIn X (by unfold PySem.W.mroIn;rw [hc,Option.bind_some,hm];rfl))
 unfold getAttr getAttrBy
 refine wpAny_bind (wpAny_mkText (wpAny_holding (wpAny_bind (L0.at (wpAny_bind (L1.at ?_))))))
 show wpAny _ _ (getAttrByItsOwn _ _ _ _ _ _) _ _ _
 unfold getAttrByItsOwn hookBefore
 rw [if_pos (show onTheHeap (Value.ref C)=true from rfl)]
 refine wpAny_bind (L2.at (wpAny_bind (wpAny_attempt (wpAny_holding ?_))))
 have e1:(expr && onTheHeap (Value.builtin "BaseException.__getattribute__"))=false:=by cases expr <;> rfl
 unfold callGetattribute
 rw [e1,if_neg Bool.false_ne_true]
 unfold boundAndCalled
 rw [PySem.F.attr_ValueError.ga.bind]
 refine wpAny_bind (wpAny_pure (wpAny_call (codeAny_call_builtin PySem.F.attr_ValueError.ga.plain PySem.F.entry_bexc_ga (@PySem.W.check_slot (model prog w) _ _ _ "BaseException.__getattribute__" "BaseException" "__getattribute__" (.ref x) _ [] _ (by decide +kernel) (by decide +kernel) sub (PySem.F.args_bexc_ga _ _) ?_))))
 unfold Builtin.«object.__getattribute__»
 refine wpAny_bind (wpAny_pure (wpAny_bind (wpAny_pure (wpAny_bind (L0.at (wpAny_bind (L3.at (wpAny_pure ?_))))))))
 show wpAny (model prog w) _ (handedOut v) _ _ _
 rw [PySem.W.handedOut_of hv]
 exact wpAny_pure h
theorem yJ {Q:Option Value->Shared->Prop} (X:K.In s.heap) (I:PySem.W.InstAt s.heap x ox C od) (hc:PySem.W.clsIn K C=some cd) (hm:cd.mro=iz C U)
  (hga:PySem.W.findIn K (.ref C) "__getattribute__" = some (some (.builtin "BaseException.__getattribute__"))) (hgn:PySem.W.findIn K (.ref C) "__getattr__" = some none)
  (hf:PySem.W.findObj K C od "__class__" = some (.bind (.builtin "getset_descriptor.__get__") (.builtin "object.__class__"))) (h:Q (some (.ref C)) { s with toks:=s.toks+1 }):wpAny (model prog w) A (getAttr? (.ref x) "__class__") Q E s:=by
 obtain⟨hh,g,d,t,os⟩:=s
 have L0:=I.type (M:=model prog w)
 have L1:=PySem.W.looks_findIn (M:=model prog w) X hga
 have L2:=PySem.W.looks_findIn (M:=model prog w) X hgn
 have L3:=PySem.W.looks_find (M:=model prog w) X I hf
 have hmo:PySem.W.mroIn K C (.type "object")=some true:=by unfold PySem.W.mroIn;rw [hc,Option.bind_some,hm];rfl
 have sub:PySem.W.Looks (model prog w) hh (isInstance (.ref x) (.type "BaseException")) true:=I.type.andThen (PySem.W.looks_mroIn X (by unfold PySem.W.mroIn;rw [hc,Option.bind_some,hm];rfl))
 unfold getAttr? getAttrBy?
 refine wpAny_bind (wpAny_mkText (wpAny_bind (wpAny_attempt ?_)))
 unfold getAttrBy
 refine wpAny_holding (wpAny_bind (L0.at (wpAny_bind (L1.at ?_))))
 show wpAny _ _ (getAttrByItsOwn _ _ _ _ _ _) _ _ _
 unfold getAttrByItsOwn hookBefore
 rw [if_pos (show onTheHeap (Value.ref C)=true from rfl)]
 refine wpAny_bind (L2.at (wpAny_bind (wpAny_attempt (wpAny_holding ?_))))
 unfold callGetattribute
 rw [show (false && onTheHeap (Value.builtin "BaseException.__getattribute__"))=false from rfl,if_neg Bool.false_ne_true]
 unfold boundAndCalled
 rw [PySem.F.attr_ValueError.ga.bind]
 refine wpAny_bind (wpAny_pure (wpAny_call (codeAny_call_builtin PySem.F.attr_ValueError.ga.plain PySem.F.entry_bexc_ga (@PySem.W.check_slot (model prog w) _ _ _ "BaseException.__getattribute__" "BaseException" "__getattribute__" (.ref x) _ [] _ (by decide +kernel) (by decide +kernel) sub (PySem.F.args_bexc_ga _ _) ?_))))
 unfold Builtin.«object.__getattribute__»
 refine wpAny_bind (wpAny_pure (wpAny_bind (wpAny_pure (wpAny_bind (L0.at (wpAny_bind (L3.at ?_)))))))
 show wpAny (model prog w) A.in1 (holding [.builtin "object.__class__"] (call (.builtin "getset_descriptor.__get__") [.builtin "object.__class__", .ref x,.ref C]) >>= ret) _ _ _
 refine wpAny_bind (wpAny_holding (wpAny_call (PySem.W.class_get (s:=⟨hh,g,d,t+1,os⟩) X I hmo ?_)))
 exact wpAny_pure (wpAny_pure (wpAny_pure h))
end
section
variable {prog:Program}{w:World}{A:Around}{E:Value->Shared->Prop}{h:Heap}{g:Array GenState}{d:Drawn}{t:Nat}{os:OsState}
variable {nm q:Str}{C N f:Addr}{bs bm bmB bmN:List Value}{hdct:Bool}{sn:List Str}{sub:List Value}{ab:Bool}{col:Option Bool}{dd:Option Addr}{k0 k1 k2 k3 k5:Option Value}{B Bn newId nid initId inN:String}
theorem wK (Fn:ExcBaseFacts Bn newId inN bmN) (hBn:bmB.contains (.type Bn)=true) (F:ExcBaseFacts B nid initId bmB) (T:OwnTail h bmB bm){rest:List Value}{init:Value}{Q:Value->Shared->Prop}
  (hC:h.get? C=some (excClassObj nm q C N bs bm hdct sn sub ab col dd k0 k1 k2 k3 k5 newId)) (hi:PySem.W.Looks (model prog w) h (typeLookup (.ref C) "__init__") (some init))
  (hb:∀self,PySem.W.Looks (model prog w) h (bindSpecial init self) (init,[self])) (hrest:rest.length<=sizeLine)
  (hq:wpAny (model prog w) (A.under (.builtin "type.__call__" ⟨.ref C::rest,[]⟩)) (call init (.ref (h.objs.size+1)::rest)) (λr s'=>r=.none/\Q (.ref (h.objs.size+1)) s') E
   ⟨(h.push { cls:=.type "tuple", data:=.seq rest.toArray }).push { cls:=.ref C,data:=.fields #[.ref h.objs.size,.none,.none,.none,.bool false,.none] },g,d,t,os⟩) :
  wpAny (model prog w) A (call (.ref C) rest) Q E ⟨h,g,d,t,os⟩:=by
 have a1:=tc_lookup
 have a2:=tc_bind (.ref C)
 have a3:(⟨h,g,d,t,os⟩:Shared).TypeIs (.ref C) "type":=⟨_,hC,rfl⟩
 refine wpAny_call (codeAny_of_tree ?_)
 show wpAny (model prog w) _ (callAny (.ref C) _) _ _ _
 repeat (any_goals (first | with_reducible refine wpAny_loadPart_at hC ?_ | assumption | wp_step))
 refine⟨rfl,codeAny_call_builtin_at (Code.quiet_builtin _ (by decide +kernel)) entry_typeCall (wpAny_check_type_call_sub hC ?_)⟩
 repeat (first | with_reducible refine wpAny_madeBy_exc hC ?_ | with_reducible refine wpAny_loadPart_at hC ?_ | wp_step)
 refine codeAny_call_builtin_code (Code.quiet_builtin _ Fn.quiet) (wpAny_check_new_subU Fn hBn T hC (codeAny_exc_new_subU Fn hBn F T hC ?_ hrest))
 show wpAny (model prog w) _ _ _ _ ⟨(h.push { cls:=.type "tuple", data:=.seq rest.toArray }).push { cls:=.ref C,data:=.fields #[.ref h.objs.size,.none,.none,.none,.bool false,.none] },g,d,t,os⟩
 have hCC:(Value.ref C::bm).contains (.ref C)=true:=by simp
 have kp:∀b o,h.get? b=some o->((h.push { cls:=.type "tuple", data:=.seq rest.toArray }).push { cls:=.ref C,data:=.fields #[.ref h.objs.size,.none,.none,.none,.bool false,.none] }).get? b=some o:=λb o e=>
  Heap.get?_push_of_some _ (Heap.get?_push_of_some _ e)
 have hE:((h.push { cls:=.type "tuple", data:=.seq rest.toArray }).push { cls:=.ref C,data:=.fields #[.ref h.objs.size,.none,.none,.none,.bool false,.none] }).get? (h.objs.size+1)=some { cls:=.ref C,data:=.fields #[.ref h.objs.size,.none,.none,.none,.bool false,.none] }:=by heap_get
 have hT:((h.push { cls:=.type "tuple", data:=.seq rest.toArray }).push { cls:=.ref C,data:=.fields #[.ref h.objs.size,.none,.none,.none,.bool false,.none] }).get? h.objs.size=some { cls:=.type "tuple", data:=.seq rest.toArray }:=Heap.get?_push_of_some _ (Heap.get?_push_at rfl rfl)
 have hC2:=kp _ _ hC
 unfold isInstance
 repeat (first | (with_reducible refine wpAny_isSubtype_exc hC2 ?_;rw [hCC]) | with_reducible refine wpAny_loadPart_at hE ?_ | wp_step)
 show wpAny (model prog w) _ (typeLookup (.ref C) _) _ _ _
 refine hi _ _ _ _ kp (wpAny_holding (wpAny_bind (hb _ _ _ _ _ kp (wpAny_bind (thn hq λr s' hr=>?_)))))
 obtain⟨rfl,hQ⟩:=hr
 wp_walk
 exact hQ
end
end L2
namespace L2
open PySem PySem.Spec PyProof.Rows
noncomputable def XOn (n:Bool) (C e:Addr) (D:Option Addr):HO:=.ext λh=>∃vs,h.get? e=some { cls:=.ref C,dict:=D,data:=.fields vs }/\(n=true->vs[1]?=some .none)
noncomputable abbrev XO:Addr->Addr->Option Addr->HO:=XOn true
theorem qG {P:Program}{w:World}{H:Hp}{h:Heap}{n:Bool}{C e:Addr}{D:Option Addr}{vs:Array Value} (q:h.get? e=some { cls:=.ref C,dict:=D,data:=.fields vs }) (h1:n=true->vs[1]?=some .none):bB P w H h e (XOn n C e D):=
 ⟨⟨vs,q,h1⟩,⟨_,q⟩,λh1 h2 ⟨us,z,z1⟩ k=>⟨us,k _ z,z1⟩⟩
theorem vI {P:Program}{w:World}{H:Hp}{h:Heap}{C e:Addr}{D:Option Addr}{vs:Array Value} (q:h.get? e=some { cls:=.ref C,dict:=D,data:=.fields vs }) (h1:vs[1]?=some .none):bB P w H h e (XO C e D):=qG q λ_=>h1
theorem fR {X:Cx}{pins:List (Addr × Obj)}{σ:St}{H:Hp}{s:Shared}{n:Bool}{C e:Addr}{D:Option Addr} (I:Inv X pins σ H s) (q:H e=some (XOn n C e D)):∃vs,s.heap.get? e=some { cls:=.ref C,dict:=D,data:=.fields vs }/\(n=true->vs[1]?=some .none):=(I.hok e _ q).1
noncomputable def xIn (K:PySem.W.Frag) (C U:Addr):Bool:=match K.lookup C with
 | some ⟨.type "type", _,.cls cd,sl⟩=>(match sl.toList with
  | [_,_,_,_,some (.builtin n),_]=>n == "ValueError.__new__" && cd.mro == iz C U && !cd.hasDel && cd.hasDict && PySem.W.tailIn K jr (.ref U::jr)
  | _=>false)
 | _=>false
structure XCls (K:PySem.W.Frag) (C U:Addr):Prop where
 ex:xIn K C U=true
 ga:PySem.W.findIn K (.ref C) "__getattribute__" = some (some (.builtin "BaseException.__getattribute__"))
 gn:PySem.W.findIn K (.ref C) "__getattr__" = some none
 cl:PySem.W.findIn K (.ref C) "__class__" = some (some (.builtin "object.__class__"))
 sp:PySem.W.specialIn K (.builtin "object.__class__") "__get__" = some (some (.builtin "getset_descriptor.__get__"))
 tk:PySem.W.takesIn K (.builtin "object.__class__")=some true
 sa:PySem.W.findIn K (.ref C) "__setattr__" = some (some (.builtin "object.__setattr__"))
 kp:PySem.W.keepIn K (.ref C)=true
theorem kj {K:PySem.W.Frag}{h:Heap}{C U:Addr} (X:K.In h) (q:xIn K C U=true):(∃cd,PySem.W.clsIn K C=some cd/\cd.mro=iz C U/\cd.hasDict=true)/\OwnTail h jr (.ref U::jr)/\
  ∃nm qn N bs hdct sn sub ab col dd k0 k1 k2 k3 k5,h.get? C=some (excClassObj nm qn C N bs (.ref U::jr) hdct sn sub ab col dd k0 k1 k2 k3 k5 "ValueError.__new__"):=by
 unfold xIn at q
 split at q
 ·rename_i dd cd sl ho
  split at q
  ·rename_i k0 k1 k2 k3 n k5 hs
   simp only [Bool.and_eq_true,beq_iff_eq,Bool.not_eq_true']at q
   obtain⟨⟨⟨⟨rfl,hm⟩,hdel⟩,hd⟩,ht⟩:=q
   refine⟨⟨cd,by unfold PySem.W.clsIn;rw [ho],hm,hd⟩,PySem.W.tail_of_in X ht,?_⟩
   obtain⟨nm,bs,mro,ns,qn,hdc,sn,sub,ab,col,del⟩:=cd
   dsimp only at hm hdel
   subst hm hdel
   have e:sl = #[k0,k1,k2,k3,some (.builtin "ValueError.__new__"),k5]:=by
    obtain⟨l⟩:=sl
    simp only at hs
    rw [hs]
   subst e
   exact⟨nm,qn,ns,bs,hdc,sn,sub,ab,col,dd,k0,k1,k2,k3,k5,X _ _ ho⟩
  ·cases q
 ·cases q
section
variable {X:Cx}{pins:List (Addr × Obj)}{σ:St}{H:Hp}{s:Shared}
theorem mr {K:PySem.W.Frag}{x C U:Addr}{ox:Obj}{od:Option Obj} (T:XCls K C U):PySem.W.KitX K (.ref x) (.ref C) (λh=>PySem.W.InstAt h x ox C od) where
 ty:=λ_ _ _ I=>I.type
 it:=λ_ h XK _=>by
  obtain⟨_,_,nm,qn,N,bs,hdct,sn,sub,ab,col,dd,k0,k1,k2,k3,k5,hC⟩:=kj XK T.ex
  intro A' Q' E' s' k q
  unfold isType loadHead
  exact wpAny_bind (wpAny_loadPart (k _ _ hC) (wpAny_pure q))
 ne:=λh tp dd its n sl XK htp=>by
  obtain⟨_,_,nm,qn,N,bs,hdct,sn,sub,ab,col,d2,k0,k1,k2,k3,k5,hC⟩:=kj XK T.ex
  refine Bool.eq_false_iff.mpr λq=>?_
  have e:C=tp:=Value.ref.inj (beq_iff_eq.mp q)
  subst e
  rw [hC]at htp
  have z:Value.type "type" = Value.type "tuple":=congrArg Obj.cls (Option.some.inj htp)
  exact absurd z (by decide)
 ca:=λXK I k=>by
  obtain⟨⟨cd,hc,hm,hd⟩,_⟩:=kj XK T.ex
  refine yJ XK I hc hm T.ga T.gn ?_ k
  unfold PySem.W.findObj
  rw [hc,Option.bind_some,T.cl,Option.bind_some]
  dsimp only
  rw [T.sp,Option.bind_some]
  dsimp only
  rw [T.tk,Option.bind_some]
theorem vy {n:Bool}{C e:Addr}{D:Option Addr} (I:Inv X pins σ H s) (q:H e=some (XOn n C e D)) (hD:∀d,D=some d->∃fs,H d=some (.xd fs)):∃ox od,PySem.W.InstAt s.heap e ox C od:=by
 obtain⟨vs,hx,_⟩:=fR I q
 cases D with
 | none=>exact⟨_,none,hx,rfl,rfl,True.intro⟩
 | some d=>
  obtain⟨fs,hd⟩:=hD d rfl
  obtain⟨mA,⟨o,es,ep,ho,_⟩,_⟩:=(show bB X.prog X.w H s.heap d (.xd fs) from I.hok d _ hd)
  exact⟨_,some o,hx,rfl,rfl,ho⟩
noncomputable def XAt (H:Hp) (e C:Addr) (fs:List (Str × V)):Prop:=∃n D,H e=some (XOn n C e D)/\((D=none/\fs=[])\/∃d,D=some d/\H d=some (.xd fs))
theorem XAt.inst {C e:Addr}{fs:List (Str × V)} (I:Inv X pins σ H s) (q:XAt H e C fs):∃ox od,PySem.W.InstAt s.heap e ox C od:=by
 obtain⟨n,D,h1,h2⟩:=q
 refine vy I h1 λd e=>?_
 rcases h2 with⟨z,_⟩ | ⟨d',z,hd⟩
 ·rw [z]at e;cases e
 ·rw [z]at e;cases e;exact⟨fs,hd⟩
end
section
variable {X:Cx}
theorem eK:cO X (.builtin "isinstance") (λxs H Q=>∃(e C U:Addr) (fs:List (Str × V)) (c:V) (b:Bool),xs=[.ref e,c]/\XAt H e C fs/\XCls X.K C U/\
  ((∃D,c=.ref D/\PySem.W.kitOne X.K (.ref C) (.ref D)=some b)\/∃n,c=.ty n/\PySem.W.kitOne X.K (.ref C) (.type n)=some b)/\Q (.bl b) H):=by
 intro pins s σ H xs us Q I r h
 obtain⟨e,C,U,fs,c,b,rfl,xa,T,hk,q⟩:=h
 obtain⟨u,u2,rfl,rx,rt⟩:=ou r
 cases (show u=Value.ref e from rx)
 obtain⟨ox,od,J⟩:=xa.inst I
 rcases hk with⟨D,rfl,hk⟩ | ⟨n,rfl,hk⟩
 ·cases (show u2=Value.ref D from rt)
  exact PySem.W.kia_one (mr T) I.kIn J hk (λz=>nomatch z) λtk=>⟨.bl b,H,I.tok _,rfl,q⟩
 ·cases (show u2=Value.type n from rt)
  exact PySem.W.kia_one (mr T) I.kIn J hk (λz=>nomatch z) λtk=>⟨.bl b,H,I.tok _,rfl,q⟩
noncomputable def yK (K:PySem.W.Frag) (f:Str) (ta:TE):TE:=λσ H Q=>ta σ H λx H1=>∃(e C U:Addr) (fs:List (Str × V)) (v:V),x=.ref e/\XAt H1 e C fs/\XCls K C U/\PySem.W.findIn K (.ref C) f=some none/\fs.lookup f=some v/\Q v H1
theorem zN {K:PySem.W.Frag}{h:Heap}{C U:Addr} (XK:K.In h) (T:XCls K C U):PySem.W.hasDictIn K C=true:=by
 obtain⟨⟨cd,hc,hm,hd⟩,_⟩:=kj XK T.ex
 unfold PySem.W.hasDictIn
 rw [hc]
 exact hd
theorem uS {o:Expr}{ta:TE}{f:Str}{pos:Pos} (he:PE X o ta) (hb:attributeBase o f X.env (eval o X.env)=eval o X.env:=by rfl):PE X (.Attribute o f pos) (yK X.K f ta):=by
 intro pins s σ H Q I h
 refine pO hb (thn (he pins s σ H _ I h) λu s1 ⟨x,H1,I1,rx,e,C,U,fs,v,ex,xa,T,hn,hl,q⟩=>?_)
 subst ex
 obtain rfl:u=Value.ref e:=rx
 obtain⟨_,D,h1,h2⟩:=xa
 rcases h2 with⟨_,rfl⟩ | ⟨d,rfl,hd⟩
 ·cases hl
 ·obtain⟨vs,hx,_⟩:=fR I1 h1
  obtain⟨mA,n1,rel⟩:=(show bB X.prog X.w H1 s1.heap d (.xd fs) from I1.hok d _ hd)
  obtain⟨od,ho,look⟩:=jQ n1
  obtain⟨u',hu,ru⟩:=dQ.some_of (v:=v) (o:=mA f) (by rw [<- hl];exact rel f)
  obtain⟨⟨cd,hc,hm,hdct⟩,_⟩:=kj I1.kIn T.ex
  exact yI I1.kIn (ox:={ cls:=.ref C,dict:=some d,data:=.fields vs }) (od:=some od) ⟨hx,rfl,rfl,ho⟩ hc hm T.ga T.gn (PySem.W.findObj_own (zN I1.kIn T) hn rfl (by rw [look,hu])) (jW ru) ⟨v,H1,I1.tok _,ru,q⟩
noncomputable def yZ (K:PySem.W.Frag) (ta tv:TE) (f:Str):TS:=λD σ H=>tv σ H λy H1=>ta σ H1 λx H2=>∃(e C U:Addr),x=.ref e/\H2 e=some (XO C e none)/\XCls K C U/\PySem.W.findIn K (.ref C) f=some none/\
 ∀d,H2 d=none->D.nx σ (upd (upd H2 d (.xd [(f,y)])) e (XO C e (some d)))
theorem uO {o value:Expr}{ta tv:TE}{f:Str}{pos pos':Pos} (ha:PE X o ta) (hv:PE X value tv) (hs:swapsWith value (some (.Attribute o f pos')) pos.line X.env=pure false):PS X (.Assign [.Attribute o f pos'] value pos) (yZ X.K ta tv f):=by
 intro pins s σ H D I h
 refine plainObj_wpAny_Assign_Attribute (thn (hv pins s σ H _ I h) λu s1 ⟨y,H1,I1,ry,q⟩=>thn (ha pins s1 σ H1 _ I1 q) λov s2 ⟨x,H2,I2,rx,e,C,U,ex,h1,T,hn,q2⟩=>?_) hs
 subst ex
 obtain rfl:ov=Value.ref e:=rx
 obtain⟨vs,hx,hv1⟩:=fR I2 h1
 obtain⟨⟨cd,hc,hm,hdct⟩,_⟩:=kj I2.kIn T.ex
 refine yG I2.kIn hx T.sa hc hm hdct hn λh' hx' n' keep tk=>?_
 have nd:H2 s2.heap.objs.size=none:=I2.hok.fresh (Nat.le_refl _)
 have ed:e≠s2.heap.objs.size:=am h1 nd
 obtain⟨od,es,ep,hod,hrest⟩:=id n'
 have Ia:=I2.laid (t':=tk) (a:=s2.heap.objs.size) (o:=.dK []) (h':=s2.heap.push { cls:=.type "dict", data:=.dict #[] }) (λ_ _ z=>Heap.get?_push_of_some _ z) (Nat.le_refl _) (mF s2.heap I2.big)
 have hfr:od.isFreed=false:=(Heap.get?_some_iff.mp hod).2
 have g1:((s2.heap.push { cls:=.type "dict", data:=.dict #[] }).update s2.heap.objs.size λ_=>od).get? s2.heap.objs.size=some od:=Heap.get?_update_self _ (Heap.get?_push_size _ rfl) hfr
 have Ib:=Ia.write (t':=tk) (x:=s2.heap.objs.size) (e:=s2.heap.objs.size) (o:=.xd [(f,y)]) (h':=(s2.heap.push { cls:=.type "dict", data:=.dict #[] }).update s2.heap.objs.size λ_=>od) (by rw [aj];exact True.intro) (.inl rfl)
  (λb z hb e0=>(Heap.get?_update_ne _ _ _ _ hb).trans e0) ⟨od,g1⟩ ⟨λg=>if g=f then some u else none,n'.at λo z=>by rw [hod]at z;cases z;exact g1,λg=>by
   show dQ (List.lookup g [(f,y)]) (if g=f then some u else none)
   by_cases c:g=f
   ·rw [if_pos c,c]
    show dQ (List.lookup f [(f,y)]) _
    rw [List.lookup_cons,beq_self_eq_true]
    exact ry
   ·rw [if_neg c]
    show dQ (List.lookup g [(f,y)]) _
    rw [List.lookup_cons,beq_eq_false_iff_ne.mpr c]
    exact True.intro⟩
 rw [bv]at Ib
 have Ic:=Ib.write (t':=tk) (x:=e) (e:=e) (o:=XO C e (some s2.heap.objs.size)) (h':=h') (by rw [al ed,h1];exact True.intro) (.inl rfl)
  (λb z hb e0=>by
   by_cases c:b=s2.heap.objs.size
   ·subst c
    have e0:((s2.heap.push { cls:=.type "dict", data:=.dict #[] }).update s2.heap.objs.size λ_=>od).get? s2.heap.objs.size=some z:=e0
    rw [g1]at e0
    cases e0
    exact hod
   ·exact keep b z hb ((Heap.get?_push_ne _ b _ c).symm.trans ((Heap.get?_update_ne _ _ _ _ c).symm.trans e0))) ⟨_,hx'⟩ (vI hx' (hv1 rfl))
 exact⟨σ,_,Ic,q2 _ nd⟩
noncomputable def mP (C:Addr) (sp:Sp) (E:XK) (t:TA):TE:=λσ H Q=>t σ H λvs H1=>∀x,H1 x=none->sp (.ref x::vs) (upd H1 x (XO C x none)) (λv H2=>v=.non/\Q (.ref x) H2) E
theorem pY {CX:CXT}{k:Nat}{f C U:Addr}{fd:FuncData}{ps:List Str}{sp:Sp}{E:XK}{pins:List (Addr × Obj)}{σ:St}{H:Hp}{s:Shared}{Q:VK}{us:List Value}{vs:List V} (T:XCls X.K C U) (hi:PySem.W.findIn X.K (.ref C) "__init__" = some (some (.ref f))) (hf:PySem.W.isFn X.K (.ref f)=true)
  (F:FnOk X.prog X.w X.K X.mg X.base CX k f fd ps sp) (hr:Room (k+1) X.A) (hb:bA X.K fd ps []) (hx:cU CX X E) (I:Inv X pins σ H s) (r:aX vs us) (hl:us.length<=sizeLine)
  (h:∀x,H x=none->sp (.ref x::vs) (upd H x (XO C x none)) (λv H2=>v=.non/\Q (.ref x) H2) E):wpAny (model X.prog X.w) X.A (call (.ref C) us) (EP X pins σ Q) X.xe s:=by
 obtain⟨_,OT,nm,qn,N,bs,hdct,sn,sub,ab,col,dd,k0,k1,k2,k3,k5,hC⟩:=kj I.kIn T.ex
 have hq:=h (s.heap.objs.size+1) (I.hok.fresh (Nat.le_succ _))
 obtain⟨hp,g,d,t,os⟩:=s
 refine wK PySem.F.excBase_ValueError (by decide) PySem.F.excBase_ValueError OT hC (PySem.W.looks_findIn I.kIn hi) (λself=>PySem.W.bind_fn I.kIn self (beq_iff_eq.mp hf)) hl ?_
 have I2:Inv X pins σ (upd H (hp.objs.size+1) (XO C (hp.objs.size+1) none)) ⟨(hp.push { cls:=.type "tuple", data:=.seq us.toArray }).push { cls:=.ref C,data:=.fields #[.ref hp.objs.size,.none,.none,.none,.bool false,.none] },g,d,t,os⟩:=
  I.laid (h':=(hp.push { cls:=.type "tuple", data:=.seq us.toArray }).push { cls:=.ref C,data:=.fields #[.ref hp.objs.size,.none,.none,.none,.bool false,.none] }) (t':=t) (λb o e=>Heap.get?_push_of_some _ (Heap.get?_push_of_some _ e)) (Nat.le_succ _) (vI (by heap_get) rfl)
 have r2:aX (V.ref (hp.objs.size+1)::vs) (Value.ref (hp.objs.size+1)::us):=.cons rfl r
 have hln:((Value.ref (hp.objs.size+1)::us)++[]).length=ps.length:=by
  have e:=r2.length
  rw [F.len _ _ _ _ hq]at e
  rw [List.append_nil]
  exact e.symm
 refine wpAny_call (codeAny_mono (F.run _ X.stack _ _ ⟨Value.ref (hp.objs.size+1)::us,[]⟩ (Value.ref (hp.objs.size+1)::us) _ _ E (hr.make C us []) (I2.env0.make C us []) (by have:=hb _ (Value.ref (hp.objs.size+1)::us) I2.kIn hln;rw [List.append_nil]at this;exact this) r2 hq) λrr s' hq'=>?_)
 cases rr with
 | error e=>exact hx pins σ _ _ e s' I2 hq'
 | ok fl=>
  cases fl with
  | ret u=>
   obtain⟨v,H',I3,rv,ev,q3⟩:=I2.after hq'
   subst ev
   exact⟨rv,⟨V.ref (hp.objs.size+1),H',I3,rfl,q3⟩⟩
  | next=>exact False.elim hq'
  | brk=>exact False.elim hq'
  | cont=>exact False.elim hq'
theorem sw {CX:CXT}{k:Nat}{f C U:Addr}{fd:FuncData}{ps:List Str}{sp:Sp}{E:XK}{x:Str}{p pos:Pos}{e:Expr}{es:List Expr}{t:TA} (T:XCls X.K C U) (hi:PySem.W.findIn X.K (.ref C) "__init__" = some (some (.ref f))) (hf:PySem.W.isFn X.K (.ref f)=true)
  (F:FnOk X.prog X.w X.K X.mg X.base CX k f fd ps sp) (hr:Room (k+1) X.A) (hg:Gl X x) (hm:X.mg x=some (.ref C)) (hb:bA X.K fd ps []) (hx:cU CX X E) (hsm:∀vs H Q E,sp vs H Q E->vs.length<=100)
  (ha:PA X (e::es) t) (hdb:(x == ("__debug__" : Str))=false:=by decide) (he:starEach (e::es) X.env=(false,eval e X.env)::starEach es X.env:=by rfl) (hpl:(backTo pos (starEach es X.env)).any (·.1)=false:=by rfl) :
  PE X (.Call (.Name x p) (e::es) [] pos) (mP C sp E t):=by
 intro pins s σ H Q I h
 refine wpAny_Call_Name_kw (eE I hg hm ?_ hdb)
 refine PySem.W.callWith_K (h₀:=X.base) I.ok.mod.kin T.kp (thn (ha pos pins s σ H _ I h) λus s1 ⟨vs,H1,I1,r,q⟩=>⟨I1.kIn,?_⟩) he hpl
 have hl:us.length<=sizeLine:=by
  have e1:=hsm _ _ _ _ (q _ (I1.hok.fresh (Nat.le_refl _)))
  rw [List.length_cons]at e1
  have e2:=r.length
  exact Nat.le_trans (show us.length<=100 by omega) (by decide)
 exact pY T hi hf F hr hb hx I1 r hl q
end
end L2
namespace L2
open PySem PySem.Spec PyProof.Rows
section
variable {M:Model}{A:Around}{E:Value->Shared->Prop}{s:Shared}
noncomputable def Fly (h:Heap) (e:Addr):Prop:=∃oe vs T oT ts,h.get? e=some oe/\oe.data=.fields vs/\vs[1]?=some (.ref T)/\T≠e/\h.get? T=some oT/\oT.data=.fields ts/\ts[3]?=some .none
structure Noted (l:List Env) (e:Addr) (h h':Heap):Prop where
 keep:∀b o,b≠e->h.get? b=some o->b∉frs l->h'.get? b=some o
 slot:∀b o,b≠e->h.get? b=some o->∃sl,h'.get? b=some { o with slots:=sl }
 exc:∀oe vs,h.get? e=some oe->oe.data=.fields vs->∃vs',h'.get? e=some { oe with data:=.fields vs' }
 fly:Fly h' e
theorem zt {o:Obj}{vs:Array Value} (hd:o.data=.fields vs) (f:Array Value->Array Value):o.mapFields f={ o with data:=.fields (f vs) }:=by
 obtain⟨c,d,dt,sl⟩:=o
 cases hd
 rfl
theorem tT {base:Heap}{env:Env}{outer:List Env}{L e:Addr}{oe:Obj}{vs:Array Value}{head:Value}{hadNext:Bool}{Q:Unit->Shared->Prop}
  (hfr:A.frames=some (env::outer)) (hl:s.heap.FunFrames base (env::outer)) (hf:env.frame=some L)
  (he:s.heap.get? e=some oe) (hd:oe.data=.fields vs) (hsz:1 < vs.size)
  (h:∀h',Noted (env::outer) e s.heap h'->Q () { s with heap:=h' }) :
  wpAny M A (do let a <- frameOf env;let pl <- entryPlaceOf L hadNext;let b <- EntryCells.newEntry head a .none (rawInt L) .none pl;setField (.ref e) 1 b) (λ_ s'=>wpAny M A (setFlight (.ref e) none) Q E s') E s:=by
 have hene:e∉(env::outer).filterMap (·.frame):=λhm=>by
  obtain⟨_,o,ho,hnf⟩:=hl.mem hm
  rw [he]at ho;injection ho with ho;subst ho;exact hnf vs hd
 refine wpAny_bind (wpAny_frameOf_fun hfr hl hf λh₁ hs₁=>?_)
 refine wpAny_bind (wpAny_entryPlaceOf λpl hpl=>?_)
 unfold EntryCells.newEntry newFields
 refine wpAny_bind (wpAny_newObj_type ?_ (hpl.sizeOk5 _ _ _ _ _))
 have he₁:h₁.get? e=some oe:=(hs₁.2.1 e hene).trans he
 generalize hT:({ cls:=.type "traceback", dict:=none,data:=.fields ([head,.ref L,.none,rawInt L,.none]++(if pl.isEmpty then List.replicate 6 Value.none else pl)).toArray }:Obj)=oT
 have he₂:=Heap.get?_push_of_some (h:=h₁) oT he₁
 refine wpAny_setField he₂ hd hsz ?_
 have hTe:h₁.objs.size≠e:=Nat.ne_of_gt (Heap.lt_size he₁)
 have hd₃:=Obj.data_mapFields hd (·.setIfInBounds 1 (Value.ref h₁.objs.size))
 have he₃:=Heap.get?_update_self (Obj.mapFields (·.setIfInBounds 1 (Value.ref h₁.objs.size))) he₂ (Obj.isFreed_of_fields hd₃)
 have hT₃:=(Heap.get?_update_other (h₁.push oT) (Obj.mapFields (·.setIfInBounds 1 (Value.ref h₁.objs.size))) (Ne.symm hTe)).trans (Heap.get?_push_size h₁ (by rw [<- hT];rfl))
 have hdT:oT.data=.fields ([head,.ref L,.none,rawInt L,.none]++(if pl.isEmpty then List.replicate 6 Value.none else pl)).toArray:=by rw [<- hT]
 unfold setFlight
 refine wpAny_bind (wpAny_field he₃ hd₃ (x:=.ref h₁.objs.size) (by simp [hsz]) ?_)
 rw [if_pos (show (Value.ref h₁.objs.size != Value.none)=true from by simp)]
 refine wpAny_setField hT₃ hdT (by simp only [List.size_toArray,List.length_append,List.length_cons,List.length_nil] <;> omega) (h _ ?_)
 have keep:∀b o,b≠e->h₁.get? b=some o->(((h₁.push oT).update e (Obj.mapFields (·.setIfInBounds 1 (Value.ref h₁.objs.size)))).update h₁.objs.size (Obj.mapFields (·.setIfInBounds 3 ((none:Option Addr).elim Value.none λf=>rawInt f)))).get? b=some o:=λb o hbe hb=>by
  have hbT:h₁.objs.size≠b:=Nat.ne_of_gt (Heap.lt_size hb)
  rw [Heap.get?_update_other _ _ hbT,Heap.get?_update_other _ _ (Ne.symm hbe)]
  exact Heap.get?_push_of_some _ hb
 have he₄:(((h₁.push oT).update e (Obj.mapFields (·.setIfInBounds 1 (Value.ref h₁.objs.size)))).update h₁.objs.size (Obj.mapFields (·.setIfInBounds 3 ((none:Option Addr).elim Value.none λf=>rawInt f)))).get? e=some (oe.mapFields (·.setIfInBounds 1 (Value.ref h₁.objs.size))):=by
  rw [Heap.get?_update_other _ _ hTe];exact he₃
 refine⟨λb o hbe hb hn=>keep b o hbe ((hs₁.2.1 b hn).trans hb),λb o hbe hb=>?_,λoe' vs' e1 e2=>?_,?_⟩
 ·obtain⟨sl,hs⟩:=hs₁.2.2 b o hb
  exact⟨sl,keep b _ hbe hs⟩
 ·rw [he]at e1;cases e1
  exact⟨_,he₄.trans (by rw [zt hd])⟩
 ·exact⟨_,_,h₁.objs.size,_,_,he₄,hd₃,by simp [hsz],hTe,Heap.get?_update_self _ hT₃ (Obj.isFreed_of_fields (Obj.data_mapFields hdT _)),Obj.data_mapFields hdT _,by first | (simp;done) | (rcases hpl with rfl | ⟨_,_,_,_,_,_,_,rfl⟩ <;> simp)⟩
theorem gs {h:Heap}{T:Addr}{oT:Obj}{ts:Array Value} (hT:h.get? T=some oT) (hd:oT.data=.fields ts) (h3:ts[3]?=some .none) (b:Addr):(h.update T (Obj.mapFields (·.setIfInBounds 3 Value.none))).get? b=h.get? b:=by
 by_cases e:b=T
 ·subst e
  have hd':=Obj.data_mapFields hd (·.setIfInBounds 3 Value.none)
  rw [Heap.get?_update_self _ hT (Obj.isFreed_of_fields hd'),hT,zt hd]
  have:ts.setIfInBounds 3 Value.none=ts:=by
   obtain⟨h1,h2⟩:=Array.getElem?_eq_some_iff.mp h3
   rw [Array.setIfInBounds,dif_pos h1]
   conv=>lhs;rw [<- h2]
   simp
  rw [this]
  obtain⟨c,d,dt,sl⟩:=oT
  cases hd
  rfl
 ·exact Heap.get?_update_other _ _ (Ne.symm e)
theorem A8 {base h h':Heap} (k:∀b,h'.get? b=h.get? b){l:List Env} (hl:h.FunFrames base l):h'.FunFrames base l:=hl.of_keeps λb o ho _=>⟨o,(k b).trans ho,rfl⟩
theorem wu {base:Heap}{env:Env}{outer:List Env}{L e:Addr}{oe:Obj}{vs:Array Value}{Q:Unit->Shared->Prop}
  (hfr:A.frames=some (env::outer)) (hl:s.heap.FunFrames base (env::outer)) (hf:env.frame=some L)
  (he:s.heap.get? e=some oe) (hd:oe.data=.fields vs) (h1:vs[1]?=some .none\/Fly s.heap e)
  (h:∀h',Noted (env::outer) e s.heap h'->Q () { s with heap:=h' }) :
  wpAny M A (noteFrame (.ref e) env) (λ_ s'=>wpAny M A (setFlight (.ref e) none) Q E s') E s:=by
 unfold noteFrame
 simp only [hf]
 rcases h1 with h1 | ⟨oe',vs',T,oT,ts,e1,e2,h1,hTe,hT,hdT,h3⟩
 ·refine wpAny_bind (wpAny_field he hd h1 ?_)
  rw [if_neg (by decide)]
  exact tT hfr hl hf he hd (Array.getElem?_eq_some_iff.mp h1).1 h
 ·rw [he]at e1;cases e1
  rw [hd]at e2;cases e2
  refine wpAny_bind (wpAny_field he hd h1 ?_)
  rw [if_pos (show (Value.ref T != Value.none)=true from by simp)]
  refine wpAny_bind (wpAny_field hT hdT h3 ?_)
  rw [if_neg (show ¬((Value.none == rawInt L)=true) from by simp [rawInt])]
  refine wpAny_bind (wpAny_setField hT hdT (Array.getElem?_eq_some_iff.mp h3).1 ?_)
  have same:=gs hT hdT h3
  refine tT hfr (A8 same hl) hf ((same e).trans he) hd (Array.getElem?_eq_some_iff.mp h1).1 λh' N=>h h' ⟨λb o hb q=>N.keep b o hb ((same b).trans q),λb o hb q=>N.slot b o hb ((same b).trans q),λoe vs q=>N.exc oe vs ((same e).trans q),N.fly⟩
theorem yf {base:Heap}{env:Env}{outer:List Env}{L e:Addr}{oe:Obj}{vs:Array Value}{Q:Unit->Shared->Prop}
  (hfr:A.frames=some (env::outer)) (hl:s.heap.FunFrames base (env::outer)) (hf:env.frame=some L)
  (he:s.heap.get? e=some oe) (hd:oe.data=.fields vs) (h1:vs[1]?=some .none\/Fly s.heap e)
  (h:∀h',Noted (env::outer) e s.heap h'->Q () { s with heap:=h' }):wpAny M A (leaving env (.ref e)) Q E s:=by
 unfold leaving
 exact wpAny_bind (wu hfr hl hf he hd h1 h)
end
end L2
namespace L2
open PySem PySem.Spec PyProof.Rows
section
variable {M:Model}{A:Around}{E:Value->Shared->Prop}{env:Env}
theorem ki {s:Shared}{x:Sem Value}{Q:Flow->Shared->Prop} (hh:A.handled=none)
  (h:wpAny M A x (λv s₁=>∃(e C:Addr) (D:Option Addr) (vs:Array Value),v=.ref e/\(∃(U:Addr) (nm qn:Str) (N:Addr) (bs:List Value) (hdct:Bool) (sn:List Str) (sub:List Value) (ab:Bool) (col:Option Bool) (dd:Option Addr) (k0 k1 k2 k3 k5:Option Value),s₁.heap.get? C=some (excClassObj nm qn C N bs (.ref U::jr) hdct sn sub ab col dd k0 k1 k2 k3 k5 "ValueError.__new__"))/\
   s₁.heap.get? e=some { cls:=.ref C,dict:=D,data:=.fields vs }/\vs[1]?=some .none/\E (.ref e) s₁) E s) :
  wpAny M A (raiseStmt env (some x) none) Q E s:=by
 unfold raiseStmt
 refine wpAny_bind (wpAny_mono h (λv s₁ h₁=>?_) λ_ _ x=>x)
 obtain⟨e,C,D,vs,rfl,⟨U,nm,qn,N,bs,hdct,sn,sub,ab,col,dd,k0,k1,k2,k3,k5,hC⟩,he,h1,hE⟩:=h₁
 have hcB:(Value.ref C::.ref U::jr).contains (.type "BaseException")=true:=by
  rw [List.contains_cons,List.contains_cons,show jr.contains (.type "BaseException")=true from by decide,Bool.or_true,Bool.or_true]
 obtain⟨hp,g,d,tk,os⟩:=s₁
 repeat (first | with_reducible refine wpAny_loadPart_at he ?_ | with_reducible refine wpAny_loadPart_at hC ?_ | (with_reducible refine wpAny_isSubtype_exc hC ?_;rw [hcB]) | (unfold setFlight;refine wpAny_bind (wpAny_bind (wpAny_field he rfl h1 ?_));rw [if_neg (by decide)];refine wpAny_pure ?_) | wp_step)
 exact wpAny_raiseNew_none hh hE
end
section
variable {M:Model}{A:Around}{E:Value->Shared->Prop}{env:Env}
theorem ui {s:Shared}{x:Expr}{pos:Pos}{Q:Flow->Shared->Prop} (hh:A.handled=none)
  (h:wpAny M A (eval x env) (λv s₁=>∃(e C:Addr) (D:Option Addr) (vs:Array Value),v=.ref e/\(∃(U:Addr) (nm qn:Str) (N:Addr) (bs:List Value) (hdct:Bool) (sn:List Str) (sub:List Value) (ab:Bool) (col:Option Bool) (dd:Option Addr) (k0 k1 k2 k3 k5:Option Value),s₁.heap.get? C=some (excClassObj nm qn C N bs (.ref U::jr) hdct sn sub ab col dd k0 k1 k2 k3 k5 "ValueError.__new__"))/\
   s₁.heap.get? e=some { cls:=.ref C,dict:=D,data:=.fields vs }/\vs[1]?=some .none/\E (.ref e) s₁) E s) :
  wpAny M A (exec (.Raise (some x) none pos) env) Q E s:=by
 rw [arm_exec_Raise]
 first
  | exact wpAny_bind (wpAny_standAt (ki hh (wpAny_bind (wpAny_mono h (λv s₁ h₁=>wpAny_bind (wpAny_standAt (wpAny_pure h₁))) λ_ _ x=>x))))
  | (simp only [evalOpt,Option.map];exact wpAny_bind (wpAny_standAt (ki hh (wpAny_bind (wpAny_mono h (λv s₁ h₁=>wpAny_bind (wpAny_standAt (wpAny_pure h₁))) λ_ _ x=>x)))))
  | (show wpAny M A (do standAt pos;raiseStmt env (some (do let v <- eval x env;standAt pos;pure v)) none) Q E s;exact wpAny_bind (wpAny_standAt (ki hh (wpAny_bind (wpAny_mono h (λv s₁ h₁=>wpAny_bind (wpAny_standAt (wpAny_pure h₁))) λ_ _ x=>x)))))
end
section
variable {P:Program}{w:World}{H:Hp}{h h':Heap}{l:List Env}{a C:Addr}{D:Option Addr}{n:Bool}
theorem gk {b:Addr}{o:HO} (hx:H a=some (XOn n C a D)) (e:H b=some o) (ho:∀p,o≠.ext p):b≠a:=λz=>by
 rw [z,hx]at e
 exact ho _ (Option.some.inj e).symm
theorem jN (ok:HOk P w H h) (N:Noted l a h h') (hx:H a=some (XOn n C a D)) (fr:∀b∈frs l,H b=none):HOk P w (upd H a (XOn false C a D)) h':=λb u q=>by
 obtain⟨vs,he,_⟩:=(ok a _ hx).1
 by_cases hb:b=a
 ·subst hb
  rw [aj]at q
  cases q
  obtain⟨vs',e'⟩:=N.exc _ _ he rfl
  exact qG e' λz=>by cases z
 ·rw [al hb]at q
  refine(ok b u q).stay (λc v hc e=>?_) (λc e=>?_) λc xs e=>?_
  ·have hca:c≠a/\H c≠none:=by
    rcases hc with rfl | hc
    ·exact⟨hb,by rw [q];intro z;cases z⟩
    ·exact⟨gk hx hc (by intro p z;cases z),by rw [hc];intro z;cases z⟩
   exact N.keep c v hca.1 e λz=>hca.2 (fr c z)
  ·rw [al (gk hx e (by intro p z;cases z))];exact e
  ·rw [al (gk hx e (by intro p z;cases z))];exact e
theorem sY (N:Noted l a h h') (hx:H a=some (XOn n C a D)) (hth:∃o,h'.get? a=some o):Un (frs l) [] H (upd H a (XOn false C a D)) h h':=by
 have ne:∀{b:Addr},H b=none->b≠a:=λ{b} e z=>by rw [z,hx]at e;cases e
 refine⟨λb o e nb hb _=>N.keep b o (ne nb) e hb,λb o e nb hb _=>N.slot b o (ne nb) e,λb o e nb _=>by rw [al (ne nb)];exact nb,λb o e _=>?_,λb xs e=>?_,λb o u e=>?_,λb ps e=>?_⟩
 ·by_cases z:b=a
  ·rw [z];exact hth
  ·obtain⟨sl,q⟩:=N.slot b o z e
   exact⟨_,q⟩
 ·rw [al (gk hx e (by intro p z;cases z))];exact e
 ·rw [al (gk hx e (by intro p z;cases z))];exact e
 ·exact⟨#[],by rw [al (gk hx e (by intro p z;cases z)),e];simp⟩
end
noncomputable def CXR (P:Program) (w:World):CXT:=λouter H s E e s'=>∃(a C:Addr) (D:Option Addr) (H':Hp),e=.ref a/\Fly s'.heap a/\H' a=some (XOn false C a D)/\s'.os=s.os/\AllBare s'.gens/\Un (frs outer) [] H H' s.heap s'.heap/\HOk P w H' s'.heap/\E (.ref C) (some a) H'
theorem lH {H:Hp}{a:Addr}{o:HO} (e:H a=some o):upd H a o=H:=by
 funext b
 by_cases z:b=a
 ·rw [z,aj,e]
 ·rw [al z]
section
variable {P:Program}{w:World}{K:PySem.W.Frag}{mg:Str->Option Value}{base:Heap}{N:List Str}{qual:Str}{scope:Scope}{f:Addr}{cd:Value}{A:Around}{outer:List Env}{s:Shared}{H:Hp}{E:XK}
theorem pr {pins:List (Addr × Obj)}{σ:St}{H1:Hp}{s1:Shared}{n:Bool}{a C:Addr}{D:Option Addr} (I:Inv (fM (CXR P w) P w K mg base N qual scope f cd A outer s H E) pins σ H1 s1) (hx:H1 a=some (XOn n C a D)) (hn:n=true\/Fly s1.heap a)
  (e:E (.ref C) (some a) (upd H1 a (XOn false C a D))):(fM (CXR P w) P w K mg base N qual scope f cd A outer s H E).xe (.ref a) s1:=by
 obtain⟨vs,he,hv⟩:=fR I hx
 show wpAny (model P w) (A.deeper (envOfC qual scope s.heap.objs.size f cd)) (leaving (envOfC qual scope s.heap.objs.size f cd) (.ref a)) (λ_ s''=>CXR P w outer H s E (.ref a) s'') _ s1
 refine yf (base:=base) (L:=s.heap.objs.size) I.ok.frames I.stack rfl he rfl (hn.imp (λz=>hv z) id) λh' Nt=>?_
 have ne:∀{b:Addr},H1 b=none->b≠a:=λ{b} e z=>by rw [z,hx]at e;cases e
 obtain⟨vs',ha'⟩:=Nt.exc _ _ he rfl
 have nex:∀b:Addr,b∉(fM (CXR P w) P w K mg base N qual scope f cd A outer s H E).ex:=λb z=>nomatch (show b∈([]:List Addr) from z)
 have nf:∀{b:Addr}{o:Obj},s.heap.get? b=some o->b∉frs outer->b∉frs (envOfC qual scope s.heap.objs.size f cd::outer):=λ{b o} e hb z=>by
  rcases List.mem_cons.mp (I.stkSub b z) with q | q
  ·exact Nat.lt_irrefl _ (show s.heap.objs.size < s.heap.objs.size by
    have:=Heap.lt_size e
    rw [q]at this
    exact this)
  ·exact hb q
 refine⟨a,C,D,_,rfl,Nt.fly,aj,I.os,I.bare,⟨λb o q nb hb _=>?_,λb o q nb hb _=>?_,λb o q nb _=>?_,λb o q _=>?_,λb xs q=>?_,λb o u q=>?_,λb ps q=>?_⟩,jN I.hok Nt hx I.stkFree,e⟩
 ·exact Nt.keep b o (ne (I.base.free b o q nb (nex b))) (I.base.keep b o q nb hb (nex b)) (nf q hb)
 ·obtain⟨sl,q1⟩:=I.base.slot b o q nb hb (nex b)
  obtain⟨sl',q2⟩:=Nt.slot b _ (ne (I.base.free b o q nb (nex b))) q1
  exact⟨sl',q2⟩
 ·have:=I.base.free b o q nb (nex b)
  rw [al (ne this)]
  exact this
 ·obtain⟨o',q1⟩:=I.base.there b o q (nex b)
  by_cases z:b=a
  ·rw [z];exact⟨_,ha'⟩
  ·obtain⟨sl,q2⟩:=Nt.slot b o' z q1
   exact⟨_,q2⟩
 ·have:=I.base.tups b xs q
  rw [al (gk hx this (by intro p z;cases z))];exact this
 ·have:=I.base.frzs b o u q
  rw [al (gk hx this (by intro p z;cases z))];exact this
 ·obtain⟨more,this⟩:=I.base.tbls b ps q
  exact⟨more,by rw [al (gk hx this (by intro p z;cases z))];exact this⟩
theorem bp:cU (CXR P w) (fM (CXR P w) P w K mg base N qual scope f cd A outer s H E) E:=by
 rintro pins σ H1 s1 e s2 I ⟨a,C,D,H2,rfl,fl,hx,os,bare,un,hok,q⟩
 have I2:=I.call' os un hok bare λb z=>nomatch (show b∈([]:List Addr) from z)
 exact pr I2 hx (.inr fl) (by rw [lH hx];exact q)
noncomputable def mQ (K:PySem.W.Frag) (E:XK) (te:TE):TS:=λ_ σ H=>te σ H λx H1=>∃(a C U:Addr) (D:Option Addr),x=.ref a/\H1 a=some (XO C a D)/\XCls K C U/\E (.ref C) (some a) (upd H1 a (XOn false C a D))
theorem sq {x:Expr}{te:TE}{pos:Pos} (he:PE (fM (CXR P w) P w K mg base N qual scope f cd A outer s H E) x te):PS (fM (CXR P w) P w K mg base N qual scope f cd A outer s H E) (.Raise (some x) none pos) (mQ K E te):=by
 intro pins s1 σ H1 D I h
 refine ui (I.ok.hd rfl) (thn (he pins s1 σ H1 _ I h) λv s2 ⟨y,H2,I2,ry,a,C,U,D',ey,hx,T,q⟩=>?_)
 subst ey
 obtain rfl:v=Value.ref a:=ry
 obtain⟨vs,ha,hv⟩:=fR I2 hx
 obtain⟨_,_,nm,qn,N',bs,hdct,sn,sub,ab,col,dd,k0,k1,k2,k3,k5,hC⟩:=kj I2.kIn T.ex
 exact⟨a,C,D',vs,rfl,⟨U,nm,qn,N',bs,hdct,sn,sub,ab,col,dd,k0,k1,k2,k3,k5,hC⟩,ha,hv rfl,pr I2 hx (.inl rfl) q⟩
end
end L2
namespace L2
open PySem PySem.Spec PyProof.Rows
section
variable {M:Model}{A:Around}{E:Value->Shared->Prop}
theorem uh {h:Heap}{g:Array GenState}{d:Drawn}{t:Nat}{os:OsState}{e C C':Addr}{oe:Obj}{Q:Bool->Shared->Prop}{nm q nm' q':Str}{N N':Addr}{bs bm bs' bm':List Value}{hdct hdct':Bool}{sn sn':List Str}{sub sub':List Value}{ab ab':Bool}{col col':Option Bool}{dd dd':Option Addr}{k0 k1 k2 k3 k5 l0 l1 l2 l3 l5:Option Value}{newId newId':String}
  (hC:h.get? C=some (excClassObj nm q C N bs bm hdct sn sub ab col dd k0 k1 k2 k3 k5 newId)) (hC':h.get? C'=some (excClassObj nm' q' C' N' bs' bm' hdct' sn' sub' ab' col' dd' l0 l1 l2 l3 l5 newId')) (he:h.get? e=some oe) (hcls:oe.cls=.ref C) (hbase:bm'.contains (.type "BaseException")=true)
  (hq:Q ((Value.ref C::bm).contains (.ref C')) ⟨h,g,d,t,os⟩):wpAny M A (excMatches (.ref e) (.ref C')) Q E ⟨h,g,d,t,os⟩:=by
 have hcB:(Value.ref C'::bm').contains (.type "BaseException")=true:=by rw [List.contains_cons,hbase,Bool.or_true]
 have f:=tc_notTuple
 unfold excMatches
 repeat (first | (with_reducible refine wpAny_loadPart_at he ?_;rw [hcls]) | with_reducible refine wpAny_loadPart_at hC' ?_ | (with_reducible refine wpAny_isSubtype_exc hC' ?_;rw [hcB]) | (with_reducible refine wpAny_isSubtype_exc hC ?_;generalize hb:(Value.ref C::bm).contains (.ref C')=b at hq ⊢) | wp_step)
 cases b <;> (wp_walk;exact hq)
end
noncomputable def hIn (K:PySem.W.Frag) (C:Addr):Bool:=match K.lookup C with
 | some ⟨.type "type", _,.cls cd,sl⟩=>(match sl.toList with
  | [_,_,_,_,some (.builtin _),_]=>cd.mro == .ref C::cd.mro.drop 1 && !cd.hasDel && (cd.mro.drop 1).contains (.type "BaseException")
  | _=>false)
 | _=>false
theorem A5 {K:PySem.W.Frag}{h:Heap}{C:Addr} (X:K.In h) (q:hIn K C=true) :
  ∃bm nm qn N bs hdct sn sub ab col dd k0 k1 k2 k3 k5 nid,h.get? C=some (excClassObj nm qn C N bs bm hdct sn sub ab col dd k0 k1 k2 k3 k5 nid)/\bm.contains (.type "BaseException")=true:=by
 unfold hIn at q
 split at q
 ·rename_i dd cd sl ho
  split at q
  ·rename_i k0 k1 k2 k3 n k5 hs
   simp only [Bool.and_eq_true,beq_iff_eq,Bool.not_eq_true']at q
   obtain⟨⟨hm,hdel⟩,hb⟩:=q
   obtain⟨nm,bs,mro,ns,qn,hdc,sn,sub,ab,col,del⟩:=cd
   dsimp only at hm hdel hb
   subst hdel
   have e:sl = #[k0,k1,k2,k3,some (.builtin n),k5]:=by
    obtain⟨l⟩:=sl
    simp only at hs
    rw [hs]
   subst e
   rw [hm]at ho
   exact⟨_,nm,qn,ns,bs,hdc,sn,sub,ab,col,dd,k0,k1,k2,k3,k5,n,X _ _ ho,hb⟩
  ·cases q
 ·cases q
noncomputable abbrev Cx.held (X:Cx) (a:Addr):Cx:={ X with A:=X.A.mark (some (.ref a)),calm:=false,xe:=λ_ _=>False }
noncomputable abbrev Cx.tried (X:Cx) (E:Value->Shared->Prop) (pn:List (Addr × Obj)):Cx:={ X with xe:=E,pn:=pn }
section
variable {X:Cx}{pins:List (Addr × Obj)}{σ:St}{H:Hp}{s:Shared}{E:Value->Shared->Prop}{a:Addr}
theorem Inv.hold (I:Inv X pins σ H s) (a:Addr):Inv (X.held a) pins σ H s:=
 ⟨⟨I.ok.mod,I.ok.kind,I.ok.glob,I.ok.blt,I.ok.above,I.ok.inj,I.ok.has,I.ok.cab,(λz=>by cases z),I.ok.frames,I.ok.stk,I.ok.exf,I.ok.bs,I.ok.bsz,I.ok.noex,I.ok.exfs,I.ok.funs,I.ok.frf⟩,I.os,I.bare,I.base,I.loc,I.cell,I.free,I.freeC,I.pin,I.hok,I.len⟩
theorem Inv.unhold (hd:X.calm=true->X.A.handled=none) (I:Inv (X.held a) pins σ H s):Inv X pins σ H s:=
 ⟨⟨I.ok.mod,I.ok.kind,I.ok.glob,I.ok.blt,I.ok.above,I.ok.inj,I.ok.has,I.ok.cab,hd,I.ok.frames,I.ok.stk,I.ok.exf,I.ok.bs,I.ok.bsz,I.ok.noex,I.ok.exfs,I.ok.funs,I.ok.frf⟩,I.os,I.bare,I.base,I.loc,I.cell,I.free,I.freeC,I.pin,I.hok,I.len⟩
theorem Inv.try' (I:Inv X pins σ H s) (E:Value->Shared->Prop):Inv (X.tried E (X.pn++pins)) [] σ H s:=
 ⟨⟨I.ok.mod,I.ok.kind,I.ok.glob,I.ok.blt,I.ok.above,I.ok.inj,I.ok.has,I.ok.cab,I.ok.hd,I.ok.frames,I.ok.stk,I.ok.exf,I.ok.bs,I.ok.bsz,I.ok.noex,I.ok.exfs,I.ok.funs,I.ok.frf⟩,I.os,I.bare,I.base,I.loc,I.cell,I.free,I.freeC,(by rw [List.append_nil];exact I.pin),I.hok,I.len⟩
theorem Inv.untry {pins':List (Addr × Obj)} (I:Inv (X.tried E (X.pn++pins)) pins' σ H s):Inv X pins σ H s:=
 ⟨⟨I.ok.mod,I.ok.kind,I.ok.glob,I.ok.blt,I.ok.above,I.ok.inj,I.ok.has,I.ok.cab,I.ok.hd,I.ok.frames,I.ok.stk,I.ok.exf,I.ok.bs,I.ok.bsz,I.ok.noex,I.ok.exfs,I.ok.funs,I.ok.frf⟩,I.os,I.bare,I.base,I.loc,I.cell,I.free,I.freeC,(λp hp=>I.pin p (List.mem_append_left _ hp)),I.hok,I.len⟩
theorem pQ {M:Model}{A:Around}{E:Value->Shared->Prop}{i:Nat}{x:Str}{v:V}{Q:Unit->Shared->Prop} (I:Inv X pins σ H s) (hN:X.N.Nodup) (hi:X.N[i]?=some x) (hk:X.env.scope.names.lookup x=some .local) (hv:σ[i]?=some (some v))
  (h:∀s',Inv X pins (σ.set i none) H s'->Q () s'):wpAny M A (unbindName X.env x) Q E s:=by
 obtain⟨m,hn,hl⟩:=id I.loc
 have hcls:(X.env.scope.kind == .class || (X.env.scope.kind == .module && X.env.locals != X.env.globals))=false:=by rw [I.ok.kind];rfl
 have hiσ:i < σ.length:=by rw [I.len];exact(List.getElem?_eq_some_iff.mp hi).1
 have cne:=I.cne
 obtain⟨u,ru,lu⟩:=hl i x v hi hv (.inl hk)
 have hmx:m x=some u:=by
  rcases lu with⟨_,e⟩ | ⟨k,_⟩
  ·exact e
  ·have:X.env.kindOf x=some .local:=hk
   rw [this]at k
   rcases k with k | k <;> cases k
 obtain⟨oL,_,_,hoL,_⟩:=id hn
 refine wpAny_unbindName_local hk hn hmx hcls λh' u' hn' hs=>h _ ⟨I.ok,I.os,I.bare,⟨λb o e n hb hx=>?_,λb o e n hb hx=>?_,I.base.free,λb o e hx=>?_,I.base.tups,I.base.frzs,I.base.tbls⟩,⟨_,hn',λj y v' e1 e2 e3=>?_⟩,λy c e=>?_,I.free,I.freeC,λp hp=>?_,λb ob e=>?_,by simpa using I.len⟩
 ·exact(hs.2 b (Nat.ne_of_lt (Nat.lt_of_lt_of_le (Heap.lt_size e) I.ok.above))).trans (I.base.keep b o e n hb hx)
 ·obtain⟨sl,e1⟩:=I.base.slot b o e n hb hx
  exact⟨sl,(hs.2 b (Nat.ne_of_lt (Nat.lt_of_lt_of_le (Heap.lt_size e) I.ok.above))).trans e1⟩
 ·obtain⟨o',e1⟩:=I.base.there b o e hx
  exact⟨o',(hs.2 b (Nat.ne_of_lt (Nat.lt_of_lt_of_le (Heap.lt_size e) I.ok.above))).trans e1⟩
 ·by_cases hj:j=i
  ·subst hj
   rw [List.getElem?_set_self hiσ]at e2
   cases e2
  ·rw [List.getElem?_set_ne (Ne.symm hj)]at e2
   obtain⟨u2,r',q⟩:=hl j y v' e1 e2 e3
   refine⟨u2,r',?_⟩
   rcases q with⟨k,e⟩ | ⟨k,c,e,z⟩
   ·refine .inl ⟨k,?_⟩
    have:y≠x:=λe=>hj (je hN e1 (e ▸ hi))
    simp [this,e]
   ·exact .inr ⟨k,c,e,z.sameBut hs (cne y c e)⟩
 ·obtain⟨w',z⟩:=I.cell y c e
  exact⟨w',z.sameBut hs (cne y c e)⟩
 ·obtain⟨e,n,ne,nf,d⟩:=I.pin p hp
  exact⟨(hs.2 p.1 ne).trans e,n,ne,nf,d⟩
 ·refine(I.hok b ob e).stay (λc w' hc q=>(hs.2 c ?_).trans q) (λ_ q=>q) λ_ _ q=>q
  rintro rfl
  rcases hc with rfl | hc
  ·rw [I.free]at e;cases e
  ·rw [I.free]at hc;cases hc
end
noncomputable abbrev TH:=Addr->Addr->Ends->St->Hp->Prop
noncomputable def PH (X:Cx) (hs:List ExceptHandler) (th:TH):Prop:=
 ∀(pins:List (Addr × Obj)) (s:Shared) (σ:St) (H:Hp) (D:Ends) (a C:Addr) (Dd:Option Addr),Inv X pins σ H s->H a=some (XOn false C a Dd)->Fly s.heap a->th a C D σ H->wpAny (model X.prog X.w) X.A (handleBy (.ref a) X.env hs) (SP X pins D) X.xe s
noncomputable def yO:TH:=λ_ _ _ _ _=>False
theorem xG {X:Cx}:PH X [] yO:=λ_ _ _ _ _ _ _ _ _ _ _ h=>h.elim
noncomputable def tAs (K:PySem.W.Frag) (C':Addr) (i:Nat) (ts:Addr->TS) (tr:TH):TH:=λa C D σ H=>∃U,XCls K C U/\if (iz C U).contains (.ref C')=true then
 ts a { nx:=λσ' H'=>D.nx (σ'.set i none) H',rt:=λv H'=>D.rt v H',bk:=λσ' H'=>D.bk (σ'.set i none) H',ct:=λσ' H'=>D.ct (σ'.set i none) H' } (σ.set i (some (.ref a))) H
 else tr a C D σ H
section
variable {X:Cx}
theorem wJ {pins:List (Addr × Obj)}{s:Shared}{σ:St}{H:Hp}{a C U C':Addr}{Dd:Option Addr}{x:Str}{p pos:Pos}{R:Result->Shared->Prop} (I:Inv X pins σ H s) (hx:H a=some (XOn false C a Dd)) (T:XCls X.K C U) (hT:hIn X.K C'=true) (hg:Gl X x) (hm:X.mg x=some (.ref C')) (hdb:(x == ("__debug__" : Str))=false)
  (h:R (.ok (if (iz C U).contains (.ref C') then .brk else .next)) s):codeAny (model X.prog X.w) (X.A.mark (some (.ref a))) (.handlers (.ref a) [.ExceptHandler (some (.Name x p)) none [] pos] X.env) R s:=by
 have Im:=I.hold a
 obtain⟨vs,he,_⟩:=fR I hx
 obtain⟨_,_,nm,qn,N,bs,hdct,sn,sub,ab,col,dd,k0,k1,k2,k3,k5,hC⟩:=kj I.kIn T.ex
 obtain⟨bm,nm',qn',N',bs',hdct',sn',sub',ab',col',dd',l0,l1,l2,l3,l5,nid,hC',hbs⟩:=A5 I.kIn hT
 refine codeAny_handlers_test (eE (X:=X.held a) Im hg hm ?_ hdb)
 obtain⟨hp,g,d,tk,os⟩:=s
 exact uh hC hC' he rfl hbs h
theorem qI {M:Model}{A:Around}{E:Value->Shared->Prop}{pins:List (Addr × Obj)}{s:Shared}{σ:St}{H:Hp}{a:Addr}{Q:Unit->Shared->Prop} (I:Inv X pins σ H s) (fl:Fly s.heap a) (h:∀s',Inv X pins σ H s'->Q () s'):wpAny M A (setFlight (.ref a) none) Q E s:=by
 obtain⟨oe,vs,T,oT,ts,he,hd,h1,hTe,hT,hdT,h3⟩:=fl
 refine wpAny_setFlight_none he hd h1 hT hdT (Array.getElem?_eq_some_iff.mp h3).1 (h _ (I.kept (t':=s.toks) λb u e=>?_))
 rw [gs hT hdT h3]
 exact e
theorem zm {x n:Str}{p pos:Pos}{i:Nat}{C':Addr}{b₀:Stmt}{suite:List Stmt}{rest:List ExceptHandler}{ts:Addr->TS}{tr:TH} (hc:X.A.handled=none) (hT:hIn X.K C'=true) (hg:Gl X x) (hm:X.mg x=some (.ref C')) (hN:X.N.Nodup) (hi:X.N[i]?=some n) (hn:X.env.scope.names.lookup n=some .local)
  (hs:∀a,PSs (X.held a) (b₀::suite) (ts a)) (hr:PH X rest tr) (hdb:(x == ("__debug__" : Str))=false:=by decide):PH X (.ExceptHandler (some (.Name x p)) (some n) (b₀::suite) pos::rest) (tAs X.K C' i ts tr):=by
 intro pins s σ H D a C Dd I hx fl h
 obtain⟨U,T,h⟩:=h
 refine wpAny_handleBy_cons (wJ I hx T hT hg hm hdb ?_) (by intro q;cases q)
 cases hb:(iz C U).contains (.ref C') with
 | false=>
  rw [hb,if_neg (by decide)]at h
  exact hr pins s σ H D a C Dd I hx fl h
 | true=>
  rw [hb,if_pos rfl]at h
  refine codeAny_handlers_suite_as (qI (I.hold a) fl λs1 I1=>?_)
  refine gt (X:=X.held a) I1 hN hi (.inl hn) (v:=.ref a) rfl (λs2 I2=>?_) (.inr hn)
  refine wpAny_mono (hs a pins s2 _ H _ I2 h) (λf s3 q=>?_) λ_ _ z=>z.elim
  have un:∀{σ':St}{H':Hp}{R:Unit->Shared->Prop},Inv (X.held a) pins σ' H' s3->(∀s4,Inv X pins (σ'.set i none) H' s4->R () s4)->wpAny (model X.prog X.w) X.A (do bindName X.env n .none;unbindBehindTheSuite X.env n pos) R X.xe s3:=λ{σ' H' R} I3 hR=>by
   have I4:=I3.unhold λ_=>hc
   have hil:i < σ'.length:=by rw [I4.len];exact(List.getElem?_eq_some_iff.mp hi).1
   refine wpAny_bind (wpAny_bindName (gt I4 hN hi (.inl hn) (v:=.non) rfl (λs4 I5=>?_) (.inr hn)))
   unfold unbindBehindTheSuite
   refine wpAny_onRaise (pQ I5 hN hi hn (v:=.non) (by rw [List.getElem?_set_self hil]) λs5 I6=>hR s5 ?_)
   rw [List.set_set]at I6
   exact I6
  cases f with
  | next=>
   obtain⟨σ',H',I3,q⟩:=q
   exact un I3 λs4 I4=>⟨_,_,I4,q⟩
  | brk=>
   obtain⟨σ',H',I3,q⟩:=q
   exact un I3 λs4 I4=>⟨_,_,I4,q⟩
  | cont=>
   obtain⟨σ',H',I3,q⟩:=q
   exact un I3 λs4 I4=>⟨_,_,I4,q⟩
  | ret u=>
   obtain⟨v,σ',H',I3,r,q⟩:=q
   exact un I3 λs4 I4=>⟨v,_,_,I4,r,q⟩
end
end L2
namespace Kn
open PySem
end Kn
namespace L2
open PySem PySem.Spec PyProof.Rows
end L2
namespace L2
open PySem PySem.Spec PyProof.Rows
theorem fQ {α β:Type} (f:α->β):∀(xs:List α) (j:Nat),(xs.map f).eraseIdx j=(xs.eraseIdx j).map f
 | [],j=>by simp
 | x::xs,0=>by simp
 | x::xs,j+1=>by simp [fQ f xs j]
section
variable {prog:Program}{w:World}{K:Type} [DecidableEq K] {knd:HeapKind prog w K}{A:Around}{E:Value->Shared->Prop}{s:Shared}
end
section
variable {X:Cx}{pins:List (Addr × Obj)}{σ:St}{H:Hp}{s:Shared}{a b:Addr}{kvs:List (List Key × V)}{k:List Key}{A:Around}{E:Value->Shared->Prop}
end
section
variable {X:Cx}{o e f:Expr}{apos cpos:Pos}{td ty tx:TE}
end
end L2
namespace PySem.SeqAt
open AutoSeq1 (wpAny_loadPart')
open MeetsSeq MeetsSeq2 MeetsSeq3 SeqRoads2
end PySem.SeqAt
namespace L2
open PySem PySem.Spec PyProof.Rows
noncomputable abbrev RwB:=Str × Int × Int
theorem pE {X:Cx}{pins:List (Addr × Obj)}{σ:St}{H:Hp}{s:Shared}{p:Addr}{xs:List V} (I:Inv X pins σ H s) (e:H p=some (.tup xs)):∃its:List Value,aX xs its/\s.heap.IsTuple p its.toArray:=by
 obtain⟨_,its,r,o,h1,h2,n,h3⟩:=(show bB X.prog X.w H s.heap p (.tup xs) from I.hok p _ e)
 exact⟨its,r,o,h1,h2,n,h3⟩
noncomputable def nI:V->Bool
 | .byt _=>false
 | .flt _=>false
 | _=>true
theorem qw {A:Around}{s:Shared}{x:V}{u v:Value} (hp:nI x=true) (r1:bg x u) (r2:bg x v):SeqAt.EqAt A s u v true:=by
 cases x with
 | int i=>obtain⟨t,rfl⟩:=r1;obtain⟨t',rfl⟩:=r2;have:=SeqAt.EqAt.int_int (A:=A) (s:=s) i t i t';rwa [beq_self_eq_true]at this
 | bl b=>cases r1;cases r2;exact SeqAt.EqAt.same _
 | str x=>obtain⟨t,rfl⟩:=r1;obtain⟨t',rfl⟩:=r2;have:=SeqAt.EqAt.str_str (A:=A) (s:=s) x t x t';rwa [beq_self_eq_true]at this
 | non=>cases r1;cases r2;exact SeqAt.EqAt.same _
 | ref p=>cases r1;cases r2;exact SeqAt.EqAt.same _
 | ty p=>cases r1;cases r2;exact SeqAt.EqAt.same _
 | byt _=>cases hp
 | flt _=>cases hp
theorem jw {A:Around}{s:Shared}{xs:List V} (hp:xs.all nI=true){us vs:List Value} (r1:aX xs us) (r2:aX xs vs):∀(j:Nat) (h1:j < us.toArray.size) (h2:j < vs.toArray.size),SeqAt.EqAt A s us.toArray[j] vs.toArray[j] true:=λj h1 h2=>by
 have hx:j < xs.length:=by rw [Paired.length r1];simpa using h1
 obtain⟨u,e1,q1⟩:=r1.get (List.getElem?_eq_getElem hx)
 obtain⟨v,e2,q2⟩:=r2.get (List.getElem?_eq_getElem hx)
 have a1:us.toArray[j]=u:=by
  have:us[j]?=some us[j]:=List.getElem?_eq_getElem (by simpa using h1)
  rw [e1]at this
  simpa using (Option.some.inj this).symm
 have a2:vs.toArray[j]=v:=by
  have:vs[j]?=some vs[j]:=List.getElem?_eq_getElem (by simpa using h2)
  rw [e2]at this
  simpa using (Option.some.inj this).symm
 rw [a1,a2]
 exact qw (List.all_eq_true.mp hp _ (List.getElem_mem hx)) q1 q2
inductive rSame (neg:Bool) (x:V) (y:V) (H:Hp) (Q:VK):Prop
 | mk (a b xs) (h1:x=.ref a) (h2:y=.ref b) (h3:H a=some (.tup xs)) (h4:H b=some (.tup xs)) (h5:xs.all nI=true) (h6:Q (.bl (!neg)) H):rSame neg x y H Q
theorem cB (n:Nat):((List.range n).all λ_=>true)=true:=List.all_eq_true.mpr λ_ _=>rfl
section
variable {X:Cx}
theorem fz (hu:X.A.units+64 < cLine):OpR X (compareOp .Eq) (rSame false):=by
 intro pins s σ H x y v u Q I r1 r2 h
 obtain⟨a,b,xs,rfl,rfl,ea,eb,hp,q⟩:=h
 cases r1;cases r2
 obtain⟨us,v1,o1⟩:=pE I ea
 obtain⟨vs,v2,o2⟩:=pE I eb
 refine SeqAt.eq_tupleAt (e:=λ_=>true) o1 o2 (by omega) (jw hp v1 v2) ?_
 have l1:=Paired.length v1
 have l2:=Paired.length v2
 rw [cB,List.size_toArray,List.size_toArray,<- l1,<- l2,beq_self_eq_true]
 exact⟨.bl true,H,I,rfl,q⟩
theorem i7 (hu:X.A.units+64 < cLine):OpR X (compareOp .NotEq) (rSame true):=by
 intro pins s σ H x y v u Q I r1 r2 h
 obtain⟨a,b,xs,rfl,rfl,ea,eb,hp,q⟩:=h
 cases r1;cases r2
 obtain⟨us,v1,o1⟩:=pE I ea
 obtain⟨vs,v2,o2⟩:=pE I eb
 refine SeqAt.RcNeAt.tuples (e:=λ_=>true) o1 o2 (by omega) (jw hp v1 v2) _ _ _ _ ?_
 have l1:=Paired.length v1
 have l2:=Paired.length v2
 rw [cB,List.size_toArray,List.size_toArray,<- l1,<- l2,beq_self_eq_true]
 exact⟨.bl false,H,I,rfl,q⟩
end
end L2
namespace L2
open PySem PySem.Spec PyProof.Rows
end L2
namespace L2
open PySem PySem.Spec PyProof.Rows
noncomputable def inS (zs:List Str) (i:Nat):Str->Bool:=λk=>decide (k∈zs.take i)
noncomputable def eJ (zs:List Str):Nat->Nat
 | 0=>0
 | i+1=>match zs[i]? with
  | some z=>if inS zs i z=true then eJ zs i else eJ zs i+1
  | none=>eJ zs i
theorem lB (zs:List Str):∀i,eJ zs i<=i
 | 0=>Nat.le_refl _
 | i+1=>by
  have:=lB zs i
  unfold eJ
  split
  ·split <;> omega
  ·omega
theorem yo {zs:List Str} (nd:zs.Nodup){i:Nat}{z:Str} (ez:zs[i]?=some z):inS zs i z=false:=by
 refine decide_eq_false λq=>?_
 obtain⟨j,hj,e⟩:=List.getElem_of_mem q
 rw [List.length_take]at hj
 rw [List.getElem_take]at e
 have hi:=(List.getElem?_eq_some_iff.mp ez)
 exact(List.pairwise_iff_getElem.mp nd j i (by omega) hi.1 (by omega)) (e.trans hi.2.symm)
theorem ik {zs:List Str} (nd:zs.Nodup):∀i,i<=zs.length->eJ zs i=i
 | 0,_=>rfl
 | i+1,h=>by
  have ez:zs[i]?=some (zs[i]'(by omega)):=List.getElem?_eq_getElem (by omega)
  unfold eJ
  rw [ez]
  simp only
  rw [yo nd ez,ik nd i (by omega)]
  rfl
noncomputable abbrev iC (P:Program) (w:World) (a:Addr) (zs:List Str) (i:Nat) (h:Heap):Prop:=h.SetOf (strKind P w) a (inS zs i) (eJ zs i)
theorem iC.at {P:Program}{w:World}{a:Addr}{zs:List Str}{i:Nat}{h h':Heap} (x:iC P w a zs i h) (e:∀o,h.get? a=some o->h'.get? a=some o):iC P w a zs i h':=by
 obtain⟨o,es,ep,t,ho,r⟩:=x
 exact⟨o,es,ep,t,e o ho,r⟩
section
variable {prog:Program}{w:World}{A:Around}{R:Result->Shared->Prop}{it:Addr}{fp wr:List Addr}{G:Array GenState->Array GenState->Prop}{P:Nat->Value->Prop}{St:Nat->Shared->Prop}
theorem rE {zs:List Str} (W:WalksS prog w A.in1 it fp wr G zs.length P St) (S:Addr) (hS:S∉fp) (val:∀i v,P i v->∃z t,zs[i]?=some z/\v=.str z t) (hb:zs.length+1 < scanBound) :
  ∀(k i:Nat) (s:Shared),zs.length - i=k->i<=zs.length->St i s->iC prog w S zs i s.heap->
   (∀s',Moved (S::wr) G s s'->iC prog w S zs zs.length s'.heap->R (.ok (.ret .none)) s')->
   codeAny (model prog w) A (.builtin "set.update.loop" ⟨[.ref S,.ref it],[]⟩) R s:=by
 have nw:S∉wr:=λz=>hS (W.sub _ z)
 have up:∀b∈wr,b∈S::wr:=λb z=>List.mem_cons_of_mem _ z
 intro k
 induction k with
 | zero=>
  intro i s ek le st x fin
  have e:i=zs.length:=by omega
  subst e
  refine codeAny_builtin F.entry_set_update_loop ?_
  rw [Around.under_plainId F.plain_set_update_loop _]
  show wpAny _ A.in1 (pyNext (.ref it) >>= _) _ _ s
  refine wpAny_bind (W.done s _ _ st λs' mv=>?_)
  exact wpAny_pure (fin s' (mv.mono up) (x.at λo e=>mv.heap S o nw e))
 | succ k ih=>
  intro i s ek le st x fin
  refine codeAny_builtin F.entry_set_update_loop ?_
  rw [Around.under_plainId F.plain_set_update_loop _]
  show wpAny _ A.in1 (pyNext (.ref it) >>= _) _ _ s
  refine wpAny_bind (W.item i s _ _ (by omega) st λv s' pv st' mv=>?_)
  obtain⟨z,t,ez,rfl⟩:=val i v pv
  have x':=x.at λo e=>mv.heap S o nw e
  show wpAny _ A.in1 (holding [Value.str z t] (setAdd S (.str z t)) >>= _) _ _ s'
  refine wpAny_bind (wpAny_holding ?_)
  unfold setAdd
  refine wpAny_holding ?_
  refine wpAny_bind ((strKind prog w).pyHash (k:=z) (strKind_is _ _ _ _) ?_)
  have hc:=lB zs i
  refine wpAny_setAddHashed_of (knd:=strKind prog w) (s:={ s' with toks:=s'.toks+1 }) (strKind_is _ _ _ _) rfl x' (by omega) λh' sb x2=>?_
  have x0:(match zs[i]? with | some z=>if inS zs i z=true then eJ zs i else eJ zs i+1 | none=>eJ zs i)=eJ zs (i+1):=rfl
  rw [ez]at x0
  have x3:iC prog w S zs (i+1) h':=SetOf_congr x2 (λk'=>by
   unfold inS
   rw [List.take_add_one,ez,Bool.eq_iff_iff]
   simp) x0
  refine wpAny_pure ⟨plainId_quiet F.plain_set_update_loop _,ih (i+1) _ (by omega) (by omega) (W.frame _ s' _ _ st' (Nat.le_succ _) λb hb o e=>?_) x3 λs'' mv'' x4=>?_⟩
  ·rw [sb.2 b (λh:b=S=>hS (by rw [<- h];exact hb))];exact e
  ·refine fin s'' (Moved.trans W.gtrans ((mv.mono up).then_heap (Nat.le_succ _) λb o hb e=>?_) mv'') x4
   rw [sb.2 b (λh:b=S=>hb (by rw [h];exact List.mem_cons_self))];exact e
end
section
variable {prog:Program}{w:World}{A:Around}{E:Value->Shared->Prop}{s:Shared}
noncomputable abbrev eB (b:Bool):Obj:={ cls:=.type "set", dict:=none,data:=.set #[] 0 (.fresh 0 0 b) }
theorem oy:∀{vs:List Value}{zs:List Str},StrsAre vs zs->∀(i:Nat) (v:Value),vs[i]?=some v->∃z t,zs[i]?=some z/\v=.str z t
 | _,_,.nil,i,v,h=>by simp at h
 | _,_,.cons z t r,0,v,h=>⟨z,t,rfl,by simpa using h.symm⟩
 | _,_,.cons z t r,i+1,v,h=>by
  obtain⟨z',t',e1,e2⟩:=oy r i v (by simpa using h)
  exact⟨z',t',by simpa using e1,e2⟩
theorem jt {l:Addr}{its:Array Value}{zs:List Str}{Q:Value->Shared->Prop} (hh:A.handled=none) (hl:s.heap.IsList l its) (hs:StrsAre its.toList zs) (hb:zs.length+1 < scanBound)
  (q:∀(h':Heap) (tk:Nat),iC prog w s.heap.objs.size zs zs.length h'->(∀a o,a < s.heap.objs.size->s.heap.get? a=some o->h'.get? a=some o)->Q (.ref s.heap.objs.size) { s with heap:=h',toks:=tk }) :
  wpAny (model prog w) A (call (.type "set") [.ref l]) Q E s:=by
 have ft:=PySem.F.called_set
 obtain⟨c0,tl0,m0⟩:=ft.mro
 have m1:=ft.made
 have m2:=ft.sub
 have hlen:its.size=zs.length:=by
  have:=hs.length
  rw [Array.length_toList]at this
  exact this
 refine wpAny_call (codeAny_of_tree ?_)
 show wpAny _ _ (callAny (.type "set") _) _ _ _
 refine wpAny_pure ⟨Code.quiet_builtin _ (by decide +kernel),codeAny_builtin PySem.F.entry_type_call ?_⟩
 rw [Around.under_plain (weight_type_call_type "set" [.ref l] []) rfl]
 have m3:=ft.notType
 have m4:=ft.canCreate
 have m5:=PySem.F.typeCall_set_1 (.ref l)
 repeat (any_goals (first | assumption | wp_step))
 refine codeAny_mono (PySem.code_set_new_1 (.ref l) (E:=E) (Q₁:=λo s1=>∃b:Bool,o=.ref s.heap.objs.size/\s1={ s with heap:=s.heap.push (eB b) }) λb=>⟨b,rfl,rfl⟩) λr s1 hr=>?_
 cases r with
 | error e=>exact hr
 | ok fl=>
  cases fl with
  | ret o=>
   obtain⟨b,rfl,rfl⟩:=hr
   have hS:(s.heap.push (eB b)).get? s.heap.objs.size=some (eB b):=Heap.get?_push_size _ rfl
   have hT:Shared.TypeIs { s with heap:=s.heap.push (eB b) } (.ref s.heap.objs.size) "set":=⟨_,hS,rfl⟩
   have n1:=ft.init.lookup
   have n2:=ft.init.bind (.ref s.heap.objs.size)
   repeat (any_goals (first | assumption | wp_step))
   refine codeAny_mono (codeAny_call_builtin (R:=wants (λr s2=>r=.none/\∃h' tk,s2={ s with heap:=h',toks:=tk }/\iC prog w s.heap.objs.size zs zs.length h'/\∀a o,a < s.heap.objs.size->s.heap.get? a=some o->h'.get? a=some o) E) ft.init.plain PySem.F.entry_set_init (PySem.check_set_init_1 hT ?_)) λr2 s2 hr2=>?_
   ·obtain⟨ol,hol,hcl,nl,hdl⟩:=hl
    obtain⟨oc,od,oa,os⟩:=ol
    simp only at hcl hdl
    subst hcl;subst hdl
    have ho1:(s.heap.push (eB b)).get? l=some { cls:=.type "list", dict:=od,data:=.seq its nl,slots:=os }:=Heap.get?_push_of_some _ hol
    have k1:=PySem.F.sub_list_set
    have k2:=PySem.F.sub_list_frozenset
    have k3:(Value.type "list" == Value.type "dict")=false:=by decide
    have l1:(s.heap.push (eB b)).IsList l its:=⟨_,ho1,rfl,nl,rfl⟩
    have lS:l < s.heap.objs.size:=Heap.lt_size hol
    unfold Builtin.«set.__init__» noKeywords Builtin.Frozenset.updateFrom
    generalize eI:pyIter=PI
    wp_walk
    subst eI
    refine wpAny_pyIter_list l1 ?_
    refine wpAny_bind (wpAny_runValue ?_)
    have zp:(s.heap.push (eB b)).objs.size=s.heap.objs.size+1:=Heap.size_push _ _
    have d1:l≠(s.heap.push (eB b)).objs.size:=by rw [zp];exact Nat.ne_of_lt (Nat.lt_succ_of_lt lS)
    have d2:s.heap.objs.size∉[(s.heap.push (eB b)).objs.size,l]:=by
     rw [zp]
     intro z
     rcases List.mem_cons.mp z with z | z
     ·exact Nat.ne_of_lt (Nat.lt_succ_self _) z
     ·exact Nat.ne_of_gt lS (List.mem_singleton.mp z)
    have W:=(Walks.list (prog:=prog) (w:=w) (A:=A.in1.in1.in1) (by simp [hh]) _ l d1 its).toS
    rw [hlen]at W
    refine rE W s.heap.objs.size d2 (λi v hv=>oy hs i v (by rw [Array.getElem?_toList];exact hv)) hb (zs.length - 0) 0 _ (by omega) (Nat.zero_le _) ⟨⟨_,Heap.get?_push_size _ rfl,rfl,rfl⟩,l1.push _⟩ ?s0 ?fin
    case s0=>
     exact SetOf_congr ((setObjOf_fresh (knd:=strKind prog w) b).setOf (Heap.get?_push_of_some _ hS) (by unfold scanBound;omega)) (λ_=>by unfold inS;simp) rfl
    case fin=>
     intro s' mv x
     obtain⟨h',g',d',tk',os'⟩:=s'
     obtain rfl:g'=s.gens:=mv.gens
     obtain rfl:d'=s.drawn:=mv.drawn
     obtain rfl:os'=s.os:=mv.os
     refine wpAny_pure ?_
     show wpAny _ _ (ret Value.none) _ _ _
     refine wpAny_pure ⟨rfl,h',tk',rfl,x,λa o ha e=>mv.heap a o (λz=>?_) (Heap.get?_push_of_some _ (Heap.get?_push_of_some _ e))⟩
     rcases List.mem_cons.mp z with z | z
     ·exact Nat.ne_of_lt ha z
     ·rw [zp]at z
      exact Nat.ne_of_lt (Nat.lt_succ_of_lt ha) (List.mem_singleton.mp z)
   ·cases r2 with
    | error e=>exact hr2
    | ok f2=>
     cases f2 with
     | ret r=>
      obtain⟨rfl,h',tk,rfl,x,kp⟩:=hr2
      repeat (any_goals (first | assumption | wp_step))
      exact q _ _ x kp
     | _=>exact hr2.elim
  | _=>exact hr.elim
end
end L2
namespace L2
open PySem PySem.Spec PyProof.Rows
theorem il {X:Cx} (hc:X.calm=true):cO X (.type "set") (λxs H Q=>∃(a:Addr) (zs:List Str),xs=[.ref a]/\SqL X.K H a (zs.map V.str)/\zs.length<=1000/\∀p,H p=none->Q (.ref p) (upd H p (.ext (iC X.prog X.w p zs zs.length)))):=by
 intro pins s σ H xs us Q I r h
 obtain⟨a,zs,rfl,hS,hz,q⟩:=h
 obtain⟨u,rfl,ru⟩:=dn r
 cases (show u=Value.ref a from ru)
 obtain⟨its,rv,p,_⟩:=I.list hS
 refine jt (I.ok.hd hc) p.isList (by simpa using kz rv) (by unfold scanBound;omega) λh' tk x kp=>?_
 refine⟨.ref s.heap.objs.size,_,I.laid (o:=.ext (iC X.prog X.w s.heap.objs.size zs zs.length)) (t':=tk) (h':=h') (λb u e=>kp b u (Heap.lt_size e) e) (Nat.le_refl _) (by
  obtain⟨o,_,_,_,e,_⟩:=id x
  exact⟨x,⟨o,e⟩,λh1 h2 e k=>e.at k⟩),rfl,q _ (I.hok.fresh (Nat.le_refl _))⟩
theorem im {X:Cx}:cO X (.builtin "len") (λxs H Q=>∃(a:Addr) (zs:List Str),xs=[.ref a]/\H a=some (.ext (iC X.prog X.w a zs zs.length))/\Q (.int (eJ zs zs.length)) H):=by
 intro pins s σ H xs us Q I r h
 obtain⟨a,zs,rfl,hS,q⟩:=h
 obtain⟨u,rfl,ru⟩:=dn r
 cases (show u=Value.ref a from ru)
 obtain⟨o,es,ep,t,ho,hex,hd,_,_,hb,hf,hn⟩:=(show bB X.prog X.w H s.heap a _ from I.hok a _ hS).1
 refine call_len_set ho hex hd hf (by unfold scanBound at hb;omega) ⟨.int (eJ zs zs.length),H,I.tok _,⟨_,by rw [hn]⟩,q⟩
end L2
namespace PySem
open PySem PySem.Spec
section
variable {prog:Program}{w:World}{A:Around}{E:Value->Shared->Prop}{h:Heap}{g:Array GenState}{d:Drawn}{t:Nat}{os:OsState}{a:Addr}{o:Obj}
end
end PySem
namespace L2
open PySem PySem.Spec PyProof.Rows
section
variable {prog:Program}{w:World}{A:Around}{R:Result->Shared->Prop}{it:Addr}{fp wr:List Addr}{G:Array GenState->Array GenState->Prop}{P:Nat->Value->Prop}{St:Nat->Shared->Prop}
end
section
variable {prog:Program}{w:World}{A:Around}{E:Value->Shared->Prop}{s:Shared}
end
end L2
namespace L2
open PySem PySem.Spec PyProof.Rows
section
variable {P:Program}{w:World}{K:PySem.W.Frag}{mg:Str->Option Value}{base:Heap}
end
end L2
namespace L2
open PySem PySem.Spec PyProof.Rows
end L2
namespace L2
open PySem PySem.Spec PyProof.Rows
structure MC (P:Program) (w:World) (K:PySem.W.Frag) (mg:Str->Option Value) (base:Heap) (C:Addr) (m:Str) (k:Nat) (ps:List Str) (ds:List Value) (dvs:List V) (sp:Sp) (f:Addr) (fd:FuncData):Prop where
 cl:Cls K C
 mt:Meth K C m f
 ok:FnOk P w K mg base CX0 k f fd ps sp
 bd:bA K fd ps ds
 dv:aX dvs ds
end L2
namespace L2
open PySem PySem.Spec PyProof.Rows
section
variable {D:Ends}{σ:St}{H:Hp}{Q:VK}
theorem ai (h:D.nx σ H):vK D σ H:=h
theorem az {te:TE} (h:te σ H D.rt):uo te D σ H:=h
theorem aS {te:TE} (h:te σ H λ_ H1=>D.nx σ H1):vM te D σ H:=h
theorem ae {t u:TS} (h:t { D with nx:=u D } σ H):kr t u D σ H:=h
theorem oW {ta tb:TE} (h:ta σ H λx H1=>∃c,x=.bl c/\if c=true then tb σ H1 Q else Q (.bl false) H1):vN ta tb σ H Q:=h
theorem sk {r:List V->Hp->VK->Prop}{t:TA} (h:t σ H λvs H1=>r vs H1 Q):tCB r t σ H Q:=h
theorem cy {ta:TE}{tr:TA}{R:List V->Hp->Prop} (h:ta σ H λx H1=>tr σ H1 λxs H2=>R (x::xs) H2):bV ta tr σ H R:=h
theorem oV {r:R2}{ta tb:TE} (h:ta σ H λx H1=>tb σ H1 λy H2=>r x y H2 Q):tOp r ta tb σ H Q:=h
theorem wk {K:PySem.W.Frag}{T:String}{r:V->List V->Hp->VK->Prop}{to:TE}{t:TA} (h:to σ H λx H1=>tyV K T x H1/\t σ H1 λxs H2=>r x xs H2 Q):tBM K T r to t σ H Q:=h
theorem ao {te:TE}{g:TG} (h:te σ H λx H1=>g x σ H1 D.nx):ur te g D σ H:=h
end
end L2
namespace L2
open PySem PySem.Spec PyProof.Rows
noncomputable abbrev OB:=Str × RwB
noncomputable abbrev Ix:=List (Str × List RwB)
noncomputable abbrev kk (k:Str) (n:Int):List Key:=[Sum.inr k,Sum.inl n]
noncomputable def zG:Nat->Int->Int->Int->List Int
 | 0,_,_,_=>[]
 | j+1,k,f,l=>(if f+1 < k then [k - ((2 ^ j:Nat):Int)] else [])++(if k < l+1 then [k+((2 ^ j:Nat):Int)] else [])
structure IA where
 p:Addr
 s:Addr
 w:Addr
end L2
namespace L2
open PySem PySem.Spec PyProof.Rows
theorem aq {c:TT}{t u:TS}{D:Ends}{σ:St}{H:Hp} (h:c σ H λb H1=>if b=true then t D σ H1 else u D σ H1):wP c t u D σ H:=h
theorem wg {t:TS}{D:Ends}{H:Hp}{σ σ':St} (e:σ=σ') (h:t D σ' H):t D σ H:=by
 rw [e];exact h
theorem j7 {c:TT}{tb:TS}{D:Ends}{σ:St}{H:Hp} (W:Nat->St->Hp->Prop){m:Nat} (h0:W m σ H) (h:∀m σ H,W m σ H->c σ H λb H1=>if b=true then ∃N:St->Hp->Prop,(∀σ' H',N σ' H'->∃m',m' < m/\W m' σ' H')/\tb { D with nx:=N,ct:=N,bk:=D.nx } σ H1 else D.nx σ H1):qQ c tb D σ H:=
 ⟨W,⟨m,h0⟩,h⟩
theorem pZ {f g:Int->Int->Bool}{ta tb tc:TE}{σ:St}{H:Hp}{Q:Bool->Hp->Prop}{i j k:Int} (ha:∀R:VK,R (.int i) H->ta σ H R) (hb:∀R:VK,R (.int j) H->tb σ H R) (hc:∀R:VK,R (.int k) H->tc σ H R) (h:Q (f i j && g j k) H) :
  qR (ku (rI0 λi j=>V.bl (f i j)) (rI0 λi j=>V.bl (g i j)) ta tb tc) σ H Q:=by
 refine ha _ (hb _ ⟨_,_,rfl,rfl,_,rfl,?_⟩)
 cases hf:f i j with
 | true=>
  rw [hf,Bool.true_and]at h
  exact b5 (hc _ ⟨_,_,rfl,rfl,_,rfl,h⟩)
 | false=>
  rw [hf,Bool.false_and]at h
  exact aF ⟨_,rfl,h⟩
end L2
namespace L2
open PySem PySem.Spec PyProof.Rows
end L2
namespace L2
open PySem PySem.Spec PyProof.Rows
end L2
namespace L2
open PySem PySem.Spec PyProof.Rows
noncomputable def look (I:Ix) (o:Str):Option (List RwB):=(I.find? λx=>decide (x.1=o)).map (·.2)
noncomputable def mm (a:IA) (M:Addr->Prop) (b:Addr):Prop:=b=a.p\/M b
end L2
namespace L2
open PySem PySem.Spec PyProof.Rows
end L2
namespace L2
open PySem PySem.Spec PyProof.Rows
section
variable {X:Cx}
end
section
variable {X:Cx}
end
end L2
namespace L2
open PySem PySem.Spec PyProof.Rows
section
variable {prog:Program}{w:World}{A:Around}{E:Value->Shared->Prop}
end
end L2
namespace L2
open PySem PySem.Spec PyProof.Rows
theorem pF {X:Cx}{pins:List (Addr × Obj)}{σ:St}{H:Hp}{s:Shared}{p:Addr}{xs:List V} (I:Inv X pins σ H s) (e:H p=some (.lst xs)):∃its:List Value,aX xs its/\s.heap.IsList p its.toArray:=by
 obtain⟨_,its,n,r,h1⟩:=(show bB X.prog X.w H s.heap p (.lst xs) from I.hok p _ e)
 exact⟨its,r,_,h1,rfl,n,rfl⟩
section
variable {X:Cx}
end
end L2
namespace L2
open PySem PySem.Spec PyProof.Rows
theorem nF {t u:TS}{D:Ends}{σ:St}{H:Hp} (Post:St->Hp->Prop) (h1:∀R:St->Hp->Prop,(∀σ' H',Post σ' H'->R σ' H')->t { D with nx:=R } σ H) (h2:∀σ' H',Post σ' H'->u D σ' H'):kr t u D σ H:=h1 _ h2
end L2
namespace L2
open PySem PySem.Spec PyProof.Rows
end L2
namespace L2
open PySem PySem.Spec PyProof.Rows
section
variable {prog:Program}{w:World}{A:Around}{s:Shared}{R:Result->Shared->Prop}{I:Addr}{fp wr:List Addr}{G:Array GenState->Array GenState->Prop}{n:Nat}{P:Nat->Value->Prop}{St:Nat->Shared->Prop}
end
section
variable {prog:Program}{w:World}{A:Around}{E:Value->Shared->Prop}{s:Shared}
end
end L2
namespace L2
open PySem PySem.Spec PyProof.Rows
noncomputable def par (j:Nat) (n:Int):Int:=if (n - ((2 ^ j:Nat):Int)) / ((2 ^ j:Nat):Int) / 2 % 2=0 then n+((2 ^ j:Nat):Int) else n - ((2 ^ j:Nat):Int)
end L2
namespace L2
open PySem PySem.Spec PyProof.Rows
noncomputable def zL (i j:Int):Prop:=0 < j/\j < 2 ^ 64
theorem sD {X:Cx}:OpR X (binaryOp .FloorDiv) (rI zL λi j=>.int (i / j)):=opI λi j _ _ _ _ _ hc q=>by
 have h1:(0:Int) < j:=hc.1
 have h2:j.natAbs < 2 ^ 64:=by have:=hc.2;omega
 have h3:j.natAbs.log2 < 64:=(Nat.log2_lt (by omega)).mpr h2
 exact floordiv_int (by omega) (by rw [Int.fdiv_eq_ediv_of_nonneg i (by omega)];exact q) (.inl (PyProof.noPylong_of_log2 (by omega)))
end L2
namespace L2
open PySem PySem.Spec PyProof.Rows
section
variable {P:Program}{w:World}{K:PySem.W.Frag}{mg:Str->Option Value}{base:Heap}
theorem Fun.okX {x qual:Str}{st:Stmt}{f:Addr}{fd:FuncData}{N ps:List Str}{k:Nat}{sp:Sp} (F:Fun K x qual st f fd) (S:FnScope N ps (aw st)) (len:∀vs H Q E,sp vs H Q E->vs.length=ps.length)
  (hbody:∀(cdv:Value) (A:Around) (outer:List Env) (s:Shared) (H:Hp) (vs:List V) (Q:VK) (E:XK),Room k (A.deeper (envOfC qual (aw st) s.heap.objs.size f cdv))->sp vs H Q E->
   ∃t,PSs (fM (CXR P w) P w K mg base N qual (aw st) f cdv A outer s H E) (eG st) t/\t { nx:=λ_ H'=>Q .non H',rt:=Q } (gv N vs) H):FnOk P w K mg base (CXR P w) (k+1) f fd ps sp:=by
 obtain⟨oc,od,kV,doc,pm,an,cdv,ct,osl,rfl,lk,hcd⟩:=F.ex
 exact wB lk hcd S len λA outer s H vs Q E hr hsp=>hbody cdv A outer s H vs Q E hr hsp
theorem FnOk.both {k:Nat}{f:Addr}{fd:FuncData}{ps:List Str}{sp sp':Sp} (F:FnOk P w K mg base CX0 k f fd ps sp) (G:FnOk P w K mg base (CXR P w) k f fd ps sp'):FnOk P w K mg base (CXR P w) k f fd ps (λvs H Q E=>sp vs H Q E\/sp' vs H Q E):=by
 refine⟨λvs H Q E h=>h.elim (F.len vs H Q E) (G.len vs H Q E),λA outer s H args us vs Q E hr he hb hv h=>?_⟩
 rcases h with h | h
 ·refine codeAny_mono (F.run A outer s H args us vs Q E hr he hb hv h) λr s' q=>?_
  cases r with
  | error e=>exact q.elim
  | ok f=>cases f <;> exact q
 ·exact G.run A outer s H args us vs Q E hr he hb hv h
end
noncomputable def fK (C:Addr) (fs:List (Str × V)) (H:Hp) (E:XK):Prop:=∀(a:Addr) (H':Hp),(∀b o,H b=some o->H' b=some o)->H a=none->XAt H' a C fs->E (.ref C) (some a) H'
end L2
namespace L2
open PySem PySem.Spec PyProof.Rows
inductive pV (K:PySem.W.Frag) (f:Str) (vs:List V) (H:Hp) (Q:VK) (E:XK):Prop
 | mk (e C U:Addr) (v:V) (h1:vs=[.ref e,v]) (h2:H e=some (XO C e none)) (h3:XCls K C U) (h4:PySem.W.findIn K (.ref C) f=some none) (h5:∀d,H d=none->Q .non (upd (upd H d (.xd [(f,v)])) e (XO C e (some d)))):pV K f vs H Q E
structure Rf1 (P:Program) (w:World) (K:PySem.W.Frag) (mg:Str->Option Value) (base:Heap) (x:Str) (C U:Addr) (f:Str) (fI:Addr) (fd:FuncData):Prop where
 ok:FnOk P w K mg base CX0 1 fI fd ["self", f] (pV K f)
 nm:mg x=some (.ref C)
 init:PySem.W.findIn K (.ref C) "__init__" = some (some (.ref fI))
 fn:PySem.W.isFn K (.ref fI)=true
 bd:bA K fd ["self", f] []
 cl:XCls K C U
 nf:PySem.W.findIn K (.ref C) f=some none
theorem wI {K:PySem.W.Frag}{f:Str}:∀vs H Q E,pV K f vs H Q E->vs.length<=100:=λvs H Q E h=>by
 obtain⟨e,C,U,v,rfl,_⟩:=h
 show 2<=100
 decide
theorem ze {K:PySem.W.Frag}{C x d:Addr}{f:Str}{v:V}{H:Hp}{E:XK} (h:fK C [(f,v)] H E) (nx:H x=none) (nd:upd H x (XO C x none) d=none) :
  E (.ref C) (some x) (upd (upd (upd (upd H x (XO C x none)) d (.xd [(f,v)])) x (XO C x (some d))) x (XOn false C x (some d))):=by
 have dx:d≠x:=λz=>by rw [z,aj]at nd;cases nd
 have nd':H d=none:=by rw [al dx]at nd;exact nd
 refine h x _ (λb o e=>?_) nx ⟨false,some d,aj,.inr ⟨d,rfl,?_⟩⟩
 ·have bx:=am e nx
  have bd:=am e nd'
  rw [al bx,al bx,al bd,al bx]
  exact e
 ·rw [al dx,al dx,aj]
section
variable {P:Program}{w:World}{K:PySem.W.Frag}{mg:Str->Option Value}{base:Heap}{N:List Str}{qual:Str}{scope:Scope}{f:Addr}{cd:Value}{A:Around}{outer:List Env}{s:Shared}{H:Hp}{E:XK}
theorem lg {x fn:Str}{C U fI:Addr}{fd:FuncData}{e:Expr}{te:TE}{p cpos pos:Pos} (M:Rf1 P w K mg base x C U fn fI fd) (hr:Room 2 (A.deeper (envOfC qual scope s.heap.objs.size f cd))) (hg:Gl (fM (CXR P w) P w K mg base N qual scope f cd A outer s H E) x)
  (he:PE (fM (CXR P w) P w K mg base N qual scope f cd A outer s H E) e te) (hse:starEach [e] (envOfC qual scope s.heap.objs.size f cd)=[(false,eval e (envOfC qual scope s.heap.objs.size f cd))]:=by rfl) (hdb:(x == ("__debug__" : Str))=false:=by decide) :
  PS (fM (CXR P w) P w K mg base N qual scope f cd A outer s H E) (.Raise (some (.Call (.Name x p) [e] [] cpos)) none pos) (mQ K E (mP C (pV K fn) E0 (bV te eR))):=
 sq (sw M.cl M.init M.fn M.ok hr hg M.nm M.bd ar wI (aD he ac (hs:=hse)) hdb hse rfl)
end
end L2
namespace L2
open PySem PySem.Spec PyProof.Rows
end L2
namespace L2
open PySem PySem.Spec PyProof.Rows
section
variable {X:Cx}{pins:List (Addr × Obj)}{σ:St}{H:Hp}{s:Shared}
end
end L2
namespace L2
open PySem PySem.Spec PyProof.Rows
section
variable {X:Cx}
end
end L2
namespace L2
open PySem PySem.Spec PyProof.Rows
section
variable {X:Cx}
end
end L2
namespace L2
open PySem PySem.Spec PyProof.Rows
noncomputable def vO:Expr->Bool
 | .Starred _ _=>true
 | _=>false
theorem pU {e:Expr}{es:List Expr}{env:Env} (h:vO e=false):starEach (e::es) env=(false,eval e env)::starEach es env:=by
 cases e <;> first | (cases h;done) | (unfold starEach;rfl) | rfl
theorem aa {X:Cx}{e:Expr}{es:List Expr}{te:TE}{t:TA} (ha:PE X e te) (hr:PA X es t) (hs:vO e=false:=by rfl):PA X (e::es) (bV te t):=aD ha hr (pU hs)
section
variable {σ:St}{H:Hp}
end
end L2
namespace L2
open PySem PySem.Spec PyProof.Rows
theorem bG (x:Str):x.length=x.cps.toList.length:=by simp [Str.length]
theorem iQ (x y:Str):(x++y).cps.toList=x.cps.toList++y.cps.toList:=by
 show (x.cps++y.cps).toList=_
 rw [Array.toList_append]
theorem tF (zs:List Str):(Str.join (Str.ofString "") zs).cps.toList=(zs.map λz=>z.cps.toList).flatten:=by
 induction zs with
 | nil=>rfl
 | cons z zs ih=>
  cases zs with
  | nil=>simp [Str.join]
  | cons y ys=>
   show (z++Str.ofString ""++Str.join (Str.ofString "") (y::ys)).cps.toList=_
   rw [iQ,iQ,ih,List.map_cons (l:=y::ys),List.flatten_cons,show (Str.ofString "").cps.toList=[] from rfl,List.append_nil]
theorem zv (zs:List Str):(Txt.join (Str.ofString "") zs).cps.toList=(zs.map λz=>z.cps.toList).flatten:=by
 show (Builtin.Str.glued (Str.ofString "") zs).cps.toList=_
 rw [StrLaws.glued_eq_join]
 exact tF zs
theorem cx {x y:Str} (h:x.cps.toList=y.cps.toList):x=y:=by
 cases x;cases y
 congr 1
 exact Array.toList_inj.mp h
theorem gT:∀ds:List Nat,((ds.map λd=>(⟨#[d]⟩:Str)).map λz=>z.cps.toList).flatten=ds
 | []=>rfl
 | d::ds=>by rw [List.map_cons,List.map_cons,List.flatten_cons,gT ds];rfl
theorem ir:∀ds:List Nat,((ds.map λd=>(⟨#[d]⟩:Str)).map (·.length)).sum=ds.length
 | []=>rfl
 | d::ds=>by rw [List.map_cons,List.map_cons,List.sum_cons,ir ds,List.length_cons];show 1+_=_;omega
end L2
namespace L2
open PySem PySem.Spec PyProof.Rows
noncomputable def hX (J:It) (sub:List Nat) (tt:TT) (te:TE) (σ:St) (Q:VK) (H1:Hp):Prop:=∀D,H1 D=none->∃W:Nat->Nat->List V->Hp->Prop,(∃m,W 0 m [] (upd H1 D (.lst [])))/\∀i m ys H2,W i m ys H2->
 (J.stop i H2/\Q (.ref D) H2)\/(J.go i H2/\∃N:List V->Hp->Prop,(∀ys' H',N ys' H'->∃m',m' < m/\W (i+1) m' ys' H')/\∀v H3,J.yld i H2 v H3->tt (some v::bS sub σ) H3 λb H4=>if b=true then
  te (some v::bS sub σ) H4 λy H5=>H5 D=some (.lst ys)/\ys.length < sizeLine/\N (ys++[y]) (upd H5 D (.lst (ys++[y])))
  else N ys H4)
section
variable {wi:TI}{sub:List Nat}{tt:TT}{te:TE}{σ:St}{H:Hp}{Q:VK}{K:PySem.W.Frag}
theorem cX (h:wi σ H λJ H1=>hX J sub tt te σ Q H1):iR wi sub tt te σ H Q:=h
end
end L2
namespace Mine
open PySem L2
variable {P:Program}{w:World}{K:PySem.W.Frag}{mg:Str->Option Value}{base:Heap}
noncomputable def top (i:Nat):Stmt:=PySem.Challenge.pw_unsaybook_k32_whole_any_words_read.main.body.getD i (.Pass ⟨0,0,0,0⟩)
noncomputable abbrev xw:Stmt:=top 12
noncomputable abbrev rT:Stmt:=top 10
noncomputable abbrev kU:Stmt:=top 11
noncomputable abbrev gE:Stmt:=top 16
noncomputable abbrev rS:Stmt:=top 28
noncomputable abbrev sf:Stmt:=top 46
noncomputable abbrev xg:Stmt:=top 47
noncomputable abbrev nB:Stmt:=top 48
noncomputable abbrev rR:Stmt:=top 49
noncomputable abbrev nc:Stmt:=top 50
noncomputable abbrev kS:Stmt:=top 51
noncomputable abbrev se:Stmt:=top 52
noncomputable abbrev kX:Stmt:=top 53
noncomputable abbrev rQ:Stmt:=top 54
noncomputable abbrev nh:Stmt:=top 55
structure Cal (P:Program) (w:World) (K:PySem.W.Frag) (mg:Str->Option Value) (base:Heap) (x:Str) (k:Nat) (ps:List Str) (sp:Sp) (f:Addr) (fd:FuncData):Prop where
 ok:FnOk P w K mg base CX0 k f fd ps sp
 nm:mg x=some (.ref f)
 kp:PySem.W.keepIn K (.ref f)=true
 bd:bA K fd ps []
structure Free (mg:Str->Option Value):Prop where
 «len»:mg "len" = none
 «range»:mg "range" = none
 «sorted»:mg "sorted" = none
 «isinstance»:mg "isinstance" = none
 «int»:mg "int" = none
 «bool»:mg "bool" = none
 «str»:mg "str" = none
 «list»:mg "list" = none
 «tuple»:mg "tuple" = none
 «dict»:mg "dict" = none
 «set»:mg "set" = none
 «max»:mg "max" = none
 «min»:mg "min" = none
 «all»:mg "all" = none
 «enumerate»:mg "enumerate" = none
 «abs»:mg "abs" = none
 «reversed»:mg "reversed" = none
noncomputable def aP (H H':Hp):Prop:=∀b o,H b=some o->H' b=some o
theorem aP.refl {H:Hp}:aP H H:=λ_ _ e=>e
theorem aP.trans {H H1 H2:Hp} (g:aP H H1) (g':aP H1 H2):aP H H2:=λb o e=>g' b o (g b o e)
theorem aP.new {H:Hp}{a:Addr}{o:HO} (n:H a=none):aP H (upd H a o):=λb o e=>by rw [al (am e n)];exact e
noncomputable def inZ (z:Str) (c:Nat):Bool:=decide (c∈z.cps.toList)
noncomputable def bJ (x z:Str) (m:Int):Bool:=decide (1<=(x.length:Int)) && (decide ((x.length:Int)<=m) && x.cps.toList.all (inZ z))
noncomputable def rm:Sp:=λvs H Q _=>∃(x z:Str) (m:Int),vs=[.str x,.str z,.int m]/\x.length < sizeLine/\∀H',aP H H'->Q (.bl (bJ x z m)) H'
noncomputable abbrev bX:Str:=Str.ofString "abcdefghijklmnopqrstuvwxyz"
noncomputable abbrev fm:Str:=Str.ofString "0123456789"
structure Con (mg:Str->Option Value):Prop where
 letters:∃t,mg "LETTERS" = some (.str bX t)
 figures:∃t,mg "FIGURES" = some (.str fm t)
 eight:∃t,mg "MOST_LETTERS" = some (.int 8 t)
 twelve:∃t,mg "MOST_FIGURES" = some (.int 12 t)
 lastday:∃t,mg "LAST_DAY" = some (.int 399 t)
 keys:∃t,mg "MOST_KEYS" = some (.int 8 t)
 value:∃t,mg "MOST_VALUE" = some (.int 1000000000 t)
 opn:∃t,mg "MOST_OPEN" = some (.int 3 t)
 rank:∃t,mg "MOST_RANK" = some (.int 400 t)
theorem qO {σ:St}{H:Hp}{Q:VK}{x z:Str} (e0:σ[0]?=some (some (.str x))) (e1:σ[1]?=some (some (.str z))) (hl:x.length < sizeLine)
  (hq:∀(D:Addr) (H':Hp),H D=none->aP H H'->H' D=some (.lst ((x.cps.toList.map (inZ z)).map V.bl))->Q (.ref D) H') :
  iR (zy (eV 0)) [1] (λ_ H Q=>Q true H) (tOp (λx y H Q=>∃i j,x=.str i/\y=.str j/\Q (.bl (!(Builtin.Str.occurrences j i 0 j.length 1).isEmpty)) H) (eV 0) (eV 1)) σ H Q:=by
 have es:bS [1] σ=[some (.str z)]:=by
  show [(σ[1]?).join]=_
  rw [e1];rfl
 refine⟨_,e0,x,rfl,λD nD=>mH (x:=x) (sub:=[1]) (tt:=λ_ H Q=>Q true H) (te:=tOp (λx y H Q=>∃i j,x=.str i/\y=.str j/\Q (.bl (!(Builtin.Str.occurrences j i 0 j.length 1).isEmpty)) H) (eV 0) (eV 1)) (Q:=Q) (σ:=σ)
  (λi ys H2=>ys=((x.cps.toList.take i).map (inZ z)).map V.bl/\H2=upd H D (.lst ys)) ⟨rfl,rfl⟩ (λi c ys H2 hi hh=>?_) λys H2 hh=>?_⟩
 ·obtain⟨rfl,rfl⟩:=hh
  rw [es]
  show (if true=true then _ else _)
  rw [if_pos rfl]
  have hi':x.cps.toList[i]?=some c:=by simpa using hi
  have hil:i < x.cps.size:=(Array.getElem?_eq_some_iff.mp hi).1
  refine⟨_,rfl,_,rfl,_,_,rfl,rfl,aj,?_,?_,?_⟩
  ·rw [List.length_map,List.length_map,List.length_take]
   have:x.length < sizeLine:=hl
   have e:x.cps.toList.length=x.length:=by simp [Str.length]
   rw [e]
   omega
  ·rw [List.take_add_one,hi',List.map_append,List.map_append,PySem.StrLaws.found_one]
   rfl
  ·rw [bv]
 ·obtain⟨rfl,rfl⟩:=hh
  refine hq D _ nD (aP.new nD) ?_
  rw [aj,List.take_of_length_le (by simp)]
theorem yX:FnScope ["text", "signs", "most"] ["text", "signs", "most"] (aw xw):=⟨rfl,rfl,rfl,by decide +kernel,rfl,by decide +kernel,by decide +kernel⟩
theorem y6 {f:Addr}{fd:FuncData} (F:Fun K "has_only" "has_only" xw f fd) (N:Free mg):FnOk P w K mg base CX0 1 f fd ["text", "signs", "most"] rm:=by
 refine F.ok (k:=0) yX (λvs H Q E h=>?_) (λcdv A outer s H vs Q E hr h=>?_)
 ·obtain⟨x,z,m,rfl,_⟩:=h
  rfl
 ·obtain⟨x,z,m,rfl,hl,hq⟩:=h
  refine⟨_,af (av (dD (jb dq dq ag (aI dc (by rfl) N.len PySem.boot_len (aD (pv 0) ac)) (pv 2))
   (dh (aI (ip rfl) (by rfl) N.all PyProof.Rows.Boot.«all» (aD (sy (y:="signs") (i:=1) rfl (nK (pv 0)) rfl rfl (by decide) (by decide) rfl (by decide) rfl (.inr (.inl rfl)) (by show (some NameKind.cell)≠some NameKind.local;decide) (.inl rfl) rfl (λC fp s H=>cY) (λC fp s H=>ba qd (pv 0) (pv 1) (by with_unfolding_all rfl))) ac))))),?_⟩
  have gr:∀{b},bJ x z m=b->Q (.bl b) H:=λ{b} e=>by rw [<- e];exact hq H aP.refl
  refine⟨_,rfl,x,rfl,Nat.le_of_lt hl,_,_,rfl,rfl,_,rfl,cj (λh1=>?_) λh1=>⟨_,rfl,aF (gr ?_)⟩⟩
  ·refine⟨_,rfl,_,_,rfl,rfl,_,rfl,cj (λh2=>?_) λh2=>gr ?_⟩
   ·unfold tCB bV
    refine qO rfl rfl hl λD H' nD g hD=>⟨D,_,rfl,SqL.of hD,?_⟩
    have e:bJ x z m=(x.cps.toList.map (inZ z)).all id:=by
     unfold bJ
     rw [h1,h2,Bool.true_and,Bool.true_and,List.all_map];rfl
    rw [<- e]
    exact hq H' g
   ·unfold bJ
    rw [Bool.eq_false_iff.mpr h2,Bool.false_and,Bool.and_false]
  ·unfold bJ
   rw [Bool.eq_false_iff.mpr h1,Bool.false_and]
theorem laid {H:Hp}{p:Addr}{o:HO} (h:H p=none):aP H (upd H p o)/\upd H p o p=some o:=⟨λb u e=>by rw [al (am e h)];exact e,aj⟩
noncomputable def rB (K:PySem.W.Frag):Sp:=λvs H Q _=>∃(a:Addr) (ns:List Int) (k:Int),vs=[.ref a,.int k]/\SqL K H a (ns.map V.int)/\0<=k/\k < 2 ^ 62/\∀n:Int,Q (.int n) H
noncomputable def rb:Sp:=λvs H Q _=>∃(c k:Int),vs=[.int c,.int k]/\∀n:Int,0<=n->n < 2147483587->Q (.int n) H
noncomputable def SAt (H:Hp) (s:Addr):Prop:=∃a c k:Int,H s=some (.lst [.int a,.int c,.int k])/\0<=a
noncomputable def Off (s:Addr) (H H':Hp):Prop:=∀b o,H b=some o->b≠s->H' b=some o
theorem Off.trans {s:Addr}{H H1 H2:Hp} (h:Off s H H1) (g:Off s H1 H2):Off s H H2:=λb o e n=>g _ _ (h _ _ e n) n
theorem Off.grow {s:Addr}{H H':Hp} (g:aP H H'):Off s H H':=λb o e _=>g _ _ e
theorem SAt.keep {H H':Hp}{s:Addr} (h:SAt H s) (g:aP H H'):SAt H' s:=let ⟨a,c,k,e,z⟩:=h;⟨a,c,k,g _ _ e,z⟩
noncomputable def kI:Sp:=λvs H Q _=>∃(c:Int),vs=[.int c]/\∀(p:Addr) (H':Hp),H p=none->aP H H'->SAt H' p->Q (.ref p) H'
noncomputable def cG:Sp:=λvs H Q _=>∃(s:Addr) (m:Int),vs=[.ref s,.int m]/\SAt H s/\0 < m/\m < 2 ^ 64/\∀(n:Int) (H':Hp),0<=n->n < m->Off s H H'->SAt H' s->Q (.int n) H'
theorem xc:FnScope ["_law_script", "_law_k"] ["_law_script", "_law_k"] (aw sf):=⟨rfl,rfl,rfl,by decide +kernel,rfl,by decide +kernel,by decide +kernel⟩
theorem vj {f:Addr}{fd:FuncData} (F:Fun K "_law_cell" "_law_cell" sf f fd) (N:Free mg):FnOk P w K mg base CX0 1 f fd ["_law_script", "_law_k"] (rB K):=by
 refine F.ok (k:=0) xc (λvs H Q E h=>?_) (λcdv A outer s H vs Q E hr h=>?_)
 ·obtain⟨a,ns,k,rfl,_⟩:=h
  rfl
 ·obtain⟨a,ns,k,rfl,hS,hk,hk2,q⟩:=h
  have hu:=aM hr
  refine⟨_,(ad (aO (aC eO (pv 1) (aI aQ (by rfl) N.len PySem.boot_len (aD (pv 0) ac)) (aE _)) (af (av (b9 aT (pv 0) (pv 1) (λ_ _=>rfl)))) ay)
   (af (av (aJ bE (aJ eo ag (pv 1)) ag)))),?_⟩
  refine ae (aq ⟨_,rfl,_,rfl,a,_,rfl,.inl hS,_,_,rfl,rfl,_,rfl,?_⟩)
  refine cj (λhlt=>?_) (λ_=>?_)
  ·have hlt:k < ((ns.map V.int).length:Int):=of_decide_eq_true hlt
   rw [List.length_map]at hlt
   obtain⟨j,rfl⟩:∃j:Nat,k=(j:Int):=⟨k.toNat,by omega⟩
   have hk2:j < ns.length:=by omega
   refine⟨_,rfl,_,rfl,a,_,(j:Int),.int ns[j],rfl,rfl,hS,dB ?_,q _⟩
   rw [List.getElem?_map,List.getElem?_eq_getElem hk2]
   rfl
  ·refine ai ?_
   exact⟨_,rfl,_,_,rfl,rfl,.inl ⟨by decide,by decide⟩,_,_,rfl,rfl,q _⟩
theorem rH:FnScope ["_law_cell_here", "_law_k", "_law_number"] ["_law_cell_here", "_law_k"] (aw xg):=⟨rfl,rfl,rfl,by decide +kernel,rfl,by decide +kernel,by decide +kernel⟩
theorem xP {f:Addr}{fd:FuncData} (F:Fun K "_law_mix" "_law_mix" xg f fd)  : FnOk P w K mg base CX0 1 f fd ["_law_cell_here", "_law_k"] rb:=by
 refine F.ok (k:=0) rH (λvs H Q E h=>?_) (λcdv A outer s H vs Q E hr h=>?_)
 ·obtain⟨c,k,rfl,_⟩:=h
  rfl
 ·obtain⟨c,k,rfl,q⟩:=h
  have hu:=aM hr
  refine⟨_,(ad (ax (i:=2) rH.nd rfl (Or.inl rfl) (aJ fY (aJ eo (aJ bE (aJ bE (aJ fY (pv 0) ag) (aJ eo ag (pv 1))) ag) ag) ag))
   (ad (ax (i:=2) rH.nd rfl (Or.inl rfl) (aJ fY (aJ bE (aJ eo (pv 2) (pv 2)) (aJ eo ag (pv 1))) ag))
   (af (av (aJ fY (aJ eo (pv 2) (aJ bE (pv 2) ag)) ag))))),?_⟩
  have small:∀(x:Int){m:Int},0 < m->m < 2 ^ 64->-(2 ^ 64) < x % m/\x % m < 2 ^ 64:=λx m h1 h2=>by
   have a:=Int.emod_nonneg x (Int.ne_of_gt h1)
   have b:=Int.emod_lt_of_pos x h1
   omega
  refine⟨_,rfl,_,_,rfl,rfl,(by show (0:Int) < 2147483629;decide),_,rfl,_,_,rfl,rfl,.inl ⟨by decide,by decide⟩,_,_,rfl,rfl,_,_,rfl,rfl,_,_,rfl,rfl,.inr ⟨by decide,by decide⟩,_,_,rfl,rfl,(by show (0:Int) < 2147483647;decide),?_⟩
  refine⟨_,rfl,_,rfl,_,_,rfl,rfl,.inl (small _ (by decide) (by decide)),_,rfl,_,_,rfl,rfl,.inl ⟨by decide,by decide⟩,_,_,rfl,rfl,_,_,rfl,rfl,(by show (0:Int) < 2147483629;decide),?_⟩
  refine⟨_,rfl,_,rfl,_,_,rfl,rfl,_,_,rfl,rfl,.inl (small _ (by decide) (by decide)),_,_,rfl,rfl,(by show (0:Int) < 2147483587;decide),?_⟩
  exact q _ (Int.emod_nonneg _ (by decide)) (Int.emod_lt_of_pos _ (by decide))
theorem uC:FnScope ["_law_cell_here"] ["_law_cell_here"] (aw nB):=⟨rfl,rfl,rfl,by decide +kernel,rfl,by decide +kernel,by decide +kernel⟩
theorem sS {f:Addr}{fd:FuncData} (F:Fun K "_law_begun" "_law_begun" nB f fd)  : FnOk P w K mg base CX0 1 f fd ["_law_cell_here"] kI:=by
 refine F.ok (k:=0) uC (λvs H Q E h=>?_) (λcdv A outer s H vs Q E hr h=>?_)
 ·obtain⟨c,rfl,_⟩:=h
  rfl
 ·obtain⟨c,rfl,q⟩:=h
  have hu:=aM hr
  refine⟨_,(ad (aO (aC zo (pv 0) (aJ nM ag ag) (aE _)) (af (av (aH (aD (pv 0) (aD (pv 0) (aD ag ac)))))) ay)
   (af (av (aH (aD ag (aD (pv 0) (aD ag ac))))))),?_⟩
  refine ae (aq ⟨_,rfl,_,_,rfl,rfl,⟨by decide,by decide,by decide⟩,_,_,rfl,rfl,_,rfl,cj (λhc=>?_) λ_=>?_⟩)
  ·have hc:c>=10 ^ Int.toNat 18:=of_decide_eq_true hc
   have h18:(10:Int) ^ Int.toNat 18=1000000000000000000:=by decide
   rw [h18]at hc
   exact⟨_,rfl,_,rfl,by show 3<=sizeLine;decide,λp np=>q p _ np (laid np).1 ⟨c,c,0,aj,by omega⟩⟩
  ·exact ai ⟨_,rfl,by show 3<=sizeLine;decide,λp np=>q p _ np (laid np).1 ⟨0,c,0,aj,by decide⟩⟩
theorem rG:FnScope ["_law_state", "_law_many", "_law_number"] ["_law_state", "_law_many"] (aw rR):=⟨rfl,rfl,rfl,by decide +kernel,rfl,by decide +kernel,by decide +kernel⟩
theorem uZ {f f1:Addr}{fd:FuncData} (F:Fun K "_law_pull" "_law_pull" rR f fd){fd1:FuncData} (CM:Cal P w K mg base "_law_mix" 1 ["_law_cell_here", "_law_k"] rb f1 fd1):FnOk P w K mg base CX0 2 f fd ["_law_state", "_law_many"] cG:=by
 refine F.ok (k:=1) rG (λvs H Q E h=>?_) (λcdv A outer s H vs Q E hr h=>?_)
 ·obtain⟨s,m,rfl,_⟩:=h
  rfl
 ·obtain⟨s,m,rfl,⟨a,c,k,hs,ha⟩,hm,hm2,q⟩:=h
  have hu:=aM hr
  refine⟨_,(ad (aO (aC sC (b9 aT (pv 0) ag (λ_ _=>rfl)) ag (aE _)) (ad (ax (i:=2) rG.nd rfl (Or.inl rfl) (aJ fY (b9 aT (pv 0) ag (λ_ _=>rfl)) (pv 1)))
   (ad (nH (aJ sD (b9 aT (pv 0) ag (λ_ _=>rfl)) (pv 1)) (sv (pv 0) ag lU))
   (af (av (pv 2))))) ay)
   (ad (nH (aJ bE (b9 aT (pv 0) ag (λ_ _=>rfl)) ag) (sv (pv 0) ag lU))
   (af (av (aJ fY (au CM.ok (hr.mono (by decide)) rfl CM.nm CM.kp CM.bd .nil ar (aD (b9 aT (pv 0) ag (λ_ _=>rfl)) (aD (b9 aT (pv 0) ag (λ_ _=>rfl)) ac))) (pv 1)))))),?_⟩
  have at0:SqL K H s [.int a,.int c,.int k]:=SqL.of hs
  refine ae (aq ⟨_,rfl,s,_,0,_,rfl,rfl,at0,rfl,_,_,rfl,rfl,_,rfl,cj (λhc=>?_) λhc=>?_⟩)
  ·refine ae (ao ⟨_,rfl,s,_,0,_,rfl,rfl,at0,rfl,_,rfl,_,_,rfl,rfl,hm,?_⟩)
   dsimp only [aA,List.set_cons_zero,List.set_cons_succ]
   refine ae (ao ⟨_,rfl,s,_,0,_,rfl,rfl,at0,rfl,_,rfl,_,_,rfl,rfl,⟨hm,hm2⟩,?_⟩)
   refine⟨_,rfl,s,_,0,0,rfl,rfl,hs,rfl,az ⟨_,rfl,?_⟩⟩
   exact q (a % m) _ (Int.emod_nonneg _ (by omega)) (Int.emod_lt_of_pos _ hm) (λb o e n=>by rw [al n];exact e) ⟨a / m,c,k,aj,Int.ediv_nonneg ha (by omega)⟩
  ·refine ai ?_
   dsimp only
   refine ae (ao ⟨_,rfl,s,_,2,_,rfl,rfl,at0,rfl,_,_,rfl,rfl,_,rfl,s,_,2,2,rfl,rfl,hs,rfl,?_⟩)
   dsimp only [aA,List.set_cons_zero,List.set_cons_succ]
   refine⟨_,rfl,s,_,1,_,rfl,rfl,SqL.of aj,rfl,_,rfl,s,_,2,_,rfl,rfl,SqL.of aj,rfl,c,k+1,rfl,λn n0 n1=>⟨_,rfl,_,_,rfl,rfl,hm,?_⟩⟩
   exact q (n % m) _ (Int.emod_nonneg _ (by omega)) (Int.emod_lt_of_pos _ hm) (λb o e n=>by rw [al n];exact e) ⟨a,c,k+1,aj,ha⟩
noncomputable def lL:Sp:=λvs H Q _=>∃(s:Addr),vs=[.ref s]/\SAt H s/\∀(t:Addr) (lo wd:Int) (H':Hp),Off s H H'->SAt H' s->H' t=some (.tup [.int lo,.int wd])->t≠s->0<=lo->1<=wd->lo+wd<=400->Q (.ref t) H'
noncomputable def rA:Sp:=λvs H Q _=>∃(s t:Addr) (lo wd:Int),vs=[.ref s,.ref t]/\SAt H s/\H t=some (.tup [.int lo,.int wd])/\t≠s/\0<=lo/\1<=wd/\lo+wd<=400/\∀(u:Addr) (f l:Int) (H':Hp),Off s H H'->SAt H' s->H' u=some (.tup [.int f,.int l])->0<=f->f<=l->l < 400->Q (.ref u) H'
noncomputable def lT:Sp:=λvs H Q _=>∃(s:Addr),vs=[.ref s]/\SAt H s/\∀(n:Int) (H':Hp),Off s H H'->SAt H' s->-1000000000<=n->n<=1000000000->Q (.int n) H'
theorem zC {d:Int} (h0:0<=d) (h1:d < 4):∃m:Int,1<=m/\m<=400/\atI [V.int 1,V.int 12,V.int 40,V.int 400] d=some (V.int m):=by
 rcases (show d=0\/d=1\/d=2\/d=3 by omega) with rfl | rfl | rfl | rfl
 ·exact⟨1,by decide,by decide,rfl⟩
 ·exact⟨12,by decide,by decide,rfl⟩
 ·exact⟨40,by decide,by decide,rfl⟩
 ·exact⟨400,by decide,by decide,rfl⟩
theorem SAt.ne {H:Hp}{s t:Addr}{xs:List V} (h:SAt H s) (e:H t=some (.tup xs)):t≠s:=λz=>by
 obtain⟨a,c,k,e',_⟩:=h
 rw [z,e']at e
 cases e
theorem lV:FnScope ["_law_state", "_law_wide"] ["_law_state"] (aw kS):=⟨rfl,rfl,rfl,by decide +kernel,rfl,by decide +kernel,by decide +kernel⟩
theorem qf {f f1:Addr}{fd:FuncData} (F:Fun K "_law_window" "_law_window" kS f fd){fd1:FuncData} (CP:Cal P w K mg base "_law_pull" 2 ["_law_state", "_law_many"] cG f1 fd1):FnOk P w K mg base CX0 3 f fd ["_law_state"] lL:=by
 refine F.ok (k:=2) lV (λvs H Q E h=>?_) (λcdv A outer s H vs Q E hr h=>?_)
 ·obtain⟨s,rfl,_⟩:=h
  rfl
 ·obtain⟨s,rfl,hs,q⟩:=h
  have hu:=aM hr
  refine⟨_,(ad (ax (i:=1) lV.nd rfl (Or.inl rfl) (b9 aT (aH (aD ag (aD ag (aD ag (aD ag ac))))) (au CP.ok (hr.mono (by decide)) rfl CP.nm CP.kp CP.bd .nil ar (aD (pv 0) (aD ag ac))) (λ_ _=>rfl)))
   (af (av (bQ (aD (au CP.ok (hr.mono (by decide)) rfl CP.nm CP.kp CP.bd .nil ar (aD (pv 0) (aD (aJ fg ag (pv 1)) ac))) (aD (pv 1) ac)))))),?_⟩
  refine ae (ao ⟨by show 4<=sizeLine;decide,λl nl=>?_⟩)
  obtain⟨g1,e1⟩:=laid (o:=.lst [V.int 1,V.int 12,V.int 40,V.int 400]) nl
  have hs1:=hs.keep g1
  generalize upd H l _=H1 at g1 e1 hs1 ⊢
  refine⟨_,rfl,s,4,rfl,hs1,by decide,by decide,λn H2 n0 n1 o2 hs2=>?_⟩
  obtain⟨m,m1,m2,em⟩:=zC n0 n1
  have nls:l≠s:=λz=>by
   obtain⟨a,c,k,e',_⟩:=hs
   rw [z,e']at nl;cases nl
  refine⟨l,_,_,_,rfl,rfl,SqL.of (o2 _ _ e1 nls),em,?_⟩
  dsimp only [aA,List.set_cons_zero,List.set_cons_succ]
  refine az ⟨_,rfl,_,rfl,_,_,rfl,rfl,s,401 - m,rfl,hs2,by omega,by omega,λlo H3 l0 l1 o3 hs3=>⟨_,rfl,by show 2<=sizeLine;decide,λt nt=>?_⟩⟩
  obtain⟨g4,e4⟩:=laid (o:=.tup [V.int lo,V.int m]) nt
  exact q t lo m _ (((Off.grow g1).trans o2).trans (o3.trans (Off.grow g4))) (hs3.keep g4) e4 (SAt.ne (hs3.keep g4) e4) l0 m1 (by omega)
theorem rN:FnScope ["_law_state", "_law_window_here", "_law_first"] ["_law_state", "_law_window_here"] (aw se):=⟨rfl,rfl,rfl,by decide +kernel,rfl,by decide +kernel,by decide +kernel⟩
theorem vi {f f1:Addr}{fd:FuncData} (F:Fun K "_law_days" "_law_days" se f fd){fd1:FuncData} (CP:Cal P w K mg base "_law_pull" 2 ["_law_state", "_law_many"] cG f1 fd1):FnOk P w K mg base CX0 3 f fd ["_law_state", "_law_window_here"] rA:=by
 refine F.ok (k:=2) rN (λvs H Q E h=>?_) (λcdv A outer s H vs Q E hr h=>?_)
 ·obtain⟨s,t,lo,wd,rfl,_⟩:=h
  rfl
 ·obtain⟨s,t,lo,wd,rfl,hs,et,nts,h0,h1,h2,q⟩:=h
  have hu:=aM hr
  refine⟨_,(ad (ax (i:=2) rN.nd rfl (Or.inl rfl) (aJ bE (b9 eF (pv 1) ag (λ_ _=>rfl)) (au CP.ok (hr.mono (by decide)) rfl CP.nm CP.kp CP.bd .nil ar (aD (pv 0) (aD (b9 eF (pv 1) ag (λ_ _=>rfl)) ac)))))
   (af (av (bQ (aD (pv 2) (aD (aJ bE (pv 2) (au CP.ok (hr.mono (by decide)) rfl CP.nm CP.kp CP.bd .nil ar (aD (pv 0) (aD (aJ fg (aJ bE (b9 eF (pv 1) ag (λ_ _=>rfl)) (b9 eF (pv 1) ag (λ_ _=>rfl))) (pv 2)) ac)))) ac)))))),?_⟩
  refine ae (ao ⟨_,rfl,t,_,0,_,rfl,rfl,SqT.of et,rfl,_,rfl,_,rfl,t,_,1,_,rfl,rfl,SqT.of et,rfl,s,wd,rfl,hs,by omega,by omega,λn H2 n0 n1 o2 hs2=>⟨_,_,rfl,rfl,?_⟩⟩)
  dsimp only [aA,List.set_cons_zero,List.set_cons_succ]
  have et2:=o2 _ _ et nts
  refine az ⟨_,rfl,_,rfl,_,rfl,_,rfl,t,_,0,_,rfl,rfl,SqT.of et2,rfl,_,rfl,t,_,1,_,rfl,rfl,SqT.of et2,rfl,_,_,rfl,rfl,_,rfl,_,_,rfl,rfl,s,_,rfl,hs2,by omega,by omega,λm H3 m0 m1 o3 hs3=>⟨_,_,rfl,rfl,by show 2<=sizeLine;decide,λu nu=>?_⟩⟩
  obtain⟨g4,e4⟩:=laid (o:=.tup [V.int (lo+n),V.int (lo+n+m)]) nu
  exact q u (lo+n) (lo+n+m) _ (o2.trans (o3.trans (Off.grow g4))) (hs3.keep g4) e4 (by omega) (by omega) (by omega)
theorem lY:FnScope ["_law_state", "_law_way"] ["_law_state"] (aw kX):=⟨rfl,rfl,rfl,by decide +kernel,rfl,by decide +kernel,by decide +kernel⟩
theorem qk {f f1:Addr}{fd:FuncData} (F:Fun K "_law_amount" "_law_amount" kX f fd){fd1:FuncData} (CP:Cal P w K mg base "_law_pull" 2 ["_law_state", "_law_many"] cG f1 fd1):FnOk P w K mg base CX0 3 f fd ["_law_state"] lT:=by
 refine F.ok (k:=2) lY (λvs H Q E h=>?_) (λcdv A outer s H vs Q E hr h=>?_)
 ·obtain⟨s,rfl,_⟩:=h
  rfl
 ·obtain⟨s,rfl,hs,q⟩:=h
  have hu:=aM hr
  refine⟨_,(ad (ax (i:=1) lY.nd rfl (Or.inl rfl) (au CP.ok (hr.mono (by decide)) rfl CP.nm CP.kp CP.bd .nil ar (aD (pv 0) (aD ag ac))))
   (ad (aO (aC eO (pv 1) ag (aE _)) (af (av (au CP.ok (hr.mono (by decide)) rfl CP.nm CP.kp CP.bd .nil ar (aD (pv 0) (aD ag ac))))) ay)
   (ad (aO (aC bc (pv 1) ag (aE _)) (af (av (aJ fg (au CP.ok (hr.mono (by decide)) rfl CP.nm CP.kp CP.bd .nil ar (aD (pv 0) (aD ag ac))) ag))) ay)
   (af (av (aJ fg (au CP.ok (hr.mono (by decide)) rfl CP.nm CP.kp CP.bd .nil ar (aD (pv 0) (aD (aJ bE (aJ eo ag (aJ nM ag ag)) ag) ac))) (aJ nM ag ag))))))),?_⟩
  refine ae (ao ⟨_,rfl,s,4,rfl,hs,by decide,by decide,λn H2 n0 n1 o2 hs2=>?_⟩)
  dsimp only [aA,List.set_cons_zero,List.set_cons_succ]
  refine ae (aq ⟨_,rfl,_,_,rfl,rfl,_,rfl,cj (λ_=>?_) λ_=>ai ?_⟩)
  ·exact az ⟨_,rfl,s,4,rfl,hs2,by decide,by decide,λm H3 m0 m1 o3 hs3=>q m H3 (o2.trans o3) hs3 (by omega) (by omega)⟩
  dsimp only
  refine ae (aq ⟨_,rfl,rfl,_,rfl,cj (λ_=>?_) λ_=>ai ?_⟩)
  ·exact az ⟨_,rfl,s,41,rfl,hs2,by decide,by decide,λm H3 m0 m1 o3 hs3=>⟨_,_,rfl,rfl,q (m - 20) H3 (o2.trans o3) hs3 (by omega) (by omega)⟩⟩
  dsimp only
  have h9:(10:Int) ^ Int.toNat 9=1000000000:=by decide
  refine az ⟨_,rfl,_,_,rfl,rfl,⟨by decide,by decide,by decide⟩,_,_,rfl,rfl,.inl ⟨by decide,by decide⟩,_,_,rfl,rfl,s,_,rfl,hs2,by decide,by decide,λm H3 m0 m1 o3 hs3=>⟨_,_,rfl,rfl,⟨by decide,by decide,by decide⟩,_,_,rfl,rfl,?_⟩⟩
  rw [h9]at m1 ⊢
  exact q _ H3 (o2.trans o3) hs3 (by omega) (by omega)
theorem jo {α:Type}:∀(xs:List α) (j:Nat) (h:j < xs.length),(xs[j]::xs.eraseIdx j).Perm xs
 | x::xs,0,_=>.refl _
 | x::xs,j+1,h=>by
  have ih:=jo xs j (Nat.lt_of_succ_lt_succ h)
  rw [List.eraseIdx_cons_succ,List.getElem_cons_succ]
  exact(List.Perm.swap _ _ _).trans (ih.cons x)
noncomputable def qY:Sp:=λvs H Q _=>∃(s ln:Addr) (ss:List Str) (m:Int),vs=[.ref s,.ref ln,.int m]/\SAt H s/\H ln=some (.lst (ss.map V.str))/\ln≠s/\1<=m/\m<=ss.length/\ss.length<=100/\
 ∀(p:Addr) (xs ys:List Str) (H':Hp),H p=none->Off s H H'->SAt H' s->H' p=some (.lst (xs.map V.str))->xs≠[]->(xs++ys).Perm ss->(xs.length:Int)<=m->Q (.ref p) H'
inductive SoI (H:Hp) (s ln l p:Addr) (ss:List Str) (m:Int) (i:Nat) (σ:St) (H2:Hp):Prop
 | mk (xs ys:List Str) (v5:Option V) (h1:σ=[some (.ref s),some (.ref ln),some (.int m),some (.ref l),some (.ref p),v5]) (h2:Off s H H2) (h3:SAt H2 s) (h4:H2 l=some (.lst (ys.map V.str))) (h5:H2 p=some (.lst (xs.map V.str))) (h6:(xs++ys).Perm ss) (h7:xs.length=i):SoI H s ln l p ss m i σ H2
theorem SAt.lst {H:Hp}{s:Addr} (h:SAt H s):∃xs,H s=some (.lst xs):=let ⟨_,_,_,e,_⟩:=h;⟨_,e⟩
theorem SAt.off {H H':Hp}{s b:Addr} (h:SAt H s) (n:b≠s) (g:∀b' o,H b'=some o->b'≠b->H' b'=some o):SAt H' s:=let ⟨a,c,k,e,z⟩:=h;⟨a,c,k,g _ _ e (Ne.symm n),z⟩
theorem kP:FnScope ["_law_state", "_law_names_here", "_law_most", "_law_left", "_law_found", "_law_k"] ["_law_state", "_law_names_here", "_law_most"] (aw rQ):=⟨rfl,rfl,rfl,by decide +kernel,rfl,by decide +kernel,by decide +kernel⟩
theorem uV {f f1:Addr}{fd:FuncData} (F:Fun K "_law_some" "_law_some" rQ f fd) (N:Free mg){fd1:FuncData} (CP:Cal P w K mg base "_law_pull" 2 ["_law_state", "_law_many"] cG f1 fd1):FnOk P w K mg base CX0 3 f fd ["_law_state", "_law_names_here", "_law_most"] qY:=by
 refine F.ok (k:=2) kP (λvs H Q E h=>?_) (λcdv A outer s H vs Q E hr h=>?_)
 ·obtain⟨s,ln,ss,m,rfl,_⟩:=h
  rfl
 ·obtain⟨s,ln,ss,m,rfl,hs,el,nls,m1,m2,h100,q⟩:=h
  have hu:=aM hr
  refine⟨_,(ad (ax (i:=3) kP.nd rfl (Or.inl rfl) (aV db (by rfl) N.list PyProof.Rows.Boot.«list» (aa (pv 1) ac)))
   (ad (ax (i:=4) kP.nd rfl (Or.inl rfl) (aH ac))
   (ad (cS PassesOwn.never rfl (cI rfl N.range (aa (aJ bE ag (au CP.ok (hr.mono (by decide)) rfl CP.nm CP.kp CP.bd .nil ar (aa (pv 0) (aa (pv 2) ac)))) ac)) (bO (i:=5) kP.nd rfl (Or.inl rfl))
   (af (aY (bW PySem.F.plainAttrs_list PySem.F.slot_list_append PySem.F.type_list_append df (pv 4) (aa (bW PySem.F.plainAttrs_list PySem.F.slot_list_pop PySem.F.type_list_pop mn (pv 3) (aa (au CP.ok (hr.mono (by decide)) rfl CP.nm CP.kp CP.bd .nil ar (aa (pv 0) (aa (aI aQ (by rfl) N.len PySem.boot_len (aa (pv 3) ac)) ac))) ac)) ac)))))
   (af (av (pv 4)))))),?_⟩
  refine ae (ao ⟨_,rfl,ln,_,rfl,.inl (SqL.of el),λl nl=>?_⟩)
  dsimp only [aA,List.set_cons_zero,List.set_cons_succ]
  obtain⟨g1,e1⟩:=laid (o:=.lst (ss.map V.str)) nl
  have hs1:=hs.keep g1
  have nl2:l≠s:=λz=>by obtain⟨xs,e⟩:=hs.lst;rw [z,e]at nl;cases nl
  generalize upd H l _=H1 at g1 e1 hs1 ⊢
  refine ae (ao ⟨by show 0<=sizeLine;decide,λp np=>?_⟩)
  dsimp only [aA,List.set_cons_zero,List.set_cons_succ]
  obtain⟨g2,e2⟩:=laid (o:=.lst []) np
  have np0:H p=none:=by
   cases e:H p with
   | none=>rfl
   | some o=>rw [g1 _ _ e]at np;cases np
  have nl0:H l=none:=nl
  have hs2:=hs1.keep g2
  have np2:p≠s:=λz=>by obtain⟨xs,e⟩:=hs1.lst;rw [z,e]at np;cases np
  have npl:p≠l:=λz=>by rw [z,e1]at np;cases np
  have e1:=g2 _ _ e1
  have g12:=g1.trans g2
  generalize upd H1 p _=H2 at g2 e2 hs2 e1 g12 ⊢
  have hle:(ss.length:Int)<=100:=by omega
  refine ae ⟨_,rfl,_,rfl,s,m,rfl,hs2,by omega,by omega,λr H3 r0 r1 o3 hs3=>⟨_,_,rfl,rfl,_,rfl,by omega,by omega,fH (n:=(1+r).toNat) (SoI H s ln l p ss m) ⟨[],ss,none,rfl,(Off.grow g12).trans o3,hs3,o3 _ _ e1 nl2,o3 _ _ e2 np2,.refl _,rfl⟩ (λi σ H4 hi hh=>?_) λσ H4 hh=>?_⟩⟩
  ·obtain⟨xs,ys,v5,rfl,o4,hs4,el4,ep4,pm,hl⟩:=hh
   dsimp only [aA,List.set_cons_zero,List.set_cons_succ]
   have hlen:=pm.length_eq
   rw [List.length_append]at hlen
   have hys:0 < ys.length:=by omega
   refine aS ⟨_,rfl,.inl ⟨rfl,_,SqL.of ep4⟩,_,rfl,.inl ⟨rfl,_,SqL.of el4⟩,_,rfl,_,rfl,l,_,rfl,.inl (SqL.of el4),s,_,rfl,hs4,?_,?_,λj H5 j0 j1 o5 hs5=>?_⟩
   ·rw [List.length_map];omega
   ·rw [List.length_map];omega
   ·rw [List.length_map]at j1
    have el5:=o5 _ _ el4 nl2
    have ep5:=o5 _ _ ep4 np2
    obtain⟨jn,rfl⟩:∃jn:Nat,j=(jn:Int):=⟨j.toNat,by omega⟩
    have hj:jn < ys.length:=by omega
    refine⟨l,_,_,jn,.str ys[jn],rfl,rfl,el5,by omega,by omega,by rw [PySem.StrLaws.seqIndex_nonneg (by omega) (by rw [List.length_map];omega)];rfl,by rw [List.getElem?_map,List.getElem?_eq_getElem hj];rfl,?_⟩
    have o6:∀b o,H5 b=some o->b≠l->upd H5 l (.lst ((ys.map V.str).eraseIdx jn)) b=some o:=λb o e n=>by rw [al n];exact e
    refine⟨p,_,_,rfl,rfl,o6 _ _ ep5 npl,by rw [List.length_map];exact be (by omega),xs++[ys[jn]],ys.eraseIdx jn,_,rfl,λb o e n=>?_,?_,?_,?_,?_,by rw [List.length_append,hl];rfl⟩
    ·rw [al (am e np0)]
     exact o6 _ _ ((o4.trans o5) _ _ e n) (am e nl0)
    ·refine(hs5.off nl2 o6).off np2 λb o e n=>?_
     rw [al n];exact e
    ·rw [al (Ne.symm npl),aj,fQ]
    ·rw [aj,List.map_append];rfl
    ·have e9:(ys[jn]::ys.eraseIdx jn).Perm ys:=jo ys jn hj
     rw [List.append_assoc]
     exact((List.Perm.refl xs).append e9).trans pm
  ·obtain⟨xs,ys,v5,rfl,o4,hs4,el4,ep4,pm,hl⟩:=hh
   refine az ⟨_,rfl,q p xs ys _ np0 o4 hs4 ep4 ?_ pm ?_⟩
   ·intro z
    rw [z]at hl
    have:(1+r).toNat=0:=hl.symm
    omega
   ·rw [hl];omega
theorem yd {i:Int} (h0:0<=i) (h1:i < 26):atI bX.cps.toList i=some (97+i.toNat):=by
 obtain⟨j,rfl⟩:∃j:Nat,i=(j:Int):=⟨i.toNat,by omega⟩
 refine dB ?_
 have hj:j < 26:=by omega
 rw [Int.toNat_natCast]
 have:∀j,j < 26->bX.cps.toList[j]?=some (97+j):=by decide +kernel
 exact this j hj
noncomputable def vH (c:Nat):Prop:=97<=c/\c<=122
theorem vq {c:Nat} (h:vH c):inZ bX c=true:=by
 unfold inZ
 refine decide_eq_true ?_
 have:∀c,c < 123->97<=c->c∈bX.cps.toList:=by decide +kernel
 exact this c (by unfold vH at h;omega) h.1
noncomputable abbrev w12:List Str:=[Str.ofString "number", Str.ofString "value", Str.ofString "sum", Str.ofString "count", Str.ofString "least", Str.ofString "since", Str.ofString "part", Str.ofString "change", Str.ofString "plus", Str.ofString "less", Str.ofString "same", Str.ofString "minus"]
theorem vp {k:Str} (h1:1<=k.length) (h2:k.length<=8) (hc:∀c∈k.cps.toList,vH c):bJ k bX 8=true:=by
 unfold bJ
 rw [decide_eq_true (show (1:Int)<=k.length by omega),decide_eq_true (show (k.length:Int)<=8 by omega),Bool.true_and,Bool.true_and,List.all_eq_true]
 exact λc hcc=>vq (hc c hcc)
noncomputable def Nms (ss:List Str):Prop:=ss.length=8/\ss.Nodup/\∀x∈ss,bJ x bX 8=true
noncomputable def rot (j:Nat):List Str:=((w12.drop j)++(w12.take j)).take 8
theorem xx:∀j:Fin 12,(rot j.val).length=8/\(rot j.val).Nodup/\∀x∈rot j.val,bJ x bX 8=true:=by decide +kernel
theorem uI:∀j:Fin 12,da (da (w12.map V.str) (some (j.val:Int)) none++da (w12.map V.str) none (some (j.val:Int))) none (some 8)=(rot j.val).map V.str:=by decide +kernel
theorem u6 {sub:List Nat}{te:TE}{σ:St}{H:Hp}{Q:VK}{n:Nat}{s:Addr} (hs:SAt H s) (hn:n<=1000) (P:Int->Prop) (hte:∀(i:Nat) (H2:Hp) (R:VK),i < n->SAt H2 s->(∀x H3,P x->Off s H2 H3->SAt H3 s->R (.int x) H3)->te (some (.int (0+(i:Int)))::bS sub σ) H2 R)
  (hq:∀(D:Addr) (bs:List Int) (H':Hp),H D=none->Off s H H'->SAt H' s->H' D=some (.lst (bs.map V.int))->bs.length=n->(∀x∈bs,P x)->Q (.ref D) H'):hX (Itr 0 n) sub (λ_ H Q=>Q true H) te σ Q H:=by
 intro D nD
 have nDs:D≠s:=λz=>by obtain⟨xs,e⟩:=hs.lst;rw [z,e]at nD;cases nD
 refine gh (lo:=0) (n:=n) (sub:=sub) (tt:=λ_ H Q=>Q true H) (te:=te) (Q:=Q) (σ:=σ) (λi ys H2=>∃bs:List Int,ys=bs.map V.int/\bs.length=i/\H2 D=some (.lst ys)/\Off s H H2/\SAt H2 s/\∀x∈bs,P x) ⟨[],rfl,rfl,aj,Off.grow (laid nD).1,hs.keep (laid nD).1,(λ_ z=>nomatch z)⟩ (λi ys H2 hi hh=>?_) λys H2 hh=>?_
 ·obtain⟨bs,rfl,hl,e2,o2,s2,h2⟩:=hh
  refine b5 (hte i _ _ hi s2 λx H3 hx o3 s3=>⟨o3 _ _ e2 nDs,by rw [List.length_map];exact be (by omega),bs++[x],by rw [List.map_append];rfl,by rw [List.length_append,hl];rfl,aj,λb o e nb=>by rw [al (am e nD)];exact o3 _ _ (o2 _ _ e nb) nb,s3.off nDs (λb o e nb=>by rw [al nb];exact e),λy hy=>?_⟩)
  rcases List.mem_append.mp hy with hy | hy
  ·exact h2 y hy
  ·rw [List.mem_singleton.mp hy];exact hx
 ·obtain⟨bs,rfl,hl,e2,o2,s2,h2⟩:=hh
  exact hq D bs H2 nD o2 s2 e2 hl h2
theorem u5 {K:PySem.W.Frag}{la:Addr}{zs:List Int}{sub:List Nat}{te:TE}{σ:St}{Q:VK}{H:Hp} (g:Int->Str) (hn:zs.length < 1000) (ha:H la=some (.lst (zs.map V.int))) (hte:∀(z:Int) (H2:Hp) (R:VK),R (.str (g z)) H2->te (some (.int z)::bS sub σ) H2 R)
  (hq:∀(D:Addr),H D=none->Q (.ref D) (upd H D (.lst ((zs.map g).map V.str)))):hX (Itl K la) sub (λ_ H Q=>Q true H) te σ Q H:=by
 intro D nD
 have nl:la≠D:=am ha nD
 refine dO (K:=K) (a:=la) (xs:=zs.map V.int) (sub:=sub) (tt:=λ_ H Q=>Q true H) (te:=te) (Q:=Q) (σ:=σ) (λi ys H2=>ys=((zs.take i).map g).map V.str/\H2=upd H D (.lst ys)) ⟨by rw [List.take_zero];rfl,rfl⟩ (λi ys H2 _ hh=>?_) (λi x ys H2 hi hh=>?_) λys H2 hh=>?_
 ·obtain⟨_,rfl⟩:=hh
  exact SqL.of (by rw [al nl];exact ha)
 ·obtain⟨rfl,rfl⟩:=hh
  rw [List.getElem?_map]at hi
  obtain⟨z,hz,rfl⟩:=Option.map_eq_some_iff.mp hi
  refine b5 (hte z _ _ ⟨aj,?_,?_,bv⟩)
  ·rw [List.length_map,List.length_map,List.length_take];exact be (by omega)
  ·rw [List.take_add_one,hz,List.map_append,List.map_append];rfl
 ·obtain⟨rfl,rfl⟩:=hh
  rw [List.length_map,List.take_length]
  exact hq D nD
theorem u7 {sub:List Nat}{te:TE}{σ:St}{H:Hp}{Q:VK}{n:Nat} (f:Nat->V) (hn:n<=1000) (hte:∀(i:Nat) (H2:Hp) (R:VK),i < n->aP H H2->R (f i) H2->te (some (.int (0+(i:Int)))::bS sub σ) H2 R)
  (hq:∀D,H D=none->Q (.ref D) (upd H D (.lst ((List.range n).map f)))):hX (Itr 0 n) sub (λ_ H Q=>Q true H) te σ Q H:=by
 intro D nD
 refine gh (lo:=0) (n:=n) (sub:=sub) (tt:=λ_ H Q=>Q true H) (te:=te) (Q:=Q) (σ:=σ) (λi ys H2=>ys=(List.range i).map f/\H2=upd H D (.lst ys)) ⟨rfl,rfl⟩ (λi ys H2 hi hh=>?_) λys H2 hh=>?_
 ·obtain⟨rfl,rfl⟩:=hh
  refine b5 (hte i _ _ hi (laid nD).1 ⟨aj,by rw [List.length_map,List.length_range];exact be (by omega),by rw [List.range_succ,List.map_append];rfl,bv⟩)
 ·obtain⟨rfl,rfl⟩:=hh
  exact hq D nD
noncomputable def sgE (bs:List Int) (at_:Int) (k j:Nat):Int:=bs.getD j 0+3 * (k:Int) * (if (j:Int)=at_ then 1 else 0)
noncomputable def gZ (z:Int):Str:=⟨#[97+(z % 26).toNat]⟩
noncomputable def nmK (bs:List Int) (at_ sz:Int) (k:Nat):Str:=Txt.join (Str.ofString "") (((List.range sz.toNat).map (sgE bs at_ k)).map gZ)
theorem tP (xs:List Int):xs.map gZ=(xs.map λz=>97+(z % 26).toNat).map λd=>(⟨#[d]⟩:Str):=by rw [List.map_map];rfl
theorem yq (xs:List Int):((xs.map gZ).map (·.length)).sum=xs.length:=by rw [tP,ir,List.length_map]
theorem iL (bs:List Int) (at_ sz:Int) (k:Nat):(nmK bs at_ sz k).cps.toList=(List.range sz.toNat).map λj=>97+(sgE bs at_ k j % 26).toNat:=by
 unfold nmK
 rw [tP,zv,gT,List.map_map]
 rfl
theorem ya {bs:List Int}{at_ sz:Int} (h1:1<=sz) (h8:sz<=8) (a0:0<=at_) (a1:at_ < sz):Nms ((List.range 8).map (nmK bs at_ sz)):=by
 refine⟨by rw [List.length_map,List.length_range],?_,λx hx=>?_⟩
 ·refine List.pairwise_map.mpr (List.Pairwise.imp_of_mem (λ{i j} hi hj hlt e=>?_) List.pairwise_lt_range)
  have hi:=List.mem_range.mp hi
  have hj:=List.mem_range.mp hj
  have e:=congrArg (λx:Str=>x.cps.toList[at_.toNat]?) e
  have ht:at_.toNat < sz.toNat:=by omega
  rw [iL,iL,List.getElem?_map,List.getElem?_map,List.getElem?_range ht]at e
  have e:97+(sgE bs at_ i at_.toNat % 26).toNat=97+(sgE bs at_ j at_.toNat % 26).toNat:=Option.some.inj e
  have z:((at_.toNat:Nat):Int)=at_:=by omega
  unfold sgE at e
  rw [if_pos z]at e
  generalize bs.getD at_.toNat 0=b at e
  omega
 ·obtain⟨k,_,rfl⟩:=List.mem_map.mp hx
  have hl:(nmK bs at_ sz k).length=sz.toNat:=by rw [bG,iL,List.length_map,List.length_range]
  refine vp (by omega) (by omega) λc hc=>?_
  rw [iL]at hc
  obtain⟨j,_,rfl⟩:=List.mem_map.mp hc
  have:=Int.emod_nonneg (sgE bs at_ k j) (show (26:Int)≠0 by decide)
  have:=Int.emod_lt_of_pos (sgE bs at_ k j) (show (0:Int) < 26 by decide)
  unfold vH
  omega
inductive NmI (H:Hp) (c:Int) (lw s D p:Addr) (at_ sz:Int) (bs:List Int) (k:Nat) (σ:St) (H2:Hp):Prop
 | mk (v7 v8:Option V) (h1:σ=[some (.int c),some (.ref lw),some (.ref s),some (.int at_),some (.int sz),some (.ref D),some (.ref p),v7,v8]) (h2:aP H H2) (h3:H2 D=some (.lst (bs.map V.int))) (h4:H2 p=some (.lst (((List.range k).map (nmK bs at_ sz)).map V.str))):NmI H c lw s D p at_ sz bs k σ H2
noncomputable def oC:Sp:=λvs H Q _=>∃(c:Int),vs=[.int c]/\∀(p:Addr) (ss:List Str) (H':Hp),H p=none->aP H H'->H' p=some (.lst (ss.map V.str))->Nms ss->Q (.ref p) H'
theorem cK:FnScope ["_law_cell_here", "_law_some_here", "_law_state", "_law_at", "_law_size", "_law_base", "_law_names_here", "_law_k", "_law_signs"] ["_law_cell_here"] (aw nc):=⟨rfl,rfl,rfl,by decide +kernel,rfl,by decide +kernel,by decide +kernel⟩
theorem sH {f f1 f2:Addr}{fd:FuncData} (F:Fun K "_law_names" "_law_names" nc f fd) (N:Free mg){fd1:FuncData} (CB:Cal P w K mg base "_law_begun" 1 ["_law_cell_here"] kI f1 fd1){fd2:FuncData} (CP:Cal P w K mg base "_law_pull" 2 ["_law_state", "_law_many"] cG f2 fd2):FnOk P w K mg base CX0 3 f fd ["_law_cell_here"] oC:=by
 refine F.ok (k:=2) cK (λvs H Q E h=>?_) (λcdv A outer s H vs Q E hr h=>?_)
 ·obtain⟨c,rfl,_⟩:=h
  rfl
 ·obtain⟨c,rfl,q⟩:=h
  have hu:=aM hr
  refine⟨_,(@ad _ _ _ _ _ (@ax (i:=1) _ _ _ _ _ _ cK.nd rfl (Or.inl rfl) (@aH _ _ _ _ (@aa _ _ _ _ _ ah (@aa _ _ _ _ _ ah (@aa _ _ _ _ _ ah (@aa _ _ _ _ _ ah (@aa _ _ _ _ _ ah (@aa _ _ _ _ _ ah (@aa _ _ _ _ _ ah (@aa _ _ _ _ _ ah (@aa _ _ _ _ _ ah (@aa _ _ _ _ _ ah (@aa _ _ _ _ _ ah (@aa _ _ _ _ _ ah ac rfl) rfl) rfl) rfl) rfl) rfl) rfl) rfl) rfl) rfl) rfl) rfl)) (by rfl) (by first | exact .inl rfl | exact .inr rfl))
   (ad (ax (i:=2) cK.nd rfl (Or.inr rfl) (au CB.ok (hr.mono (by decide)) rfl CB.nm CB.kp CB.bd .nil ar (aa (pv 0) ac)))
   (ad (aO (aC bc (au CP.ok (hr.mono (by decide)) rfl CP.nm CP.kp CP.bd .nil ar (aa (pv 2) (aa ag ac))) ag (aE _)) (ad (ax (i:=3) cK.nd rfl (Or.inr rfl) (au CP.ok (hr.mono (by decide)) rfl CP.nm CP.kp CP.bd .nil ar (aa (pv 2) (aa ag ac))))
   (af (av (bj bN (aJ bK (bj bN (pv 1) (bu (pv 3)) bD) (bj bN (pv 1) bD (bu (pv 3)))) bD (bu ag))))) ay)
   (ad (ax (i:=4) cK.nd rfl (Or.inl rfl) (aJ bE ag (au CP.ok (hr.mono (by decide)) rfl CP.nm CP.kp CP.bd .nil ar (aa (pv 2) (aa ag ac)))))
   (ad (ax (i:=3) cK.nd rfl (Or.inr rfl) (au CP.ok (hr.mono (by decide)) rfl CP.nm CP.kp CP.bd .nil ar (aa (pv 2) (aa (pv 4) ac))))
   (ad (ax (i:=5) cK.nd rfl (Or.inr rfl) (ff (bP rfl (cI rfl N.range (aa (pv 4) ac)) rfl rfl (by show ∀p∈_,i0 [Str.ofString "_law_state"] p;decide) (by decide) rfl (by show ([Str.ofString "_law_k", Str.ofString "_law_state"]:List Str).Nodup;decide) (.cons (i:=2) rfl (.inr (.inl rfl)) (by show (some NameKind.cell)≠some NameKind.local;decide) (.inl rfl) rfl .nil) (λC fp s H=>cY) (λC fp s H=>(au CP.ok (hr.mono (by decide)) rfl CP.nm CP.kp CP.bd .nil ar (aa (pv 1) (aa ag ac)))))))
   (ad (ax (i:=6) cK.nd rfl (Or.inl rfl) (aH ac))
   (ad (cS PassesOwn.never rfl (cI rfl N.range (aa ag ac)) (bO (i:=7) cK.nd rfl (Or.inr rfl))
   (ad (uQ (i:=8) cK.nd rfl (Or.inl rfl) (bP rfl (cI rfl N.range (aa (pv 4) ac)) rfl rfl (by show ∀p∈_,i0 [Str.ofString "_law_k", Str.ofString "_law_base", Str.ofString "_law_at"] p;decide) (by decide) rfl (by show ([Str.ofString "_law_j", Str.ofString "_law_k", Str.ofString "_law_base", Str.ofString "_law_at"]:List Str).Nodup;decide) (.cons (i:=7) rfl (.inr (.inl rfl)) (by show (some NameKind.cell)≠some NameKind.local;decide) (.inl rfl) rfl (.cons (i:=5) rfl (.inr (.inl rfl)) (by show (some NameKind.cell)≠some NameKind.local;decide) (.inl rfl) rfl (.cons (i:=3) rfl (.inr (.inl rfl)) (by show (some NameKind.cell)≠some NameKind.local;decide) (.inl rfl) rfl .nil))) (λC fp s H=>cY) (λC fp s H=>(aJ bE (b9 (r:=xD K) aT (pv 2) (pv 0) (λ_ _=>rfl)) (aJ eo (aJ eo ag (pv 1)) (aV io (by rfl) N.int PyProof.Rows.Boot.«int» (aa (ba bc (pv 0) (pv 3) (aE _)) ac)))))))
   (af (aY (bW PySem.F.plainAttrs_list PySem.F.slot_list_append PySem.F.type_list_append df (pv 6) (aa (bW PySem.F.plainAttrs_str PySem.F.slot_str_join PySem.F.type_str_join du ah (aa (ff (bP rfl (cq (pv 8)) rfl rfl (by show ∀p∈_,i0 [] p;decide) (by decide) rfl (by show ([Str.ofString "_law_sign"]:List Str).Nodup;decide) .nil (λC fp s H=>cY) (λC fp s H=>(b9 tI ah (aJ fY (pv 0) ag) (λ_ _=>rfl))))) ac)) ac))))))
   (af (av (pv 6))))))))))),?_⟩
  refine ae (ao ⟨by show 12<=sizeLine;decide,λlw nlw=>?_⟩)
  obtain⟨g1,e1⟩:=laid (o:=.lst (w12.map V.str)) nlw
  dsimp only [aA,List.set_cons_zero,List.set_cons_succ]
  change kr _ _ _ _ (upd H lw (.lst (w12.map V.str)))
  generalize upd H lw (.lst (w12.map V.str))=H1 at g1 e1 ⊢
  refine ae (ao ⟨_,rfl,c,rfl,λs H2 ns g2 hs2=>?_⟩)
  dsimp only [aA,List.set_cons_zero,List.set_cons_succ]
  have ns0:H s=none:=by
   cases e:H s with
   | none=>rfl
   | some o=>rw [g1 _ _ e]at ns;cases ns
  have nlws:lw≠s:=am e1 ns
  have g12:=g1.trans g2
  have e1:=g2 _ _ e1
  have og:∀{X Y:Hp},aP H X->Off s X Y->aP H Y:=λ{X Y} g o b u e=>o _ _ (g _ _ e) (am e ns0)
  refine ae (aq ⟨_,rfl,s,4,rfl,hs2,by decide,by decide,λn H3 n0 n1 o3 hs3=>⟨rfl,_,rfl,cj (λ_=>?_) λ_=>ai ?_⟩⟩)
  ·refine ae (ao ⟨_,rfl,s,12,rfl,hs3,by decide,by decide,λat_ H4 a0 a1 o4 hs4=>?_⟩)
   dsimp only [aA,List.set_cons_zero,List.set_cons_succ]
   obtain⟨j,rfl⟩:∃j:Nat,at_=(j:Int):=⟨at_.toNat,by omega⟩
   have hj:j < 12:=by omega
   have e4:=o4 _ _ (o3 _ _ e1 nlws) nlws
   have g4:=og (og g12 o3) o4
   refine az ⟨_,rfl,_,rfl,_,rfl,lw,_,rfl,SqL.of e4,λl1 nl1=>?_⟩
   obtain⟨g5,e5⟩:=laid (o:=.lst (da (w12.map V.str) (some (j:Int)) none)) nl1
   generalize upd H4 l1 _=H5 at g5 e5 ⊢
   refine⟨_,rfl,_,rfl,_,rfl,lw,_,rfl,SqL.of (g5 _ _ e4),λl2 nl2=>?_⟩
   obtain⟨g6,e6⟩:=laid (o:=.lst (da (w12.map V.str) none (some (j:Int)))) nl2
   generalize upd H5 l2 _=H6 at g6 e6 ⊢
   have c1:=dz (w12.map V.str) (some (j:Int)) none
   have c2:=dz (w12.map V.str) none (some (j:Int))
   have c3:(w12.map V.str).length=12:=rfl
   refine⟨l1,l2,_,_,rfl,rfl,g6 _ _ e5,e6,Nat.le_of_lt (be (by omega)),λl3 nl3=>⟨_,rfl,l3,_,rfl,SqL.of aj,λp np=>?_⟩⟩
   obtain⟨g7,_⟩:=laid (o:=.lst (da (w12.map V.str) (some (j:Int)) none++da (w12.map V.str) none (some (j:Int)))) nl3
   obtain⟨g8,e8⟩:=laid (o:=.lst (da (da (w12.map V.str) (some (j:Int)) none++da (w12.map V.str) none (some (j:Int))) none (some 8))) np
   have gg:=g4.trans (g5.trans (g6.trans (g7.trans g8)))
   refine q p (rot j) _ ?_ gg (by rw [e8,uI ⟨j,hj⟩]) (xx ⟨j,hj⟩)
   cases e:H p with
   | none=>rfl
   | some o=>rw [(g4.trans (g5.trans (g6.trans g7))) _ _ e]at np;cases np
  ·dsimp only
   refine ae (ao ⟨_,rfl,s,8,rfl,hs3,by decide,by decide,λn2 H4 m0 m1 o4 hs4=>⟨_,_,rfl,rfl,?_⟩⟩)
   dsimp only [aA,List.set_cons_zero,List.set_cons_succ]
   refine ae (ao ⟨_,rfl,_,rfl,s,1+n2,rfl,hs4,by omega,by omega,λat_ H5 a0 a1 o5 hs5=>?_⟩)
   dsimp only [aA,List.set_cons_zero,List.set_cons_succ]
   have g5:=og (og (og g12 o3) o4) o5
   refine ae (ao (cX ⟨_,rfl,_,rfl,by omega,by omega,u6 (n:=(1+n2).toNat) hs5 (by omega) (λx=>0<=x/\x < 26) (λi H6 R hi hs6 hR=>?_) λD bs H6 nD o6 hs6 eD hbl hbs=>?_⟩))
   ·exact⟨_,rfl,s,26,rfl,hs6,by decide,by decide,λx H7 x0 x1 o7 hs7=>hR x H7 ⟨x0,x1⟩ o7 hs7⟩
   ·dsimp only [aA,List.set_cons_zero,List.set_cons_succ]
    have g6:=og g5 o6
    refine ae (ao ⟨by show 0<=sizeLine;decide,λp np=>?_⟩)
    dsimp only [aA,List.set_cons_zero,List.set_cons_succ]
    obtain⟨g7,e7⟩:=laid (o:=.lst []) np
    have np0:H p=none:=by
     cases e:H p with
     | none=>rfl
     | some o=>rw [g6 _ _ e]at np;cases np
    have eD7:=g7 _ _ eD
    have npD:p≠D:=λz=>by rw [z,eD]at np;cases np
    have g67:=g6.trans g7
    generalize upd H6 p _=H7 at g7 e7 eD7 g67 ⊢
    have hsz:((1+n2).toNat:Int)=1+n2:=by omega
    refine ae ⟨8,rfl,by decide,by decide,fH (n:=8) (NmI H c lw s D p at_ (1+n2) bs) ⟨none,none,rfl,g67,eD7,e7⟩ (λk σ H8 hk hh=>?_) λσ H8 hh=>?_⟩
    ·obtain⟨v7,v8,rfl,g8,eD8,ep8⟩:=hh
     dsimp only [aA,List.set_cons_zero,List.set_cons_succ]
     rw [Int.zero_add]
     refine ae (ao (cX ⟨_,rfl,_,rfl,by omega,by omega,u7 (n:=(1+n2).toNat) (λj=>V.int (sgE bs at_ k j)) (by omega) (λj H9 R hj g9 hR=>?_) λD2 nD2=>?_⟩))
     ·rw [Int.zero_add]
      have hjb:j < bs.length:=by omega
      refine⟨_,rfl,_,rfl,D,_,_,.int bs[j],rfl,rfl,SqL.of (g9 _ _ eD8),dB (by rw [List.getElem?_map,List.getElem?_eq_getElem hjb];rfl),_,rfl,_,_,rfl,rfl,.inl ⟨by decide,by decide⟩,_,rfl,_,rfl,rfl,.inr ⟨_,rfl,_,_,rfl,rfl,.inl ⟨by omega,by omega⟩,_,_,rfl,rfl,?_⟩⟩
      have e9:bs[j]+3 * (k:Int) * (if decide (V.int (j:Int)=V.int at_)=true then 1 else 0)=sgE bs at_ k j:=by
       unfold sgE
       rw [List.getD_eq_getElem?_getD,List.getElem?_eq_getElem hjb]
       by_cases z:(j:Int)=at_
       ·rw [if_pos z,if_pos (decide_eq_true (congrArg V.int z))];rfl
       ·rw [if_neg z,if_neg (λy=>z (V.int.inj (of_decide_eq_true y)))];rfl
      rw [e9]
      exact hR
     ·rw [show ((List.range (1+n2).toNat).map λj=>V.int (sgE bs at_ k j))=((List.range (1+n2).toNat).map (sgE bs at_ k)).map V.int from by rw [List.map_map];rfl]
      obtain⟨g9,e9⟩:=laid (o:=.lst (((List.range (1+n2).toNat).map (sgE bs at_ k)).map V.int)) nD2
      dsimp only [aA,List.set_cons_zero,List.set_cons_succ]
      generalize upd H8 D2 _=H9 at g9 e9 ⊢
      have hzl:((List.range (1+n2).toNat).map (sgE bs at_ k)).length < 1000:=by rw [List.length_map,List.length_range];omega
      refine aS (wk ⟨_,rfl,.inl ⟨rfl,_,SqL.of (g9 _ _ ep8)⟩,cy (wk ⟨rfl,cy (cX ⟨_,rfl,D2,rfl,⟨_,SqL.of e9⟩,u5 gZ hzl e9 (λz H2 R hR=>?_) λD3 nD3=>?_⟩)⟩)⟩)
      ·exact⟨_,rfl,_,_,rfl,rfl,(by show (0:Int) < 26;decide),bX,z % 26,_,rfl,rfl,by decide,yd (Int.emod_nonneg _ (by decide)) (Int.emod_lt_of_pos _ (by decide)),hR⟩
      ·obtain⟨ga,ea⟩:=laid (o:=.lst ((((List.range (1+n2).toNat).map (sgE bs at_ k)).map gZ).map V.str)) nD3
       generalize upd H9 D3 _=Ha at ga ea ⊢
       have epa:=ga _ _ (g9 _ _ ep8)
       have eDa:=ga _ _ (g9 _ _ eD8)
       refine⟨Str.ofString "", D3,_,rfl,rfl,ea,?_,p,_,_,rfl,rfl,epa,?_,_,_,rfl,λb o e=>?_,?_,?_⟩
       ·rw [yq,show (Str.ofString "").length=0 from rfl,Nat.mul_zero];exact Nat.le_trans (Nat.le_of_lt hzl) (by decide)
       ·rw [List.length_map,List.length_map,List.length_range];exact be (by omega)
       ·rw [al (am e np0)];exact ga _ _ (g9 _ _ (g8 _ _ e))
       ·rw [al (Ne.symm npD)];exact eDa
       ·rw [aj,List.range_succ,List.map_append,List.map_append];rfl
    ·obtain⟨v7,v8,rfl,g8,eD8,ep8⟩:=hh
     dsimp only
     exact az ⟨_,rfl,q p _ _ np0 g8 ep8 (ya (by omega) (by omega) a0 a1)⟩
open PySem.W PySem.W.KIN PySem.NumText
noncomputable def dU (K:PySem.W.Frag):Sp:=λvs H Q _=>∃v:V,vs=[v]/\((∃x:Str,v=.str x/\x.length < sizeLine/\∀H',aP H H'->Q (.bl (bJ x bX 8)) H')\/∃n:String,TyOf K H v (.type n)/\PySem.W.kitOne K (.type n) (.type "str")=some false/\Q (.bl false) H)
theorem wV:FnScope ["thing"] ["thing"] (aw rT):=⟨rfl,rfl,rfl,by decide +kernel,rfl,by decide +kernel,by decide +kernel⟩
theorem v9 {f f1:Addr}{fd fd1:FuncData} (F:Fun K "is_name" "is_name" rT f fd) (N:Free mg) (C:Con mg) (CH:Cal P w K mg base "has_only" 1 ["text", "signs", "most"] rm f1 fd1):FnOk P w K mg base CX0 2 f fd ["thing"] (dU K):=by
 obtain⟨t1,c1⟩:=C.letters
 obtain⟨t2,c2⟩:=C.eight
 refine F.ok (k:=1) wV (λvs H Q E h=>?_) (λcdv A outer s H vs Q E hr h=>?_)
 ·obtain⟨v,rfl,_⟩:=h
  rfl
 ·obtain⟨v,rfl,h⟩:=h
  refine⟨_,af (av (dD (aI cv (by rfl) N.isinstance PyProof.Rows.Boot.«isinstance» (aD (pv 0) (aD (ee (v:=.ty "str") (by rfl) N.str PyProof.Rows.Boot.«str» rfl) ac))) (dh (au CH.ok hr rfl CH.nm CH.kp CH.bd .nil ar (aD (pv 0) (aD (b6 (v:=.str bX) (by rfl) c1 ⟨_,rfl⟩) (aD (b6 (v:=.int 8) (by rfl) c2 ⟨_,rfl⟩) ac))))))),?_⟩
  rcases h with⟨x,rfl,hl,hq⟩ | ⟨n,ty,e,q⟩
  ·exact⟨_,rfl,.str x,"str", _,true,rfl,.str x,by rfl,_,rfl,b5 ⟨_,rfl,x,bX,8,rfl,hl,hq⟩⟩
  ·exact⟨_,rfl,v,"str", _,false,rfl,ty,e,_,rfl,aF q⟩
noncomputable def gN (x:Str):Bool:=decide (x.cps.toList.head?=some 45)
noncomputable def figs (x:Str):List Nat:=if gN x=true then x.cps.toList.tail else x.cps.toList
noncomputable def aZ (x:Str):Int:=if gN x=true then -((digitsVal (figs x):Nat):Int) else ((digitsVal (figs x):Nat):Int)
theorem pN:∀{cs:List Nat},AllDigits cs->(cs.map Char.ofNat).map Char.toNat=cs
 | [],_=>rfl
 | c::r,h=>by
  rw [List.map_cons,List.map_cons,pN h.tail]
  have hc:=h.head
  have:∀d:Nat,48<=d->d<=57->(Char.ofNat d).toNat=d:=by
   intro d h1 h2
   have:d=48\/d=49\/d=50\/d=51\/d=52\/d=53\/d=54\/d=55\/d=56\/d=57:=by omega
   rcases this with h | h | h | h | h | h | h | h | h | h <;> subst h <;> rfl
  rw [this c hc.1 hc.2]
noncomputable def dH (cs:List Nat):List Nat:=(Nat.toDigits 10 (digitsVal cs)).map Char.toNat
theorem eZ {c:Nat}{r:List Nat} (h:AllDigits (c::r)) (hc:c≠48):dH (c::r)=c::r:=by
 unfold dH
 have hh:=h.head
 rw [toDigits_digitsVal r.length (c::r) rfl h (.inr ⟨c,r,rfl,by omega⟩)]
 exact pN h
theorem n8:dH [48]=[48]:=by decide
theorem iw:∀{r:List Nat},AllDigits r->(dH r).length<=r.length+(if r=[] then 1 else 0)
 | [],_=>by decide
 | c::r,h=>by
  by_cases hc:c=48
  ·subst hc
   have e:dH (48::r)=dH r:=by unfold dH;rw [digitsVal_zero]
   rw [e]
   have:=iw h.tail
   by_cases hr:r=[]
   ·subst hr;decide
   ·rw [if_neg hr]at this
    rw [if_neg (by simp),List.length_cons]
    omega
  ·rw [eZ h hc,if_neg (by simp)]
   exact Nat.le_refl _
theorem jF {r:List Nat} (h:AllDigits (48::r)) (hr:r≠[]):dH (48::r)≠48::r:=λz=>by
 have e:dH (48::r)=dH r:=by unfold dH;rw [digitsVal_zero]
 rw [e]at z
 have:=iw h.tail
 rw [z,if_neg hr,List.length_cons]at this
 omega
theorem fu (m:Nat):(Str.ofString (toString ((m:Nat):Int))).cps.toList=(Nat.toDigits 10 m).map Char.toNat:=signs_num m
theorem fX (m:Nat) (h:0 < m):(Str.ofString (toString (-((m:Nat):Int)))).cps.toList=45::(Nat.toDigits 10 m).map Char.toNat:=by
 obtain⟨k,rfl⟩:∃k,m=k+1:=⟨m - 1,by omega⟩
 rw [PyProof.Rows.signs_ofString]
 show (toString (Int.negSucc k)).toList.map Char.toNat=_
 show ("-"++Nat.repr (k+1)).toList.map Char.toNat=_
 rw [String.toList_append,List.map_append,Nat.toList_repr]
 rfl
theorem i6 {x:Str} (h:AllDigits (figs x)) (h1:figs x≠[]):Str.ofString (toString (aZ x))=x↔¬((figs x).head?=some 48/\x.cps.toList≠[48]):=by
 cases hn:gN x with
 | false=>
  have ef:figs x=x.cps.toList:=by unfold figs;rw [hn];rfl
  have ev:aZ x=((digitsVal (figs x):Nat):Int):=by unfold aZ;rw [hn];rfl
  have e:Str.ofString (toString (aZ x))=x↔dH (figs x)=figs x:=by
   rw [ev]
   constructor
   ·intro z
    have:=congrArg (λy:Str=>y.cps.toList) z
    simp only [fu]at this
    rw [<- ef]at this
    exact this
   ·intro z
    refine cx ?_
    rw [fu,<- ef]
    exact z
  rw [e]
  rw [<- ef]
  generalize figs x=cs at *
  cases cs with
  | nil=>exact absurd rfl h1
  | cons c r=>
   by_cases hc:c=48
   ·subst hc
    by_cases hr:r=[]
    ·subst hr
     exact⟨λ_ z=>z.2 rfl,λ_=>n8⟩
    ·refine⟨λz=>absurd z (jF h hr),λz=>absurd ⟨rfl,λw=>hr ?_⟩ z⟩
     injection w
   ·refine⟨λ_ z=>hc ?_,λ_=>eZ h hc⟩
    injection z.1
 | true=>
  have hh:x.cps.toList.head?=some 45:=of_decide_eq_true hn
  have ef:figs x=x.cps.toList.tail:=by unfold figs;rw [hn];rfl
  have ev:aZ x = -((digitsVal (figs x):Nat):Int):=by unfold aZ;rw [hn];rfl
  have ex:x.cps.toList=45::figs x:=by
   rw [ef]
   cases q:x.cps.toList with
   | nil=>rw [q]at hh;cases hh
   | cons a t=>rw [q]at hh;cases hh;rfl
  have r2:x.cps.toList≠[48]:=by rw [ex];intro z;injection z with z _;cases z
  have e:Str.ofString (toString (aZ x))=x↔(0 < digitsVal (figs x)/\dH (figs x)=figs x):=by
   rw [ev]
   by_cases hm:0 < digitsVal (figs x)
   ·constructor
    ·intro z
     have:=congrArg (λy:Str=>y.cps.toList) z
     simp only [fX _ hm]at this
     rw [ex]at this
     injection this with _ this
     exact⟨hm,this⟩
    ·intro z
     refine cx ?_
     rw [fX _ hm,ex]
     exact congrArg (45::·) z.2
   ·have hz:digitsVal (figs x)=0:=by omega
    refine⟨λz=>?_,λz=>absurd z.1 hm⟩
    have:=congrArg (λy:Str=>y.cps.toList) z
    rw [hz]at this
    have t0:(Str.ofString (toString (-((0:Nat):Int)))).cps.toList=[48]:=by decide
    rw [t0,ex]at this
    injection this with this _
    cases this
  rw [e]
  generalize figs x=cs at *
  cases cs with
  | nil=>exact absurd rfl h1
  | cons c r=>
   by_cases hc:c=48
   ·subst hc
    refine⟨λz=>?_,λz=>absurd ⟨rfl,r2⟩ z⟩
    by_cases hr:r=[]
    ·subst hr;exact absurd z.1 (by decide)
    ·exact absurd z.2 (jF h hr)
   ·refine⟨λ_ z=>hc ?_,λ_=>⟨?_,eZ h hc⟩⟩
    ·injection z.1
    ·have:=h.head
     exact digitsVal_pos (by omega)
theorem lJ (x:Str) (c:Nat):Txt.startswith x ⟨#[c]⟩=decide (x.cps.toList.head?=some c):=by
 unfold Txt.startswith
 rw [Bool.eq_iff_iff,decide_eq_true_eq,List.head?_eq_getElem?]
 rw [Bool.and_eq_true,decide_eq_true_eq]
 exact StrLaws.subAt_one x c 0
theorem rD (x:Str):(Txt.slice x none (some 1)).cps.toList=x.cps.toList.take 1:=by
 have h:=eq_of_beq (PyProof.Rows.slice_to_min_closes (x:=x) (n:=1) (m:=if (x.length:Int) < 1 then (x.length:Int) else 1) (by decide) rfl)
 rw [h]
 have e:x.length=x.cps.toList.length:=by simp [Str.length]
 by_cases q:(x.length:Int) < 1
 ·rw [if_pos q]
  have:x.cps.toList=[]:=List.eq_nil_of_length_eq_zero (by omega)
  simp [this]
 ·rw [if_neg q]
  rfl
theorem uu {x:Str} (h:1<=x.length):(Txt.slice x (some 1) none).cps.toList=x.cps.toList.tail:=by
 rw [PyProof.Rows.slice_from_eq (x:=x) (i:=1) (b:=x.length) (by decide) (by omega) rfl]
 have e:x.length=x.cps.toList.length:=by simp [Str.length]
 show (x.cps.toList.drop 1).take _=_
 rw [List.take_of_length_le (by rw [List.length_drop];omega),List.drop_one]
theorem mC (x:Str):(Txt.slice x none (some 1)=Str.ofString "-")↔gN x=true:=by
 have e:=rD x
 unfold gN
 rw [decide_eq_true_eq]
 constructor
 ·intro z
  rw [z]at e
  cases q:x.cps.toList with
  | nil=>rw [q]at e;exact absurd e (by decide)
  | cons a t=>
   rw [q]at e
   have e:[45]=[a]:=e
   cases e
   rfl
 ·intro z
  refine cx ?_
  rw [e]
  cases q:x.cps.toList with
  | nil=>rw [q]at z;cases z
  | cons a t=>rw [q]at z;cases z;rfl
theorem kA (x:Str):Txt.startswith x (Str.ofString "-")=gN x:=by
 rw [show Str.ofString "-" = ⟨#[45]⟩ from by decide]
 exact lJ x 45
theorem fN (x:Str):Txt.startswith x (Str.ofString "0")=decide (x.cps.toList.head?=some 48):=by
 rw [show Str.ofString "0" = ⟨#[48]⟩ from by decide]
 exact lJ x 48
noncomputable def dN (x:Str):Str:=⟨(figs x).toArray⟩
theorem jl {x:Str} (h:gN x=true):Txt.slice x (some 1) none=dN x:=by
 refine cx ?_
 have hl:1<=x.length:=by
  have z:=of_decide_eq_true h
  have e:x.length=x.cps.toList.length:=by simp [Str.length]
  cases q:x.cps.toList with
  | nil=>rw [q]at z;cases z
  | cons a t=>rw [e,q,List.length_cons];omega
 rw [uu hl]
 show _=figs x
 unfold figs
 rw [h];rfl
theorem mD {x:Str} (h:gN x=false):x=dN x:=by
 refine cx ?_
 show _=figs x
 unfold figs
 rw [h];rfl
noncomputable def cM (x:Str):Bool:=bJ (dN x) fm 12
theorem gX (x:Str):(dN x).length=(figs x).length:=by
 show (figs x).toArray.size=_
 rw [List.size_toArray]
theorem gS {x:Str} (h:cM x=true):AllDigits (figs x)/\figs x≠[]/\(figs x).length<=12:=by
 unfold cM bJ at h
 rw [Bool.and_eq_true,Bool.and_eq_true]at h
 obtain⟨h1,h2,h3⟩:=h
 have h1:=of_decide_eq_true h1
 have h2:=of_decide_eq_true h2
 rw [gX]at h1 h2
 refine⟨λc hc=>?_,λz=>?_,by omega⟩
 ·have:=List.all_eq_true.mp h3 c hc
  have m:c∈fm.cps.toList:=of_decide_eq_true this
  rw [show fm.cps.toList=[48,49,50,51,52,53,54,55,56,57] from by decide]at m
  simp only [List.mem_cons,List.not_mem_nil,or_false]at m
  omega
 ·rw [z]at h1
  exact absurd h1 (by decide)
theorem di {x:Str} (h:(figs x).length<=12):x.length<=640:=by
 have e:x.length=x.cps.toList.length:=by simp [Str.length]
 unfold figs at h
 split at h
 ·rw [List.length_tail]at h;omega
 ·omega
theorem ii {x:Str} (h:cM x=true):PySem.intText? x=some (aZ x):=by
 obtain⟨d,n,l⟩:=gS h
 have hl:=di l
 cases q:gN x with
 | false=>
  have ef:figs x=x.cps.toList:=by unfold figs;rw [q];rfl
  have:=intText_digits (x:=x) (ef ▸ d) (ef ▸ n) (by omega)
  rw [this]
  unfold aZ
  rw [q,ef];rfl
 | true=>
  have hh:x.cps.toList.head?=some 45:=of_decide_eq_true q
  have ef:figs x=x.cps.toList.tail:=by unfold figs;rw [q];rfl
  have ex:x.cps.toList=45::figs x:=by
   rw [ef]
   cases r:x.cps.toList with
   | nil=>rw [r]at hh;cases hh
   | cons a t=>rw [r]at hh;cases hh;rfl
  rw [intText_neg ex d n (by omega)]
  unfold aZ
  rw [q];rfl
noncomputable def dm (x:Str) (lo hi:Int):V:=if (cM x=true/\Str.ofString (toString (aZ x))=x)/\(lo<=aZ x/\aZ x<=hi) then .int (aZ x) else .non
noncomputable def iU:Sp:=λvs H Q _=>∃(x:Str) (lo hi:Int),vs=[.str x,.int lo,.int hi]/\x.length < sizeLine/\∀H',aP H H'->Q (dm x lo hi) H'
theorem j4:FnScope ["text", "low", "high", "figures", "number"] ["text", "low", "high"] (aw kU):=⟨rfl,rfl,rfl,by decide +kernel,rfl,by decide +kernel,by decide +kernel⟩
theorem qh {f f1:Addr}{fd fd1:FuncData} (F:Fun K "number_of" "number_of" kU f fd) (N:Free mg) (C:Con mg) (CH:Cal P w K mg base "has_only" 1 ["text", "signs", "most"] rm f1 fd1):FnOk P w K mg base CX0 2 f fd ["text", "low", "high"] iU:=by
 obtain⟨t1,c1⟩:=C.figures
 obtain⟨t2,c2⟩:=C.twelve
 refine F.ok (k:=1) j4 (λvs H Q E h=>?_) (λcdv A outer s H vs Q E hr h=>?_)
 ·obtain⟨x,lo,hi,rfl,_⟩:=h
  rfl
 ·obtain⟨x,lo,hi,rfl,hl,hq⟩:=h
  refine⟨_,ad (ax (i:=3) j4.nd rfl (Or.inl rfl) (ja (cg (bW PySem.F.plainAttrs_str PySem.F.slot_str_startswith PySem.F.type_str_startswith mt_startswith (pv 0) (aD ah ac))) (bj kM (pv 0) (bu ag) bD) (pv 0)))
   (ad (aO (cz (cg (au CH.ok hr rfl CH.nm CH.kp CH.bd .nil ar (aD (pv 3) (aD (b6 (v:=.str fm) (by rfl) c1 ⟨_,rfl⟩) (aD (b6 (v:=.int 12) (by rfl) c2 ⟨_,rfl⟩) ac)))))) (af (av cr)) ay)
   (ad (aO (PW.pt (ld (cg (bW PySem.F.plainAttrs_str PySem.F.slot_str_startswith PySem.F.type_str_startswith mt_startswith (pv 3) (aD ah ac))) (lc (aC wm (pv 0) ah (aE _))))) (af (av cr)) ay)
   (ad (ax (i:=4) j4.nd rfl (Or.inl rfl) (aV dG (by rfl) N.int PyProof.Rows.Boot.«int» (aD (pv 0) ac)))
   (af (av (ja (gG dq dq (pv 1) (pv 4) (pv 2)) (pv 4) cr)))))),?_⟩
  have hfl:(dN x).length < sizeLine:=by
   refine Nat.lt_of_le_of_lt ?_ hl
   rw [gX]
   have e:x.length=x.cps.toList.length:=by simp [Str.length]
   unfold figs
   split
   ·rw [List.length_tail];omega
   ·omega
  refine⟨_,rfl,rfl,x,_,rfl,rfl,_,rfl,?_⟩
  rw [kA]
  refine cj (λh1=>⟨_,rfl,_,rfl,x,rfl,Nat.le_of_lt hl,?_⟩) λh1=>⟨_,rfl,?_⟩
  ·have e:(Txt.slice x (some 1) none)=dN x:=jl h1
   have eb:bJ (Txt.slice x (some 1) none) fm 12=cM x:=congrArg (λz=>bJ z fm 12) e
   have eh:(Txt.slice x (some 1) none).cps.toList.head?=(figs x).head?:=congrArg (λz:Str=>z.cps.toList.head?) e
   refine⟨_,rfl,(Txt.slice x (some 1) none),fm,12,rfl,(by rw [jl h1];exact hfl),λH1 g1=>⟨_,rfl,?_⟩⟩
   have hq:=hq H1 g1
   rw [eb]
   cases hg:cM x with
   | false=>
    refine b5 ?_
    have:dm x lo hi=.non:=if_neg λz=>by rw [hg]at z;cases z.1.1
    rw [this]at hq
    exact hq
   | true=>
    refine aF ?_
    obtain⟨gd,gn,gl⟩:=gS hg
    have pi:=i6 gd gn
    have no:¬Str.ofString (toString (aZ x))=x->Q .non H1:=λz=>by
     have:dm x lo hi=.non:=if_neg λy=>z y.1.2
     rw [this]at hq
     exact hq
    have yes:Str.ofString (toString (aZ x))=x->∀b:Bool,(b=true↔(lo<=aZ x/\aZ x<=hi))->Q (if b=true then .int (aZ x) else .non) H1:=λz b hb=>by
     have:dm x lo hi=if b=true then .int (aZ x) else .non:=by
      unfold dm
      cases b with
      | true=>rw [if_pos ⟨⟨hg,z⟩,hb.mp rfl⟩];rfl
      | false=>rw [if_neg λy=>by have:=hb.mpr y.2;cases this];rfl
     rw [this]at hq
     exact hq
    refine⟨_,rfl,rfl,(Txt.slice x (some 1) none),_,rfl,rfl,_,rfl,?_⟩
    rw [fN,eh]
    have z0:x=Str.ofString "0"↔x.cps.toList=[48]:=⟨λz=>by rw [z];decide,λz=>cx (z.trans (by decide))⟩
    refine cj (λh2=>⟨_,rfl,rfl,_,rfl,cj (λh3=>?_) λh3=>?_⟩) λh2=>aF ?_
    ·refine no λz=>pi.mp z ⟨of_decide_eq_true h2,λw=>?_⟩
     rw [z0.mpr w]at h3
     exact absurd h3 (by decide)
    ·have hp:Str.ofString (toString (aZ x))=x:=pi.mpr λz=>h3 (by
      rw [Bool.not_eq_true',decide_eq_false_iff_not]
      intro w
      injection w with w
      exact z.2 (z0.mp w))
     have yes:=yes hp
     refine⟨_,rfl,x,aZ x,rfl,ii hg,di gl,?_⟩
     refine⟨_,rfl,_,rfl,_,_,rfl,rfl,_,rfl,cj (λh4=>⟨_,rfl,_,_,rfl,rfl,_,rfl,cj (λh5=>⟨_,rfl,?_⟩) λh5=>?_⟩) λh4=>⟨_,rfl,aF ?_⟩⟩
     ·exact yes true ⟨λ_=>⟨of_decide_eq_true h4,of_decide_eq_true h5⟩,λ_=>rfl⟩
     ·exact yes false ⟨(λz=>by cases z),λz=>absurd (decide_eq_true z.2) h5⟩
     ·exact yes false ⟨(λz=>by cases z),λz=>absurd (decide_eq_true z.1) h4⟩
    ·have hp:Str.ofString (toString (aZ x))=x:=pi.mpr λz=>h2 (decide_eq_true z.1)
     have yes:=yes hp
     refine⟨_,rfl,x,aZ x,rfl,ii hg,di gl,?_⟩
     refine⟨_,rfl,_,rfl,_,_,rfl,rfl,_,rfl,cj (λh4=>⟨_,rfl,_,_,rfl,rfl,_,rfl,cj (λh5=>⟨_,rfl,?_⟩) λh5=>?_⟩) λh4=>⟨_,rfl,aF ?_⟩⟩
     ·exact yes true ⟨λ_=>⟨of_decide_eq_true h4,of_decide_eq_true h5⟩,λ_=>rfl⟩
     ·exact yes false ⟨(λz=>by cases z),λz=>absurd (decide_eq_true z.2) h5⟩
     ·exact yes false ⟨(λz=>by cases z),λz=>absurd (decide_eq_true z.1) h4⟩
  ·have e:x=dN x:=mD (Bool.eq_false_iff.mpr h1)
   have eb:bJ x fm 12=cM x:=congrArg (λz=>bJ z fm 12) e
   have eh:x.cps.toList.head?=(figs x).head?:=congrArg (λz:Str=>z.cps.toList.head?) e
   refine⟨_,rfl,x,fm,12,rfl,hl,λH1 g1=>⟨_,rfl,?_⟩⟩
   have hq:=hq H1 g1
   rw [eb]
   cases hg:cM x with
   | false=>
    refine b5 ?_
    have:dm x lo hi=.non:=if_neg λz=>by rw [hg]at z;cases z.1.1
    rw [this]at hq
    exact hq
   | true=>
    refine aF ?_
    obtain⟨gd,gn,gl⟩:=gS hg
    have pi:=i6 gd gn
    have no:¬Str.ofString (toString (aZ x))=x->Q .non H1:=λz=>by
     have:dm x lo hi=.non:=if_neg λy=>z y.1.2
     rw [this]at hq
     exact hq
    have yes:Str.ofString (toString (aZ x))=x->∀b:Bool,(b=true↔(lo<=aZ x/\aZ x<=hi))->Q (if b=true then .int (aZ x) else .non) H1:=λz b hb=>by
     have:dm x lo hi=if b=true then .int (aZ x) else .non:=by
      unfold dm
      cases b with
      | true=>rw [if_pos ⟨⟨hg,z⟩,hb.mp rfl⟩];rfl
      | false=>rw [if_neg λy=>by have:=hb.mpr y.2;cases this];rfl
     rw [this]at hq
     exact hq
    refine⟨_,rfl,rfl,x,_,rfl,rfl,_,rfl,?_⟩
    rw [fN,eh]
    have z0:x=Str.ofString "0"↔x.cps.toList=[48]:=⟨λz=>by rw [z];decide,λz=>cx (z.trans (by decide))⟩
    refine cj (λh2=>⟨_,rfl,rfl,_,rfl,cj (λh3=>?_) λh3=>?_⟩) λh2=>aF ?_
    ·refine no λz=>pi.mp z ⟨of_decide_eq_true h2,λw=>?_⟩
     rw [z0.mpr w]at h3
     exact absurd h3 (by decide)
    ·have hp:Str.ofString (toString (aZ x))=x:=pi.mpr λz=>h3 (by
      rw [Bool.not_eq_true',decide_eq_false_iff_not]
      intro w
      injection w with w
      exact z.2 (z0.mp w))
     have yes:=yes hp
     refine⟨_,rfl,x,aZ x,rfl,ii hg,di gl,?_⟩
     refine⟨_,rfl,_,rfl,_,_,rfl,rfl,_,rfl,cj (λh4=>⟨_,rfl,_,_,rfl,rfl,_,rfl,cj (λh5=>⟨_,rfl,?_⟩) λh5=>?_⟩) λh4=>⟨_,rfl,aF ?_⟩⟩
     ·exact yes true ⟨λ_=>⟨of_decide_eq_true h4,of_decide_eq_true h5⟩,λ_=>rfl⟩
     ·exact yes false ⟨(λz=>by cases z),λz=>absurd (decide_eq_true z.2) h5⟩
     ·exact yes false ⟨(λz=>by cases z),λz=>absurd (decide_eq_true z.1) h4⟩
    ·have hp:Str.ofString (toString (aZ x))=x:=pi.mpr λz=>h2 (decide_eq_true z.1)
     have yes:=yes hp
     refine⟨_,rfl,x,aZ x,rfl,ii hg,di gl,?_⟩
     refine⟨_,rfl,_,rfl,_,_,rfl,rfl,_,rfl,cj (λh4=>⟨_,rfl,_,_,rfl,rfl,_,rfl,cj (λh5=>⟨_,rfl,?_⟩) λh5=>?_⟩) λh4=>⟨_,rfl,aF ?_⟩⟩
     ·exact yes true ⟨λ_=>⟨of_decide_eq_true h4,of_decide_eq_true h5⟩,λ_=>rfl⟩
     ·exact yes false ⟨(λz=>by cases z),λz=>absurd (decide_eq_true z.2) h5⟩
     ·exact yes false ⟨(λz=>by cases z),λz=>absurd (decide_eq_true z.1) h4⟩
noncomputable def jE:Sp:=λvs H Q _=>∃(a:Addr) (ks:List Str),vs=[.ref a]/\H a=some (.lst (ks.map V.str))/\1<=ks.length/\ks.length<=8/\ks.Nodup/\(∀k∈ks,bJ k bX 8=true/\k.length < sizeLine)/\∀H',aP H H'->Q (.bl true) H'
theorem lI {K:PySem.W.Frag}{E:XK}{σ:St}{H:Hp}{Q:VK}{a:Addr}{ks:List Str} (e0:σ[0]?=some (some (.ref a))) (ha:H a=some (.lst (ks.map V.str))) (hk:∀k∈ks,bJ k bX 8=true/\k.length < sizeLine) (hl:ks.length<=8)
  (hq:∀(D:Addr) (H':Hp),H D=none->aP H H'->H' D=some (.lst ((List.replicate ks.length true).map V.bl))->Q (.ref D) H') :
  iR (tM K (eV 0)) [] (λ_ H Q=>Q true H) (iS (dU K) [] E (bV (eV 0) eR)) σ H Q:=by
 refine⟨_,e0,a,rfl,⟨_,SqL.of ha⟩,λD nD=>dO (K:=K) (a:=a) (xs:=ks.map V.str) (sub:=[]) (tt:=λ_ H Q=>Q true H) (te:=iS (dU K) [] E (bV (eV 0) eR)) (Q:=Q) (σ:=σ)
  (λi ys H2=>ys=(List.replicate i true).map V.bl/\aP H H2/\H2 D=some (.lst ys)) ⟨rfl,aP.new nD,aj⟩ (λi ys H2 _ hh=>?_) (λi x ys H2 hi hh=>?_) λys H2 hh=>?_⟩
 ·exact SqL.of (hh.2.1 _ _ ha)
 ·obtain⟨rfl,g,hD⟩:=hh
  rw [List.getElem?_map]at hi
  cases ek:ks[i]? with
  | none=>rw [ek]at hi;cases hi
  | some k=>
   rw [ek]at hi
   cases hi
   have hil:=(List.getElem?_eq_some_iff.mp ek).1
   obtain⟨k1,k2⟩:=hk k (List.mem_of_getElem? ek)
   refine b5 ⟨_,rfl,.str k,rfl,.inl ⟨k,rfl,k2,λH3 g3=>⟨g3 _ _ hD,?_,?_,?_,?_⟩⟩⟩
   ·rw [List.length_map,List.length_replicate]
    exact be (by omega)
   ·rw [k1,List.replicate_succ',List.map_append];rfl
   ·intro b o e
    rw [al (am e nD)]
    exact g3 _ _ (g _ _ e)
   ·exact aj
 ·obtain⟨rfl,g,hD⟩:=hh
  rw [List.length_map]at hD
  exact hq D H2 nD g hD
theorem jI:FnScope ["thing"] ["thing"] (aw gE):=⟨rfl,rfl,rfl,by decide +kernel,rfl,by decide +kernel,by decide +kernel⟩
theorem nQ {f f1:Addr}{fd:FuncData} (F:Fun K "are_keys" "are_keys" gE f fd) (N:Free mg) (C:Con mg){fd1:FuncData} (CN:Cal P w K mg base "is_name" 2 ["thing"] (dU K) f1 fd1):FnOk P w K mg base CX0 3 f fd ["thing"] jE:=by
 obtain⟨t1,c1⟩:=C.keys
 refine F.ok (k:=2) jI (λvs H Q E h=>?_) (λcdv A outer s H vs Q E hr h=>?_)
 ·obtain⟨a,ks,rfl,_⟩:=h
  rfl
 ·obtain⟨a,ks,rfl,ha,k1,k8,nd,hk,hq⟩:=h
  have hu:=aM hr
  refine⟨_,(ad (aO (PW.pt (jJ (cz (cg (aI cv (by rfl) N.isinstance PyProof.Rows.Boot.«isinstance» (aD (pv 0) (aD (ee (v:=.ty "list") (by rfl) N.list PyProof.Rows.Boot.«list» rfl) ac))))) (i5 (cz (gG dq dq ag (aI aQ (by rfl) N.len PySem.boot_len (aD (pv 0) ac)) (b6 (v:=.int 8) (by rfl) c1 ⟨_,rfl⟩)))))) (af (av gK)) ay)
   (af (av (dD (aI (ip rfl) (by rfl) N.all PyProof.Rows.Boot.«all» (aD (ff (bP rfl (cq (pv 0)) rfl rfl (by show ∀p∈_,i0 [] p;decide) (by decide) rfl (by show ([Str.ofString "key"]:List Str).Nodup;decide) .nil (λC fp s H=>cY) (λC fp s H=>(au CN.ok (hr.mono (by decide)) rfl CN.nm CN.kp CN.bd .nil ar (aD (pv 0) ac))))) ac)) (dh (ba bc (aI im (by rfl) N.len PySem.boot_len (aD (aV (il rfl) (by rfl) N.set PyProof.Rows.Boot.«set» (aD (pv 0) ac)) ac)) (aI aQ (by rfl) N.len PySem.boot_len (aD (pv 0) ac)) (aE _))))))),?_⟩
  have hS:SqL K H a (ks.map V.str):=SqL.of ha
  refine⟨_,rfl,.ref a,"list", _,true,rfl,.lst ha,by rfl,_,rfl,aF ?_⟩
  refine⟨_,rfl,a,_,rfl,.inl hS,_,_,rfl,rfl,_,rfl,?_⟩
  rw [List.length_map,decide_eq_true (show (1:Int)<=ks.length by omega)]
  refine b5 ⟨_,_,rfl,rfl,_,rfl,?_⟩
  rw [decide_eq_true (show (ks.length:Int)<=8 by omega)]
  refine aF ?_
  refine ai ?_
  dsimp only
  refine az (oW (sk (cy ?_)))
  refine lI rfl ha hk k8 ?_
  intro D H' nD g hD
  refine⟨D,_,rfl,SqL.of hD,_,rfl,?_⟩
  rw [show (List.replicate ks.length true).all id=true from by simp]
  refine b5 ?_
  refine⟨_,rfl,a,ks,rfl,SqL.of (g _ _ ha),by omega,λp np=>?_⟩
  refine⟨p,ks,rfl,aj,_,rfl,a,_,rfl,.inl (SqL.of (by rw [al (am (g _ _ ha) np)];exact g _ _ ha)),rfl,?_⟩
  rw [List.length_map,ik nd _ (Nat.le_refl _),decide_eq_true rfl]
  exact hq _ (g.trans (aP.new np))
noncomputable def bC (ks:List Str):List Str:=ks.foldl (λacc k=>if k∈acc then acc else acc++[k]) []
theorem fE (ks:List Str) (k:Str):bC (ks++[k])=if k∈bC ks then bC ks else bC ks++[k]:=by
 unfold bC
 rw [List.foldl_append]
 rfl
theorem fh:∀(n:Nat) (ks:List Str),ks.length=n->(bC ks).length<=n
 | 0,ks,h=>by rw [List.length_eq_zero_iff.mp h];exact Nat.le_refl _
 | n+1,ks,h=>by
  obtain⟨xs,x,rfl⟩:∃xs x,ks=xs++[x]:=⟨ks.dropLast,ks.getLast (by intro z;rw [z]at h;cases h),(List.dropLast_concat_getLast _).symm⟩
  rw [List.length_append,List.length_singleton]at h
  have ih:=fh n xs (by omega)
  rw [fE]
  split
  ·omega
  ·rw [List.length_append,List.length_singleton];omega
theorem bb (k:Str) (xs:List Str):inV (.str k) (xs.map V.str)=decide (k∈xs):=by
 unfold inV
 rw [List.any_map,Bool.eq_iff_iff,List.any_eq_true,decide_eq_true_iff]
 constructor
 ·rintro⟨y,hy,e⟩
  have e:(y == k)=true:=e
  rw [<- eq_of_beq e];exact hy
 ·intro h
  exact⟨k,h,beq_self_eq_true k⟩
noncomputable def r9 (K:PySem.W.Frag):Sp:=λvs H Q _=>∃(a:Addr) (ks:List Str),vs=[.ref a]/\SqL K H a (ks.map V.str)/\ks.length<=900/\∀p,H p=none->Q (.ref p) (upd H p (.lst ((bC ks).map V.str)))
theorem qU {K:PySem.W.Frag}{H:Hp}{a p:Addr}{xs:List V}{o:HO} (h:SqL K H a xs) (np:H p=none):SqL K (upd H p o) a xs:=by
 rcases h with(e | ⟨u,e⟩) | e
 ·exact .inl (.inl (by rw [al (am e np)];exact e))
 ·exact .inl (.inr ⟨u,by rw [al (am e np)];exact e⟩)
 ·exact .inr e
theorem n9:FnScope ["keys", "once", "key"] ["keys"] (aw rS):=⟨rfl,rfl,rfl,by decide +kernel,rfl,by decide +kernel,by decide +kernel⟩
theorem v3 {f:Addr}{fd:FuncData} (F:Fun K "each_once" "each_once" rS f fd)  : FnOk P w K mg base CX0 1 f fd ["keys"] (r9 K):=by
 refine F.ok (k:=0) n9 (λvs H Q E h=>?_) (λcdv A outer s H vs Q E hr h=>?_)
 ·obtain⟨a,ks,rfl,_⟩:=h
  rfl
 ·obtain⟨a,ks,rfl,ha,hl,q⟩:=h
  have hu:=aM hr
  refine⟨_,(ad (ax (i:=1) n9.nd rfl (Or.inl rfl) (aH ac))
   (ad (cS PassesOwn.never rfl (cq (pv 0)) (bO (i:=2) n9.nd rfl (Or.inl rfl))
   (af (aO (aC ll (pv 2) (pv 1) (by with_unfolding_all rfl)) (af (aY (bW PySem.F.plainAttrs_list PySem.F.slot_list_append PySem.F.type_list_append df (pv 1) (aa (pv 2) ac)))) ay)))
   (af (av (pv 1))))),?_⟩
  refine ae (ao ⟨by show 0<=sizeLine;decide,λp np=>?_⟩)
  dsimp only [aA,List.set_cons_zero,List.set_cons_succ]
  refine ae ⟨_,rfl,a,rfl,⟨_,qU ha np⟩,dk (K:=K) (a:=a) (xs:=ks.map V.str) (λi σ H2=>H2=upd H p (.lst ((bC (ks.take i)).map V.str))/\∃v2,σ=[some (.ref a),some (.ref p),v2]) ⟨rfl,none,rfl⟩ (λi σ H2 _ hh=>?_) (λi x σ H2 hi hh=>?_) λσ H2 hh=>?_⟩
  ·obtain⟨rfl,v2,rfl⟩:=hh
   exact qU ha np
  ·obtain⟨rfl,v2,rfl⟩:=hh
   rw [List.getElem?_map]at hi
   obtain⟨k,hk,rfl⟩:=Option.map_eq_some_iff.mp hi
   have hik:=(List.getElem?_eq_some_iff.mp hk).1
   dsimp only [aA,List.set_cons_zero,List.set_cons_succ]
   have hol:(bC (ks.take i)).length<=i:=fh i _ (by rw [List.length_take];omega)
   have et:ks.take (i+1)=ks.take i++[k]:=by rw [List.take_add_one,hk];rfl
   refine aq ⟨_,rfl,_,rfl,p,_,rfl,.inl (SqL.of aj),rfl,?_,?_⟩
   ·rw [List.all_map,List.all_eq_true];intro _ _;rfl
   rw [if_pos rfl,bb]
   refine⟨_,rfl,?_⟩
   by_cases z:k∈bC (ks.take i)
   ·rw [decide_eq_true z]
    refine aF (ai ⟨?_,_,rfl⟩)
    rw [et,fE,if_pos z]
   ·rw [decide_eq_false z]
    refine b5 (aS ⟨_,rfl,.inl ⟨rfl,_,SqL.of aj⟩,_,rfl,p,_,_,rfl,rfl,aj,by rw [List.length_map];exact be (by omega),?_,_,rfl⟩)
    rw [bv,et,fE,if_neg z,List.map_append];rfl
  ·obtain⟨rfl,v2,rfl⟩:=hh
   rw [List.length_map,List.take_length]
   exact az ⟨_,rfl,q p np⟩
end Mine
namespace L2
open PySem PySem.Spec PyProof.Rows
theorem jv:∀l:List (Str × Tok),aX ((l.map (·.1)).map V.str) (strValues l)
 | []=>.nil
 | p::l=>.cons ⟨p.2,rfl⟩ (jv l)
inductive rSplit (x:V) (xs:List V) (H:Hp) (Q:VK):Prop
 | mk (i j) (h1:x=.str i) (h2:xs=[.str j]) (h3:(j.length == 0)=false) (h4:i.length<=sizeLine) (h5:(Txt.split i j).length<=sizeLine) (h6:∀l,H l=none->Q (.ref l) (upd H l (.lst ((Txt.split i j).map V.str)))):rSplit x xs H Q
theorem fi {X:Cx}:MtR X "str.split" rSplit:=by
 intro pins s σ H x xs v us Q I rx rv h
 obtain⟨i,j,rfl,rfl,hj,hi,hl,q⟩:=h
 obtain⟨t,rfl⟩:=rx
 obtain⟨u,rfl,ru⟩:=aX.one rv
 obtain⟨t2,rfl⟩:=ru
 have fin:∀(l:List (Str × Tok)) (tk c:Nat),l.map (·.1)=Txt.split i j->EP X pins σ Q (.ref s.heap.objs.size) { s with toks:=tk,heap:=s.heap.push { cls:=.type "list", data:=.seq (strValues l).toArray c } }:=λl tk c e=>by
  have vv:=jv l
  rw [e]at vv
  exact⟨.ref s.heap.objs.size,_,I.laid (t':=tk) (λb o eb=>Heap.get?_push_of_some _ eb) (Nat.le_refl _) (show bB X.prog X.w _ _ _ (.lst ((Txt.split i j).map V.str)) from ⟨by rw [List.length_map];exact hl,strValues l,c,vv,Heap.get?_push_size _ rfl⟩),rfl,q _ (I.hok.fresh (Nat.le_refl _))⟩
 cases c1:(decide (i.length < j.length) || decide (Builtin.Str.strKind i < Builtin.Str.strKind j)) with
 | true=>
  refine call_meets F.slot_str_split (typeIs_str _ _ _) F.entry_str_split (F.args_str_split_2 _ _) (meets_str_split_cannot_occur i j t t2 c1) ?_
  exact fin [(i,t)] s.toks _ (if_pos c1).symm
 | false=>
  cases c2:(Builtin.Str.occurrences i j 0 i.length (i.length+1)).isEmpty with
  | true=>
   refine call_meets F.slot_str_split (typeIs_str _ _ _) F.entry_str_split (F.args_str_split_2 _ _) (meets_str_split_not_found i j t t2 c1 hj c2) ?_
   exact fin [(i,t)] s.toks _ ((if_neg (ne_true_of_eq_false c1)).trans (if_pos c2)).symm
  | false=>
   have es:Txt.split i j=Builtin.Str.partsBetween i (Builtin.Str.occurrences i j 0 i.length (i.length+1)) j.length:=(if_neg (ne_true_of_eq_false c1)).trans (if_neg (ne_true_of_eq_false c2))
   refine call_meets F.slot_str_split (typeIs_str _ _ _) F.entry_str_split (F.args_str_split_2 _ _) (meets_str_split_sep i j t t2 c1 hj c2 hi (by rw [<- es];exact hl)) ?_
   rw [strsFrom_eq]
   exact fin (numbered s.toks _) _ _ ((numbered_texts _ _).trans es.symm)
theorem mG {c:Nat}{A B:List Nat}:∀{p q:List Nat},c∉p->c∉q->p++c::A=q++c::B->p=q/\A=B
 | [],[],_,_,h=>⟨rfl,(List.cons.inj h).2⟩
 | [],y::q,_,hq,h=>absurd (List.mem_cons.mpr (.inl (List.cons.inj h).1)) hq
 | x::p,[],hp,_,h=>absurd (List.mem_cons.mpr (.inl (List.cons.inj h).1.symm)) hp
 | x::p,y::q,hp,hq,h=>by
  obtain⟨h1,h2⟩:=List.cons.inj h
  obtain⟨e1,e2⟩:=mG (λz=>hp (List.mem_cons_of_mem _ z)) (λz=>hq (List.mem_cons_of_mem _ z)) h2
  exact⟨by rw [h1,e1],e2⟩
theorem fk (c:Nat) (x y:Str) (zs:List Str):(Str.join ⟨#[c]⟩ (x::y::zs)).cps.toList=x.cps.toList++c::(Str.join ⟨#[c]⟩ (y::zs)).cps.toList:=by
 show (x++(⟨#[c]⟩:Str)++Str.join ⟨#[c]⟩ (y::zs)).cps.toList=_
 rw [iQ,iQ,List.append_assoc]
 rfl
theorem mw {c:Nat}:∀{ps qs:List Str},ps≠[]->qs≠[]->(∀w∈ps,c∉w.cps.toList)->(∀w∈qs,c∉w.cps.toList)->Str.join ⟨#[c]⟩ ps=Str.join ⟨#[c]⟩ qs->ps=qs
 | [],_,h,_,_,_,_=>absurd rfl h
 | _,[],_,h,_,_,_=>absurd rfl h
 | [p],[q],_,_,_,_,h=>by
  have h:p=q:=h
  rw [h]
 | [p],q::q'::qs,_,_,hp,_,h=>by
  have h:p=Str.join ⟨#[c]⟩ (q::q'::qs):=h
  have e:=congrArg (λx:Str=>x.cps.toList) h
  rw [fk]at e
  exact absurd (by rw [e];exact List.mem_append_right _ List.mem_cons_self) (hp p List.mem_cons_self)
 | p::p'::ps,[q],_,_,_,hq,h=>by
  have h:Str.join ⟨#[c]⟩ (p::p'::ps)=q:=h
  have e:=congrArg (λx:Str=>x.cps.toList) h
  rw [fk]at e
  exact absurd (by rw [<- e];exact List.mem_append_right _ List.mem_cons_self) (hq q List.mem_cons_self)
 | p::p'::ps,q::q'::qs,_,_,hp,hq,h=>by
  have e:=congrArg (λx:Str=>x.cps.toList) h
  rw [fk,fk]at e
  obtain⟨e1,e2⟩:=mG (hp p List.mem_cons_self) (hq q List.mem_cons_self) e
  rw [cx e1,mw (ps:=p'::ps) (qs:=q'::qs) (by simp) (by simp) (λw hw=>hp w (List.mem_cons_of_mem _ hw)) (λw hw=>hq w (List.mem_cons_of_mem _ hw)) (cx e2)]
theorem iT {ws:List Str}{c:Nat} (hne:ws≠[]) (hf:∀w∈ws,c∉w.cps.toList):Txt.split (Txt.join ⟨#[c]⟩ ws) ⟨#[c]⟩=ws:=by
 have e:Txt.join ⟨#[c]⟩ ws=Str.join ⟨#[c]⟩ ws:=by
  show Builtin.Str.glued ⟨#[c]⟩ ws=_
  exact StrLaws.glued_eq_join _ _
 rw [e]
 refine mw (λz=>?_) hne (StrLaws.split_free _ _) hf (StrLaws.join_split _ _)
 have:=PyProof.Rows.split_pos (Str.join ⟨#[c]⟩ ws) ⟨#[c]⟩
 rw [z]at this
 cases this
end L2
namespace Mine
open PySem L2
variable {P:Program}{w:World}{K:PySem.W.Frag}{mg:Str->Option Value}{base:Heap}
noncomputable abbrev oR:Stmt:=bi (top 40) 1
noncomputable abbrev sGo:Stmt:=bi (top 40) 2
structure RdC (K:PySem.W.Frag) (R:Addr):Prop where
 cl:Cls K R
 n1:NoAttr K R "words"
 n2:NoAttr K R "place"
 n3:NoAttr K R "opened"
noncomputable def dI (lw:Addr) (pl op:Int):List (Str × V):=[("words", V.ref lw),("place", V.int pl),("opened", V.int op)]
theorem sj (lw:Addr) (pl op:Int):(dI lw pl op).lookup ("words" : Str)=some (.ref lw):=rfl
theorem kY (lw:Addr) (pl op:Int):(dI lw pl op).lookup ("place" : Str)=some (.int pl):=by
 unfold dI
 rw [List.lookup_cons,show (("place" : Str) == ("words" : Str))=false from by decide +kernel]
 rfl
theorem xy (lw:Addr) (pl op pl':Int):cH "place" (.int pl') (dI lw pl op)=dI lw pl' op:=by
 rfl
structure RdAt (R:Addr) (H:Hp) (r lw:Addr) (ws:List Str) (pl:Nat) (op:Int):Prop where
 ob:∃dx,H r=some (.ins R dx (dI lw pl op))
 wd:H lw=some (.lst (ws.map V.str))
noncomputable def eX (R:Addr):Sp:=λvs H Q _=>∃(r lw:Addr) (ws:List Str) (pl:Nat) (op:Int) (w:Str),vs=[.ref r]/\RdAt R H r lw ws pl op/\ws[pl]?=some w/\Q (.str w) H
noncomputable def lQ (R:Addr):Sp:=λvs H Q _=>∃(r lw:Addr) (ws:List Str) (pl:Nat) (op:Int),vs=[.ref r,.bl true]/\RdAt R H r lw ws pl op/\∀H',(∀b o,H b=some o->b≠r->H' b=some o)->RdAt R H' r lw ws (pl+1) op->Q .non H'
theorem rL:FnScope ["self"] ["self"] (aw oR):=⟨rfl,rfl,rfl,by decide +kernel,rfl,by decide +kernel,by decide +kernel⟩
theorem pf {f R:Addr}{fd:FuncData} (F:Fun K "here" "Reader.here" oR f fd) (N:Free mg) (T:RdC K R):FnOk P w K mg base CX0 1 f fd ["self"] (eX R):=by
 refine F.ok (k:=0) rL (λvs H Q E h=>?_) (λcdv A outer s H vs Q E hr h=>?_)
 ·obtain⟨r,lw,ws,pl,op,w,rfl,_⟩:=h
  rfl
 ·obtain⟨r,lw,ws,pl,op,w,rfl,⟨⟨dx,ho⟩,hw⟩,hx,q⟩:=h
  have hu:=aM hr
  refine⟨_,(ad (aO (aC bc (bR (pv 0) rfl) (aI aQ (by rfl) N.len PySem.boot_len (aa (bR (pv 0) rfl) ac)) (aE _)) (af gI) ay)
   (af (av (b9 aT (bR (pv 0) rfl) (bR (pv 0) rfl) (λ_ _=>rfl))))),?_⟩
  have hlt:=(List.getElem?_eq_some_iff.mp hx).1
  have at0:SqL K H lw (ws.map V.str):=SqL.of hw
  refine ae (aq ⟨_,rfl,r,R,dx,_,_,rfl,ho,T.cl,T.n2,kY _ _ _,_,rfl,r,R,dx,_,_,rfl,ho,T.cl,T.n1,sj _ _ _,lw,_,rfl,.inl at0,rfl,_,rfl,?_⟩)
  rw [List.length_map,decide_eq_false (λz=>by have:=V.int.inj z;omega)]
  refine aF (ai ?_)
  dsimp only
  exact az ⟨_,rfl,r,R,dx,_,_,rfl,ho,T.cl,T.n1,sj _ _ _,_,rfl,r,R,dx,_,_,rfl,ho,T.cl,T.n2,kY _ _ _,lw,_,_,.str w,rfl,rfl,at0,dB (by rw [List.getElem?_map,hx];rfl),q⟩
theorem yY:FnScope ["self", "can_stand"] ["self", "can_stand"] (aw sGo):=⟨rfl,rfl,rfl,by decide +kernel,rfl,by decide +kernel,by decide +kernel⟩
theorem wt {f R:Addr}{fd:FuncData} (F:Fun K "go_on" "Reader.go_on" sGo f fd) (N:Free mg) (T:RdC K R):FnOk P w K mg base CX0 1 f fd ["self", "can_stand"] (lQ R):=by
 refine F.ok (k:=0) yY (λvs H Q E h=>?_) (λcdv A outer s H vs Q E hr h=>?_)
 ·obtain⟨r,lw,ws,pl,op,rfl,_⟩:=h
  rfl
 ·obtain⟨r,lw,ws,pl,op,rfl,⟨⟨dx,ho⟩,hw⟩,q⟩:=h
  have hu:=aM hr
  refine⟨_,(ad (aO (cz (cg (pv 1))) (af gI) ay)
   (af (de (pv 0) ag ls))),?_⟩
  refine ae (aq ⟨_,rfl,_,rfl,aF (ai ?_)⟩)
  dsimp only
  refine⟨_,rfl,r,R,dx,_,_,rfl,ho,T.cl,T.n2,kY _ _ _,_,_,rfl,rfl,dx,_,ho,by show 3 < 1000;decide,?_⟩
  rw [xy]
  have hlr:lw≠r:=eP hw ho (λz=>nomatch z)
  exact q _ (λb o e n=>by rw [al n];exact e) ⟨⟨dx,aj⟩,by rw [al hlr];exact hw⟩
noncomputable abbrev oP:Stmt:=bi (top 40) 4
noncomputable abbrev oO:Stmt:=bi (top 40) 5
noncomputable abbrev oS:Stmt:=bi (top 40) 6
noncomputable abbrev oQ:Stmt:=bi (top 40) 7
theorem aG (lw:Addr) (pl op:Int){m:Str} (h1:decide (m = "words")=false) (h2:decide (m = "place")=false) (h3:decide (m = "opened")=false):(dI lw pl op).lookup m=none:=by
 unfold dI
 rw [List.lookup_cons,beq_eq_false_iff_ne.mpr (of_decide_eq_false h1),List.lookup_cons,beq_eq_false_iff_ne.mpr (of_decide_eq_false h2),List.lookup_cons,beq_eq_false_iff_ne.mpr (of_decide_eq_false h3)]
 rfl
theorem RdAt.keep {R:Addr}{H H':Hp}{r lw:Addr}{ws:List Str}{pl:Nat}{op:Int} (h:RdAt R H r lw ws pl op) (g:aP H H'):RdAt R H' r lw ws pl op:=⟨let ⟨dx,e⟩:=h.ob;⟨dx,g _ _ e⟩,g _ _ h.wd⟩
noncomputable def Ofr (r:Addr) (H H':Hp):Prop:=∀b o,H b=some o->b≠r->H' b=some o
noncomputable def iV (R:Addr):Sp:=λvs H Q _=>∃(r lw:Addr) (ws:List Str) (pl:Nat) (op lo hi v:Int) (w:Str),vs=[.ref r,.int lo,.int hi]/\RdAt R H r lw ws pl op/\ws[pl]?=some w/\w.length < sizeLine/\dm w lo hi=.int v/\∀H',Ofr r H H'->RdAt R H' r lw ws (pl+1) op->Q (.int v) H'
noncomputable def mS (R:Addr):Sp:=λvs H Q _=>∃(r lw:Addr) (ws:List Str) (pl:Nat) (op v:Int) (w:Str),vs=[.ref r]/\RdAt R H r lw ws pl op/\ws[pl]?=some w/\w.length < sizeLine/\dm w (-1000000000) 1000000000=.int v/\∀H',Ofr r H H'->RdAt R H' r lw ws (pl+1) op->Q (.int v) H'
noncomputable def i3 (R:Addr):Sp:=λvs H Q _=>∃(r lw:Addr) (ws:List Str) (pl:Nat) (op lo v:Int) (w:Str),vs=[.ref r,.int lo]/\RdAt R H r lw ws pl op/\ws[pl]?=some w/\w.length < sizeLine/\dm w lo 399=.int v/\∀H',Ofr r H H'->RdAt R H' r lw ws (pl+1) op->Q (.int v) H'
noncomputable def mV (R:Addr):Sp:=λvs H Q _=>∃(r lw:Addr) (ws:List Str) (pl:Nat) (op:Int) (w:Str),vs=[.ref r]/\RdAt R H r lw ws pl op/\ws[pl]?=some w/\w.length < sizeLine/\bJ w bX 8=true/\∀H',Ofr r H H'->RdAt R H' r lw ws (pl+1) op->Q (.str w) H'
theorem kQ:FnScope ["self", "low", "high", "number"] ["self", "low", "high"] (aw oP):=⟨rfl,rfl,rfl,by decide +kernel,rfl,by decide +kernel,by decide +kernel⟩
theorem pd {f f1 f2 f3 R:Addr}{fd:FuncData} (F:Fun K "number_here" "Reader.number_here" oP f fd) (N:Free mg) (T:RdC K R){fd1:FuncData} (MH:MC P w K mg base R "here" 1 ["self"] [] [] (eX R) f1 fd1){fd2:FuncData} (MG:MC P w K mg base R "go_on" 1 ["self", "can_stand"] [] [] (lQ R) f2 fd2){fd3:FuncData} (CO:Cal P w K mg base "number_of" 2 ["text", "low", "high"] iU f3 fd3):FnOk P w K mg base CX0 3 f fd ["self", "low", "high"] (iV R):=by
 refine F.ok (k:=2) kQ (λvs H Q E h=>?_) (λcdv A outer s H vs Q E hr h=>?_)
 ·obtain⟨r,lw,ws,pl,op,lo,hi,v,w,rfl,_⟩:=h
  rfl
 ·obtain⟨r,lw,ws,pl,op,lo,hi,v,w,rfl,h,hx,hl,hv,q⟩:=h
  have hu:=aM hr
  refine⟨_,(ad (ax (i:=3) kQ.nd rfl (Or.inl rfl) (au CO.ok (hr.mono (by decide)) rfl CO.nm CO.kp CO.bd .nil ar (aa (aK (pv 0) MH.cl MH.mt MH.ok (hr.mono (by decide)) MH.bd MH.dv ar) (aa (pv 1) (aa (pv 2) ac)))))
   (ad (aY (aW (pv 0) MG.cl MG.mt MG.ok (hr.mono (by decide)) MG.bd MG.dv ar (aa (nL (lh (pv 3))) ac)))
   (af (av (pv 3))))),?_⟩
  obtain⟨dx,ho⟩:=h.ob
  refine ae (ao ⟨_,rfl,r,dx,_,rfl,ho,aG _ _ _ (by decide +kernel) (by decide +kernel) (by decide +kernel),r,lw,ws,pl,op,w,rfl,h,hx,_,rfl,_,rfl,w,lo,hi,rfl,hl,λH1 g1=>?_⟩)
  rw [hv]
  dsimp only [aA,List.set_cons_zero,List.set_cons_succ]
  have h1:=h.keep g1
  obtain⟨dx1,ho1⟩:=h1.ob
  refine ae (aS ⟨_,rfl,r,dx1,_,rfl,ho1,aG _ _ _ (by decide +kernel) (by decide +kernel) (by decide +kernel),_,rfl,r,lw,ws,pl,op,rfl,h1,λH2 o2 h2=>?_⟩)
  dsimp only
  exact az ⟨_,rfl,q H2 (λb o e n=>o2 _ _ (g1 _ _ e) n) h2⟩
theorem kR:FnScope ["self", "key"] ["self"] (aw oQ):=⟨rfl,rfl,rfl,by decide +kernel,rfl,by decide +kernel,by decide +kernel⟩
theorem pe {f f1 f2 f3 R:Addr}{fd:FuncData} (F:Fun K "key_here" "Reader.key_here" oQ f fd) (N:Free mg) (T:RdC K R){fd1:FuncData} (MH:MC P w K mg base R "here" 1 ["self"] [] [] (eX R) f1 fd1){fd2:FuncData} (MG:MC P w K mg base R "go_on" 1 ["self", "can_stand"] [] [] (lQ R) f2 fd2){fd3:FuncData} (CN:Cal P w K mg base "is_name" 2 ["thing"] (dU K) f3 fd3):FnOk P w K mg base CX0 3 f fd ["self"] (mV R):=by
 refine F.ok (k:=2) kR (λvs H Q E h=>?_) (λcdv A outer s H vs Q E hr h=>?_)
 ·obtain⟨r,lw,ws,pl,op,w,rfl,_⟩:=h
  rfl
 ·obtain⟨r,lw,ws,pl,op,w,rfl,h,hx,hl,hv,q⟩:=h
  have hu:=aM hr
  refine⟨_,(ad (ax (i:=1) kR.nd rfl (Or.inl rfl) (aK (pv 0) MH.cl MH.mt MH.ok (hr.mono (by decide)) MH.bd MH.dv ar))
   (ad (aY (aW (pv 0) MG.cl MG.mt MG.ok (hr.mono (by decide)) MG.bd MG.dv ar (aa (au CN.ok (hr.mono (by decide)) rfl CN.nm CN.kp CN.bd .nil ar (aa (pv 1) ac)) ac)))
   (af (av (pv 1))))),?_⟩
  obtain⟨dx,ho⟩:=h.ob
  refine ae (ao ⟨_,rfl,r,dx,_,rfl,ho,aG _ _ _ (by decide +kernel) (by decide +kernel) (by decide +kernel),r,lw,ws,pl,op,w,rfl,h,hx,?_⟩)
  dsimp only [aA,List.set_cons_zero,List.set_cons_succ]
  refine ae (aS ⟨_,rfl,r,dx,_,rfl,ho,aG _ _ _ (by decide +kernel) (by decide +kernel) (by decide +kernel),_,rfl,.str w,rfl,.inl ⟨w,rfl,hl,λH1 g1=>?_⟩⟩)
  rw [hv]
  exact⟨r,lw,ws,pl,op,rfl,h.keep g1,λH2 o2 h2=>az ⟨_,rfl,q H2 (λb o e n=>o2 _ _ (g1 _ _ e) n) h2⟩⟩
theorem rF:FnScope ["self"] ["self"] (aw oO):=⟨rfl,rfl,rfl,by decide +kernel,rfl,by decide +kernel,by decide +kernel⟩
theorem pc {f f1 R:Addr}{fd:FuncData} (F:Fun K "value_here" "Reader.value_here" oO f fd) (N:Free mg) (Z:Con mg) (T:RdC K R){fd1:FuncData} (MN:MC P w K mg base R "number_here" 3 ["self", "low", "high"] [] [] (iV R) f1 fd1):FnOk P w K mg base CX0 4 f fd ["self"] (mS R):=by
 obtain⟨t1,c1⟩:=Z.value
 refine F.ok (k:=3) rF (λvs H Q E h=>?_) (λcdv A outer s H vs Q E hr h=>?_)
 ·obtain⟨r,lw,ws,pl,op,v,w,rfl,_⟩:=h
  rfl
 ·obtain⟨r,lw,ws,pl,op,v,w,rfl,h,hx,hl,hv,q⟩:=h
  have hu:=aM hr
  refine⟨_,(af (av (aW (pv 0) MN.cl MN.mt MN.ok (hr.mono (by decide)) MN.bd MN.dv ar (aa (p8 kl (b6 (v:=.int 1000000000) (by rfl) c1 ⟨_,rfl⟩)) (aa (b6 (v:=.int 1000000000) (by rfl) c1 ⟨_,rfl⟩) ac))))),?_⟩
  obtain⟨dx,ho⟩:=h.ob
  exact⟨_,rfl,r,dx,_,rfl,ho,aG _ _ _ (by decide +kernel) (by decide +kernel) (by decide +kernel),_,rfl,r,lw,ws,pl,op,-1000000000,1000000000,v,w,rfl,h,hx,hl,hv,q⟩
theorem rO:FnScope ["self", "earliest"] ["self", "earliest"] (aw oS):=⟨rfl,rfl,rfl,by decide +kernel,rfl,by decide +kernel,by decide +kernel⟩
theorem ph {f f1 R:Addr}{fd:FuncData} (F:Fun K "day_here" "Reader.day_here" oS f fd) (N:Free mg) (Z:Con mg) (T:RdC K R){fd1:FuncData} (MN:MC P w K mg base R "number_here" 3 ["self", "low", "high"] [] [] (iV R) f1 fd1):FnOk P w K mg base CX0 4 f fd ["self", "earliest"] (i3 R):=by
 obtain⟨t1,c1⟩:=Z.lastday
 refine F.ok (k:=3) rO (λvs H Q E h=>?_) (λcdv A outer s H vs Q E hr h=>?_)
 ·obtain⟨r,lw,ws,pl,op,lo,v,w,rfl,_⟩:=h
  rfl
 ·obtain⟨r,lw,ws,pl,op,lo,v,w,rfl,h,hx,hl,hv,q⟩:=h
  have hu:=aM hr
  refine⟨_,(af (av (aW (pv 0) MN.cl MN.mt MN.ok (hr.mono (by decide)) MN.bd MN.dv ar (aa (pv 1) (aa (b6 (v:=.int 399) (by rfl) c1 ⟨_,rfl⟩) ac))))),?_⟩
  obtain⟨dx,ho⟩:=h.ob
  exact⟨_,rfl,r,dx,_,rfl,ho,aG _ _ _ (by decide +kernel) (by decide +kernel) (by decide +kernel),_,rfl,r,lw,ws,pl,op,lo,399,v,w,rfl,h,hx,hl,hv,q⟩
noncomputable abbrev kW:Stmt:=bi (top 40) 8
noncomputable abbrev kT:Stmt:=bi (top 40) 9
noncomputable abbrev iI:Stmt:=bi (top 40) 10
noncomputable abbrev uG:Stmt:=bi (top 40) 11
theorem uJ (lw:Addr) (pl op:Int):(dI lw pl op).lookup ("opened" : Str)=some (.int op):=by
 unfold dI
 rw [List.lookup_cons,show (("opened" : Str) == ("words" : Str))=false from by decide +kernel,List.lookup_cons,show (("opened" : Str) == ("place" : Str))=false from by decide +kernel]
 rfl
theorem oU (lw:Addr) (pl op op':Int):cH "opened" (.int op') (dI lw pl op)=dI lw pl op':=by rfl
noncomputable def gy (R:Addr):Sp:=λvs H Q _=>∃(r lw:Addr) (ws:List Str) (pl:Nat) (op:Int),vs=[.ref r]/\RdAt R H r lw ws pl op/\ws[pl]?=some (Str.ofString "(")/\op < 3/\∀H',Ofr r H H'->RdAt R H' r lw ws (pl+1) (op+1)->Q .non H'
noncomputable def eY (R:Addr):Sp:=λvs H Q _=>∃(r lw:Addr) (ws:List Str) (pl:Nat) (op:Int),vs=[.ref r]/\RdAt R H r lw ws pl op/\ws[pl]?=some (Str.ofString ")")/\∀H',Ofr r H H'->RdAt R H' r lw ws (pl+1) (op - 1)->Q .non H'
noncomputable def rq (R:Addr):Sp:=λvs H Q _=>∃(r lw:Addr) (ws:List Str) (op:Int),vs=[.ref r]/\RdAt R H r lw ws ws.length op/\Q .non H
theorem oK:FnScope ["self"] ["self"] (aw kT):=⟨rfl,rfl,rfl,by decide +kernel,rfl,by decide +kernel,by decide +kernel⟩
theorem md {f f1 f2 R:Addr}{fd:FuncData} (F:Fun K "bracket_opens" "Reader.bracket_opens" kT f fd) (N:Free mg) (Z:Con mg) (T:RdC K R){fd1:FuncData} (MH:MC P w K mg base R "here" 1 ["self"] [] [] (eX R) f1 fd1){fd2:FuncData} (MG:MC P w K mg base R "go_on" 1 ["self", "can_stand"] [] [] (lQ R) f2 fd2):FnOk P w K mg base CX0 2 f fd ["self"] (gy R):=by
 obtain⟨t1,c1⟩:=Z.opn
 refine F.ok (k:=1) oK (λvs H Q E h=>?_) (λcdv A outer s H vs Q E hr h=>?_)
 ·obtain⟨r,lw,ws,pl,op,rfl,_⟩:=h
  rfl
 ·obtain⟨r,lw,ws,pl,op,rfl,h,hx,h3,q⟩:=h
  have hu:=aM hr
  refine⟨_,(ad (aY (aW (pv 0) MG.cl MG.mt MG.ok (hr.mono (by decide)) MG.bd MG.dv ar (aa (dD (ba bc (aK (pv 0) MH.cl MH.mt MH.ok (hr.mono (by decide)) MH.bd MH.dv ar) ah (aE _)) (dh (ba eO (bR (pv 0) rfl) (b6 (v:=.int 3) (by rfl) c1 ⟨_,rfl⟩) (aE _)))) ac)))
   (af (de (pv 0) ag ls))),?_⟩
  obtain⟨dx,ho⟩:=h.ob
  refine ae (aS ⟨_,rfl,r,dx,_,rfl,ho,aG _ _ _ (by decide +kernel) (by decide +kernel) (by decide +kernel),_,rfl,r,dx,_,rfl,ho,aG _ _ _ (by decide +kernel) (by decide +kernel) (by decide +kernel),r,lw,ws,pl,op,_,rfl,h,hx,rfl,_,rfl,b5 ?_⟩)
  refine⟨_,rfl,r,R,dx,_,_,rfl,ho,T.cl,T.n3,uJ _ _ _,_,_,rfl,rfl,?_⟩
  rw [decide_eq_true h3]
  refine⟨r,lw,ws,pl,op,rfl,h,λH1 o1 h1=>?_⟩
  obtain⟨dx1,ho1⟩:=h1.ob
  refine⟨_,rfl,r,R,dx1,_,_,rfl,ho1,T.cl,T.n3,uJ _ _ _,_,_,rfl,rfl,dx1,_,ho1,by show 3 < 1000;decide,?_⟩
  rw [oU]
  have hlr:lw≠r:=eP h1.wd ho1 (λz=>nomatch z)
  exact q _ (λb o e n=>by rw [al n];exact o1 _ _ e n) ⟨⟨dx1,aj⟩,by rw [al hlr];exact h1.wd⟩
theorem lX:FnScope ["self"] ["self"] (aw iI):=⟨rfl,rfl,rfl,by decide +kernel,rfl,by decide +kernel,by decide +kernel⟩
theorem jM {f f1 f2 R:Addr}{fd:FuncData} (F:Fun K "bracket_closes" "Reader.bracket_closes" iI f fd) (N:Free mg) (T:RdC K R){fd1:FuncData} (MH:MC P w K mg base R "here" 1 ["self"] [] [] (eX R) f1 fd1){fd2:FuncData} (MG:MC P w K mg base R "go_on" 1 ["self", "can_stand"] [] [] (lQ R) f2 fd2):FnOk P w K mg base CX0 2 f fd ["self"] (eY R):=by
 refine F.ok (k:=1) lX (λvs H Q E h=>?_) (λcdv A outer s H vs Q E hr h=>?_)
 ·obtain⟨r,lw,ws,pl,op,rfl,_⟩:=h
  rfl
 ·obtain⟨r,lw,ws,pl,op,rfl,h,hx,q⟩:=h
  have hu:=aM hr
  refine⟨_,(ad (aY (aW (pv 0) MG.cl MG.mt MG.ok (hr.mono (by decide)) MG.bd MG.dv ar (aa (ba bc (aK (pv 0) MH.cl MH.mt MH.ok (hr.mono (by decide)) MH.bd MH.dv ar) ah (aE _)) ac)))
   (af (de (pv 0) ag tL))),?_⟩
  obtain⟨dx,ho⟩:=h.ob
  refine ae (aS ⟨_,rfl,r,dx,_,rfl,ho,aG _ _ _ (by decide +kernel) (by decide +kernel) (by decide +kernel),_,rfl,r,dx,_,rfl,ho,aG _ _ _ (by decide +kernel) (by decide +kernel) (by decide +kernel),r,lw,ws,pl,op,_,rfl,h,hx,rfl,r,lw,ws,pl,op,rfl,h,λH1 o1 h1=>?_⟩)
  obtain⟨dx1,ho1⟩:=h1.ob
  refine⟨_,rfl,r,R,dx1,_,_,rfl,ho1,T.cl,T.n3,uJ _ _ _,_,_,rfl,rfl,dx1,_,ho1,by show 3 < 1000;decide,?_⟩
  rw [oU]
  have hlr:lw≠r:=eP h1.wd ho1 (λz=>nomatch z)
  exact q _ (λb o e n=>by rw [al n];exact o1 _ _ e n) ⟨⟨dx1,aj⟩,by rw [al hlr];exact h1.wd⟩
theorem qz {k:Str} (h:bJ k bX 8=true):44∉k.cps.toList:=λz=>by
 unfold bJ at h
 rw [Bool.and_eq_true,Bool.and_eq_true]at h
 have:=List.all_eq_true.mp h.2.2 44 z
 exact absurd this (by decide +kernel)
theorem dP:Str.ofString "," = (⟨#[44]⟩:Str):=by decide +kernel
noncomputable def gC (R:Addr):Sp:=λvs H Q _=>∃(r lw:Addr) (ws:List Str) (pl:Nat) (op:Int) (ks:List Str),vs=[.ref r]/\RdAt R H r lw ws pl op/\ws[pl]?=some (Txt.join (Str.ofString ",") ks)/\(Txt.join (Str.ofString ",") ks).length<=sizeLine/\1<=ks.length/\ks.length<=8/\ks.Nodup/\(∀k∈ks,bJ k bX 8=true/\k.length < sizeLine)/\∀(p:Addr) (H':Hp),H p=none->Ofr r H H'->H' p=some (.lst (ks.map V.str))->RdAt R H' r lw ws (pl+1) op->Q (.ref p) H'
theorem iF:FnScope ["self", "keys"] ["self"] (aw kW):=⟨rfl,rfl,rfl,by decide +kernel,rfl,by decide +kernel,by decide +kernel⟩
theorem me {f f1 f2 f3 R:Addr}{fd:FuncData} (F:Fun K "keys_here" "Reader.keys_here" kW f fd) (N:Free mg) (T:RdC K R){fd1:FuncData} (MH:MC P w K mg base R "here" 1 ["self"] [] [] (eX R) f1 fd1){fd2:FuncData} (MG:MC P w K mg base R "go_on" 1 ["self", "can_stand"] [] [] (lQ R) f2 fd2){fd3:FuncData} (CK:Cal P w K mg base "are_keys" 3 ["thing"] jE f3 fd3):FnOk P w K mg base CX0 4 f fd ["self"] (gC R):=by
 refine F.ok (k:=3) iF (λvs H Q E h=>?_) (λcdv A outer s H vs Q E hr h=>?_)
 ·obtain⟨r,lw,ws,pl,op,ks,rfl,_⟩:=h
  rfl
 ·obtain⟨r,lw,ws,pl,op,ks,rfl,h,hx,hl,k1,k8,nd,hk,q⟩:=h
  have hu:=aM hr
  refine⟨_,(ad (ax (i:=1) iF.nd rfl (Or.inl rfl) (bW PySem.F.plainAttrs_str PySem.F.slot_str_split PySem.F.type_str_split fi (aK (pv 0) MH.cl MH.mt MH.ok (hr.mono (by decide)) MH.bd MH.dv ar) (aa ah ac)))
   (ad (aY (aW (pv 0) MG.cl MG.mt MG.ok (hr.mono (by decide)) MG.bd MG.dv ar (aa (au CK.ok (hr.mono (by decide)) rfl CK.nm CK.kp CK.bd .nil ar (aa (pv 1) ac)) ac)))
   (af (av (pv 1))))),?_⟩
  obtain⟨dx,ho⟩:=h.ob
  have es:Txt.split (Txt.join (Str.ofString ",") ks) (Str.ofString ",")=ks:=by
   rw [dP]
   exact iT (λz=>by rw [z]at k1;cases k1) λw hw=>qz (hk w hw).1
  refine ae (ao ⟨_,rfl,r,dx,_,rfl,ho,aG _ _ _ (by decide +kernel) (by decide +kernel) (by decide +kernel),r,lw,ws,pl,op,_,rfl,h,hx,rfl,_,_,rfl,rfl,by rfl,hl,by rw [es];exact Nat.le_of_lt (be (by omega)),λp np=>?_⟩)
  rw [es]
  obtain⟨g1,e1⟩:=laid (o:=.lst (ks.map V.str)) np
  dsimp only [aA,List.set_cons_zero,List.set_cons_succ]
  generalize upd H p _=H1 at g1 e1 ⊢
  have h1:=h.keep g1
  obtain⟨dx1,ho1⟩:=h1.ob
  have npr:p≠r:=λz=>by rw [z,ho]at np;cases np
  refine ae (aS ⟨_,rfl,r,dx1,_,rfl,ho1,aG _ _ _ (by decide +kernel) (by decide +kernel) (by decide +kernel),_,rfl,p,ks,rfl,e1,k1,k8,nd,hk,λH2 g2=>⟨r,lw,ws,pl,op,rfl,h1.keep g2,λH3 o3 h3=>?_⟩⟩)
  exact az ⟨_,rfl,q p H3 np (λb o e n=>o3 _ _ (g2 _ _ (g1 _ _ e)) n) (o3 _ _ (g2 _ _ e1) npr) h3⟩
theorem wf:FnScope ["self"] ["self"] (aw uG):=⟨rfl,rfl,rfl,by decide +kernel,rfl,by decide +kernel,by decide +kernel⟩
theorem sQ {f R:Addr}{fd:FuncData} (F:Fun K "check_end" "Reader.check_end" uG f fd) (N:Free mg) (T:RdC K R):FnOk P w K mg base CX0 1 f fd ["self"] (rq R):=by
 refine F.ok (k:=0) wf (λvs H Q E h=>?_) (λcdv A outer s H vs Q E hr h=>?_)
 ·obtain⟨r,lw,ws,op,rfl,_⟩:=h
  rfl
 ·obtain⟨r,lw,ws,op,rfl,⟨⟨dx,ho⟩,hw⟩,q⟩:=h
  have hu:=aM hr
  refine⟨_,(af (aO (aC eO (bR (pv 0) rfl) (aI aQ (by rfl) N.len PySem.boot_len (aa (bR (pv 0) rfl) ac)) (aE _)) (af gI) ay)),?_⟩
  have at0:SqL K H lw (ws.map V.str):=SqL.of hw
  refine aq ⟨_,rfl,r,R,dx,_,_,rfl,ho,T.cl,T.n2,kY _ _ _,_,rfl,r,R,dx,_,_,rfl,ho,T.cl,T.n1,sj _ _ _,lw,_,rfl,.inl at0,_,_,rfl,rfl,_,rfl,?_⟩
  rw [List.length_map,decide_eq_false (by omega)]
  exact aF (ai q)
noncomputable abbrev ni:Stmt:=bi (top 40) 0
theorem lK:Str.ofString " " = (⟨#[32]⟩:Str):=by decide +kernel
theorem xz (lw:Addr) (pl op:Int):cH "opened" (.int op) (cH "place" (.int pl) (cH "words" (.ref lw) []))=dI lw pl op:=rfl
noncomputable def kG (R:Addr):Sp:=λvs H Q _=>∃(x dx:Addr) (ws:List Str),vs=[.ref x,.str (Txt.join (Str.ofString " ") ws)]/\H x=some (.ins R dx [])/\ws≠[]/\ws.length<=900/\(∀w∈ws,32∉w.cps.toList)/\(Txt.join (Str.ofString " ") ws).length<=sizeLine/\∀(lw:Addr) (H':Hp),H lw=none->(∀b o,H b=some o->b≠x->H' b=some o)->RdAt R H' x lw ws 0 0->Q .non H'
theorem uy:FnScope ["self", "text"] ["self", "text"] (aw ni):=⟨rfl,rfl,rfl,by decide +kernel,rfl,by decide +kernel,by decide +kernel⟩
theorem sK {f R:Addr}{fd:FuncData} (F:Fun K "__init__" "Reader.__init__" ni f fd) (N:Free mg) (T:RdC K R):FnOk P w K mg base CX0 1 f fd ["self", "text"] (kG R):=by
 refine F.ok (k:=0) uy (λvs H Q E h=>?_) (λcdv A outer s H vs Q E hr h=>?_)
 ·obtain⟨x,dx,ws,rfl,_⟩:=h
  rfl
 ·obtain⟨x,dx,ws,rfl,hx,hne,hl,hf,hs,q⟩:=h
  have hu:=aM hr
  refine⟨_,(ad (bz (pv 0) (bW PySem.F.plainAttrs_str PySem.F.slot_str_split PySem.F.type_str_split fi (pv 1) (aa ah ac)) rfl)
   (ad (bz (pv 0) ag rfl)
   (af (bz (pv 0) ag rfl)))),?_⟩
  have es:Txt.split (Txt.join (Str.ofString " ") ws) (Str.ofString " ")=ws:=by
   rw [lK]
   exact iT hne hf
  refine ae ⟨_,rfl,rfl,_,_,rfl,rfl,by rfl,hs,by rw [es];exact Nat.le_of_lt (be (by omega)),λlw nlw=>?_⟩
  rw [es]
  obtain⟨g1,e1⟩:=laid (o:=.lst (ws.map V.str)) nlw
  have hx1:=g1 _ _ hx
  have hlx:lw≠x:=λz=>by rw [z,hx]at nlw;cases nlw
  generalize upd H lw _=H1 at g1 e1 hx1 ⊢
  refine⟨_,rfl,x,R,dx,_,rfl,hx1,T.cl,T.n1,(by show 0 < 1000;decide),?_⟩
  refine ae ⟨_,rfl,x,R,dx,_,rfl,aj,T.cl,T.n2,(by show 1 < 1000;decide),?_⟩
  refine⟨_,rfl,x,R,dx,_,rfl,aj,T.cl,T.n3,(by show 2 < 1000;decide),?_⟩
  rw [bv,bv,xz]
  exact q lw _ nlw (λb o e n=>by rw [al n];exact g1 _ _ e) ⟨⟨dx,aj⟩,by rw [al hlx];exact e1⟩
noncomputable abbrev uH:Stmt:=bi (top 40) 3
noncomputable abbrev cQ:List Str:=[Str.ofString "number", Str.ofString "value", Str.ofString "since", Str.ofString "part", Str.ofString "change"]
noncomputable abbrev cm:List Str:=[Str.ofString "sum", Str.ofString "count", Str.ofString "least", Str.ofString "greatest"]
noncomputable abbrev ce:List Str:=[Str.ofString "plus", Str.ofString "minus"]
noncomputable abbrev cp:List Str:=[Str.ofString "less", Str.ofString "same"]
structure ConT (K:PySem.W.Frag) (mg:Str->Option Value):Prop where
 sgl:∃a,mg "SINGLE" = some (.ref a)/\∀H,SqT K H a (cQ.map V.str)
 gth:∃a,mg "GATHERING" = some (.ref a)/\∀H,SqT K H a (cm.map V.str)
 rck:∃a,mg "RECKONING" = some (.ref a)/\∀H,SqT K H a (ce.map V.str)
 chc:∃a,mg "CHOICE" = some (.ref a)/\∀H,SqT K H a (cp.map V.str)
noncomputable def lR (R:Addr):Sp:=λvs H Q _=>∃(r lw:Addr) (ws:List Str) (pl:Nat) (op:Int) (w:Str),vs=[.ref r]/\RdAt R H r lw ws pl op/\ws[pl]?=some w/\(w∈cQ\/w∈cm\/w∈ce\/w∈cp)/\∀H',Ofr r H H'->RdAt R H' r lw ws (pl+1) op->Q (.str w) H'
theorem aR (xs:List Str):(xs.map V.str).all gU=true:=by
 rw [List.all_map,List.all_eq_true];intro _ _;rfl
theorem oN:FnScope ["self", "word"] ["self"] (aw uH):=⟨rfl,rfl,rfl,by decide +kernel,rfl,by decide +kernel,by decide +kernel⟩
theorem sT {f f1 f2 R:Addr}{fd:FuncData} (F:Fun K "beginning_here" "Reader.beginning_here" uH f fd) (N:Free mg) (ZT:ConT K mg) (T:RdC K R){fd1:FuncData} (MH:MC P w K mg base R "here" 1 ["self"] [] [] (eX R) f1 fd1){fd2:FuncData} (MG:MC P w K mg base R "go_on" 1 ["self", "can_stand"] [] [] (lQ R) f2 fd2):FnOk P w K mg base CX0 2 f fd ["self"] (lR R):=by
 obtain⟨a1,c1,q1⟩:=ZT.sgl
 obtain⟨a2,c2,q2⟩:=ZT.gth
 obtain⟨a3,c3,q3⟩:=ZT.rck
 obtain⟨a4,c4,q4⟩:=ZT.chc
 refine F.ok (k:=1) oN (λvs H Q E h=>?_) (λcdv A outer s H vs Q E hr h=>?_)
 ·obtain⟨r,lw,ws,pl,op,w,rfl,_⟩:=h
  rfl
 ·obtain⟨r,lw,ws,pl,op,w,rfl,h,hx,hw,q⟩:=h
  have hu:=aM hr
  refine⟨_,(ad (ax (i:=1) oN.nd rfl (Or.inl rfl) (aK (pv 0) MH.cl MH.mt MH.ok (hr.mono (by decide)) MH.bd MH.dv ar))
   (ad (aY (aW (pv 0) MG.cl MG.mt MG.ok (hr.mono (by decide)) MG.bd MG.dv ar (aa (jK (ba bw (pv 1) (b6 (v:=.ref a1) (by rfl) c1 rfl) (by with_unfolding_all rfl)) (jK (ba bw (pv 1) (b6 (v:=.ref a2) (by rfl) c2 rfl) (by with_unfolding_all rfl)) (jK (ba bw (pv 1) (b6 (v:=.ref a3) (by rfl) c3 rfl) (by with_unfolding_all rfl)) (dh (ba bw (pv 1) (b6 (v:=.ref a4) (by rfl) c4 rfl) (by with_unfolding_all rfl)))))) ac)))
   (af (av (pv 1))))),?_⟩
  obtain⟨dx,ho⟩:=h.ob
  refine ae (ao ⟨_,rfl,r,dx,_,rfl,ho,aG _ _ _ (by decide +kernel) (by decide +kernel) (by decide +kernel),r,lw,ws,pl,op,w,rfl,h,hx,?_⟩)
  dsimp only [aA,List.set_cons_zero,List.set_cons_succ]
  refine ae (aS ⟨_,rfl,r,dx,_,rfl,ho,aG _ _ _ (by decide +kernel) (by decide +kernel) (by decide +kernel),_,rfl,a1,_,rfl,.inr (q1 _),rfl,aR _,?_⟩)
  rw [if_neg Bool.false_ne_true,bb]
  refine⟨_,rfl,?_⟩
  by_cases z1:w∈cQ
  ·rw [decide_eq_true z1]
   refine b5 ?_
   exact⟨r,lw,ws,pl,op,rfl,h,λH1 o1 h1=>az ⟨_,rfl,q H1 o1 h1⟩⟩
  rw [decide_eq_false z1]
  refine aF ⟨_,rfl,a2,_,rfl,.inr (q2 _),rfl,aR _,?_⟩
  rw [if_neg Bool.false_ne_true,bb]
  refine⟨_,rfl,?_⟩
  by_cases z2:w∈cm
  ·rw [decide_eq_true z2]
   refine b5 ?_
   exact⟨r,lw,ws,pl,op,rfl,h,λH1 o1 h1=>az ⟨_,rfl,q H1 o1 h1⟩⟩
  rw [decide_eq_false z2]
  refine aF ⟨_,rfl,a3,_,rfl,.inr (q3 _),rfl,aR _,?_⟩
  rw [if_neg Bool.false_ne_true,bb]
  refine⟨_,rfl,?_⟩
  by_cases z3:w∈ce
  ·rw [decide_eq_true z3]
   refine b5 ?_
   exact⟨r,lw,ws,pl,op,rfl,h,λH1 o1 h1=>az ⟨_,rfl,q H1 o1 h1⟩⟩
  rw [decide_eq_false z3]
  have z4:w∈cp:=((hw.resolve_left z1).resolve_left z2).resolve_left z3
  refine aF ⟨_,rfl,a4,_,rfl,.inr (q4 _),rfl,aR _,?_⟩
  rw [if_neg Bool.false_ne_true,bb,decide_eq_true z4]
  exact⟨r,lw,ws,pl,op,rfl,h,λH1 o1 h1=>az ⟨_,rfl,q H1 o1 h1⟩⟩
end Mine
namespace L2
open PySem PySem.Spec PyProof.Rows
theorem cZ {X:Cx}{CX:CXT}{cn m:Str}{C f:Addr}{mc:Value}{k:Nat}{fd:FuncData}{ps:List Str}{sp:Sp}{ds:List Value}{dvs:List V}{E:XK}{e:Expr}{es:List Expr}{t:TA}{p apos pos:Pos}{pl:Sem Bool} (hg:Gl X cn) (hmg:X.mg cn=some (.ref C))
  (h1:PySem.W.specialIn X.K (.ref C) "__getattribute__" = some (some (.builtin "type.__getattribute__"))) (h2:PySem.W.readsIn X.K C mc=true) (h3:PySem.W.findCls X.K (.ref C) mc m=some (.val (.ref f))) (h4:PySem.W.handedIn (.ref f)=true)
  (F:FnOk X.prog X.w X.K X.mg X.base CX k f fd ps sp) (hr:Room k X.A) (hk:PySem.W.keepIn X.K (.ref f)=true) (hb:bA X.K fd ps ds) (hd:aX dvs ds) (hx:cU CX X E) (ha:PA X (e::es) t)
  (hst:starEach (e::es) X.env=(false,eval e X.env)::starEach es X.env:=by rfl) (hpl:(backTo pos (starEach es X.env)).any (·.1)=false:=by rfl)
  (ht:eval (.Call (.Attribute (.Name cn p) m apos) (e::es) [] pos) X.env=(do
   let ov <- eval (.Name cn p) X.env
   standAt apos.atName
   let (f,first) <- holding [ov] (getMethod ov m pl)
   callWith pos f first (backTo pos (starEach (e::es) X.env)) (backToKw pos (keywordEach [] X.env))):=by rfl)
  (hdb:(cn == ("__debug__" : Str))=false:=by decide):PE X (.Call (.Attribute (.Name cn p) m apos) (e::es) [] pos) (iS sp dvs E t):=by
 intro pins s σ H Q I h
 refine PySem.W.methodCall_KW (pl:=pl) (eE I hg hmg ?_ hdb) ht
 refine PySem.W.method_cls I.kIn h1 (PySem.W.cls_value I.kIn h2 h3 h4 ?_)
 refine PySem.W.callWith_K (first:=[]) (h₀:=X.base) I.ok.mod.kin hk (thn (ha pos pins _ σ H _ (I.tok (s.toks+1)) h) λus s2 ⟨vs,H2,I2,r,q2⟩=>⟨I2.kIn,?_⟩) hst hpl
 exact j6 F hr hb hd hx I2 r q2
end L2
namespace Mine
open PySem L2
variable {P:Program}{w:World}{K:PySem.W.Frag}{mg:Str->Option Value}{base:Heap}
noncomputable abbrev nk:Stmt:=bi (top 18) 0
noncomputable def cR:List Str:=[Str.ofString "written", Str.ofString "names", Str.ofString "levels", Str.ofString "number", Str.ofString "key", Str.ofString "day", Str.ofString "word", Str.ofString "first", Str.ofString "last", Str.ofString "bound", Str.ofString "one", Str.ofString "other", Str.ofString "rank", Str.ofString "inner"]
structure QuC (K:PySem.W.Frag) (C:Addr):Prop where
 cl:Cls K C
 no:∀f∈cR,NoAttr K C f
theorem QuC.a_written {K:PySem.W.Frag}{C:Addr} (T:QuC K C):NoAttr K C "written":=T.no _ (by decide +kernel)
theorem QuC.a_names {K:PySem.W.Frag}{C:Addr} (T:QuC K C):NoAttr K C "names":=T.no _ (by decide +kernel)
theorem QuC.a_levels {K:PySem.W.Frag}{C:Addr} (T:QuC K C):NoAttr K C "levels":=T.no _ (by decide +kernel)
theorem QuC.a_number {K:PySem.W.Frag}{C:Addr} (T:QuC K C):NoAttr K C "number":=T.no _ (by decide +kernel)
theorem QuC.a_key {K:PySem.W.Frag}{C:Addr} (T:QuC K C):NoAttr K C "key":=T.no _ (by decide +kernel)
theorem QuC.a_day {K:PySem.W.Frag}{C:Addr} (T:QuC K C):NoAttr K C "day":=T.no _ (by decide +kernel)
theorem QuC.a_word {K:PySem.W.Frag}{C:Addr} (T:QuC K C):NoAttr K C "word":=T.no _ (by decide +kernel)
theorem QuC.a_first {K:PySem.W.Frag}{C:Addr} (T:QuC K C):NoAttr K C "first":=T.no _ (by decide +kernel)
theorem QuC.a_last {K:PySem.W.Frag}{C:Addr} (T:QuC K C):NoAttr K C "last":=T.no _ (by decide +kernel)
theorem QuC.a_bound {K:PySem.W.Frag}{C:Addr} (T:QuC K C):NoAttr K C "bound":=T.no _ (by decide +kernel)
theorem QuC.a_one {K:PySem.W.Frag}{C:Addr} (T:QuC K C):NoAttr K C "one":=T.no _ (by decide +kernel)
theorem QuC.a_other {K:PySem.W.Frag}{C:Addr} (T:QuC K C):NoAttr K C "other":=T.no _ (by decide +kernel)
theorem QuC.a_rank {K:PySem.W.Frag}{C:Addr} (T:QuC K C):NoAttr K C "rank":=T.no _ (by decide +kernel)
theorem QuC.a_inner {K:PySem.W.Frag}{C:Addr} (T:QuC K C):NoAttr K C "inner":=T.no _ (by decide +kernel)
noncomputable def bT (K:PySem.W.Frag):Sp:=λvs H Q _=>∃(x C dx lw lk:Addr) (fs:List (Str × V)) (ws ks:List Str) (d:Int),vs=[.ref x,.ref lw,.ref lk,.int d]/\QuC K C/\H x=some (.ins C dx fs)/\fs.length < 100/\H lw=some (.lst (ws.map V.str))/\SqL K H lk (ks.map V.str)/\ks.length<=900/\(ws.map (·.length)).sum+ws.length * (Str.ofString " ").length<=16777216/\
 ∀(ln:Addr) (H':Hp),H ln=none->(∀b o,H b=some o->b≠x->H' b=some o)->H' ln=some (.lst ((bC ks).map V.str))->H' x=some (.ins C dx (cH "levels" (.int d) (cH "names" (.ref ln) (cH "written" (.str (Txt.join (Str.ofString " ") ws)) fs))))->Q .non H'
theorem ut {K:PySem.W.Frag}{H:Hp}{a x C dx:Addr}{xs:List V}{fs fs':List (Str × V)} (h:SqL K H a xs) (hx:H x=some (.ins C dx fs)):SqL K (upd H x (.ins C dx fs')) a xs:=by
 rcases h with(e | ⟨u,e⟩) | e
 ·exact .inl (.inl (by rw [al (eP e hx (λz=>nomatch z))];exact e))
 ·exact .inl (.inr ⟨u,by rw [al (eP e hx (λz=>nomatch z))];exact e⟩)
 ·exact .inr e
theorem uz:FnScope ["self", "words", "keys", "depth"] ["self", "words", "keys", "depth"] (aw nk):=⟨rfl,rfl,rfl,by decide +kernel,rfl,by decide +kernel,by decide +kernel⟩
theorem sL {f f1:Addr}{fd:FuncData} (F:Fun K "__init__" "Question.__init__" nk f fd) (N:Free mg){fd1:FuncData} (CO:Cal P w K mg base "each_once" 1 ["keys"] (r9 K) f1 fd1):FnOk P w K mg base CX0 2 f fd ["self", "words", "keys", "depth"] (bT K):=by
 refine F.ok (k:=1) uz (λvs H Q E h=>?_) (λcdv A outer s H vs Q E hr h=>?_)
 ·obtain⟨x,C,dx,lw,lk,fs,ws,ks,d,rfl,_⟩:=h
  rfl
 ·obtain⟨x,C,dx,lw,lk,fs,ws,ks,d,rfl,T,hx,hfs,hlw,hlk,hks,hsum,q⟩:=h
  have hu:=aM hr
  refine⟨_,(ad (bz (pv 0) (bW PySem.F.plainAttrs_str PySem.F.slot_str_join PySem.F.type_str_join du ah (aa (pv 1) ac)) rfl)
   (ad (bz (pv 0) (au CO.ok (hr.mono (by decide)) rfl CO.nm CO.kp CO.bd .nil ar (aa (pv 2) ac)) rfl)
   (af (bz (pv 0) (pv 3) rfl)))),?_⟩
  refine ae ⟨rfl,_,rfl,_,lw,ws,rfl,rfl,hlw,hsum,_,rfl,x,C,dx,_,rfl,hx,T.cl,T.a_written,by omega,?_⟩
  dsimp only
  have l1:=dy "written" (.str (Txt.join (Str.ofString " ") ws)) fs
  refine ae ⟨_,rfl,lk,ks,rfl,ut hlk hx,hks,λln nln=>?_⟩
  have nlx:ln≠x:=λz=>by rw [z,aj]at nln;cases nln
  have nl0:H ln=none:=by rw [al nlx]at nln;exact nln
  have l2:=dy "names" (.ref ln) (cH "written" (.str (Txt.join (Str.ofString " ") ws)) fs)
  refine⟨_,rfl,x,C,dx,cH "written" (.str (Txt.join (Str.ofString " ") ws)) fs,rfl,by rw [al (Ne.symm nlx),aj],T.cl,T.a_names,by omega,?_⟩
  dsimp only
  refine⟨_,rfl,_,rfl,x,C,dx,_,rfl,aj,T.cl,T.a_levels,by omega,?_⟩
  refine q ln _ nl0 (λb o e n=>?_) ?_ aj
  ·rw [al n,al n,al (am e nl0),al n];exact e
  ·rw [al nlx,al nlx,aj]
end Mine
namespace L2
open PySem PySem.Spec PyProof.Rows
theorem vJ:∀{ns:List Int}{us:List Value},aX (ns.map V.int) us->∃xs:List (Int × Tok),us=xs.map (λp=>Value.int p.1 p.2)/\xs.map (·.1)=ns
 | [],_,r=>by
  cases r
  exact⟨[],rfl,rfl⟩
 | n::ns,_,r=>by
  cases r with
  | cons a t=>
   obtain⟨tk,rfl⟩:=a
   obtain⟨xs,rfl,rfl⟩:=vJ t
   exact⟨(n,tk)::xs,rfl,rfl⟩
section
variable {X:Cx}
theorem vx {pins:List (Addr × Obj)}{σ:St}{H:Hp}{s:Shared}{a:Addr}{ns:List Int} (I:Inv X pins σ H s) (hS:SqL X.K H a (ns.map V.int)):∃ys:Array (Int × Tok),s.heap.IsList a (intItems ys)/\ys.toList.map (·.1)=ns:=by
 obtain⟨its,rv,p,hz⟩:=I.list hS
 obtain⟨ys,rfl,e⟩:=vJ rv
 refine⟨ys.toArray,?_,e⟩
 have h:=p.isList
 rw [<- List.map_toArray]at h
 exact h
theorem sV {ys:Array (Int × Tok)}{ns:List Int} (e:ys.toList.map (·.1)=ns):ys.size=ns.length:=by rw [<- e,List.length_map,Array.length_toList]
inductive rMaxL (K:PySem.W.Frag) (xs:List V) (H:Hp) (Q:VK):Prop
 | mk (a:Addr) (ns:List Int) (h1:xs=[.ref a]) (h2:SqL K H a (ns.map V.int)) (h3:ns≠[]) (h4:∀M,M∈ns->(∀x∈ns,x<=M)->Q (.int M) H):rMaxL K xs H Q
theorem qC (hc:X.calm=true):cO X (.builtin "max") (rMaxL X.K):=by
 intro pins s σ H xs us Q I r h
 obtain⟨a,ns,rfl,hS,hne,q⟩:=h
 obtain⟨u,rfl,ru⟩:=dn r
 cases (show u=Value.ref a from ru)
 obtain⟨ys,hl,e⟩:=vx I hS
 have hn:=List.length_pos_iff.mpr hne
 have hy:=sV e
 refine max_intList (I.ok.hd hc) hl (by omega) λv h' tk hv hk=>?_
 obtain⟨t,rfl⟩:=intItems_at hv
 obtain⟨h1,h2⟩:=argBest_gt (numAt ys) (ys.size - 1)
 refine⟨.int _,H,I.kept hk,⟨_,rfl⟩,q _ ?_ λx hx=>?_⟩
 ·rw [numAt_eq,e];exact getD_mem (by omega)
 ·obtain⟨j,hj,rfl⟩:=mem_getD hx
  have:=h2 j (by omega)
  rw [numAt_eq,e]at this
  exact this
inductive rStrA (xs:List V) (H:Hp) (Q:VK):Prop
 | int (i:Int) (h1:xs=[.int i]) (h2:i.natAbs.log2 < 1920) (h3:Q (.str (Str.ofString (toString i))) H):rStrA xs H Q
 | str (x:Str) (h1:xs=[.str x]) (h3:Q (.str x) H):rStrA xs H Q
theorem qA:cO X (.type "str") rStrA:=by
 intro pins s σ H xs us Q I r h
 rcases h with⟨i,rfl,hz,q⟩ | ⟨x,rfl,q⟩
 ·obtain⟨u,rfl,t,rfl⟩:=dn r
  exact PySem.P.str_of_int hz ⟨.str _,H,I.tok _,⟨_,rfl⟩,q⟩
 ·obtain⟨u,rfl,t,rfl⟩:=dn r
  exact PySem.P.str_of_str ⟨.str x,H,I,⟨t,rfl⟩,q⟩
end
structure MV (P:Program) (w:World) (K:PySem.W.Frag) (mg:Str->Option Value) (base:Heap) (CX:CXT) (m:Str) (k:Nat) (ps:List Str) (sp:Sp) (C:Addr):Prop where
 cl:Cls K C
 ex:∃f fd,Meth K C m f/\FnOk P w K mg base CX k f fd ps sp/\bA K fd ps []
noncomputable def wO (V:Addr->Prop) (m:Str) (sp:Sp) (E:XK) (ta:TE) (t:TA):TE:=λσ H Q=>ta σ H λx H1=>∃a C dx fs,x=.ref a/\H1 a=some (.ins C dx fs)/\V C/\fs.lookup m=none/\
 t σ H1 λvs H2=>sp (x::vs) H2 Q E
section
variable {X:Cx}{CX:CXT}{k:Nat}{ps:List Str}{sp:Sp}{E:XK}{m:Str}{pos apos:Pos}{e o:Expr}{es:List Expr}{ta:TE}{t:TA}
theorem fw {V:Addr->Prop}{pl:Sem Bool} (hV:∀C,V C->MV X.prog X.w X.K X.mg X.base CX m k ps sp C) (he:PE X o ta) (hr:Room k X.A) (hx:cU CX X E)
  (ht:eval (.Call (.Attribute o m apos) [] [] pos) X.env=(do
   let ov <- eval o X.env
   standAt apos.atName
   let (f,first) <- holding [ov] (getMethod ov m pl)
   callWith pos f first (backTo pos (starEach [] X.env)) (backToKw pos (keywordEach [] X.env))):=by rfl) :
  PE X (.Call (.Attribute o m apos) [] [] pos) (wO V m sp E ta eR):=by
 intro pins s σ H Q I h
 refine PySem.W.methodCall_KW (pl:=pl) (thn (he pins s σ H _ I h) λu s1 ⟨x,H1,I1,rx,a,C,dx,fs,ex,ea,vc,l,q⟩=>?_) ht
 obtain⟨c,f,fd,hm,F,hb⟩:=hV C vc
 subst ex
 obtain rfl:u=Value.ref a:=rx
 refine ge I1 ea c hm l ?_
 exact PySem.W.callWith_K0 (first:=[.ref a]) I1.kIn hm.kp (j6 (us:=[.ref a]) (vs:=[.ref a]) (dvs:=[]) F hr hb .nil hx I1 (.cons rfl .nil) q)
end
section
variable {X:Cx}{T:String}{name:Str}{id:String}{r:V->List V->Hp->VK->Prop}{o e:Expr}{es:List Expr}{to:TE}{t:TA}{apos cpos:Pos}
theorem xI {K:PySem.W.Frag} (hK:X.K=K) (pa:PlainAttrs T) (slot:Slot T name id) (hty:typeOf (.builtin id)=pure (.type "method_descriptor")) (hm:MtR X id r) (ho:PE X o to) (ha:PA X (e::es) t)
  (hbase:attributeBase o name X.env (eval o X.env)=eval o X.env:=by rfl)
  (hfew:((backTo cpos (starEach (e::es) X.env)).all (λx=>!x.1) && (backToKw cpos (keywordEach [] X.env)).all (λx=>x.1.isSome)
   && decide ((e::es).length+([]:List Keyword).length+(if ([]:List Keyword).isEmpty then 0 else 1) < 30))=true:=by rfl)
  (hline:(apos.endLine == cpos.line)=true:=by rfl) (hs:starEach (e::es) X.env=(false,eval e X.env)::starEach es X.env:=by rfl) (hplain:(backTo cpos (starEach es X.env)).any (·.1)=false:=by rfl) :
  PE X (.Call (.Attribute o name apos) (e::es) [] cpos) (tBM K T r to t):=by
 subst hK
 exact bW pa slot hty hm ho ha hbase hfew hline hs hplain
end
noncomputable def rIs (K:PySem.W.Frag):List V->Hp->VK->Prop:=λxs H Q=>∃x n t b,xs=[x,.ty n]/\TyOf K H x t/\PySem.W.kitOne K t (.type n)=some b/\Q (.bl b) H
theorem FnOk.ex {P:Program}{w:World}{K:PySem.W.Frag}{mg:Str->Option Value}{base:Heap}{CX:CXT}{k:Nat}{f:Addr}{fd:FuncData}{ps:List Str}{sp:Nat->Sp}{N:Nat} (h:∀n,n<=N->FnOk P w K mg base CX k f fd ps (sp n)):FnOk P w K mg base CX k f fd ps (λvs H Q E=>∃n,n<=N/\sp n vs H Q E):=
 ⟨λvs H Q E ⟨n,hn,q⟩=>(h n hn).len vs H Q E q,λA outer s H args us vs Q E hr he hb hv ⟨n,hn,q⟩=>(h n hn).run A outer s H args us vs Q E hr he hb hv q⟩
theorem FnOk.no {P:Program}{w:World}{K:PySem.W.Frag}{mg:Str->Option Value}{base:Heap}{CX:CXT}{k:Nat}{f:Addr}{fd:FuncData}{ps:List Str}{sp:Sp} (h:∀vs H Q E,¬sp vs H Q E):FnOk P w K mg base CX k f fd ps sp:=
 ⟨λvs H Q E q=>absurd q (h vs H Q E),λA outer s H args us vs Q E hr he hb hv q=>absurd q (h vs H Q E)⟩
structure CMc (P:Program) (w:World) (K:PySem.W.Frag) (mg:Str->Option Value) (base:Heap) (cn m:Str) (k:Nat) (ps:List Str) (sp:Sp) (C f:Addr) (fd:FuncData) (mc:Value):Prop where
 nm:mg cn=some (.ref C)
 h1:PySem.W.specialIn K (.ref C) "__getattribute__" = some (some (.builtin "type.__getattribute__"))
 h2:PySem.W.readsIn K C mc=true
 h3:PySem.W.findCls K (.ref C) mc m=some (.val (.ref f))
 ok:FnOk P w K mg base CX0 k f fd ps sp
 kp:PySem.W.keepIn K (.ref f)=true
 bd:bA K fd ps []
theorem u0 {K:PySem.W.Frag}{a D:Addr}{xs:List V}{σ:St}{sub:List Nat}{tt:TT}{te:TE}{Q:VK}{H:Hp} (Pv:Nat->List V->Hp->Prop) (h0:Pv 0 [] (upd H D (.lst []))) (hl:∀i ys H,i<=xs.length->Pv i ys H->SqT K H a xs)
  (hs:∀i x ys H,xs[i]?=some x->Pv i ys H->tt (some x::bS sub σ) H λb H4=>if b=true then te (some x::bS sub σ) H4 λy H5=>H5 D=some (.lst ys)/\ys.length < sizeLine/\Pv (i+1) (ys++[y]) (upd H5 D (.lst (ys++[y]))) else Pv (i+1) ys H4)
  (hd:∀ys H,Pv xs.length ys H->Q (.ref D) H) :
  ∃W:Nat->Nat->List V->Hp->Prop,(∃m,W 0 m [] (upd H D (.lst [])))/\∀i m ys H2,W i m ys H2->
   ((Itt K a).stop i H2/\Q (.ref D) H2)\/((Itt K a).go i H2/\∃N:List V->Hp->Prop,(∀ys' H',N ys' H'->∃m',m' < m/\W (i+1) m' ys' H')/\∀v H3,(Itt K a).yld i H2 v H3->tt (some v::bS sub σ) H3 λb H4=>if b=true then
    te (some v::bS sub σ) H4 λy H5=>H5 D=some (.lst ys)/\ys.length < sizeLine/\N (ys++[y]) (upd H5 D (.lst (ys++[y])))
    else N ys H4):=by
 refine⟨λi m ys H=>m=xs.length - i/\i<=xs.length/\Pv i ys H,⟨xs.length,rfl,Nat.zero_le _,h0⟩,?_⟩
 rintro i m ys H ⟨rfl,hi,p⟩
 have q:=hl i ys H hi p
 by_cases hlt:i < xs.length
 ·refine .inr ⟨⟨xs,xs[i],q,by simp [hlt]⟩,Pv (i+1),λys' H' p'=>⟨xs.length - (i+1),by omega,rfl,hlt,p'⟩,λx H' y=>?_⟩
  obtain⟨e,y⟩:=y
  subst e
  exact hs i x ys _ (y xs q) p
 ·have e:i=xs.length:=by omega
  subst e
  exact .inl ⟨⟨xs,q,Nat.le_refl _⟩,hd ys H p⟩
theorem nZ {K:PySem.W.Frag}{ta:Addr}{xs:List V}{sub:List Nat}{te:TE}{σ:St}{Q:VK}{H:Hp} (g:V->V) (hn:xs.length < 1000) (ha:H ta=some (.tup xs)) (hte:∀(x:V) (H2:Hp) (R:VK),x∈xs->(∀b o,H b=some o->H2 b=some o)->R (g x) H2->te (some x::bS sub σ) H2 R)
  (hq:∀(D:Addr),H D=none->Q (.ref D) (upd H D (.lst (xs.map g)))):hX (Itt K ta) sub (λ_ H Q=>Q true H) te σ Q H:=by
 intro D nD
 have nl:ta≠D:=am ha nD
 refine u0 (K:=K) (a:=ta) (xs:=xs) (sub:=sub) (tt:=λ_ H Q=>Q true H) (te:=te) (Q:=Q) (σ:=σ) (λi ys H2=>ys=(xs.take i).map g/\H2=upd H D (.lst ys)) ⟨by rw [List.take_zero];rfl,rfl⟩ (λi ys H2 _ hh=>?_) (λi x ys H2 hi hh=>?_) λys H2 hh=>?_
 ·obtain⟨_,rfl⟩:=hh
  exact SqT.of (by rw [al nl];exact ha)
 ·obtain⟨rfl,rfl⟩:=hh
  refine b5 (hte x _ _ (List.mem_of_getElem? hi) (λb o e=>by rw [al (am e nD)];exact e) ⟨aj,?_,?_,bv⟩)
  ·rw [List.length_map,List.length_take];exact be (by omega)
  ·rw [List.take_add_one,hi,List.map_append];rfl
 ·obtain⟨rfl,rfl⟩:=hh
  rw [List.take_length]
  exact hq D nD
end L2
namespace Mine
open PySem L2
variable {P:Program}{w:World}{K:PySem.W.Frag}{mg:Str->Option Value}{base:Heap}
open PySem.W PySem.W.KIN PySem.NumText
noncomputable abbrev si (i:Int):Str:=Str.ofString (toString i)
theorem iO (m:Nat):AllDigits ((Nat.toDigits 10 m).map Char.toNat):=λc hc=>by
 obtain⟨ch,hch,e⟩:=List.mem_map.mp hc
 rw [<- e]
 exact PyProof.Rows.digit_range (Nat.isDigit_of_mem_toDigits (by decide) (by decide) hch)
theorem nX (m:Nat):(Nat.toDigits 10 m).map Char.toNat≠[]:=λe=>by
 have h:=Nat.length_toDigits_pos (b:=10) (n:=m)
 rw [List.map_eq_nil_iff.mp e]at h
 exact absurd h (by decide)
theorem pI {m:Nat} (h:m < 10 ^ 10):((Nat.toDigits 10 m).map Char.toNat).length<=10:=by
 have:=KT.len_num (n:=(m:Int)) (by omega) (by omega)
 rw [bG,fu]at this
 exact this
theorem yr {c:Nat} (h:48<=c/\c<=57):inZ fm c=true:=by
 rcases (show c=48\/c=49\/c=50\/c=51\/c=52\/c=53\/c=54\/c=55\/c=56\/c=57 by omega) with rfl | rfl | rfl | rfl | rfl | rfl | rfl | rfl | rfl | rfl <;> decide +kernel
theorem kO {z:Int} (h0 : -1000000000<=z) (h1:z<=1000000000):figs (si z)=(Nat.toDigits 10 z.natAbs).map Char.toNat/\aZ (si z)=z/\((si z).cps.toList=(Nat.toDigits 10 z.natAbs).map Char.toNat\/(si z).cps.toList=45::(Nat.toDigits 10 z.natAbs).map Char.toNat):=by
 by_cases hz:0<=z
 ·obtain⟨m,rfl⟩:=Int.eq_ofNat_of_zero_le hz
  have e:=fu m
  have hn:gN (si (m:Int))=false:=by
   unfold gN
   rw [e]
   cases hd:(Nat.toDigits 10 m).map Char.toNat with
   | nil=>exact absurd hd (nX m)
   | cons c r=>
    have:=iO m c (by rw [hd];exact List.mem_cons_self)
    refine decide_eq_false λz=>?_
    have:c=45:=Option.some.inj z
    omega
  have ef:figs (si (m:Int))=(Nat.toDigits 10 m).map Char.toNat:=by unfold figs;rw [hn,<- e];rfl
  refine⟨ef,?_,.inl e⟩
  unfold aZ
  rw [hn,ef,val_back]
  rfl
 ·obtain⟨m,rfl⟩:∃m:Nat,z = -(m:Int):=⟨z.natAbs,by omega⟩
  have hm:0 < m:=by omega
  have e:=fX m hm
  have hn:gN (si (-(m:Int)))=true:=by
   unfold gN
   rw [e]
   rfl
  have ea:(-(m:Int)).natAbs=m:=by omega
  have ef:figs (si (-(m:Int)))=(Nat.toDigits 10 m).map Char.toNat:=by unfold figs;rw [hn,e];rfl
  rw [ea]
  refine⟨ef,?_,.inr e⟩
  unfold aZ
  rw [hn,ef,val_back]
  rfl
theorem uv {z:Int} (h0 : -1000000000<=z) (h1:z<=1000000000):cM (si z)=true:=by
 obtain⟨ef,_,_⟩:=kO h0 h1
 have hl:=pI (m:=z.natAbs) (by omega)
 have hp:=List.length_pos_iff.mpr (nX z.natAbs)
 unfold cM bJ
 rw [gX,ef,decide_eq_true (by omega),decide_eq_true (by omega),Bool.true_and,Bool.true_and]
 show ((figs (si z)).toArray.toList.all (inZ fm))=true
 rw [List.toList_toArray,ef]
 exact List.all_eq_true.mpr λc hc=>yr (iO _ c hc)
theorem cP {z lo hi:Int} (h0 : -1000000000<=z) (h1:z<=1000000000) (h2:lo<=z) (h3:z<=hi):dm (si z) lo hi=.int z:=by
 obtain⟨_,ev,_⟩:=kO h0 h1
 unfold dm
 rw [ev,if_pos ⟨⟨uv h0 h1,rfl⟩,h2,h3⟩]
noncomputable def Sgn (c:Nat):Prop:=c=44\/c=45\/(48<=c/\c<=57)\/(97<=c/\c<=122)
structure Wd (w:Str):Prop where
 lo:1<=w.length
 hi:w.length<=79
 sg:∀c∈w.cps.toList,Sgn c
theorem cE {z:Int} (h0 : -1000000000<=z) (h1:z<=1000000000):Wd (si z):=by
 obtain⟨_,_,e⟩:=kO h0 h1
 have hl:=pI (m:=z.natAbs) (by omega)
 have hp:=List.length_pos_iff.mpr (nX z.natAbs)
 rcases e with e | e
 ·refine⟨by rw [bG,e];omega,by rw [bG,e];omega,λc hc=>?_⟩
  rw [e]at hc
  exact .inr (.inr (.inl (iO _ c hc)))
 ·refine⟨by rw [bG,e,List.length_cons];omega,by rw [bG,e,List.length_cons];omega,λc hc=>?_⟩
  rw [e]at hc
  rcases List.mem_cons.mp hc with z | hc
  ·exact .inr (.inl z)
  ·exact .inr (.inr (.inl (iO _ c hc)))
theorem yc:∀c∈bX.cps.toList,97<=c/\c<=122:=by decide +kernel
theorem jf {k:Str} (h:bJ k bX 8=true):1<=k.length/\k.length<=8/\∀c∈k.cps.toList,97<=c/\c<=122:=by
 unfold bJ at h
 rw [Bool.and_eq_true,Bool.and_eq_true]at h
 obtain⟨h1,h2,h3⟩:=h
 have h1:=of_decide_eq_true h1
 have h2:=of_decide_eq_true h2
 exact⟨by omega,by omega,λc hc=>yc c (of_decide_eq_true (List.all_eq_true.mp h3 c hc))⟩
theorem jO {k:Str} (h:bJ k bX 8=true):Wd k:=by
 obtain⟨h1,h2,h3⟩:=jf h
 exact⟨h1,by omega,λc hc=>.inr (.inr (.inr (h3 c hc)))⟩
theorem Wd.free {w:Str} (h:Wd w):32∉w.cps.toList:=λz=>by
 have:=h.sg _ z
 unfold Sgn at this
 omega
noncomputable def fl (c:Nat) (ws:List Str):List Nat:=(ws.map λw=>c::w.cps.toList).flatten
theorem jk (c:Nat) (us vs:List Str):fl c (us++vs)=fl c us++fl c vs:=by
 unfold fl
 rw [List.map_append,List.flatten_append]
theorem cL (c:Nat) (u:Str) (vs:List Str):fl c (u::vs)=(c::u.cps.toList)++fl c vs:=rfl
theorem lz {α:Type} (c:Nat) (g:α->List Str):∀xs:List α,fl c (xs.flatMap g)=xs.flatMap λx=>fl c (g x)
 | []=>rfl
 | x::xs=>by rw [List.flatMap_cons,List.flatMap_cons,jk,lz c g xs]
theorem gP {c:Nat}:∀{ws:List Str},ws≠[]->c::(Txt.join ⟨#[c]⟩ ws).cps.toList=fl c ws
 | [],h=>absurd rfl h
 | [x],_=>by
  rw [cL]
  show c::x.cps.toList=(c::x.cps.toList)++[]
  rw [List.append_nil]
 | x::y::zs,_=>by
  have e:Txt.join ⟨#[c]⟩ (x::y::zs)=Str.join ⟨#[c]⟩ (x::y::zs):=StrLaws.glued_eq_join _ _
  have e2:Txt.join ⟨#[c]⟩ (y::zs)=Str.join ⟨#[c]⟩ (y::zs):=StrLaws.glued_eq_join _ _
  have ih:=gP (c:=c) (ws:=y::zs) (by simp)
  rw [e,fk,cL,<- ih,e2]
  rfl
noncomputable abbrev jn (ws:List Str):Str:=Txt.join (Str.ofString " ") ws
noncomputable abbrev jc (ws:List Str):Str:=Txt.join (Str.ofString ",") ws
theorem pB {ws:List Str} (h:ws≠[]):32::(jn ws).cps.toList=fl 32 ws:=by
 have:=gP (c:=32) h
 rw [<- lK]at this
 exact this
theorem tH {ws:List Str} (h:ws≠[]):44::(jc ws).cps.toList=fl 44 ws:=by
 have:=gP (c:=44) h
 rw [<- dP]at this
 exact this
theorem zw {us vs:List Str} (hu:us≠[]) (hv:vs≠[]) (h:fl 32 us=fl 32 vs):jn us=jn vs:=by
 rw [<- pB hu,<- pB hv]at h
 exact cx (List.cons.inj h).2
theorem zE {ws:List Str} (h:ws≠[]):fl 32 [jn ws]=fl 32 ws:=by
 rw [cL,<- pB h]
 exact List.append_nil _
theorem ly (c m:Nat):∀ws:List Str,(∀w∈ws,w.length<=m)->(fl c ws).length<=(m+1) * ws.length
 | [],_=>by rw [List.length_nil];exact Nat.zero_le _
 | w::ws,h=>by
  have:=ly c m ws λx hx=>h x (List.mem_cons_of_mem _ hx)
  have h1:=h w List.mem_cons_self
  rw [bG]at h1
  rw [cL,List.length_append,List.length_cons,List.length_cons,Nat.mul_succ]
  omega
theorem ww {ks:List Str} (h1:1<=ks.length) (h8:ks.length<=8) (hk:∀k∈ks,bJ k bX 8=true):Wd (jc ks):=by
 have hne:ks≠[]:=λz=>by rw [z]at h1;cases h1
 have e:=tH hne
 have hl:=ly 44 8 ks λw hw=>(jf (hk w hw)).2.1
 rw [<- e,List.length_cons]at hl
 refine⟨?_,by rw [bG];omega,λc hc=>?_⟩
 ·cases ks with
  | nil=>exact absurd rfl hne
  | cons k r=>
   have h0:=(jf (hk k List.mem_cons_self)).1
   have:=congrArg List.length e
   rw [cL,List.length_cons,List.length_append,List.length_cons,<- bG,<- bG]at this
   omega
 ·have:c∈fl 44 ks:=by rw [<- e];exact List.mem_cons_of_mem _ hc
  unfold fl at this
  obtain⟨l,hl,hc⟩:=List.mem_flatten.mp this
  obtain⟨k,hk',rfl⟩:=List.mem_map.mp hl
  rcases List.mem_cons.mp hc with z | hc
  ·exact .inl z
  ·exact .inr (.inr (.inr ((jf (hk k hk')).2.2 c hc)))
theorem fS (m:Nat):∀ws:List Str,(∀w∈ws,w.length<=m)->(ws.map (·.length)).sum<=m * ws.length
 | [],_=>Nat.zero_le _
 | w::ws,h=>by
  have:=fS m ws λx hx=>h x (List.mem_cons_of_mem _ hx)
  have h1:=h w List.mem_cons_self
  rw [List.map_cons,List.sum_cons,List.length_cons,Nat.mul_succ]
  omega
theorem pC {ws:List Str} (h:∀w∈ws,w.length<=15000) (hl:ws.length<=1000):(ws.map (·.length)).sum+ws.length * (Str.ofString " ").length<=16777216:=by
 have:=fS 15000 ws h
 rw [show (Str.ofString " ").length=1 from by decide +kernel,Nat.mul_one]
 omega
theorem jh {ws:List Str}{m:Nat} (h:∀w∈ws,w.length<=m):(jn ws).length<=(m+1) * ws.length:=by
 cases ws with
 | nil=>exact Nat.le_trans (Nat.le_of_eq (show (jn []).length=0 from by decide +kernel)) (Nat.zero_le _)
 | cons w r=>
  have e:=congrArg List.length (pB (ws:=w::r) (by simp))
  have hl:=ly 32 m (w::r) h
  rw [List.length_cons]at e
  rw [bG]
  omega
noncomputable def onF (acc ks:List Str):List Str:=ks.foldl (λacc k=>if k∈acc then acc else acc++[k]) acc
theorem m7 (acc ks:List Str) (k:Str):onF acc (ks++[k])=if k∈onF acc ks then onF acc ks else onF acc ks++[k]:=by
 unfold onF
 rw [List.foldl_append]
 rfl
theorem lp {x:Str}:∀{ks acc:List Str},x∈onF acc ks↔x∈acc\/x∈ks
 | [],acc=>by
  show x∈acc↔_
  simp
 | k::ks,acc=>by
  show x∈onF (if k∈acc then acc else acc++[k]) ks↔_
  rw [lp]
  by_cases h:k∈acc
  ·rw [if_pos h,List.mem_cons]
   constructor
   ·rintro(a | a)
    ·exact .inl a
    ·exact .inr (.inr a)
   ·rintro(a | a | a)
    ·exact .inl a
    ·exact .inl (by rw [a];exact h)
    ·exact .inr a
  ·rw [if_neg h,List.mem_append,List.mem_singleton,List.mem_cons,or_assoc]
theorem sE {x:Str}{ks:List Str}:x∈bC ks↔x∈ks:=by
 rw [show bC ks=onF [] ks from rfl,lp]
 simp
theorem m8 (acc:List Str):∀(n:Nat) (ks:List Str),ks.length=n->onF acc (bC ks)=onF acc ks
 | 0,ks,h=>by rw [List.length_eq_zero_iff.mp h];rfl
 | n+1,ks,h=>by
  obtain⟨xs,x,rfl⟩:∃xs x,ks=xs++[x]:=⟨ks.dropLast,ks.getLast (by intro z;rw [z]at h;cases h),(List.dropLast_concat_getLast _).symm⟩
  rw [List.length_append,List.length_singleton]at h
  have ih:=m8 acc n xs (by omega)
  rw [fE,m7]
  by_cases z:x∈bC xs
  ·rw [if_pos z,ih,if_pos (lp.mpr (.inr (sE.mp z)))]
  ·rw [if_neg z,m7,ih]
theorem ma {α:Type} (g:α->List Str):∀(xs:List α) (acc:List Str),onF acc (xs.flatMap λx=>bC (g x))=onF acc (xs.flatMap g)
 | [],_=>rfl
 | x::xs,acc=>by
  have ap:∀a b c:List Str,onF a (b++c)=onF (onF a b) c:=λa b c=>by unfold onF;rw [List.foldl_append]
  rw [List.flatMap_cons,List.flatMap_cons,ap,ap,m8 _ _ _ rfl,ma g xs]
theorem qe {α:Type} (g:α->List Str) (xs:List α):bC (xs.flatMap λx=>bC (g x))=bC (xs.flatMap g):=ma g xs []
inductive Lf
 | num (z:Int) | val (k:Str) (d:Int) | gth (w:Str) (ks:List Str) (f l:Int) | snc (k:Str) (b f l:Int) | prt (a b:Str) (f l:Int) | chg (r:Int) (k:Str) (f l:Int)
inductive Nd
 | leaf (l:Lf) | brk (w:Str) (xs:List Nd)
noncomputable def b8:Lf->List Str
 | .num z=>[Str.ofString "number", si z]
 | .val k d=>[Str.ofString "value", k,si d]
 | .gth w ks f l=>[w,jc ks,si f,si l]
 | .snc k b f l=>[Str.ofString "since", k,si b,si f,si l]
 | .prt a b f l=>[Str.ofString "part", a,b,si f,si l]
 | .chg r k f l=>[Str.ofString "change", si r,k,si f,si l]
noncomputable def bU:Lf->List Str
 | .num _=>[]
 | .val k _=>[k]
 | .gth _ ks _ _=>ks
 | .snc k _ _ _=>[k]
 | .prt a b _ _=>[a,b]
 | .chg _ k _ _=>[k]
noncomputable def mJ (f l:Int):Prop:=0<=f/\f<=l/\l<=399
noncomputable def Big (z:Int):Prop:=-1000000000<=z/\z<=1000000000
noncomputable def ju (k:Str):Prop:=bJ k bX 8=true
noncomputable def eN:Lf->Prop
 | .num z=>Big z
 | .val k d=>ju k/\0<=d/\d<=399
 | .gth w ks f l=>w∈cm/\(1<=ks.length/\ks.length<=8/\ks.Nodup/\∀k∈ks,ju k)/\mJ f l
 | .snc k b f l=>ju k/\Big b/\mJ f l
 | .prt a b f l=>ju a/\ju b/\mJ f l
 | .chg r k f l=>(1<=r/\r<=400)/\ju k/\mJ f l
noncomputable abbrev opS:Str:=Str.ofString "("
noncomputable abbrev clS:Str:=Str.ofString ")"
noncomputable def aL:Nat->Nd->List Str
 | 0,.leaf l=>b8 l
 | 0,.brk _ _=>[]
 | _+1,.leaf l=>b8 l
 | n+1,.brk w xs=>w::xs.flatMap λc=>opS::(aL n c++[clS])
noncomputable def dj:Nat->Nd->List Str
 | 0,.leaf l=>bU l
 | 0,.brk _ _=>[]
 | _+1,.leaf l=>bU l
 | n+1,.brk w xs=>xs.flatMap (dj n)
noncomputable def ul (ns:List Int):Int:=ns.foldl (λa b=>if b > a then b else a) 0
noncomputable def dl:Nat->Nd->Int
 | 0,_=>0
 | _+1,.leaf _=>0
 | n+1,.brk _ xs=>1+ul (xs.map (dl n))
noncomputable def cC:Nat->Nd->Prop
 | 0,.leaf l=>eN l
 | 0,.brk _ _=>False
 | _+1,.leaf l=>eN l
 | n+1,.brk w xs=>((w∈ce/\xs.length=2)\/(w∈cp/\xs.length=4))/\∀x∈xs,cC n x
theorem cW (n:Nat) (l:Lf):aL n (.leaf l)=b8 l:=by cases n <;> rfl
theorem vw (n:Nat) (l:Lf):dj n (.leaf l)=bU l:=by cases n <;> rfl
theorem vC (n:Nat) (l:Lf):dl n (.leaf l)=0:=by cases n <;> rfl
theorem iK {n:Nat}{l:Lf} (h:cC n (.leaf l)):eN l:=by cases n <;> exact h
theorem yp:∀w∈cm,1<=w.length/\w.length<=79/\∀c∈w.cps.toList,97<=c/\c<=122:=by decide +kernel
theorem xB:∀w∈ce,1<=w.length/\w.length<=79/\∀c∈w.cps.toList,97<=c/\c<=122:=by decide +kernel
theorem yw:∀w∈cp,1<=w.length/\w.length<=79/\∀c∈w.cps.toList,97<=c/\c<=122:=by decide +kernel
theorem j2:∀w∈cQ,1<=w.length/\w.length<=79/\∀c∈w.cps.toList,97<=c/\c<=122:=by decide +kernel
theorem iq {w:Str} (h:1<=w.length/\w.length<=79/\∀c∈w.cps.toList,97<=c/\c<=122):Wd w:=⟨h.1,h.2.1,λc hc=>.inr (.inr (.inr (h.2.2 c hc)))⟩
theorem eL {P:Str->Prop}:∀w∈([]:List Str),P w:=λ_ h=>nomatch h
theorem all_cons {P:Str->Prop}{x:Str}{xs:List Str} (h:P x) (t:∀w∈xs,P w):∀w∈x::xs,P w:=λw hw=>(List.mem_cons.mp hw).elim (λe=>e ▸ h) (t w)
theorem dA {f l:Int} (h:mJ f l):Wd (si f)/\Wd (si l):=by
 obtain⟨h1,h2,h3⟩:=h
 exact⟨cE (by omega) (by omega),cE (by omega) (by omega)⟩
theorem pq:∀{l:Lf},eN l->∀w∈b8 l,Wd w
 | .num z,h=>all_cons (iq (j2 _ (by decide +kernel))) (all_cons (cE h.1 h.2) eL)
 | .val k d,⟨h1,h2,h3⟩=>all_cons (iq (j2 _ (by decide +kernel))) (all_cons (jO h1) (all_cons (cE (by omega) (by omega)) eL))
 | .gth w ks f l,⟨h1,⟨h2,h3,_,h4⟩,h5⟩=>all_cons (iq (yp _ h1)) (all_cons (ww h2 h3 h4) (all_cons (dA h5).1 (all_cons (dA h5).2 eL)))
 | .snc k b f l,⟨h1,h2,h5⟩=>all_cons (iq (j2 _ (by decide +kernel))) (all_cons (jO h1) (all_cons (cE h2.1 h2.2) (all_cons (dA h5).1 (all_cons (dA h5).2 eL))))
 | .prt a b f l,⟨h1,h2,h5⟩=>all_cons (iq (j2 _ (by decide +kernel))) (all_cons (jO h1) (all_cons (jO h2) (all_cons (dA h5).1 (all_cons (dA h5).2 eL))))
 | .chg r k f l,⟨h1,h2,h5⟩=>all_cons (iq (j2 _ (by decide +kernel))) (all_cons (cE (by omega) (by omega)) (all_cons (jO h2) (all_cons (dA h5).1 (all_cons (dA h5).2 eL))))
theorem ib (l:Lf):2<=(b8 l).length/\(b8 l).length<=5:=by cases l <;> exact⟨Nat.le_of_ble_eq_true rfl,Nat.le_of_ble_eq_true rfl⟩
noncomputable def WdB (w:Str):Prop:=Wd w\/w=opS\/w=clS
theorem WdB.len {w:Str} (h:WdB w):w.length<=79:=by
 rcases h with h | rfl | rfl
 ·exact h.hi
 ·exact(by decide +kernel)
 ·exact(by decide +kernel)
theorem WdB.free {w:Str} (h:WdB w):32∉w.cps.toList:=by
 rcases h with h | rfl | rfl
 ·exact h.free
 ·exact(by decide +kernel)
 ·exact(by decide +kernel)
theorem ub {w:Str}{m:Nat} (h:(w∈ce/\m=2)\/(w∈cp/\m=4)):Wd w:=by
 rcases h with⟨h,_⟩ | ⟨h,_⟩
 ·exact iq (xB _ h)
 ·exact iq (yw _ h)
theorem eU:∀{n:Nat}{nd:Nd},cC n nd->∀w∈aL n nd,WdB w
 | 0,.leaf l,h=>λw hw=>.inl (pq (show eN l from h) w hw)
 | 0,.brk _ _,h=>(show False from h).elim
 | n+1,.leaf l,h=>λw hw=>.inl (pq (show eN l from h) w hw)
 | n+1,.brk w xs,h=>λv hv=>by
  obtain⟨h1,h2⟩:_/\_:=h
  rcases List.mem_cons.mp hv with z | hv
  ·rw [z];exact .inl (ub h1)
  ·obtain⟨c,hc,hv⟩:=List.mem_flatMap.mp hv
   rcases List.mem_cons.mp hv with z | hv
   ·exact .inr (.inl z)
   ·rcases List.mem_append.mp hv with hv | hv
    ·exact eU (h2 c hc) v hv
    ·exact .inr (.inr (List.mem_singleton.mp hv))
theorem lF (n:Nat):∀{nd:Nd},cC n nd->aL n nd≠[]:=by
 intro nd h z
 cases nd with
 | leaf l=>
  rw [cW]at z
  have:=(ib l).1
  rw [z]at this
  exact absurd this (by decide)
 | brk w xs=>
  cases n with
  | zero=>exact h
  | succ n=>exact absurd z (by unfold aL;simp)
noncomputable def Wn:Nat->Nat
 | 0=>5
 | n+1=>4 * (Wn n+2)+1
theorem cN {α:Type}{g:α->List Str}{m:Nat}:∀xs:List α,(∀x∈xs,(g x).length<=m)->(xs.flatMap g).length<=m * xs.length
 | [],_=>Nat.zero_le _
 | x::xs,h=>by
  have:=cN xs λy hy=>h y (List.mem_cons_of_mem _ hy)
  have h1:=h x List.mem_cons_self
  rw [List.flatMap_cons,List.length_append,List.length_cons,Nat.mul_succ]
  omega
theorem wE:∀n,5<=Wn n
 | 0=>Nat.le_refl _
 | n+1=>by have:=wE n;show 5<=4 * (Wn n+2)+1;omega
theorem fJ {w:Str}{m:Nat} (h:(w∈ce/\m=2)\/(w∈cp/\m=4)):2<=m/\m<=4:=by
 rcases h with⟨_,h⟩ | ⟨_,h⟩ <;> omega
theorem cF:∀{n:Nat}{nd:Nd},cC n nd->(aL n nd).length<=Wn n
 | 0,.leaf l,_=>(ib l).2
 | 0,.brk _ _,h=>(show False from h).elim
 | n+1,.leaf l,_=>Nat.le_trans (ib l).2 (wE _)
 | n+1,.brk w xs,h=>by
  obtain⟨h1,h2⟩:_/\_:=h
  have hl:=fJ h1
  have:=cN (g:=λc=>opS::(aL n c++[clS])) (m:=Wn n+2) xs λc hc=>by
   have:=cF (h2 c hc)
   rw [List.length_cons,List.length_append,List.length_singleton]
   omega
  show (w::xs.flatMap _).length<=4 * (Wn n+2)+1
  rw [List.length_cons]
  have h4:(Wn n+2) * xs.length<=(Wn n+2) * 4:=Nat.mul_le_mul_left _ hl.2
  omega
theorem uf {n:Nat} (h:n<=3):Wn n<=509:=by
 rcases (show n=0\/n=1\/n=2\/n=3 by omega) with rfl | rfl | rfl | rfl <;> decide
noncomputable def Kn:Nat->Nat
 | 0=>8
 | n+1=>4 * Kn n
theorem wG:∀n,8<=Kn n
 | 0=>Nat.le_refl _
 | n+1=>by have:=wG n;show 8<=4 * Kn n;omega
theorem lq:∀{l:Lf},eN l->(bU l).length<=8
 | .num _,_=>Nat.le_of_ble_eq_true rfl
 | .val _ _,_=>Nat.le_of_ble_eq_true rfl
 | .gth _ _ _ _,h=>h.2.1.2.1
 | .snc _ _ _ _,_=>Nat.le_of_ble_eq_true rfl
 | .prt _ _ _ _,_=>Nat.le_of_ble_eq_true rfl
 | .chg _ _ _ _,_=>Nat.le_of_ble_eq_true rfl
theorem gO:∀{n:Nat}{nd:Nd},cC n nd->(dj n nd).length<=Kn n
 | 0,.leaf l,h=>lq (show eN l from h)
 | 0,.brk _ _,h=>(show False from h).elim
 | n+1,.leaf l,h=>Nat.le_trans (lq (show eN l from h)) (wG _)
 | n+1,.brk w xs,h=>by
  obtain⟨h1,h2⟩:_/\_:=h
  have hl:=fJ h1
  have:=cN (g:=dj n) (m:=Kn n) xs λc hc=>gO (h2 c hc)
  show (xs.flatMap _).length<=4 * Kn n
  have h4:Kn n * xs.length<=Kn n * 4:=Nat.mul_le_mul_left _ hl.2
  omega
theorem zJ {n:Nat} (h:n<=3):Kn n<=512:=by
 rcases (show n=0\/n=1\/n=2\/n=3 by omega) with rfl | rfl | rfl | rfl <;> decide
noncomputable def At (ws:List Str) (pl:Nat) (vs:List Str):Prop:=vs <+: ws.drop pl
theorem At.hd {ws vs:List Str}{pl:Nat}{v:Str} (h:At ws pl (v::vs)):ws[pl]?=some v:=by
 obtain⟨t,e⟩:=h
 have:(ws.drop pl)[0]?=some v:=by rw [<- e];rfl
 rw [List.getElem?_drop]at this
 exact this
theorem At.app {ws us vs:List Str}{pl:Nat} (h:At ws pl (us++vs)):At ws pl us/\At ws (pl+us.length) vs:=by
 obtain⟨t,e⟩:=h
 refine⟨⟨vs++t,by rw [<- List.append_assoc];exact e⟩,t,?_⟩
 rw [<- List.drop_drop,<- e,List.append_assoc,List.drop_left]
theorem At.tl {ws vs:List Str}{pl:Nat}{v:Str} (h:At ws pl (v::vs)):At ws (pl+1) vs:=(At.app (us:=[v]) h).2
theorem At.all (ws:List Str):At ws 0 ws:=List.prefix_refl _
noncomputable abbrev rY:Stmt:=bi (top 19) 0
noncomputable abbrev rV:Stmt:=bi (top 20) 0
noncomputable abbrev rZ:Stmt:=bi (top 21) 0
noncomputable abbrev rW:Stmt:=bi (top 22) 0
noncomputable abbrev rX:Stmt:=bi (top 23) 0
noncomputable abbrev sd:Stmt:=bi (top 24) 0
noncomputable abbrev rP:Stmt:=bi (top 18) 1
noncomputable abbrev nE:Stmt:=bi (top 18) 2
noncomputable abbrev nA:Stmt:=bi (top 18) 3
noncomputable def qf3 (tx:Str) (ln:Addr) (d:Int):List (Str × V):=[("written", V.str tx),("names", V.ref ln),("levels", V.int d)]
noncomputable def tu:Lf->List (Str × V)
 | .num z=>[("number", .int z)]
 | .val k d=>[("key", .str k),("day", .int d)]
 | .gth w _ f l=>[("word", .str w),("first", .int f),("last", .int l)]
 | .snc k b f l=>[("key", .str k),("bound", .int b),("first", .int f),("last", .int l)]
 | .prt a b f l=>[("one", .str a),("other", .str b),("first", .int f),("last", .int l)]
 | .chg r k f l=>[("rank", .int r),("key", .str k),("first", .int f),("last", .int l)]
noncomputable def yb (l:Lf) (ln:Addr):List (Str × V):=qf3 (jn (b8 l)) ln 0++tu l
theorem q_w (tx:Str) (ln:Addr) (d:Int) (r:List (Str × V)):(qf3 tx ln d++r).lookup ("written" : Str)=some (.str tx):=rfl
theorem q_n (tx:Str) (ln:Addr) (d:Int) (r:List (Str × V)):(qf3 tx ln d++r).lookup ("names" : Str)=some (.ref ln):=by
 show (((("written" : Str),V.str tx)::(("names" : Str),V.ref ln)::_)).lookup _=_
 rw [List.lookup_cons,show (("names" : Str) == ("written" : Str))=false from by decide +kernel]
 rfl
theorem q_l (tx:Str) (ln:Addr) (d:Int) (r:List (Str × V)):(qf3 tx ln d++r).lookup ("levels" : Str)=some (.int d):=by
 show (((("written" : Str),V.str tx)::(("names" : Str),V.ref ln)::_)).lookup _=_
 rw [List.lookup_cons,show (("levels" : Str) == ("written" : Str))=false from by decide +kernel,List.lookup_cons,show (("levels" : Str) == ("names" : Str))=false from by decide +kernel]
 rfl
theorem zk {m:Str} (hm:m∉cR):∀{fs:List (Str × V)},(∀p∈fs,p.1∈cR)->fs.lookup m=none
 | [],_=>rfl
 | (k,v)::fs,h=>by
  rw [List.lookup_cons,beq_eq_false_iff_ne.mpr (λz:m=k=>hm (by rw [z];exact h (k,v) List.mem_cons_self))]
  exact zk hm λp hp=>h p (List.mem_cons_of_mem _ hp)
theorem tq (l:Lf) (ln:Addr):∀p∈yb l ln,p.1∈cR:=by
 have key:∀{fs:List (Str × V)}{ks:List Str},fs.map (·.1)=ks->(∀k∈ks,k∈cR)->∀p∈fs,p.1∈cR:=λe h p hp=>h _ (by rw [<- e];exact List.mem_map_of_mem hp)
 cases l
 ·exact key (ks:=[Str.ofString "written", Str.ofString "names", Str.ofString "levels", Str.ofString "number"]) rfl (by decide +kernel)
 ·exact key (ks:=[Str.ofString "written", Str.ofString "names", Str.ofString "levels", Str.ofString "key", Str.ofString "day"]) rfl (by decide +kernel)
 ·exact key (ks:=[Str.ofString "written", Str.ofString "names", Str.ofString "levels", Str.ofString "word", Str.ofString "first", Str.ofString "last"]) rfl (by decide +kernel)
 ·exact key (ks:=[Str.ofString "written", Str.ofString "names", Str.ofString "levels", Str.ofString "key", Str.ofString "bound", Str.ofString "first", Str.ofString "last"]) rfl (by decide +kernel)
 ·exact key (ks:=[Str.ofString "written", Str.ofString "names", Str.ofString "levels", Str.ofString "one", Str.ofString "other", Str.ofString "first", Str.ofString "last"]) rfl (by decide +kernel)
 ·exact key (ks:=[Str.ofString "written", Str.ofString "names", Str.ofString "levels", Str.ofString "rank", Str.ofString "key", Str.ofString "first", Str.ofString "last"]) rfl (by decide +kernel)
theorem cf {z:Int} (h0 : -1000000000<=z) (h1:z<=1000000000):z.natAbs.log2 < 1920:=by
 by_cases e:z.natAbs=0
 ·rw [e];decide
 ·exact Nat.lt_trans ((Nat.log2_lt e).mpr (show z.natAbs < 2 ^ 30 by omega)) (by decide)
inductive LfI (K:PySem.W.Frag) (C x dx:Addr) (l:Lf) (H:Hp) (Q:VK):Prop
 | mk (T:QuC K C) (hx:H x=some (.ins C dx [])) (ok:eN l) (q:∀ln H',H ln=none->Ofr x H H'->H' ln=some (.lst ((bC (bU l)).map V.str))->H' x=some (.ins C dx (yb l ln))->Q .non H'):LfI K C x dx l H Q
theorem jR {K:PySem.W.Frag}{C x dx p1 p2:Addr}{l:Lf}{H H2:Hp}{Q:VK}{E:XK} (T:QuC K C) (hx:H x=some (.ins C dx [])) (ok:eN l) (g:aP H H2) (e1:H2 p1=some (.lst ((b8 l).map V.str))) (e2:SqL K H2 p2 ((bU l).map V.str))
  (q:∀ln H',H ln=none->Ofr x H H'->H' ln=some (.lst ((bC (bU l)).map V.str))->H' x=some (.ins C dx (qf3 (jn (b8 l)) ln 0))->Q .non H'):bT K [.ref x,.ref p1,.ref p2,.int 0] H2 Q E:=by
 refine⟨x,C,dx,p1,p2,[],b8 l,bU l,0,rfl,T,g _ _ hx,by decide,e1,e2,Nat.le_trans (lq ok) (by decide),pC (λw hw=>Nat.le_trans (pq ok w hw).hi (by decide)) (Nat.le_trans (ib l).2 (by decide)),λln H' nl o el ex=>?_⟩
 refine q ln H' ?_ (λb u e n=>o _ _ (g _ _ e) n) el ex
 cases e:H ln with
 | none=>rfl
 | some u=>rw [g _ _ e]at nl;cases nl
structure QAt (H:Hp) (x C ln:Addr) (tx:Str) (ks:List Str) (d:Int):Prop where
 ob:∃dx r,H x=some (.ins C dx (qf3 tx ln d++r))/\∀p∈qf3 tx ln d++r,p.1∈cR
 nm:H ln=some (.lst (ks.map V.str))
noncomputable def kD (K:PySem.W.Frag):Sp:=λvs H Q _=>∃(x C ln:Addr) (tx:Str) (ks:List Str) (d:Int),vs=[.ref x]/\QuC K C/\QAt H x C ln tx ks d/\Q (.str tx) H
noncomputable def iX (K:PySem.W.Frag):Sp:=λvs H Q _=>∃(x C ln:Addr) (tx:Str) (ks:List Str) (d:Int),vs=[.ref x]/\QuC K C/\QAt H x C ln tx ks d/\Q (.int d) H
noncomputable def kK (K:PySem.W.Frag):Sp:=λvs H Q _=>∃(x C ln:Addr) (tx:Str) (ks:List Str) (d:Int),vs=[.ref x]/\QuC K C/\QAt H x C ln tx ks d/\∀p,H p=none->Q (.ref p) (upd H p (.lst (ks.map V.str)))
theorem wU:FnScope ["self"] ["self"] (aw rP):=⟨rfl,rfl,rfl,by decide +kernel,rfl,by decide +kernel,by decide +kernel⟩
theorem uU {f:Addr}{fd:FuncData} (F:Fun K "text" "Question.text" rP f fd)  : FnOk P w K mg base CX0 1 f fd ["self"] (kD K):=by
 refine F.ok (k:=0) wU (λvs H Q E h=>?_) (λcdv A outer s H vs Q E hr h=>?_)
 ·obtain⟨x,C,ln,tx,ks,d,rfl,_⟩:=h
  rfl
 ·obtain⟨x,C,ln,tx,ks,d,rfl,T,⟨⟨dx,r,hx,_⟩,hn⟩,q⟩:=h
  have hu:=aM hr
  refine⟨_,(af (av (bR (pv 0) rfl))),?_⟩
  exact⟨_,rfl,x,C,dx,_,_,rfl,hx,T.cl,T.a_written,q_w _ _ _ _,q⟩
theorem rM:FnScope ["self"] ["self"] (aw nA):=⟨rfl,rfl,rfl,by decide +kernel,rfl,by decide +kernel,by decide +kernel⟩
theorem qj {f:Addr}{fd:FuncData} (F:Fun K "depth" "Question.depth" nA f fd)  : FnOk P w K mg base CX0 1 f fd ["self"] (iX K):=by
 refine F.ok (k:=0) rM (λvs H Q E h=>?_) (λcdv A outer s H vs Q E hr h=>?_)
 ·obtain⟨x,C,ln,tx,ks,d,rfl,_⟩:=h
  rfl
 ·obtain⟨x,C,ln,tx,ks,d,rfl,T,⟨⟨dx,r,hx,_⟩,hn⟩,q⟩:=h
  have hu:=aM hr
  refine⟨_,(af (av (bR (pv 0) rfl))),?_⟩
  exact⟨_,rfl,x,C,dx,_,_,rfl,hx,T.cl,T.a_levels,q_l _ _ _ _,q⟩
theorem uD:FnScope ["self"] ["self"] (aw nE):=⟨rfl,rfl,rfl,by decide +kernel,rfl,by decide +kernel,by decide +kernel⟩
theorem sU {f:Addr}{fd:FuncData} (F:Fun K "asked_keys" "Question.asked_keys" nE f fd) (N:Free mg):FnOk P w K mg base CX0 1 f fd ["self"] (kK K):=by
 refine F.ok (k:=0) uD (λvs H Q E h=>?_) (λcdv A outer s H vs Q E hr h=>?_)
 ·obtain⟨x,C,ln,tx,ks,d,rfl,_⟩:=h
  rfl
 ·obtain⟨x,C,ln,tx,ks,d,rfl,T,⟨⟨dx,r,hx,_⟩,hn⟩,q⟩:=h
  have hu:=aM hr
  refine⟨_,(af (av (aV db (by rfl) N.list PyProof.Rows.Boot.«list» (aa (bR (pv 0) rfl) ac)))),?_⟩
  exact⟨_,rfl,x,C,dx,_,_,rfl,hx,T.cl,T.a_names,q_n _ _ _ _,ln,_,rfl,.inl (SqL.of hn),λp np=>q p np⟩
noncomputable def mZ (K:PySem.W.Frag):Sp:=λvs H Q _=>∃(x C dx:Addr) (z:Int),vs=[.ref x,.int z]/\LfI K C x dx (.num z) H Q
theorem x8:FnScope ["self", "number"] ["self", "number"] (aw rY):=⟨rfl,rfl,rfl,by decide +kernel,rfl,by decide +kernel,by decide +kernel⟩
theorem ve {f f1:Addr}{fd:FuncData} (F:Fun K "__init__" "Number.__init__" rY f fd) (N:Free mg){fd1:FuncData}{CQ:Addr}{mc:Value} (CI:CMc P w K mg base "Question" "__init__" 2 ["self", "words", "keys", "depth"] (bT K) CQ f1 fd1 mc):FnOk P w K mg base CX0 3 f fd ["self", "number"] (mZ K):=by
 refine F.ok (k:=2) x8 (λvs H Q E h=>?_) (λcdv A outer s H vs Q E hr h=>?_)
 ·obtain⟨x,C,dx,z,rfl,_⟩:=h
  rfl
 ·obtain⟨x,C,dx,z,rfl,⟨T,hx,ok,q⟩⟩:=h
  have hu:=aM hr
  refine⟨_,(ad (aY (cZ rfl CI.nm CI.h1 CI.h2 CI.h3 rfl CI.ok (hr.mono (by decide)) CI.kp CI.bd .nil ar (aa (pv 0) (aa (aH (aa ah (aa (aV bo (by rfl) N.str PyProof.Rows.Boot.«str» (aa (pv 1) ac)) ac))) (aa (aH ac) (aa ag ac))))))
   (af (bz (pv 0) (pv 1) rfl))),?_⟩
  have hz:=id ok
  refine ae (aS ⟨_,rfl,_,rfl,_,rfl,cf hz.1 hz.2,by show 2<=sizeLine;decide,λp1 np1=>?_⟩)
  obtain⟨g1,e1⟩:=laid (o:=.lst ((b8 (.num z)).map V.str)) np1
  change bV _ _ _ (upd H p1 (.lst ((b8 (.num z)).map V.str))) _
  generalize upd H p1 _=H1 at g1 e1 ⊢
  refine⟨by show 0<=sizeLine;decide,λp2 np2=>?_⟩
  obtain⟨g2,e2⟩:=laid (o:=.lst ((bU (.num z)).map V.str)) np2
  dsimp only [bV,tC,eR,List.append_nil,List.cons_append,List.nil_append]
  show bT K [.ref x,.ref p1,.ref p2,.int 0] (upd H1 p2 (.lst ((bU (.num z)).map V.str))) _ _
  refine jR (l:=.num z) T hx ok (g1.trans g2) (g2 _ _ e1) (SqL.of e2) λln H3 nl o3 el ex=>?_
  have nlx:ln≠x:=λz=>by rw [z,hx]at nl;cases nl
  refine⟨_,rfl,_,rfl,x,C,dx,_,rfl,ex,T.cl,T.a_number,(by show 3 < 1000;decide),?_⟩
  exact q ln _ nl (λb o e n=>by rw [al n];exact o3 _ _ e n) (by rw [al nlx];exact el) aj
noncomputable def mW (K:PySem.W.Frag):Sp:=λvs H Q _=>∃(x C dx:Addr) (k:Str) (d:Int),vs=[.ref x,.str k,.int d]/\LfI K C x dx (.val k d) H Q
theorem wX:FnScope ["self", "key", "day"] ["self", "key", "day"] (aw rV):=⟨rfl,rfl,rfl,by decide +kernel,rfl,by decide +kernel,by decide +kernel⟩
theorem va {f f1:Addr}{fd:FuncData} (F:Fun K "__init__" "Value.__init__" rV f fd) (N:Free mg){fd1:FuncData}{CQ:Addr}{mc:Value} (CI:CMc P w K mg base "Question" "__init__" 2 ["self", "words", "keys", "depth"] (bT K) CQ f1 fd1 mc):FnOk P w K mg base CX0 3 f fd ["self", "key", "day"] (mW K):=by
 refine F.ok (k:=2) wX (λvs H Q E h=>?_) (λcdv A outer s H vs Q E hr h=>?_)
 ·obtain⟨x,C,dx,k,d,rfl,_⟩:=h
  rfl
 ·obtain⟨x,C,dx,k,d,rfl,⟨T,hx,ok,q⟩⟩:=h
  have hu:=aM hr
  refine⟨_,(ad (aY (cZ rfl CI.nm CI.h1 CI.h2 CI.h3 rfl CI.ok (hr.mono (by decide)) CI.kp CI.bd .nil ar (aa (pv 0) (aa (aH (aa ah (aa (pv 1) (aa (aV bo (by rfl) N.str PyProof.Rows.Boot.«str» (aa (pv 2) ac)) ac)))) (aa (aH (aa (pv 1) ac)) (aa ag ac))))))
   (ad (bz (pv 0) (pv 1) rfl)
   (af (bz (pv 0) (pv 2) rfl)))),?_⟩
  obtain⟨_,d0,d1⟩:=id ok
  refine ae (aS ⟨_,rfl,_,rfl,_,rfl,_,rfl,cf (by omega) (by omega),by show 3<=sizeLine;decide,λp1 np1=>?_⟩)
  obtain⟨g1,e1⟩:=laid (o:=.lst ((b8 (.val k d)).map V.str)) np1
  change bV _ _ _ (upd H p1 (.lst ((b8 (.val k d)).map V.str))) _
  generalize upd H p1 _=H1 at g1 e1 ⊢
  refine⟨_,rfl,by show 1<=sizeLine;decide,λp2 np2=>?_⟩
  obtain⟨g2,e2⟩:=laid (o:=.lst ((bU (.val k d)).map V.str)) np2
  dsimp only [bV,tC,eR,List.append_nil,List.cons_append,List.nil_append]
  show bT K [.ref x,.ref p1,.ref p2,.int 0] (upd H1 p2 (.lst ((bU (.val k d)).map V.str))) _ _
  refine jR (l:=.val k d) T hx ok (g1.trans g2) (g2 _ _ e1) (SqL.of e2) λln H3 nl o3 el ex=>?_
  have nlx:ln≠x:=λz=>by rw [z,hx]at nl;cases nl
  refine ae ⟨_,rfl,_,rfl,x,C,dx,_,rfl,ex,T.cl,T.a_key,(by show 3 < 1000;decide),?_⟩
  refine⟨_,rfl,_,rfl,x,C,dx,_,rfl,aj,T.cl,T.a_day,(by show 4 < 1000;decide),?_⟩
  rw [bv]
  exact q ln _ nl (λb o e n=>by rw [al n];exact o3 _ _ e n) (by rw [al nlx];exact el) aj
noncomputable def fW (K:PySem.W.Frag):Sp:=λvs H Q _=>∃(x C dx:Addr) (gw:Str) (lk:Addr) (f0:Int) (l0:Int) (ks:List Str),vs=[.ref x,.str gw,.ref lk,.int f0,.int l0]/\H lk=some (.lst (ks.map V.str))/\LfI K C x dx (.gth gw ks f0 l0) H Q
theorem x9:FnScope ["self", "word", "keys", "first", "last"] ["self", "word", "keys", "first", "last"] (aw rZ):=⟨rfl,rfl,rfl,by decide +kernel,rfl,by decide +kernel,by decide +kernel⟩
theorem vf {f f1:Addr}{fd:FuncData} (F:Fun K "__init__" "Gathering.__init__" rZ f fd) (N:Free mg){fd1:FuncData}{CQ:Addr}{mc:Value} (CI:CMc P w K mg base "Question" "__init__" 2 ["self", "words", "keys", "depth"] (bT K) CQ f1 fd1 mc):FnOk P w K mg base CX0 3 f fd ["self", "word", "keys", "first", "last"] (fW K):=by
 refine F.ok (k:=2) x9 (λvs H Q E h=>?_) (λcdv A outer s H vs Q E hr h=>?_)
 ·obtain⟨x,C,dx,gw,lk,f0,l0,ks,rfl,_⟩:=h
  rfl
 ·obtain⟨x,C,dx,gw,lk,f0,l0,ks,rfl,hlk,⟨T,hx,ok,q⟩⟩:=h
  have hu:=aM hr
  refine⟨_,(ad (aY (cZ rfl CI.nm CI.h1 CI.h2 CI.h3 rfl CI.ok (hr.mono (by decide)) CI.kp CI.bd .nil ar (aa (pv 0) (aa (aH (aa (pv 1) (aa (bW PySem.F.plainAttrs_str PySem.F.slot_str_join PySem.F.type_str_join du ah (aa (pv 2) ac)) (aa (aV bo (by rfl) N.str PyProof.Rows.Boot.«str» (aa (pv 3) ac)) (aa (aV bo (by rfl) N.str PyProof.Rows.Boot.«str» (aa (pv 4) ac)) ac))))) (aa (pv 2) (aa ag ac))))))
   (ad (bz (pv 0) (pv 1) rfl)
   (ad (bz (pv 0) (pv 3) rfl)
   (af (bz (pv 0) (pv 4) rfl))))),?_⟩
  obtain⟨hg,⟨k1,k8,_,hk⟩,h1,h2,h3⟩:=id ok
  refine ae (aS ⟨_,rfl,_,rfl,rfl,_,rfl,_,lk,ks,rfl,rfl,hlk,?fit,_,rfl,_,rfl,cf (by omega) (by omega),_,rfl,_,rfl,cf (by omega) (by omega),by show 4<=sizeLine;decide,λp1 np1=>?_⟩)
  case fit=>
   have:=fS 8 ks λw hw=>(jf (hk w hw)).2.1
   rw [show (Str.ofString ",").length=1 from by decide +kernel]
   omega
  obtain⟨g1,e1⟩:=laid (o:=.lst ((b8 (.gth gw ks f0 l0)).map V.str)) np1
  change bV _ _ _ (upd H p1 (.lst ((b8 (.gth gw ks f0 l0)).map V.str))) _
  generalize upd H p1 _=H1 at g1 e1 ⊢
  refine⟨_,rfl,?_⟩
  dsimp only [bV,tC,eR,List.append_nil,List.cons_append,List.nil_append]
  show bT K [.ref x,.ref p1,.ref lk,.int 0] H1 _ _
  refine jR (l:=.gth gw ks f0 l0) T hx ok g1 e1 (SqL.of (g1 _ _ hlk)) λln H3 nl o3 el ex=>?_
  have nlx:ln≠x:=λz=>by rw [z,hx]at nl;cases nl
  refine ae ⟨_,rfl,_,rfl,x,C,dx,_,rfl,ex,T.cl,T.a_word,(by show 3 < 1000;decide),?_⟩
  refine ae ⟨_,rfl,_,rfl,x,C,dx,_,rfl,aj,T.cl,T.a_first,(by show 4 < 1000;decide),?_⟩
  refine⟨_,rfl,_,rfl,x,C,dx,_,rfl,aj,T.cl,T.a_last,(by show 5 < 1000;decide),?_⟩
  rw [bv,bv]
  exact q ln _ nl (λb o e n=>by rw [al n];exact o3 _ _ e n) (by rw [al nlx];exact el) aj
noncomputable def mX (K:PySem.W.Frag):Sp:=λvs H Q _=>∃(x C dx:Addr) (k:Str) (b0:Int) (f0:Int) (l0:Int),vs=[.ref x,.str k,.int b0,.int f0,.int l0]/\LfI K C x dx (.snc k b0 f0 l0) H Q
theorem wY:FnScope ["self", "key", "bound", "first", "last"] ["self", "key", "bound", "first", "last"] (aw rW):=⟨rfl,rfl,rfl,by decide +kernel,rfl,by decide +kernel,by decide +kernel⟩
theorem vb {f f1:Addr}{fd:FuncData} (F:Fun K "__init__" "Since.__init__" rW f fd) (N:Free mg){fd1:FuncData}{CQ:Addr}{mc:Value} (CI:CMc P w K mg base "Question" "__init__" 2 ["self", "words", "keys", "depth"] (bT K) CQ f1 fd1 mc):FnOk P w K mg base CX0 3 f fd ["self", "key", "bound", "first", "last"] (mX K):=by
 refine F.ok (k:=2) wY (λvs H Q E h=>?_) (λcdv A outer s H vs Q E hr h=>?_)
 ·obtain⟨x,C,dx,k,b0,f0,l0,rfl,_⟩:=h
  rfl
 ·obtain⟨x,C,dx,k,b0,f0,l0,rfl,⟨T,hx,ok,q⟩⟩:=h
  have hu:=aM hr
  refine⟨_,(ad (aY (cZ rfl CI.nm CI.h1 CI.h2 CI.h3 rfl CI.ok (hr.mono (by decide)) CI.kp CI.bd .nil ar (aa (pv 0) (aa (aH (aa ah (aa (pv 1) (aa (aV bo (by rfl) N.str PyProof.Rows.Boot.«str» (aa (pv 2) ac)) (aa (aV bo (by rfl) N.str PyProof.Rows.Boot.«str» (aa (pv 3) ac)) (aa (aV bo (by rfl) N.str PyProof.Rows.Boot.«str» (aa (pv 4) ac)) ac)))))) (aa (aH (aa (pv 1) ac)) (aa ag ac))))))
   (ad (bz (pv 0) (pv 1) rfl)
   (ad (bz (pv 0) (pv 2) rfl)
   (ad (bz (pv 0) (pv 3) rfl)
   (af (bz (pv 0) (pv 4) rfl)))))),?_⟩
  obtain⟨_,hb,h1,h2,h3⟩:=id ok
  refine ae (aS ⟨_,rfl,_,rfl,_,rfl,_,rfl,cf hb.1 hb.2,_,rfl,_,rfl,cf (by omega) (by omega),_,rfl,_,rfl,cf (by omega) (by omega),by show 5<=sizeLine;decide,λp1 np1=>?_⟩)
  obtain⟨g1,e1⟩:=laid (o:=.lst ((b8 (.snc k b0 f0 l0)).map V.str)) np1
  change bV _ _ _ (upd H p1 (.lst ((b8 (.snc k b0 f0 l0)).map V.str))) _
  generalize upd H p1 _=H1 at g1 e1 ⊢
  refine⟨_,rfl,by show 1<=sizeLine;decide,λp2 np2=>?_⟩
  obtain⟨g2,e2⟩:=laid (o:=.lst ((bU (.snc k b0 f0 l0)).map V.str)) np2
  dsimp only [bV,tC,eR,List.append_nil,List.cons_append,List.nil_append]
  show bT K [.ref x,.ref p1,.ref p2,.int 0] (upd H1 p2 (.lst ((bU (.snc k b0 f0 l0)).map V.str))) _ _
  refine jR (l:=.snc k b0 f0 l0) T hx ok (g1.trans g2) (g2 _ _ e1) (SqL.of e2) λln H3 nl o3 el ex=>?_
  have nlx:ln≠x:=λz=>by rw [z,hx]at nl;cases nl
  refine ae ⟨_,rfl,_,rfl,x,C,dx,_,rfl,ex,T.cl,T.a_key,(by show 3 < 1000;decide),?_⟩
  refine ae ⟨_,rfl,_,rfl,x,C,dx,_,rfl,aj,T.cl,T.a_bound,(by show 4 < 1000;decide),?_⟩
  refine ae ⟨_,rfl,_,rfl,x,C,dx,_,rfl,aj,T.cl,T.a_first,(by show 5 < 1000;decide),?_⟩
  refine⟨_,rfl,_,rfl,x,C,dx,_,rfl,aj,T.cl,T.a_last,(by show 6 < 1000;decide),?_⟩
  rw [bv,bv,bv]
  exact q ln _ nl (λb o e n=>by rw [al n];exact o3 _ _ e n) (by rw [al nlx];exact el) aj
noncomputable def mY (K:PySem.W.Frag):Sp:=λvs H Q _=>∃(x C dx:Addr) (k:Str) (k2:Str) (f0:Int) (l0:Int),vs=[.ref x,.str k,.str k2,.int f0,.int l0]/\LfI K C x dx (.prt k k2 f0 l0) H Q
theorem wZ:FnScope ["self", "one", "other", "first", "last"] ["self", "one", "other", "first", "last"] (aw rX):=⟨rfl,rfl,rfl,by decide +kernel,rfl,by decide +kernel,by decide +kernel⟩
theorem vd {f f1:Addr}{fd:FuncData} (F:Fun K "__init__" "Part.__init__" rX f fd) (N:Free mg){fd1:FuncData}{CQ:Addr}{mc:Value} (CI:CMc P w K mg base "Question" "__init__" 2 ["self", "words", "keys", "depth"] (bT K) CQ f1 fd1 mc):FnOk P w K mg base CX0 3 f fd ["self", "one", "other", "first", "last"] (mY K):=by
 refine F.ok (k:=2) wZ (λvs H Q E h=>?_) (λcdv A outer s H vs Q E hr h=>?_)
 ·obtain⟨x,C,dx,k,k2,f0,l0,rfl,_⟩:=h
  rfl
 ·obtain⟨x,C,dx,k,k2,f0,l0,rfl,⟨T,hx,ok,q⟩⟩:=h
  have hu:=aM hr
  refine⟨_,(ad (aY (cZ rfl CI.nm CI.h1 CI.h2 CI.h3 rfl CI.ok (hr.mono (by decide)) CI.kp CI.bd .nil ar (aa (pv 0) (aa (aH (aa ah (aa (pv 1) (aa (pv 2) (aa (aV bo (by rfl) N.str PyProof.Rows.Boot.«str» (aa (pv 3) ac)) (aa (aV bo (by rfl) N.str PyProof.Rows.Boot.«str» (aa (pv 4) ac)) ac)))))) (aa (aH (aa (pv 1) (aa (pv 2) ac))) (aa ag ac))))))
   (ad (bz (pv 0) (pv 1) rfl)
   (ad (bz (pv 0) (pv 2) rfl)
   (ad (bz (pv 0) (pv 3) rfl)
   (af (bz (pv 0) (pv 4) rfl)))))),?_⟩
  obtain⟨_,_,h1,h2,h3⟩:=id ok
  refine ae (aS ⟨_,rfl,_,rfl,_,rfl,_,rfl,_,rfl,cf (by omega) (by omega),_,rfl,_,rfl,cf (by omega) (by omega),by show 5<=sizeLine;decide,λp1 np1=>?_⟩)
  obtain⟨g1,e1⟩:=laid (o:=.lst ((b8 (.prt k k2 f0 l0)).map V.str)) np1
  change bV _ _ _ (upd H p1 (.lst ((b8 (.prt k k2 f0 l0)).map V.str))) _
  generalize upd H p1 _=H1 at g1 e1 ⊢
  refine⟨_,rfl,_,rfl,by show 2<=sizeLine;decide,λp2 np2=>?_⟩
  obtain⟨g2,e2⟩:=laid (o:=.lst ((bU (.prt k k2 f0 l0)).map V.str)) np2
  dsimp only [bV,tC,eR,List.append_nil,List.cons_append,List.nil_append]
  show bT K [.ref x,.ref p1,.ref p2,.int 0] (upd H1 p2 (.lst ((bU (.prt k k2 f0 l0)).map V.str))) _ _
  refine jR (l:=.prt k k2 f0 l0) T hx ok (g1.trans g2) (g2 _ _ e1) (SqL.of e2) λln H3 nl o3 el ex=>?_
  have nlx:ln≠x:=λz=>by rw [z,hx]at nl;cases nl
  refine ae ⟨_,rfl,_,rfl,x,C,dx,_,rfl,ex,T.cl,T.a_one,(by show 3 < 1000;decide),?_⟩
  refine ae ⟨_,rfl,_,rfl,x,C,dx,_,rfl,aj,T.cl,T.a_other,(by show 4 < 1000;decide),?_⟩
  refine ae ⟨_,rfl,_,rfl,x,C,dx,_,rfl,aj,T.cl,T.a_first,(by show 5 < 1000;decide),?_⟩
  refine⟨_,rfl,_,rfl,x,C,dx,_,rfl,aj,T.cl,T.a_last,(by show 6 < 1000;decide),?_⟩
  rw [bv,bv,bv]
  exact q ln _ nl (λb o e n=>by rw [al n];exact o3 _ _ e n) (by rw [al nlx];exact el) aj
noncomputable def n6 (K:PySem.W.Frag):Sp:=λvs H Q _=>∃(x C dx:Addr) (r0:Int) (k:Str) (f0:Int) (l0:Int),vs=[.ref x,.int r0,.str k,.int f0,.int l0]/\LfI K C x dx (.chg r0 k f0 l0) H Q
theorem xb:FnScope ["self", "rank", "key", "first", "last"] ["self", "rank", "key", "first", "last"] (aw sd):=⟨rfl,rfl,rfl,by decide +kernel,rfl,by decide +kernel,by decide +kernel⟩
theorem vg {f f1:Addr}{fd:FuncData} (F:Fun K "__init__" "Change.__init__" sd f fd) (N:Free mg){fd1:FuncData}{CQ:Addr}{mc:Value} (CI:CMc P w K mg base "Question" "__init__" 2 ["self", "words", "keys", "depth"] (bT K) CQ f1 fd1 mc):FnOk P w K mg base CX0 3 f fd ["self", "rank", "key", "first", "last"] (n6 K):=by
 refine F.ok (k:=2) xb (λvs H Q E h=>?_) (λcdv A outer s H vs Q E hr h=>?_)
 ·obtain⟨x,C,dx,r0,k,f0,l0,rfl,_⟩:=h
  rfl
 ·obtain⟨x,C,dx,r0,k,f0,l0,rfl,⟨T,hx,ok,q⟩⟩:=h
  have hu:=aM hr
  refine⟨_,(ad (aY (cZ rfl CI.nm CI.h1 CI.h2 CI.h3 rfl CI.ok (hr.mono (by decide)) CI.kp CI.bd .nil ar (aa (pv 0) (aa (aH (aa ah (aa (aV bo (by rfl) N.str PyProof.Rows.Boot.«str» (aa (pv 1) ac)) (aa (pv 2) (aa (aV bo (by rfl) N.str PyProof.Rows.Boot.«str» (aa (pv 3) ac)) (aa (aV bo (by rfl) N.str PyProof.Rows.Boot.«str» (aa (pv 4) ac)) ac)))))) (aa (aH (aa (pv 2) ac)) (aa ag ac))))))
   (ad (bz (pv 0) (pv 1) rfl)
   (ad (bz (pv 0) (pv 2) rfl)
   (ad (bz (pv 0) (pv 3) rfl)
   (af (bz (pv 0) (pv 4) rfl)))))),?_⟩
  obtain⟨⟨r1,r2⟩,_,h1,h2,h3⟩:=id ok
  refine ae (aS ⟨_,rfl,_,rfl,_,rfl,cf (by omega) (by omega),_,rfl,_,rfl,_,rfl,cf (by omega) (by omega),_,rfl,_,rfl,cf (by omega) (by omega),by show 5<=sizeLine;decide,λp1 np1=>?_⟩)
  obtain⟨g1,e1⟩:=laid (o:=.lst ((b8 (.chg r0 k f0 l0)).map V.str)) np1
  change bV _ _ _ (upd H p1 (.lst ((b8 (.chg r0 k f0 l0)).map V.str))) _
  generalize upd H p1 _=H1 at g1 e1 ⊢
  refine⟨_,rfl,by show 1<=sizeLine;decide,λp2 np2=>?_⟩
  obtain⟨g2,e2⟩:=laid (o:=.lst ((bU (.chg r0 k f0 l0)).map V.str)) np2
  dsimp only [bV,tC,eR,List.append_nil,List.cons_append,List.nil_append]
  show bT K [.ref x,.ref p1,.ref p2,.int 0] (upd H1 p2 (.lst ((bU (.chg r0 k f0 l0)).map V.str))) _ _
  refine jR (l:=.chg r0 k f0 l0) T hx ok (g1.trans g2) (g2 _ _ e1) (SqL.of e2) λln H3 nl o3 el ex=>?_
  have nlx:ln≠x:=λz=>by rw [z,hx]at nl;cases nl
  refine ae ⟨_,rfl,_,rfl,x,C,dx,_,rfl,ex,T.cl,T.a_rank,(by show 3 < 1000;decide),?_⟩
  refine ae ⟨_,rfl,_,rfl,x,C,dx,_,rfl,aj,T.cl,T.a_key,(by show 4 < 1000;decide),?_⟩
  refine ae ⟨_,rfl,_,rfl,x,C,dx,_,rfl,aj,T.cl,T.a_first,(by show 5 < 1000;decide),?_⟩
  refine⟨_,rfl,_,rfl,x,C,dx,_,rfl,aj,T.cl,T.a_last,(by show 6 < 1000;decide),?_⟩
  rw [bv,bv,bv]
  exact q ln _ nl (λb o e n=>by rw [al n];exact o3 _ _ e n) (by rw [al nlx];exact el) aj
noncomputable abbrev ny:Stmt:=bi (top 25) 0
noncomputable abbrev nn:Stmt:=bi (top 26) 0
noncomputable abbrev nv:Stmt:=bi (top 27) 0
structure Cs where
 num:Addr
 val:Addr
 gth:Addr
 snc:Addr
 prt:Addr
 chg:Addr
 rck:Addr
 chc:Addr
noncomputable def Cs.all (c:Cs):List Addr:=[c.num,c.val,c.gth,c.snc,c.prt,c.chg,c.rck,c.chc]
noncomputable def lfC (c:Cs):Lf->Addr
 | .num _=>c.num
 | .val _ _=>c.val
 | .gth _ _ _ _=>c.gth
 | .snc _ _ _ _=>c.snc
 | .prt _ _ _ _=>c.prt
 | .chg _ _ _ _=>c.chg
noncomputable def brC (c:Cs) (w:Str):Addr:=if w∈ce then c.rck else c.chc
theorem nU (c:Cs) (l:Lf):lfC c l∈c.all:=by
 cases l <;> simp [lfC,Cs.all]
theorem oj (c:Cs) (w:Str):brC c w∈c.all:=by
 unfold brC
 split <;> simp [Cs.all]
inductive LfX (c:Cs) (l:Lf) (H:Hp) (x:Addr):Prop
 | mk (dx ln:Addr) (h1:H x=some (.ins (lfC c l) dx (yb l ln))) (h2:H ln=some (.lst ((bC (bU l)).map V.str))):LfX c l H x
noncomputable def vE (n:Nat) (w:Str) (xs:List Nd) (ln li:Addr):List (Str × V):=qf3 (jn (aL (n+1) (.brk w xs))) ln (dl (n+1) (.brk w xs))++([("word", V.str w),("inner", V.ref li)]:List (Str × V))
inductive BrX (c:Cs) (n:Nat) (w:Str) (xs:List Nd) (F:Addr->Nd->Prop) (H:Hp) (x:Addr):Prop
 | mk (dx ln li:Addr) (as:List Addr) (h1:H x=some (.ins (brC c w) dx (vE n w xs ln li))) (h2:H ln=some (.lst ((bC (dj (n+1) (.brk w xs))).map V.str))) (h3:H li=some (.lst (as.map V.ref))) (h4:Paired F as xs):BrX c n w xs F H x
noncomputable def bY (c:Cs):Nat->Nd->Hp->Addr->Prop
 | 0,.leaf l,H,x=>LfX c l H x
 | 0,.brk _ _,_,_=>False
 | _+1,.leaf l,H,x=>LfX c l H x
 | n+1,.brk w xs,H,x=>BrX c n w xs (λa q=>bY c n q H a) H x
theorem lb {c:Cs}{n:Nat}{l:Lf}{H:Hp}{x:Addr}:bY c n (.leaf l) H x↔LfX c l H x:=by cases n <;> exact Iff.rfl
noncomputable def Kq (c:Cs) (H H':Hp):Prop:=(∀b C dx fs,H b=some (.ins C dx fs)->C∈c.all->H' b=some (.ins C dx fs))/\∀b xs,H b=some (.lst xs)->(∀v∈xs,v=.non\/(∃z,v=.str z)\/∃a,v=.ref a)->H' b=some (.lst xs)
theorem LfX.keep {c:Cs}{l:Lf}{H H':Hp}{x:Addr} (h:LfX c l H x) (g:Kq c H H'):LfX c l H' x:=by
 obtain⟨dx,ln,h1,h2⟩:=h
 refine⟨dx,ln,g.1 _ _ _ _ h1 (nU c l),g.2 _ _ h2 λv hv=>?_⟩
 obtain⟨z,_,rfl⟩:=List.mem_map.mp hv
 exact .inr (.inl ⟨z,rfl⟩)
theorem bY.keep {c:Cs}{H H':Hp} (g:Kq c H H'):∀{n:Nat}{nd:Nd}{x:Addr},bY c n nd H x->bY c n nd H' x
 | 0,.leaf l,x,h=>LfX.keep (show LfX c l H x from h) g
 | 0,.brk _ _,_,h=>(show False from h).elim
 | _+1,.leaf l,x,h=>LfX.keep (show LfX c l H x from h) g
 | n+1,.brk w xs,x,h=>by
  obtain⟨dx,ln,li,as,h1,h2,h3,h4⟩:BrX c n w xs (λa q=>bY c n q H a) H x:=h
  refine BrX.mk dx ln li as (g.1 _ _ _ _ h1 (oj c w)) (g.2 _ _ h2 λv hv=>?_) (g.2 _ _ h3 λv hv=>?_) (Paired.mono (λa q h=>bY.keep g h) h4)
  ·obtain⟨z,_,rfl⟩:=List.mem_map.mp hv
   exact .inr (.inl ⟨z,rfl⟩)
  ·obtain⟨z,_,rfl⟩:=List.mem_map.mp hv
   exact .inr (.inr ⟨z,rfl⟩)
theorem Kq.grow {c:Cs}{H H':Hp} (g:aP H H'):Kq c H H':=⟨λ_ _ _ _ e _=>g _ _ e,λ_ _ e _=>g _ _ e⟩
theorem uc (n:Nat) (w:Str) (xs:List Nd) (ln li:Addr):∀p∈vE n w xs ln li,p.1∈cR:=by
 have key:∀{fs:List (Str × V)}{ks:List Str},fs.map (·.1)=ks->(∀k∈ks,k∈cR)->∀p∈fs,p.1∈cR:=λe h p hp=>h _ (by rw [<- e];exact List.mem_map_of_mem hp)
 exact key (ks:=[Str.ofString "written", Str.ofString "names", Str.ofString "levels", Str.ofString "word", Str.ofString "inner"]) rfl (by decide +kernel)
theorem bY.at {c:Cs}{H:Hp}{n:Nat}{nd:Nd}{x:Addr} (h:bY c n nd H x):∃C ln,C∈c.all/\QAt H x C ln (jn (aL n nd)) (bC (dj n nd)) (dl n nd):=by
 cases nd with
 | leaf l=>
  obtain⟨dx,ln,h1,h2⟩:=lb.mp h
  rw [cW,vw,vC]
  exact⟨_,ln,nU c l,⟨dx,tu l,h1,tq l ln⟩,h2⟩
 | brk w xs=>
  cases n with
  | zero=>exact(show False from h).elim
  | succ n=>
   obtain⟨dx,ln,li,as,h1,h2,h3,h4⟩:BrX c n w xs (λa q=>bY c n q H a) H x:=h
   exact⟨_,ln,oj c w,⟨dx,_,h1,uc n w xs ln li⟩,h2⟩
theorem QAt.ob' {H:Hp}{x C ln:Addr}{tx:Str}{ks:List Str}{d:Int} (h:QAt H x C ln tx ks d){m:Str} (hm:m∉cR):∃dx fs,H x=some (.ins C dx fs)/\fs.lookup m=none:=by
 obtain⟨dx,r,e,k⟩:=h.ob
 exact⟨dx,_,e,zk hm k⟩
theorem eg {α β:Type}{F:α->β->Prop}:∀{xs:List α}{ys:List β}{i:Nat}{x:α},Paired F xs ys->xs[i]?=some x->∃y,ys[i]?=some y/\F x y
 | _,_,0,_,.cons a _,h=>by
  cases h
  exact⟨_,rfl,a⟩
 | _,_,i+1,_,.cons _ t,h=>eg (i:=i) t h
 | _,_,0,_,.nil,h=>nomatch h
 | _,_,_+1,_,.nil,h=>nomatch h
theorem cu {α β:Type}{F:α->β->Prop}:∀{xs:List α}{ys:List β},Paired F xs ys->xs.length=ys.length
 | _,_,.nil=>rfl
 | _,_,.cons _ t=>by rw [List.length_cons,List.length_cons,cu t]
theorem ko:∀(ns:List Int) (a:Int),a<=ns.foldl (λa b=>if b > a then b else a) a/\∀x∈ns,x<=ns.foldl (λa b=>if b > a then b else a) a
 | [],a=>⟨Int.le_refl _,λ_ h=>nomatch h⟩
 | n::ns,a=>by
  obtain⟨h1,h2⟩:=ko ns (if n > a then n else a)
  have hn:a<=(if n > a then n else a)/\n<=(if n > a then n else a):=by
   split <;> omega
  refine⟨Int.le_trans hn.1 h1,λx hx=>?_⟩
  rcases List.mem_cons.mp hx with z | hx
  ·rw [z];exact Int.le_trans hn.2 h1
  ·exact h2 x hx
theorem ow:∀(ns:List Int) (a m:Int),a<=m->(∀x∈ns,x<=m)->ns.foldl (λa b=>if b > a then b else a) a<=m
 | [],a,m,h,_=>h
 | n::ns,a,m,h,hn=>ow ns _ m (by have:=hn n List.mem_cons_self;show (if n > a then n else a)<=m;split <;> omega) λx hx=>hn x (List.mem_cons_of_mem _ hx)
theorem wM {ns:List Int}{M:Int} (h0:0<=M) (h1:M∈ns) (h2:∀x∈ns,x<=M):M=ul ns:=
 Int.le_antisymm ((ko ns 0).2 M h1) (ow ns 0 M h0 h2)
theorem tX:∀(n:Nat) (nd:Nd),0<=dl n nd
 | 0,_=>Int.le_refl _
 | _+1,.leaf _=>Int.le_refl _
 | n+1,.brk _ xs=>by
  have:=(ko (xs.map (dl n)) 0).1
  show 0<=1+ul (xs.map (dl n))
  unfold ul
  omega
theorem oh {K:PySem.W.Frag}{la:Addr}{xs ys0:List V}{sub:List Nat}{te:TE}{σ:St}{Q:VK}{H:Hp} (hn:xs.length < 1000) (hl:ys0.length=xs.length) (ha:H la=some (.lst xs)) (hte:∀(i:Nat) (x y:V) (H2:Hp) (R:VK),xs[i]?=some x->ys0[i]?=some y->aP H H2->R y H2->te (some x::bS sub σ) H2 R)
  (hq:∀(D:Addr),H D=none->Q (.ref D) (upd H D (.lst ys0))):hX (Itl K la) sub (λ_ H Q=>Q true H) te σ Q H:=by
 intro D nD
 have nl:la≠D:=am ha nD
 refine dO (K:=K) (a:=la) (xs:=xs) (sub:=sub) (tt:=λ_ H Q=>Q true H) (te:=te) (Q:=Q) (σ:=σ) (λi ys H2=>ys=ys0.take i/\H2=upd H D (.lst ys)) ⟨by rw [List.take_zero],rfl⟩ (λi ys H2 _ hh=>?_) (λi x ys H2 hi hh=>?_) λys H2 hh=>?_
 ·obtain⟨_,rfl⟩:=hh
  exact SqL.of (by rw [al nl];exact ha)
 ·obtain⟨rfl,rfl⟩:=hh
  have hil:=(List.getElem?_eq_some_iff.mp hi).1
  have hy:ys0[i]?=some ys0[i]:=List.getElem?_eq_getElem (by omega)
  refine b5 (hte i x _ _ _ hi hy (laid nD).1 ⟨aj,?_,?_,bv⟩)
  ·rw [List.length_take];exact be (by omega)
  ·rw [List.take_add_one,hy];rfl
 ·obtain⟨rfl,rfl⟩:=hh
  rw [<- hl,List.take_length]
  exact hq D nD
theorem qN {n:Nat}{nd:Nd} (h:cC n nd) (h3:n<=2):(jn (aL n nd)).length<=15000:=by
 have:=jh (ws:=aL n nd) (m:=79) λw hw=>(eU h w hw).len
 have hl:=cF h
 have hW:Wn n<=125:=by
  rcases (show n=0\/n=1\/n=2 by omega) with rfl | rfl | rfl <;> decide
 omega
theorem jj {α:Type}{f g:α->List Nat}:∀{xs:List α},(∀x∈xs,f x=g x)->xs.flatMap f=xs.flatMap g
 | [],_=>rfl
 | x::xs,h=>by rw [List.flatMap_cons,List.flatMap_cons,h x List.mem_cons_self,jj λy hy=>h y (List.mem_cons_of_mem _ hy)]
noncomputable def brP (n:Nat) (w:Str) (xs:List Nd):List Str:=w::xs.flatMap λq=>[opS,jn (aL n q),clS]
theorem yz {n:Nat}{w:Str}{xs:List Nd} (h:∀q∈xs,cC n q):jn (brP n w xs)=jn (aL (n+1) (.brk w xs)):=by
 refine zw (by unfold brP;simp) (by unfold aL;simp) ?_
 show fl 32 (w::xs.flatMap λq=>[opS,jn (aL n q),clS])=fl 32 (w::xs.flatMap λc=>opS::(aL n c++[clS]))
 rw [cL,cL,lz,lz]
 congr 1
 refine jj λq hq=>?_
 show fl 32 ([opS]++[jn (aL n q)]++[clS])=fl 32 ([opS]++aL n q++[clS])
 rw [jk,jk,jk,jk,zE (lF n (h q hq))]
inductive BrI (H:Hp) (x:Addr) (w:Str) (li lw lk:Addr) (n:Nat) (xs:List Nd) (i:Nat) (σ:St) (H2:Hp):Prop
 | mk (v5:Option V) (h1:σ=[some (.ref x),some (.str w),some (.ref li),some (.ref lw),some (.ref lk),v5]) (h2:aP H H2) (h3:H2 lw=some (.lst ((brP n w (xs.take i)).map V.str))) (h4:H2 lk=some (.lst (((xs.take i).flatMap λq=>bC (dj n q)).map V.str))):BrI H x w li lw lk n xs i σ H2
noncomputable def kH (K:PySem.W.Frag) (c:Cs):Sp:=λvs H Q _=>∃(x C dx li:Addr) (w:Str) (n:Nat) (as:List Addr) (xs:List Nd),vs=[.ref x,.str w,.ref li]/\QuC K C/\H x=some (.ins C dx [])/\H li=some (.lst (as.map V.ref))/\Paired (λa q=>bY c n q H a) as xs/\cC (n+1) (.brk w xs)/\n<=2/\
 ∀(ln lj:Addr) (H':Hp),H ln=none->H lj=none->Ofr x H H'->H' ln=some (.lst ((bC (dj (n+1) (.brk w xs))).map V.str))->H' lj=some (.lst (as.map V.ref))->H' x=some (.ins C dx (vE n w xs ln lj))->Q .non H'
theorem bt {H H':Hp} (g:aP H H'){a:Addr} (h:H' a=none):H a=none:=by
 cases e:H a with
 | none=>rfl
 | some o=>rw [g _ _ e]at h;cases h
theorem iG:FnScope ["self", "word", "inner", "words", "keys", "question"] ["self", "word", "inner"] (aw ny):=⟨rfl,rfl,rfl,by decide +kernel,rfl,by decide +kernel,by decide +kernel⟩
theorem sO {c:Cs}{f f1:Addr}{fd:FuncData} (F:Fun K "__init__" "Bracketed.__init__" ny f fd) (N:Free mg){fd1:FuncData}{CQ:Addr}{mc:Value} (CI:CMc P w K mg base "Question" "__init__" 2 ["self", "words", "keys", "depth"] (bT K) CQ f1 fd1 mc) (VQ:∀C∈c.all,QuC K C) (VT:∀C∈c.all,MV P w K mg base CX0 "text" 1 ["self"] (kD K) C) (VA:∀C∈c.all,MV P w K mg base CX0 "asked_keys" 1 ["self"] (kK K) C) (VD:∀C∈c.all,MV P w K mg base CX0 "depth" 1 ["self"] (iX K) C):FnOk P w K mg base CX0 3 f fd ["self", "word", "inner"] (kH K c):=by
 refine F.ok (k:=2) iG (λvs H Q E h=>?_) (λcdv A outer s H vs Q E hr h=>?_)
 ·obtain⟨x,C,dx,li,w,n,as,xs,rfl,_⟩:=h
  rfl
 ·obtain⟨x,C,dx,li,w,n,as,xs,rfl,T,hx,hli,hp,ok,h2,q⟩:=h
  have hu:=aM hr
  refine⟨_,(ad (ax (i:=3) iG.nd rfl (Or.inl rfl) (aH (aa (pv 1) ac)))
   (ad (ax (i:=4) iG.nd rfl (Or.inl rfl) (aH ac))
   (ad (cS PassesOwn.never rfl (cq (pv 2)) (bO (i:=5) iG.nd rfl (Or.inl rfl))
   (ad (aY (bW PySem.F.plainAttrs_list PySem.F.slot_list_extend PySem.F.type_list_extend jP (pv 3) (aa (aH (aa ah (aa (fw VT (pv 5) (hr.mono (by decide)) ar) (aa ah ac)))) ac)))
   (af (aY (bW PySem.F.plainAttrs_list PySem.F.slot_list_extend PySem.F.type_list_extend jP (pv 4) (aa (fw VA (pv 5) (hr.mono (by decide)) ar) ac))))))
   (ad (aY (cZ rfl CI.nm CI.h1 CI.h2 CI.h3 rfl CI.ok (hr.mono (by decide)) CI.kp CI.bd .nil ar (aa (pv 0) (aa (pv 3) (aa (pv 4) (aa (aJ bE ag (aI (qC rfl) (by rfl) N.max PyProof.Rows.Boot.«max» (aa (ff (bP rfl (cq (pv 2)) rfl rfl (by show ∀p∈_,i0 [] p;decide) (by decide) rfl (by show ([Str.ofString "question"]:List Str).Nodup;decide) .nil (λC fp s H=>cY) (λC fp s H=>(fw VD (pv 0) (hr.mono (by decide)) ar)))) ac))) ac))))))
   (ad (bz (pv 0) (pv 1) rfl)
   (af (bz (pv 0) (aV db (by rfl) N.list PyProof.Rows.Boot.«list» (aa (pv 2) ac)) rfl))))))),?_⟩
  obtain⟨hw,hxs⟩:_/\_:=ok
  have hl4:=fJ hw
  have hal:=cu hp
  refine ae (ao ⟨_,rfl,by show 1<=sizeLine;decide,λlw nlw=>?_⟩)
  dsimp only [aA,List.set_cons_zero,List.set_cons_succ]
  obtain⟨g1,e1⟩:=laid (o:=.lst [V.str w]) nlw
  generalize upd H lw _=H1 at g1 e1 ⊢
  refine ae (ao ⟨by show 0<=sizeLine;decide,λlk nlk=>?_⟩)
  dsimp only [aA,List.set_cons_zero,List.set_cons_succ]
  have nwk:lw≠lk:=am e1 nlk
  have nlk0:=bt g1 nlk
  obtain⟨g2,e2⟩:=laid (o:=.lst []) nlk
  have e1:=g2 _ _ e1
  have g12:=g1.trans g2
  generalize upd H1 lk _=H2 at g12 e1 e2 ⊢
  refine ae ⟨_,rfl,li,rfl,⟨_,SqL.of (g12 _ _ hli)⟩,dk (K:=K) (a:=li) (xs:=as.map V.ref) (BrI H x w li lw lk n xs) ⟨none,rfl,g12,e1,e2⟩ (λi σ H3 _ hh=>?_) (λi v σ H3 hi hh=>?_) λσ H3 hh=>?_⟩
  ·obtain⟨v5,rfl,g3,_,_⟩:=hh
   exact SqL.of (g3 _ _ hli)
  ·obtain⟨v5,rfl,g3,ew,ek⟩:=hh
   rw [List.getElem?_map]at hi
   obtain⟨a,ha,rfl⟩:=Option.map_eq_some_iff.mp hi
   obtain⟨q0,hq0,hqa⟩:=eg hp ha
   have hqx:=List.mem_of_getElem? hq0
   have hil:=(List.getElem?_eq_some_iff.mp hq0).1
   have et:xs.take (i+1)=xs.take i++[q0]:=by rw [List.take_add_one,hq0];rfl
   dsimp only [aA,List.set_cons_zero,List.set_cons_succ]
   obtain⟨C1,ln1,hC1,qa⟩:=(bY.keep (Kq.grow g3) hqa).at
   obtain⟨dx1,fs1,ex1,ef1⟩:=qa.ob' (m:="text") (by decide +kernel)
   refine ae (aS ⟨_,rfl,.inl ⟨rfl,_,SqL.of ew⟩,?_⟩)
   refine⟨_,rfl,a,C1,dx1,fs1,rfl,ex1,hC1,ef1,a,C1,ln1,_,_,_,rfl,VQ C1 hC1,qa,by show 3<=sizeLine;decide,λp np=>?_⟩
   obtain⟨g4,e4⟩:=laid (o:=.lst [V.str opS,V.str (jn (aL n q0)),V.str clS]) np
   have npw:lw≠p:=am ew np
   have npk:lk≠p:=am ek np
   have ew4:=g4 _ _ ew
   have ek4:=g4 _ _ ek
   have g34:=g3.trans g4
   have hbl:(brP n w (xs.take i)).length<=100:=by
    have h5:=cN (g:=λq=>[opS,jn (aL n q),clS]) (m:=3) (xs.take i) (λ_ _=>Nat.le_refl _)
    rw [List.length_take]at h5
    show (w::_).length<=100
    rw [List.length_cons]
    omega
   refine⟨lw,p,_,_,rfl,rfl,ew4,e4,?_,?_⟩
   ·rw [List.length_map]
    have h3:(brP n w (xs.take i)).length+3<=1000:=by omega
    exact Nat.le_of_lt (be h3)
   have qa5:=(bY.keep (Kq.grow (g3.trans g4)) hqa).at
   generalize hH5:upd (upd H3 p _) lw _=H5
   have gw:∀b o,H b=some o->H5 b=some o:=λb o e=>by
    rw [<- hH5,al (am e nlw)];exact g34 _ _ e
   have ew5:H5 lw=some (.lst ((brP n w (xs.take (i+1))).map V.str)):=by
    rw [<- hH5,aj,et]
    show some (HO.lst ((w::(xs.take i).flatMap _).map V.str++_))=some (HO.lst ((w::(xs.take i++[q0]).flatMap _).map V.str))
    rw [List.flatMap_append,List.map_cons,List.map_cons,List.map_append,List.flatMap_cons,List.flatMap_nil,List.append_nil]
    rfl
   have ek5:H5 lk=some (.lst (((xs.take i).flatMap λq=>bC (dj n q)).map V.str)):=by rw [<- hH5,al (Ne.symm nwk)];exact ek4
   obtain⟨C1,ln1,hC1,qa⟩:=(bY.keep (Kq.grow gw) hqa).at
   obtain⟨dx1,fs1,ex1,ef1⟩:=qa.ob' (m:="asked_keys") (by decide +kernel)
   dsimp only
   refine aS ⟨_,rfl,.inl ⟨rfl,_,SqL.of ek5⟩,?_⟩
   refine⟨_,rfl,a,C1,dx1,fs1,rfl,ex1,hC1,ef1,a,C1,ln1,_,_,_,rfl,VQ C1 hC1,qa,λp2 np2=>?_⟩
   obtain⟨g6,e6⟩:=laid (o:=.lst ((bC (dj n q0)).map V.str)) np2
   have hkn:=Nat.le_trans (gO (hxs q0 hqx)) (zJ (show n<=3 by omega))
   have ho:(bC (dj n q0)).length<=512:=Nat.le_trans (fh _ _ rfl) hkn
   have hks:=cN (g:=λq=>bC (dj n q)) (m:=128) (xs.take i) λq hq=>by
    have:=gO (hxs q (List.mem_of_mem_take hq))
    have h8:Kn n<=128:=by rcases (show n=0\/n=1\/n=2 by omega) with rfl | rfl | rfl <;> decide
    exact Nat.le_trans (fh _ _ rfl) (by omega)
   rw [List.length_take]at hks
   refine⟨lk,p2,_,_,rfl,rfl,g6 _ _ ek5,e6,?_,?_⟩
   ·rw [List.length_map,List.length_map]
    exact Nat.le_trans (show _<=2000 by omega) (by decide)
   refine⟨_,rfl,λb o e=>?_,?_,?_⟩
   ·rw [al (am e nlk0)];exact g6 _ _ (gw _ _ e)
   ·rw [al nwk];exact g6 _ _ ew5
   ·rw [aj,et,List.flatMap_append,List.map_append,List.flatMap_cons,List.flatMap_nil,List.append_nil]
  ·obtain⟨v5,rfl,g3,ew,ek⟩:=hh
   rw [List.length_map,hal,List.take_length]at ew ek
   dsimp only [aA,List.set_cons_zero,List.set_cons_succ]
   have hli3:=g3 _ _ hli
   refine ae (aS ⟨_,rfl,_,rfl,_,rfl,cy (oV ?_)⟩)
   dsimp only [tC]
   refine sk (cy (cX ⟨_,rfl,li,rfl,⟨_,SqL.of hli3⟩,oh (ys0:=(xs.map (dl n)).map V.int) (by rw [List.length_map];omega) (by rw [List.length_map,List.length_map,List.length_map];omega) hli3 (λi v y H4 R hi hy g4 hR=>?_) λD nD=>?_⟩))
   ·rw [List.getElem?_map]at hi
    obtain⟨a,ha,rfl⟩:=Option.map_eq_some_iff.mp hi
    obtain⟨q0,hq0,hqa⟩:=eg hp ha
    rw [List.getElem?_map,List.getElem?_map,hq0]at hy
    cases (show some (V.int (dl n q0))=some y from hy)
    obtain⟨C1,ln1,hC1,qa⟩:=(bY.keep (Kq.grow (g3.trans g4)) hqa).at
    obtain⟨dx1,fs1,ex1,ef1⟩:=qa.ob' (m:="depth") (by decide +kernel)
    exact⟨_,rfl,a,C1,dx1,fs1,rfl,ex1,hC1,ef1,a,C1,ln1,_,_,_,rfl,VQ C1 hC1,qa,hR⟩
   obtain⟨g4,e4⟩:=laid (o:=.lst ((xs.map (dl n)).map V.int)) nD
   generalize upd H3 D _=H4 at g4 e4 ⊢
   refine⟨D,_,rfl,SqL.of e4,λz=>?_,λM hM1 hM2=>?_⟩
   ·rw [List.map_eq_nil_iff]at z
    rw [z]at hl4
    exact absurd hl4.1 (by decide)
   have hM0:0<=M:=by
    obtain⟨q0,_,e⟩:=List.mem_map.mp hM1
    rw [<- e];exact tX n q0
   have eM:=wM hM0 hM1 hM2
   refine⟨_,_,rfl,rfl,?_⟩
   dsimp only [bV,tC,eR,List.append_nil,List.cons_append,List.nil_append]
   have eD:1+M=dl (n+1) (.brk w xs):=by rw [eM];rfl
   rw [eD]
   have gH4:=g3.trans g4
   have hkl:=cN (g:=λq=>bC (dj n q)) (m:=128) xs λq hq=>by
    have:=gO (hxs q hq)
    have h8:Kn n<=128:=by rcases (show n=0\/n=1\/n=2 by omega) with rfl | rfl | rfl <;> decide
    exact Nat.le_trans (fh _ _ rfl) (by omega)
   have hbl:=cN (g:=λq=>[opS,jn (aL n q),clS]) (m:=3) xs (λ_ _=>Nat.le_refl _)
   refine⟨x,C,dx,lw,lk,[],brP n w xs,xs.flatMap λq=>bC (dj n q),_,rfl,T,gH4 _ _ hx,by decide,g4 _ _ ew,SqL.of (g4 _ _ ek),by omega,pC (λv hv=>?_) ?_,λln H5 nl o5 el ex=>?_⟩
   ·rcases List.mem_cons.mp hv with z | hv
    ·rw [z];exact Nat.le_trans (ub hw).hi (by decide)
    ·obtain⟨q0,hq0,hv⟩:=List.mem_flatMap.mp hv
     refine(all_cons (P:=λv=>v.length<=15000) (by decide +kernel) (all_cons (qN (hxs q0 hq0) h2) (all_cons (by decide +kernel) eL))) v hv
   ·show (w::_).length<=1000
    rw [List.length_cons];omega
   have ej:=yz (w:=w) hxs
   unfold jn at ej
   rw [ej]at ex
   rw [qe]at el
   have nl0:=bt gH4 nl
   have nlx:ln≠x:=λz=>by rw [z,hx]at nl0;cases nl0
   refine ae ⟨_,rfl,_,rfl,x,C,dx,_,rfl,ex,T.cl,T.a_word,(by show 3 < 1000;decide),?_⟩
   have hli5:=o5 _ _ (g4 _ _ hli3) (eP hli hx (λz=>nomatch z))
   have nlix:li≠x:=eP hli hx (λz=>nomatch z)
   refine⟨_,rfl,li,_,rfl,.inl (SqL.of (by rw [al nlix];exact hli5)),λlj nj=>?_⟩
   have njx:lj≠x:=λz=>by rw [z,aj]at nj;cases nj
   have nj5:H5 lj=none:=by rw [al njx]at nj;exact nj
   have nlj:ln≠lj:=am el nj5
   have nj0:H lj=none:=by
    cases e:H lj with
    | none=>rfl
    | some o=>rw [o5 _ _ (gH4 _ _ e) njx]at nj5;cases nj5
   refine⟨_,rfl,x,C,dx,_,rfl,by rw [al (Ne.symm njx),aj],T.cl,T.a_inner,(by show 4 < 1000;decide),?_⟩
   refine q ln lj _ nl0 nj0 (λb o e nb=>?_) ?_ ?_ aj
   ·rw [al nb,al (am e nj0),al nb];exact o5 _ _ (gH4 _ _ e) nb
   ·rw [al nlx,al nlj,al nlx];exact el
   ·rw [al njx,aj]
inductive KidI (K:PySem.W.Frag) (c:Cs) (x C dx:Addr) (n:Nat) (w:Str) (as:List Addr) (xs:List Nd) (H:Hp) (Q:VK):Prop
 | mk (T:QuC K C) (hx:H x=some (.ins C dx [])) (hp:Paired (λa q=>bY c n q H a) as xs) (ok:cC (n+1) (.brk w xs)) (h2:n<=2) (q:∀(ln lj:Addr) (H':Hp),H ln=none->H lj=none->Ofr x H H'->H' ln=some (.lst ((bC (dj (n+1) (.brk w xs))).map V.str))->H' lj=some (.lst (as.map V.ref))->H' x=some (.ins C dx (vE n w xs ln lj))->Q .non H'):KidI K c x C dx n w as xs H Q
noncomputable def dW (K:PySem.W.Frag) (c:Cs):Sp:=λvs H Q _=>∃(x C dx a1 a2:Addr) (w:Str) (n:Nat) (xs:List Nd),vs=[.ref x,.str w,.ref a1,.ref a2]/\KidI K c x C dx n w [a1,a2] xs H Q
noncomputable def dX (K:PySem.W.Frag) (c:Cs):Sp:=λvs H Q _=>∃(x C dx a1 a2 a3 a4:Addr) (w:Str) (n:Nat) (xs:List Nd),vs=[.ref x,.str w,.ref a1,.ref a2,.ref a3,.ref a4]/\KidI K c x C dx n w [a1,a2,a3,a4] xs H Q
theorem uA:FnScope ["self", "word", "one", "other"] ["self", "word", "one", "other"] (aw nn):=⟨rfl,rfl,rfl,by decide +kernel,rfl,by decide +kernel,by decide +kernel⟩
theorem sM {c:Cs}{f f1:Addr}{fd:FuncData} (F:Fun K "__init__" "Reckoning.__init__" nn f fd) (N:Free mg){fd1:FuncData}{CB:Addr}{mc:Value} (CI:CMc P w K mg base "Bracketed" "__init__" 3 ["self", "word", "inner"] (kH K c) CB f1 fd1 mc):FnOk P w K mg base CX0 4 f fd ["self", "word", "one", "other"] (dW K c):=by
 refine F.ok (k:=3) uA (λvs H Q E h=>?_) (λcdv A outer s H vs Q E hr h=>?_)
 ·obtain⟨x,C,dx,a1,a2,w,n,xs,rfl,_⟩:=h
  rfl
 ·obtain⟨x,C,dx,a1,a2,w,n,xs,rfl,T,hx,hp,ok,h2,q⟩:=h
  have hu:=aM hr
  refine⟨_,(af (aY (cZ rfl CI.nm CI.h1 CI.h2 CI.h3 rfl CI.ok (hr.mono (by decide)) CI.kp CI.bd .nil ar (aa (pv 0) (aa (pv 1) (aa (aH (aa (pv 2) (aa (pv 3) ac))) ac)))))),?_⟩
  refine aS ⟨_,rfl,_,rfl,_,rfl,_,rfl,by show 2<=sizeLine;decide,λp np=>?_⟩
  obtain⟨g1,e1⟩:=laid (o:=.lst ([a1,a2].map V.ref)) np
  refine⟨x,C,dx,p,w,n,[a1,a2],xs,rfl,T,g1 _ _ hx,e1,Paired.mono (λa q0 h=>bY.keep (Kq.grow g1) h) hp,ok,h2,λln lj H' nl nj o el ej ex=>?_⟩
  exact q ln lj H' (bt g1 nl) (bt g1 nj) (λb u e n=>o _ _ (g1 _ _ e) n) el ej ex
theorem uB:FnScope ["self", "word", "one", "other", "chosen", "otherwise"] ["self", "word", "one", "other", "chosen", "otherwise"] (aw nv):=⟨rfl,rfl,rfl,by decide +kernel,rfl,by decide +kernel,by decide +kernel⟩
theorem sN {c:Cs}{f f1:Addr}{fd:FuncData} (F:Fun K "__init__" "Choice.__init__" nv f fd) (N:Free mg){fd1:FuncData}{CB:Addr}{mc:Value} (CI:CMc P w K mg base "Bracketed" "__init__" 3 ["self", "word", "inner"] (kH K c) CB f1 fd1 mc):FnOk P w K mg base CX0 4 f fd ["self", "word", "one", "other", "chosen", "otherwise"] (dX K c):=by
 refine F.ok (k:=3) uB (λvs H Q E h=>?_) (λcdv A outer s H vs Q E hr h=>?_)
 ·obtain⟨x,C,dx,a1,a2,a3,a4,w,n,xs,rfl,_⟩:=h
  rfl
 ·obtain⟨x,C,dx,a1,a2,a3,a4,w,n,xs,rfl,T,hx,hp,ok,h2,q⟩:=h
  have hu:=aM hr
  refine⟨_,(af (aY (cZ rfl CI.nm CI.h1 CI.h2 CI.h3 rfl CI.ok (hr.mono (by decide)) CI.kp CI.bd .nil ar (aa (pv 0) (aa (pv 1) (aa (aH (aa (pv 2) (aa (pv 3) (aa (pv 4) (aa (pv 5) ac))))) ac)))))),?_⟩
  refine aS ⟨_,rfl,_,rfl,_,rfl,_,rfl,_,rfl,_,rfl,by show 4<=sizeLine;decide,λp np=>?_⟩
  obtain⟨g1,e1⟩:=laid (o:=.lst ([a1,a2,a3,a4].map V.ref)) np
  refine⟨x,C,dx,p,w,n,[a1,a2,a3,a4],xs,rfl,T,g1 _ _ hx,e1,Paired.mono (λa q0 h=>bY.keep (Kq.grow g1) h) hp,ok,h2,λln lj H' nl nj o el ej ex=>?_⟩
  exact q ln lj H' (bt g1 nl) (bt g1 nj) (λb u e n=>o _ _ (g1 _ _ e) n) el ej ex
noncomputable abbrev iH:Stmt:=top 43
noncomputable abbrev sQh:Stmt:=top 42
noncomputable abbrev lZ:Stmt:=top 44
noncomputable abbrev uE:Stmt:=top 41
structure MkC (P:Program) (w:World) (K:PySem.W.Frag) (mg:Str->Option Value) (base:Heap) (cn:Str) (k:Nat) (ps:List Str) (sp:Sp) (C f:Addr) (fd:FuncData):Prop where
 km:Mk K C f
 ok:FnOk P w K mg base CX0 k f fd ps sp
 nm:mg cn=some (.ref C)
 bd:bA K fd ps []
theorem Ofr.trans {r:Addr}{H H1 H2:Hp} (h:Ofr r H H1) (g:Ofr r H1 H2):Ofr r H H2:=λb o e n=>g _ _ (h _ _ e n) n
theorem Ofr.refl {r:Addr}{H:Hp}:Ofr r H H:=λ_ _ e _=>e
theorem RdAt.free {R:Addr}{H H1:Hp}{r lw x:Addr}{ws:List Str}{pl:Nat}{op:Int} (h1:RdAt R H1 r lw ws pl op) (o1:Ofr r H H1) (nx:H1 x=none):H x=none:=by
 cases e:H x with
 | none=>rfl
 | some o=>
  by_cases z:x=r
  ·obtain⟨d,er⟩:=h1.ob
   rw [z,er]at nx;cases nx
  ·rw [o1 _ _ e z]at nx;cases nx
theorem RdAt.made {R:Addr}{H1 H':Hp}{r lw x dx C:Addr}{ws:List Str}{pl:Nat}{op:Int} (h1:RdAt R H1 r lw ws pl op) (nx:H1 x=none) (nd:H1 dx=none) (o:Ofr x (upd (upd H1 dx (.own x)) x (.ins C dx [])) H'):aP H1 H'/\RdAt R H' r lw ws pl op:=by
 have g:aP H1 H':=λb u e=>o _ _ (by rw [al (am e nx),al (am e nd)];exact e) (am e nx)
 exact⟨g,h1.keep g⟩
noncomputable def wo (H0 H:Hp):Hp:=λb=>match H0 b with
 | none=>H b
 | some _=>none
theorem dg {H0 H:Hp}{b:Addr} (h:H0 b=none):wo H0 H b=H b:=by unfold wo;rw [h]
theorem mK {H0 H:Hp}{b:Addr}{o:HO} (h:wo H0 H b=some o):H0 b=none/\H b=some o:=by
 unfold wo at h
 cases e:H0 b with
 | none=>rw [e]at h;exact⟨rfl,h⟩
 | some _=>rw [e]at h;cases h
theorem qJ {H0 H:Hp}:aP (wo H0 H) H:=λb o e=>(mK e).2
theorem dS {H0 H H':Hp} (g:∀b o,H0 b=none->H b=some o->H' b=some o):aP (wo H0 H) (wo H0 H'):=λb o e=>by
 obtain⟨h1,h2⟩:=mK e
 rw [dg h1];exact g _ _ h1 h2
theorem dC {H0 H1 H:Hp} (g:∀b,H1 b=none->H0 b=none):aP (wo H1 H) (wo H0 H):=λb o e=>by
 obtain⟨h1,h2⟩:=mK e
 rw [dg (g _ h1)];exact h2
theorem fF {K:PySem.W.Frag}{c:Cs}{R:Addr}{H H1:Hp}{r lw x dx:Addr}{ws:List Str}{pl:Nat}{op:Int}{l:Lf}{Q:VK} (VQ:∀C∈c.all,QuC K C) (ok:eN l) (o1:Ofr r H H1) (h1:RdAt R H1 r lw ws pl op) (nx:H1 x=none) (nd:H1 dx=none)
  (q:∀x H',H x=none->Ofr r H H'->RdAt R H' r lw ws pl op->LfX c l (wo H H') x->Q (.ref x) H'):LfI K (lfC c l) x dx l (upd (upd H1 dx (.own x)) x (.ins (lfC c l) dx [])) (λv H2=>v=.non/\Q (.ref x) H2):=by
 refine⟨VQ _ (nU c l),aj,ok,λln H' nl o el ex=>⟨rfl,?_⟩⟩
 obtain⟨g,h'⟩:=h1.made nx nd o
 have nl1:H1 ln=none:=by
  cases e:H1 ln with
  | none=>rfl
  | some u=>rw [al (am e nx),al (am e nd),e]at nl;cases nl
 exact q x H' (h1.free o1 nx) (λb u e n=>g _ _ (o1 _ _ e n)) h' ⟨dx,ln,by rw [dg (h1.free o1 nx)];exact ex,by rw [dg (h1.free o1 nl1)];exact el⟩
noncomputable def pP:Lf->Prop
 | .gth _ _ _ _=>True
 | _=>False
noncomputable def gm (l:Lf):List Str:=(b8 l).tail
noncomputable def cD (l:Lf):Str:=(b8 l).headD (Str.ofString "")
theorem qL (l:Lf):b8 l=cD l::gm l:=by cases l <;> rfl
inductive SgI (c:Cs) (R:Addr) (l:Lf) (r:Addr) (H:Hp) (Q:VK):Prop
 | mk (lw:Addr) (ws:List Str) (pl:Nat) (op:Int) (ok:eN l) (ng:¬pP l) (h:RdAt R H r lw ws pl op) (hat:At ws pl (gm l)) (q:∀x H',H x=none->Ofr r H H'->RdAt R H' r lw ws (pl+(gm l).length) op->LfX c l (wo H H') x->Q (.ref x) H'):SgI c R l r H Q
noncomputable def eW (c:Cs) (R:Addr):Sp:=λvs H Q _=>∃(r:Addr) (l:Lf),vs=[.ref r,.str (cD l)]/\SgI c R l r H Q
theorem wl {w:Str} (h:Wd w):w.length < sizeLine:=Nat.lt_of_le_of_lt h.hi (by decide)
theorem nl {w:Str} (h:ju w):w.length < sizeLine:=wl (jO h)
theorem bh:FnScope ["reader", "word", "key", "bound", "first", "one", "other", "rank"] ["reader", "word"] (aw iH):=⟨rfl,rfl,rfl,by decide +kernel,rfl,by decide +kernel,by decide +kernel⟩
theorem jL {c:Cs}{f f1 f2 f3 f4 f5 f6 f7 f8 f9 R:Addr}{fd:FuncData} (F:Fun K "single_here" "single_here" iH f fd) (N:Free mg) (Z:Con mg) (VQ:∀C∈c.all,QuC K C){fd1:FuncData} (MV_:MC P w K mg base R "value_here" 4 ["self"] [] [] (mS R) f1 fd1){fd2:FuncData} (MD:MC P w K mg base R "day_here" 4 ["self", "earliest"] [] [] (i3 R) f2 fd2){fd3:FuncData} (MK:MC P w K mg base R "key_here" 3 ["self"] [] [] (mV R) f3 fd3){fd4:FuncData} (MN:MC P w K mg base R "number_here" 3 ["self", "low", "high"] [] [] (iV R) f4 fd4){fd5:FuncData} (KNum:MkC P w K mg base "Number" 3 ["self", "number"] (mZ K) c.num f5 fd5){fd6:FuncData} (KVal:MkC P w K mg base "Value" 3 ["self", "key", "day"] (mW K) c.val f6 fd6){fd7:FuncData} (KSnc:MkC P w K mg base "Since" 3 ["self", "key", "bound", "first", "last"] (mX K) c.snc f7 fd7){fd8:FuncData} (KPrt:MkC P w K mg base "Part" 3 ["self", "one", "other", "first", "last"] (mY K) c.prt f8 fd8){fd9:FuncData} (KChg:MkC P w K mg base "Change" 3 ["self", "rank", "key", "first", "last"] (n6 K) c.chg f9 fd9):FnOk P w K mg base CX0 5 f fd ["reader", "word"] (eW c R):=by
 obtain⟨t1,c1⟩:=Z.rank
 refine F.ok (k:=4) bh (λvs H Q E h=>?_) (λcdv A outer s H vs Q E hr h=>?_)
 ·obtain⟨r,l,rfl,_⟩:=h
  rfl
 ·obtain⟨r,l,rfl,lw,ws,pl,op,ok,ng,h,hat,q⟩:=h
  have hu:=aM hr
  refine⟨_,(ad (aO (aC bc (pv 1) ah (aE _)) (af (av (bF KNum.km KNum.ok (hr.mono (by decide)) rfl KNum.nm KNum.bd .nil ar (aa (aK (pv 0) MV_.cl MV_.mt MV_.ok (hr.mono (by decide)) MV_.bd MV_.dv ar) ac)))) ay)
   (ad (aO (aC bc (pv 1) ah (aE _)) (ad (ax (i:=2) bh.nd rfl (Or.inl rfl) (aK (pv 0) MK.cl MK.mt MK.ok (hr.mono (by decide)) MK.bd MK.dv ar))
   (af (av (bF KVal.km KVal.ok (hr.mono (by decide)) rfl KVal.nm KVal.bd .nil ar (aa (pv 2) (aa (aW (pv 0) MD.cl MD.mt MD.ok (hr.mono (by decide)) MD.bd MD.dv ar (aa ag ac)) ac)))))) ay)
   (ad (aO (aC bc (pv 1) ah (aE _)) (ad (ax (i:=2) bh.nd rfl (Or.inl rfl) (aK (pv 0) MK.cl MK.mt MK.ok (hr.mono (by decide)) MK.bd MK.dv ar))
   (ad (ax (i:=3) bh.nd rfl (Or.inl rfl) (aK (pv 0) MV_.cl MV_.mt MV_.ok (hr.mono (by decide)) MV_.bd MV_.dv ar))
   (ad (ax (i:=4) bh.nd rfl (Or.inl rfl) (aW (pv 0) MD.cl MD.mt MD.ok (hr.mono (by decide)) MD.bd MD.dv ar (aa ag ac)))
   (af (av (bF KSnc.km KSnc.ok (hr.mono (by decide)) rfl KSnc.nm KSnc.bd .nil ar (aa (pv 2) (aa (pv 3) (aa (pv 4) (aa (aW (pv 0) MD.cl MD.mt MD.ok (hr.mono (by decide)) MD.bd MD.dv ar (aa (pv 4) ac)) ac)))))))))) ay)
   (ad (aO (aC bc (pv 1) ah (aE _)) (ad (ax (i:=5) bh.nd rfl (Or.inl rfl) (aK (pv 0) MK.cl MK.mt MK.ok (hr.mono (by decide)) MK.bd MK.dv ar))
   (ad (ax (i:=6) bh.nd rfl (Or.inl rfl) (aK (pv 0) MK.cl MK.mt MK.ok (hr.mono (by decide)) MK.bd MK.dv ar))
   (ad (ax (i:=4) bh.nd rfl (Or.inl rfl) (aW (pv 0) MD.cl MD.mt MD.ok (hr.mono (by decide)) MD.bd MD.dv ar (aa ag ac)))
   (af (av (bF KPrt.km KPrt.ok (hr.mono (by decide)) rfl KPrt.nm KPrt.bd .nil ar (aa (pv 5) (aa (pv 6) (aa (pv 4) (aa (aW (pv 0) MD.cl MD.mt MD.ok (hr.mono (by decide)) MD.bd MD.dv ar (aa (pv 4) ac)) ac)))))))))) ay)
   (ad (ax (i:=7) bh.nd rfl (Or.inl rfl) (aW (pv 0) MN.cl MN.mt MN.ok (hr.mono (by decide)) MN.bd MN.dv ar (aa ag (aa (b6 (v:=.int 400) (by rfl) c1 ⟨_,rfl⟩) ac))))
   (ad (ax (i:=2) bh.nd rfl (Or.inl rfl) (aK (pv 0) MK.cl MK.mt MK.ok (hr.mono (by decide)) MK.bd MK.dv ar))
   (ad (ax (i:=4) bh.nd rfl (Or.inl rfl) (aW (pv 0) MD.cl MD.mt MD.ok (hr.mono (by decide)) MD.bd MD.dv ar (aa ag ac)))
   (af (av (bF KChg.km KChg.ok (hr.mono (by decide)) rfl KChg.nm KChg.bd .nil ar (aa (pv 7) (aa (pv 2) (aa (pv 4) (aa (aW (pv 0) MD.cl MD.mt MD.ok (hr.mono (by decide)) MD.bd MD.dv ar (aa (pv 4) ac)) ac)))))))))))))),?_⟩
  cases l with
  | gth w ks f0 l0=>exact absurd True.intro ng
  | num z=>
   refine ae (aq ⟨_,rfl,rfl,_,rfl,?_⟩)
   refine b5 ?_
   have hz:=id ok
   have o0:Ofr r H H:=Ofr.refl
   obtain⟨dx0,ho0⟩:=h.ob
   have hx0:=hat.hd
   refine az ⟨_,rfl,r,dx0,_,rfl,ho0,aG _ _ _ (by decide +kernel) (by decide +kernel) (by decide +kernel),r,lw,ws,_,op,z,_,rfl,h,hx0,wl (cE hz.1 hz.2),cP hz.1 hz.2 hz.1 hz.2,λH9 p9 h9=>?_⟩
   intro x dx nx nd _
   exact⟨x,_,dx,z,rfl,fF (l:=.num z) VQ ok (o0.trans p9) h9 nx nd q⟩
  | val k d=>
   refine ae (aq ⟨_,rfl,rfl,_,rfl,?_⟩)
   rw [show decide (V.str (cD (.val k d))=V.str (Str.ofString "number"))=false from (show decide (V.str (Str.ofString "value")=V.str (Str.ofString "number"))=false from by decide +kernel)]
   refine aF (ai ?_)
   dsimp only
   refine ae (aq ⟨_,rfl,rfl,_,rfl,?_⟩)
   refine b5 ?_
   obtain⟨hk,d0,d1⟩:=id ok
   have o0:Ofr r H H:=Ofr.refl
   obtain⟨dx0,ho0⟩:=h.ob
   have hx0:=hat.hd
   have at0:=hat.tl
   refine ae (ao ⟨_,rfl,r,dx0,_,rfl,ho0,aG _ _ _ (by decide +kernel) (by decide +kernel) (by decide +kernel),r,lw,ws,_,op,k,rfl,h,hx0,nl hk,hk,λH0 p0 h0_=>?_⟩)
   dsimp only [aA,List.set_cons_zero,List.set_cons_succ]
   have o1:=o0.trans p0
   obtain⟨dx1,ho1⟩:=h0_.ob
   have hx1:=at0.hd
   refine az ⟨_,rfl,_,rfl,r,dx1,_,rfl,ho1,aG _ _ _ (by decide +kernel) (by decide +kernel) (by decide +kernel),r,lw,ws,_,op,0,d,_,rfl,h0_,hx1,wl (cE (by omega) (by omega)),cP (by omega) (by omega) (by omega) (by omega),λH9 p9 h9=>?_⟩
   intro x dx nx nd _
   exact⟨x,_,dx,k,d,rfl,fF (l:=.val k d) VQ ok (o1.trans p9) h9 nx nd q⟩
  | snc k b0 f0 l0=>
   refine ae (aq ⟨_,rfl,rfl,_,rfl,?_⟩)
   rw [show decide (V.str (cD (.snc k b0 f0 l0))=V.str (Str.ofString "number"))=false from (show decide (V.str (Str.ofString "since")=V.str (Str.ofString "number"))=false from by decide +kernel)]
   refine aF (ai ?_)
   dsimp only
   refine ae (aq ⟨_,rfl,rfl,_,rfl,?_⟩)
   rw [show decide (V.str (cD (.snc k b0 f0 l0))=V.str (Str.ofString "value"))=false from (show decide (V.str (Str.ofString "since")=V.str (Str.ofString "value"))=false from by decide +kernel)]
   refine aF (ai ?_)
   dsimp only
   refine ae (aq ⟨_,rfl,rfl,_,rfl,?_⟩)
   refine b5 ?_
   obtain⟨hk,hb,h1,h2,h3⟩:=id ok
   have o0:Ofr r H H:=Ofr.refl
   obtain⟨dx0,ho0⟩:=h.ob
   have hx0:=hat.hd
   have at0:=hat.tl
   refine ae (ao ⟨_,rfl,r,dx0,_,rfl,ho0,aG _ _ _ (by decide +kernel) (by decide +kernel) (by decide +kernel),r,lw,ws,_,op,k,rfl,h,hx0,nl hk,hk,λH0 p0 h0_=>?_⟩)
   dsimp only [aA,List.set_cons_zero,List.set_cons_succ]
   have o1:=o0.trans p0
   obtain⟨dx1,ho1⟩:=h0_.ob
   have hx1:=at0.hd
   have at1:=at0.tl
   refine ae (ao ⟨_,rfl,r,dx1,_,rfl,ho1,aG _ _ _ (by decide +kernel) (by decide +kernel) (by decide +kernel),r,lw,ws,_,op,b0,_,rfl,h0_,hx1,wl (cE hb.1 hb.2),cP hb.1 hb.2 hb.1 hb.2,λH1 p1 h1_=>?_⟩)
   dsimp only [aA,List.set_cons_zero,List.set_cons_succ]
   have o2:=o1.trans p1
   obtain⟨dx2,ho2⟩:=h1_.ob
   have hx2:=at1.hd
   have at2:=at1.tl
   refine ae (ao ⟨_,rfl,r,dx2,_,rfl,ho2,aG _ _ _ (by decide +kernel) (by decide +kernel) (by decide +kernel),r,lw,ws,_,op,0,f0,_,rfl,h1_,hx2,wl (cE (by omega) (by omega)),cP (by omega) (by omega) (by omega) (by omega),λH2 p2 h2_=>?_⟩)
   dsimp only [aA,List.set_cons_zero,List.set_cons_succ]
   have o3:=o2.trans p2
   obtain⟨dx3,ho3⟩:=h2_.ob
   have hx3:=at2.hd
   refine az ⟨_,rfl,_,rfl,_,rfl,_,rfl,r,dx3,_,rfl,ho3,aG _ _ _ (by decide +kernel) (by decide +kernel) (by decide +kernel),_,rfl,r,lw,ws,_,op,f0,l0,_,rfl,h2_,hx3,wl (cE (by omega) (by omega)),cP (by omega) (by omega) (by omega) (by omega),λH9 p9 h9=>?_⟩
   intro x dx nx nd _
   exact⟨x,_,dx,k,b0,f0,l0,rfl,fF (l:=.snc k b0 f0 l0) VQ ok (o3.trans p9) h9 nx nd q⟩
  | prt k k2 f0 l0=>
   refine ae (aq ⟨_,rfl,rfl,_,rfl,?_⟩)
   rw [show decide (V.str (cD (.prt k k2 f0 l0))=V.str (Str.ofString "number"))=false from (show decide (V.str (Str.ofString "part")=V.str (Str.ofString "number"))=false from by decide +kernel)]
   refine aF (ai ?_)
   dsimp only
   refine ae (aq ⟨_,rfl,rfl,_,rfl,?_⟩)
   rw [show decide (V.str (cD (.prt k k2 f0 l0))=V.str (Str.ofString "value"))=false from (show decide (V.str (Str.ofString "part")=V.str (Str.ofString "value"))=false from by decide +kernel)]
   refine aF (ai ?_)
   dsimp only
   refine ae (aq ⟨_,rfl,rfl,_,rfl,?_⟩)
   rw [show decide (V.str (cD (.prt k k2 f0 l0))=V.str (Str.ofString "since"))=false from (show decide (V.str (Str.ofString "part")=V.str (Str.ofString "since"))=false from by decide +kernel)]
   refine aF (ai ?_)
   dsimp only
   refine ae (aq ⟨_,rfl,rfl,_,rfl,?_⟩)
   refine b5 ?_
   obtain⟨hk,hk2,h1,h2,h3⟩:=id ok
   have o0:Ofr r H H:=Ofr.refl
   obtain⟨dx0,ho0⟩:=h.ob
   have hx0:=hat.hd
   have at0:=hat.tl
   refine ae (ao ⟨_,rfl,r,dx0,_,rfl,ho0,aG _ _ _ (by decide +kernel) (by decide +kernel) (by decide +kernel),r,lw,ws,_,op,k,rfl,h,hx0,nl hk,hk,λH0 p0 h0_=>?_⟩)
   dsimp only [aA,List.set_cons_zero,List.set_cons_succ]
   have o1:=o0.trans p0
   obtain⟨dx1,ho1⟩:=h0_.ob
   have hx1:=at0.hd
   have at1:=at0.tl
   refine ae (ao ⟨_,rfl,r,dx1,_,rfl,ho1,aG _ _ _ (by decide +kernel) (by decide +kernel) (by decide +kernel),r,lw,ws,_,op,k2,rfl,h0_,hx1,nl hk2,hk2,λH1 p1 h1_=>?_⟩)
   dsimp only [aA,List.set_cons_zero,List.set_cons_succ]
   have o2:=o1.trans p1
   obtain⟨dx2,ho2⟩:=h1_.ob
   have hx2:=at1.hd
   have at2:=at1.tl
   refine ae (ao ⟨_,rfl,r,dx2,_,rfl,ho2,aG _ _ _ (by decide +kernel) (by decide +kernel) (by decide +kernel),r,lw,ws,_,op,0,f0,_,rfl,h1_,hx2,wl (cE (by omega) (by omega)),cP (by omega) (by omega) (by omega) (by omega),λH2 p2 h2_=>?_⟩)
   dsimp only [aA,List.set_cons_zero,List.set_cons_succ]
   have o3:=o2.trans p2
   obtain⟨dx3,ho3⟩:=h2_.ob
   have hx3:=at2.hd
   refine az ⟨_,rfl,_,rfl,_,rfl,_,rfl,r,dx3,_,rfl,ho3,aG _ _ _ (by decide +kernel) (by decide +kernel) (by decide +kernel),_,rfl,r,lw,ws,_,op,f0,l0,_,rfl,h2_,hx3,wl (cE (by omega) (by omega)),cP (by omega) (by omega) (by omega) (by omega),λH9 p9 h9=>?_⟩
   intro x dx nx nd _
   exact⟨x,_,dx,k,k2,f0,l0,rfl,fF (l:=.prt k k2 f0 l0) VQ ok (o3.trans p9) h9 nx nd q⟩
  | chg r0 k f0 l0=>
   refine ae (aq ⟨_,rfl,rfl,_,rfl,?_⟩)
   rw [show decide (V.str (cD (.chg r0 k f0 l0))=V.str (Str.ofString "number"))=false from (show decide (V.str (Str.ofString "change")=V.str (Str.ofString "number"))=false from by decide +kernel)]
   refine aF (ai ?_)
   dsimp only
   refine ae (aq ⟨_,rfl,rfl,_,rfl,?_⟩)
   rw [show decide (V.str (cD (.chg r0 k f0 l0))=V.str (Str.ofString "value"))=false from (show decide (V.str (Str.ofString "change")=V.str (Str.ofString "value"))=false from by decide +kernel)]
   refine aF (ai ?_)
   dsimp only
   refine ae (aq ⟨_,rfl,rfl,_,rfl,?_⟩)
   rw [show decide (V.str (cD (.chg r0 k f0 l0))=V.str (Str.ofString "since"))=false from (show decide (V.str (Str.ofString "change")=V.str (Str.ofString "since"))=false from by decide +kernel)]
   refine aF (ai ?_)
   dsimp only
   refine ae (aq ⟨_,rfl,rfl,_,rfl,?_⟩)
   rw [show decide (V.str (cD (.chg r0 k f0 l0))=V.str (Str.ofString "part"))=false from (show decide (V.str (Str.ofString "change")=V.str (Str.ofString "part"))=false from by decide +kernel)]
   refine aF (ai ?_)
   dsimp only
   obtain⟨⟨r1,r2⟩,hk,h1,h2,h3⟩:=id ok
   have o0:Ofr r H H:=Ofr.refl
   obtain⟨dx0,ho0⟩:=h.ob
   have hx0:=hat.hd
   have at0:=hat.tl
   refine ae (ao ⟨_,rfl,r,dx0,_,rfl,ho0,aG _ _ _ (by decide +kernel) (by decide +kernel) (by decide +kernel),r,lw,ws,_,op,1,400,r0,_,rfl,h,hx0,wl (cE (by omega) (by omega)),cP (by omega) (by omega) (by omega) (by omega),λH0 p0 h0_=>?_⟩)
   dsimp only [aA,List.set_cons_zero,List.set_cons_succ]
   have o1:=o0.trans p0
   obtain⟨dx1,ho1⟩:=h0_.ob
   have hx1:=at0.hd
   have at1:=at0.tl
   refine ae (ao ⟨_,rfl,r,dx1,_,rfl,ho1,aG _ _ _ (by decide +kernel) (by decide +kernel) (by decide +kernel),r,lw,ws,_,op,k,rfl,h0_,hx1,nl hk,hk,λH1 p1 h1_=>?_⟩)
   dsimp only [aA,List.set_cons_zero,List.set_cons_succ]
   have o2:=o1.trans p1
   obtain⟨dx2,ho2⟩:=h1_.ob
   have hx2:=at1.hd
   have at2:=at1.tl
   refine ae (ao ⟨_,rfl,r,dx2,_,rfl,ho2,aG _ _ _ (by decide +kernel) (by decide +kernel) (by decide +kernel),r,lw,ws,_,op,0,f0,_,rfl,h1_,hx2,wl (cE (by omega) (by omega)),cP (by omega) (by omega) (by omega) (by omega),λH2 p2 h2_=>?_⟩)
   dsimp only [aA,List.set_cons_zero,List.set_cons_succ]
   have o3:=o2.trans p2
   obtain⟨dx3,ho3⟩:=h2_.ob
   have hx3:=at2.hd
   refine az ⟨_,rfl,_,rfl,_,rfl,_,rfl,r,dx3,_,rfl,ho3,aG _ _ _ (by decide +kernel) (by decide +kernel) (by decide +kernel),_,rfl,r,lw,ws,_,op,f0,l0,_,rfl,h2_,hx3,wl (cE (by omega) (by omega)),cP (by omega) (by omega) (by omega) (by omega),λH9 p9 h9=>?_⟩
   intro x dx nx nd _
   exact⟨x,_,dx,r0,k,f0,l0,rfl,fF (l:=.chg r0 k f0 l0) VQ ok (o3.trans p9) h9 nx nd q⟩
theorem wv {K:PySem.W.Frag}{c:Cs}{R C:Addr}{H H1:Hp}{r lw x dx:Addr}{ws:List Str}{pl:Nat}{op:Int}{n:Nat}{w:Str}{as:List Addr}{xs:List Nd}{Q:VK} (VQ:∀C∈c.all,QuC K C) (hC:C=brC c w) (hp:Paired (λa q=>bY c n q (wo H H1) a) as xs) (ok:cC (n+1) (.brk w xs)) (h2:n<=2) (o1:Ofr r H H1) (h1:RdAt R H1 r lw ws pl op) (nx:H1 x=none) (nd:H1 dx=none)
  (q:∀x H',H x=none->Ofr r H H'->RdAt R H' r lw ws pl op->bY c (n+1) (.brk w xs) (wo H H') x->Q (.ref x) H'):KidI K c x C dx n w as xs (upd (upd H1 dx (.own x)) x (.ins C dx [])) (λv H2=>v=.non/\Q (.ref x) H2):=by
 have gu:aP H1 (upd (upd H1 dx (.own x)) x (.ins C dx [])):=λb u e=>by rw [al (am e nx),al (am e nd)];exact e
 refine⟨by rw [hC];exact VQ _ (oj c w),aj,Paired.mono (λa q0 h=>bY.keep (Kq.grow (aP.trans qJ gu)) h) hp,ok,h2,λln lj H' nl nj o el ej ex=>⟨rfl,?_⟩⟩
 obtain⟨g,h'⟩:=h1.made nx nd o
 have f0:∀b,upd (upd H1 dx (.own x)) x (.ins C dx []) b=none->H b=none:=λb hb=>h1.free o1 (bt gu hb)
 rw [hC]at ex
 exact q x H' (h1.free o1 nx) (λb u e n=>g _ _ (o1 _ _ e n)) h' (BrX.mk dx ln lj as (by rw [dg (h1.free o1 nx)];exact ex) (by rw [dg (f0 _ nl)];exact el) (by rw [dg (f0 _ nj)];exact ej) (Paired.mono (λa q0 h=>bY.keep (Kq.grow (dS λb u _ e=>g _ _ e)) h) hp))
noncomputable def cw (n:Nat) (q:Nd):List Str:=opS::(aL n q++[clS])
inductive QhI (c:Cs) (R:Addr) (n:Nat) (nd:Nd) (r:Addr) (H:Hp) (Q:VK):Prop
 | mk (lw:Addr) (ws:List Str) (pl:Nat) (op:Int) (ok:cC n nd) (h:RdAt R H r lw ws pl op) (hat:At ws pl (aL n nd)) (hop:op+n<=3) (hn:n<=3) (q:∀x H',H x=none->Ofr r H H'->RdAt R H' r lw ws (pl+(aL n nd).length) op->bY c n nd (wo H H') x->Q (.ref x) H'):QhI c R n nd r H Q
noncomputable def lN (c:Cs) (R:Addr) (n:Nat):Sp:=λvs H Q _=>∃(r:Addr) (nd:Nd),vs=[.ref r]/\QhI c R n nd r H Q
inductive QsI (c:Cs) (R:Addr) (n:Nat) (xs:List Nd) (r:Addr) (H:Hp) (Q:VK):Prop
 | mk (m:Nat) (lw:Addr) (ws:List Str) (pl:Nat) (op:Int) (hm:n=m+1) (ok:∀x∈xs,cC m x) (h4:xs.length<=4) (h:RdAt R H r lw ws pl op) (hat:At ws pl (xs.flatMap (cw m))) (hop:op+n<=3) (hn:n<=3) (q:∀li as H',H li=none->Ofr r H H'->RdAt R H' r lw ws (pl+(xs.flatMap (cw m)).length) op->H' li=some (.lst (as.map V.ref))->Paired (λa q=>bY c m q (wo H H') a) as xs->Q (.ref li) H'):QsI c R n xs r H Q
noncomputable def iu (c:Cs) (R:Addr) (n:Nat):Sp:=λvs H Q _=>∃(r:Addr) (xs:List Nd),vs=[.ref r,.int (xs.length:Int)]/\QsI c R n xs r H Q
theorem my {l:Lf} (h:¬pP l):cD l∉cm/\cD l∉ce/\cD l∉cp/\cD l∈cQ:=by
 cases l with
 | gth=>exact absurd True.intro h
 | num=>exact⟨(by show (Str.ofString "number")∉cm;decide +kernel),(by show (Str.ofString "number")∉ce;decide +kernel),(by show (Str.ofString "number")∉cp;decide +kernel),(by show (Str.ofString "number")∈cQ;decide +kernel)⟩
 | val=>exact⟨(by show (Str.ofString "value")∉cm;decide +kernel),(by show (Str.ofString "value")∉ce;decide +kernel),(by show (Str.ofString "value")∉cp;decide +kernel),(by show (Str.ofString "value")∈cQ;decide +kernel)⟩
 | snc=>exact⟨(by show (Str.ofString "since")∉cm;decide +kernel),(by show (Str.ofString "since")∉ce;decide +kernel),(by show (Str.ofString "since")∉cp;decide +kernel),(by show (Str.ofString "since")∈cQ;decide +kernel)⟩
 | prt=>exact⟨(by show (Str.ofString "part")∉cm;decide +kernel),(by show (Str.ofString "part")∉ce;decide +kernel),(by show (Str.ofString "part")∉cp;decide +kernel),(by show (Str.ofString "part")∈cQ;decide +kernel)⟩
 | chg=>exact⟨(by show (Str.ofString "change")∉cm;decide +kernel),(by show (Str.ofString "change")∉ce;decide +kernel),(by show (Str.ofString "change")∉cp;decide +kernel),(by show (Str.ofString "change")∈cQ;decide +kernel)⟩
theorem lC:(∀w∈ce,w∉cm)/\(∀w∈cp,w∉cm/\w∉ce):=by decide +kernel
theorem iA:FnScope ["reader", "word", "keys", "first", "inner"] ["reader"] (aw sQh):=⟨rfl,rfl,rfl,by decide +kernel,rfl,by decide +kernel,by decide +kernel⟩
theorem wn {c:Cs}{n:Nat}{f f1 f2 f3 f4 f5 f6 f7 f8 R:Addr}{fd:FuncData} (F:Fun K "question_here" "question_here" sQh f fd) (N:Free mg) (ZT:ConT K mg) (VQ:∀C∈c.all,QuC K C){fd1:FuncData} (MB:MC P w K mg base R "beginning_here" 2 ["self"] [] [] (lR R) f1 fd1){fd2:FuncData} (MD:MC P w K mg base R "day_here" 4 ["self", "earliest"] [] [] (i3 R) f2 fd2){fd3:FuncData} (ME:MC P w K mg base R "keys_here" 4 ["self"] [] [] (gC R) f3 fd3){fd4:FuncData} (CS:Cal P w K mg base "questions_here" (2 * n+5) ["reader", "count"] (iu c R n) f4 fd4){fd5:FuncData} (CG:Cal P w K mg base "single_here" 5 ["reader", "word"] (eW c R) f5 fd5){fd6:FuncData} (KGth:MkC P w K mg base "Gathering" 3 ["self", "word", "keys", "first", "last"] (fW K) c.gth f6 fd6){fd7:FuncData} (KRck:MkC P w K mg base "Reckoning" 4 ["self", "word", "one", "other"] (dW K c) c.rck f7 fd7){fd8:FuncData} (KChc:MkC P w K mg base "Choice" 4 ["self", "word", "one", "other", "chosen", "otherwise"] (dX K c) c.chc f8 fd8):FnOk P w K mg base CX0 (2 * n+6) f fd ["reader"] (lN c R n):=by
 obtain⟨a2,c2,q2⟩:=ZT.gth
 obtain⟨a3,c3,q3⟩:=ZT.rck
 obtain⟨a4,c4,q4⟩:=ZT.chc
 refine F.ok (k:=2 * n+5) iA (λvs H Q E h=>?_) (λcdv A outer s H vs Q E hr h=>?_)
 ·obtain⟨r,nd,rfl,_⟩:=h
  rfl
 ·obtain⟨r,nd,rfl,lw,ws,pl,op,ok,h,hat,hop,hn,q⟩:=h
  have hu:=aM hr
  refine⟨_,(ad (ax (i:=1) iA.nd rfl (Or.inl rfl) (aK (pv 0) MB.cl MB.mt MB.ok (hr.mono (by omega)) MB.bd MB.dv ar))
   (ad (aO (aC bw (pv 1) (b6 (v:=.ref a2) (by rfl) c2 rfl) (by with_unfolding_all rfl)) (ad (ax (i:=2) iA.nd rfl (Or.inl rfl) (aK (pv 0) ME.cl ME.mt ME.ok (hr.mono (by omega)) ME.bd ME.dv ar))
   (ad (ax (i:=3) iA.nd rfl (Or.inl rfl) (aW (pv 0) MD.cl MD.mt MD.ok (hr.mono (by omega)) MD.bd MD.dv ar (aa ag ac)))
   (af (av (bF KGth.km KGth.ok (hr.mono (by omega)) rfl KGth.nm KGth.bd .nil ar (aa (pv 1) (aa (pv 2) (aa (pv 3) (aa (aW (pv 0) MD.cl MD.mt MD.ok (hr.mono (by omega)) MD.bd MD.dv ar (aa (pv 3) ac)) ac))))))))) ay)
   (ad (aO (aC bw (pv 1) (b6 (v:=.ref a3) (by rfl) c3 rfl) (by with_unfolding_all rfl)) (ad (ax (i:=4) iA.nd rfl (Or.inl rfl) (au CS.ok (hr.mono (by omega)) rfl CS.nm CS.kp CS.bd .nil ar (aa (pv 0) (aa ag ac))))
   (af (av (bF KRck.km KRck.ok (hr.mono (by omega)) rfl KRck.nm KRck.bd .nil ar (aa (pv 1) (aa (b9 aT (pv 4) ag (λ_ _=>rfl)) (aa (b9 aT (pv 4) ag (λ_ _=>rfl)) ac))))))) ay)
   (ad (aO (aC bw (pv 1) (b6 (v:=.ref a4) (by rfl) c4 rfl) (by with_unfolding_all rfl)) (ad (ax (i:=4) iA.nd rfl (Or.inl rfl) (au CS.ok (hr.mono (by omega)) rfl CS.nm CS.kp CS.bd .nil ar (aa (pv 0) (aa ag ac))))
   (af (av (bF KChc.km KChc.ok (hr.mono (by omega)) rfl KChc.nm KChc.bd .nil ar (aa (pv 1) (aa (b9 aT (pv 4) ag (λ_ _=>rfl)) (aa (b9 aT (pv 4) ag (λ_ _=>rfl)) (aa (b9 aT (pv 4) ag (λ_ _=>rfl)) (aa (b9 aT (pv 4) ag (λ_ _=>rfl)) ac))))))))) ay)
   (af (av (au CG.ok (hr.mono (by omega)) rfl CG.nm CG.kp CG.bd .nil ar (aa (pv 0) (aa (pv 1) ac))))))))),?_⟩
  obtain⟨dx0,ho0⟩:=h.ob
  have hw:∃w0 r0,aL n nd=w0::r0/\(w0∈cQ\/w0∈cm\/w0∈ce\/w0∈cp):=by
   cases nd with
   | leaf l=>
    by_cases z:pP l
    ·cases l with
     | gth w ks f0 l0=>exact⟨w,_,cW _ _,.inr (.inl (iK ok).1)⟩
     | _=>exact absurd z id
    ·exact⟨cD l,gm l,by rw [cW,qL],.inl (my z).2.2.2⟩
   | brk w xs=>
    cases n with
    | zero=>exact(show False from ok).elim
    | succ m=>
     obtain⟨h1,_⟩:_/\_:=ok
     exact⟨w,_,rfl,h1.elim (λz=>.inr (.inr (.inl z.1))) λz=>.inr (.inr (.inr z.1))⟩
  obtain⟨w0,r0,ew,hw⟩:=hw
  have hx0:=At.hd (by rw [ew]at hat;exact hat)
  have at0:=At.tl (by rw [ew]at hat;exact hat)
  refine ae (ao ⟨_,rfl,r,dx0,_,rfl,ho0,aG _ _ _ (by decide +kernel) (by decide +kernel) (by decide +kernel),r,lw,ws,pl,op,w0,rfl,h,hx0,hw,λH1 o1 h1=>?_⟩)
  dsimp only [aA,List.set_cons_zero,List.set_cons_succ]
  cases nd with
  | leaf l=>
   have okl:=iK ok
   rw [cW]at ew q
   by_cases z:pP l
   ·cases l with
    | gth w ks f0 l0=>
     obtain⟨rfl,rfl⟩:=List.cons.inj (show w::[jc ks,si f0,si l0]=w0::r0 from ew)
     obtain⟨hg,⟨k1,k8,knd,hk⟩,d1,d2,d3⟩:=id okl
     refine ae (aq ⟨_,rfl,a2,_,rfl,.inr (q2 _),rfl,aR _,?_⟩)
     rw [if_neg Bool.false_ne_true,bb]
     refine⟨_,rfl,?_⟩
     rw [decide_eq_true hg]
     refine b5 ?_
     obtain⟨dx1,ho1⟩:=h1.ob
     refine ae (ao ⟨_,rfl,r,dx1,_,rfl,ho1,aG _ _ _ (by decide +kernel) (by decide +kernel) (by decide +kernel),r,lw,ws,_,op,ks,rfl,h1,at0.hd,Nat.le_of_lt (wl (ww k1 k8 hk)),k1,k8,knd,λk m=>⟨hk k m,nl (hk k m)⟩,λlk H2 nlk o2 elk h2=>?_⟩)
     dsimp only [aA,List.set_cons_zero,List.set_cons_succ]
     obtain⟨dx2,ho2⟩:=h2.ob
     have at1:=at0.tl
     refine ae (ao ⟨_,rfl,r,dx2,_,rfl,ho2,aG _ _ _ (by decide +kernel) (by decide +kernel) (by decide +kernel),r,lw,ws,_,op,0,f0,_,rfl,h2,at1.hd,wl (cE (by omega) (by omega)),cP (by omega) (by omega) (by omega) (by omega),λH3 o3 h3=>?_⟩)
     dsimp only [aA,List.set_cons_zero,List.set_cons_succ]
     obtain⟨dx3,ho3⟩:=h3.ob
     have at2:=at1.tl
     have elk3:=o3 _ _ elk (eP elk ho2 (λz=>nomatch z))
     refine az ⟨_,rfl,_,rfl,_,rfl,_,rfl,r,dx3,_,rfl,ho3,aG _ _ _ (by decide +kernel) (by decide +kernel) (by decide +kernel),_,rfl,r,lw,ws,_,op,f0,l0,_,rfl,h3,at2.hd,wl (cE (by omega) (by omega)),cP (by omega) (by omega) (by omega) (by omega),λH4 o4 h4=>?_⟩
     intro x dx nx nd _
     have elk4:=o4 _ _ elk3 (eP elk3 ho3 (λz=>nomatch z))
     refine⟨x,_,dx,w,lk,f0,l0,ks,rfl,?_,fF (l:=.gth w ks f0 l0) VQ okl (o1.trans (o2.trans (o3.trans o4))) h4 nx nd λx H' nx o h l=>q x H' nx o h (lb.mpr l)⟩
     rw [al (am elk4 nx),al (am elk4 nd)];exact elk4
    | _=>exact absurd z id
   ·obtain⟨z1,z2,z3,_⟩:=my z
    rw [qL]at ew
    obtain⟨rfl,rfl⟩:=List.cons.inj ew
    refine ae (aq ⟨_,rfl,a2,_,rfl,.inr (q2 _),rfl,aR _,?_⟩)
    rw [if_neg Bool.false_ne_true,bb]
    refine⟨_,rfl,?_⟩
    rw [decide_eq_false z1]
    refine aF (ai ?_)
    dsimp only
    refine ae (aq ⟨_,rfl,a3,_,rfl,.inr (q3 _),rfl,aR _,?_⟩)
    rw [if_neg Bool.false_ne_true,bb]
    refine⟨_,rfl,?_⟩
    rw [decide_eq_false z2]
    refine aF (ai ?_)
    dsimp only
    refine ae (aq ⟨_,rfl,a4,_,rfl,.inr (q4 _),rfl,aR _,?_⟩)
    rw [if_neg Bool.false_ne_true,bb]
    refine⟨_,rfl,?_⟩
    rw [decide_eq_false z3]
    refine aF (ai ?_)
    dsimp only
    refine az ⟨_,rfl,_,rfl,r,l,rfl,lw,ws,_,op,okl,z,h1,at0,λx H' nx o h lx=>?_⟩
    rw [show pl+1+(gm l).length=pl+(b8 l).length from by rw [qL l,List.length_cons];omega]at h
    exact q x H' (h1.free o1 nx) (o1.trans o) h (lb.mpr (lx.keep (Kq.grow (dC (H0:=H) λb hb=>h1.free o1 hb))))
  | brk w xs=>
   cases n with
   | zero=>exact(show False from ok).elim
   | succ m=>
    obtain⟨rfl,rfl⟩:=List.cons.inj (show w::xs.flatMap (cw m)=w0::r0 from ew)
    obtain⟨hb,hxs⟩:_/\_:=id ok
    have h4:=fJ hb
    have hq:∀x H',H x=none->Ofr r H H'->RdAt R H' r lw ws (pl+1+(xs.flatMap (cw m)).length) op->bY c (m+1) (.brk w xs) (wo H H') x->Q (.ref x) H':=λx H' nx o h=>by
     rw [show pl+1+(xs.flatMap (cw m)).length=pl+(aL (m+1) (.brk w xs)).length from by show _=pl+(w::xs.flatMap (cw m)).length;rw [List.length_cons];omega]at h
     exact q x H' nx o h
    rcases hb with⟨hb,hl⟩ | ⟨hb,hl⟩
    ·have zg:=lC.1 w hb
     refine ae (aq ⟨_,rfl,a2,_,rfl,.inr (q2 _),rfl,aR _,?_⟩)
     rw [if_neg Bool.false_ne_true,bb]
     refine⟨_,rfl,?_⟩
     rw [decide_eq_false zg]
     refine aF (ai ?_)
     dsimp only
     refine ae (aq ⟨_,rfl,a3,_,rfl,.inr (q3 _),rfl,aR _,?_⟩)
     rw [if_neg Bool.false_ne_true,bb]
     refine⟨_,rfl,?_⟩
     rw [decide_eq_true hb]
     refine b5 ?_
     refine ae (ao ⟨_,rfl,r,xs,(by rw [hl];rfl),m,lw,ws,_,op,rfl,hxs,h4.2,h1,at0,hop,hn,λli as H2 nli o2 h2 eli hp=>?_⟩)
     dsimp only [aA,List.set_cons_zero,List.set_cons_succ]
     have hal:=cu hp
     rw [hl]at hal
     match as,hal,hp,eli with
     | [b1,b2],_,hp,eli=>
      refine az ⟨_,rfl,_,rfl,li,_,0,_,rfl,rfl,SqL.of eli,rfl,_,rfl,li,_,1,_,rfl,rfl,SqL.of eli,rfl,?_⟩
      intro x dx nx nd _
      refine⟨x,_,dx,b1,b2,w,m,xs,rfl,wv VQ ?_ (Paired.mono (λa q0 h=>bY.keep (Kq.grow (dC (H0:=H) λb hb=>h1.free o1 hb)) h) hp) ok (by omega) (o1.trans o2) h2 nx nd hq⟩
      unfold brC
      rw [if_pos hb]
    ·obtain⟨zg,zr⟩:=lC.2 w hb
     refine ae (aq ⟨_,rfl,a2,_,rfl,.inr (q2 _),rfl,aR _,?_⟩)
     rw [if_neg Bool.false_ne_true,bb]
     refine⟨_,rfl,?_⟩
     rw [decide_eq_false zg]
     refine aF (ai ?_)
     dsimp only
     refine ae (aq ⟨_,rfl,a3,_,rfl,.inr (q3 _),rfl,aR _,?_⟩)
     rw [if_neg Bool.false_ne_true,bb]
     refine⟨_,rfl,?_⟩
     rw [decide_eq_false zr]
     refine aF (ai ?_)
     dsimp only
     refine ae (aq ⟨_,rfl,a4,_,rfl,.inr (q4 _),rfl,aR _,?_⟩)
     rw [if_neg Bool.false_ne_true,bb]
     refine⟨_,rfl,?_⟩
     rw [decide_eq_true hb]
     refine b5 ?_
     refine ae (ao ⟨_,rfl,r,xs,(by rw [hl];rfl),m,lw,ws,_,op,rfl,hxs,h4.2,h1,at0,hop,hn,λli as H2 nli o2 h2 eli hp=>?_⟩)
     dsimp only [aA,List.set_cons_zero,List.set_cons_succ]
     have hal:=cu hp
     rw [hl]at hal
     match as,hal,hp,eli with
     | [b1,b2,b3,b4],_,hp,eli=>
      refine az ⟨_,rfl,_,rfl,li,_,0,_,rfl,rfl,SqL.of eli,rfl,_,rfl,li,_,1,_,rfl,rfl,SqL.of eli,rfl,_,rfl,li,_,2,_,rfl,rfl,SqL.of eli,rfl,_,rfl,li,_,3,_,rfl,rfl,SqL.of eli,rfl,?_⟩
      intro x dx nx nd _
      refine⟨x,_,dx,b1,b2,b3,b4,w,m,xs,rfl,wv VQ ?_ (Paired.mono (λa q0 h=>bY.keep (Kq.grow (dC (H0:=H) λb hb=>h1.free o1 hb)) h) hp) ok (by omega) (o1.trans o2) h2 nx nd hq⟩
      unfold brC
      rw [if_neg (lC.2 w hb).2]
inductive QsW' (c:Cs) (R r lw li:Addr) (ws:List Str) (pl:Nat) (op:Int) (n:Nat) (xs:List Nd) (H H1:Hp) (i:Nat) (σ:St) (H2:Hp):Prop
 | mk (as:List Addr) (h0:i<=xs.length) (h1:σ=[some (.ref r),some (.int (xs.length:Int)),some (.ref li)]) (h2:Ofr r H H2) (h3:∀b o,H1 b=some o->b≠r->b≠li->H2 b=some o) (h4:RdAt R H2 r lw ws (pl+((xs.take i).flatMap (cw n)).length) op) (h5:H2 li=some (.lst (as.map V.ref))) (h6:Paired (λa q=>bY c n q (wo H1 H2) a) as (xs.take i)):QsW' c R r lw li ws pl op n xs H H1 i σ H2
inductive QsW (c:Cs) (R r lw li:Addr) (ws:List Str) (pl:Nat) (op:Int) (n:Nat) (xs:List Nd) (H H1:Hp) (m:Nat) (σ:St) (H2:Hp):Prop
 | mk (i:Nat) (as:List Addr) (hm:m=xs.length - i) (h0:i<=xs.length) (h1:σ=[some (.ref r),some (.int (xs.length:Int)),some (.ref li)]) (h2:Ofr r H H2) (h3:∀b o,H1 b=some o->b≠r->b≠li->H2 b=some o) (h4:RdAt R H2 r lw ws (pl+((xs.take i).flatMap (cw n)).length) op) (h5:H2 li=some (.lst (as.map V.ref))) (h6:Paired (λa q=>bY c n q (wo H1 H2) a) as (xs.take i)):QsW c R r lw li ws pl op n xs H H1 m σ H2
theorem oJ:FnScope ["reader", "count", "inner"] ["reader", "count"] (aw lZ):=⟨rfl,rfl,rfl,by decide +kernel,rfl,by decide +kernel,by decide +kernel⟩
theorem xL {c:Cs}{n:Nat}{f f1 f2 f3 R:Addr}{fd:FuncData} (F:Fun K "questions_here" "questions_here" lZ f fd) (N:Free mg){fd1:FuncData} (MO:MC P w K mg base R "bracket_opens" 2 ["self"] [] [] (gy R) f1 fd1){fd2:FuncData} (MX:MC P w K mg base R "bracket_closes" 2 ["self"] [] [] (eY R) f2 fd2){fd3:FuncData} (CQ:Cal P w K mg base "question_here" (2 * n+6) ["reader"] (lN c R n) f3 fd3):FnOk P w K mg base CX0 (2 * n+7) f fd ["reader", "count"] (iu c R (n+1)):=by
 refine F.ok (k:=2 * n+6) oJ (λvs H Q E h=>?_) (λcdv A outer s H vs Q E hr h=>?_)
 ·obtain⟨r,xs,rfl,_⟩:=h
  rfl
 ·obtain⟨r,xs,rfl,m,lw,ws,pl,op,hm,ok,h4,h,hat,hop,hn,q⟩:=h
  have hu:=aM hr
  refine⟨_,(ad (ax (i:=2) oJ.nd rfl (Or.inl rfl) (aH ac))
   (ad (j8 PassesOwn.never (aC eO (aI aQ (by rfl) N.len PySem.boot_len (aa (pv 2) ac)) (pv 1) (aE _)) (ad (aY (aK (pv 0) MO.cl MO.mt MO.ok (hr.mono (by omega)) MO.bd MO.dv ar))
   (ad (aY (bW PySem.F.plainAttrs_list PySem.F.slot_list_append PySem.F.type_list_append df (pv 2) (aa (au CQ.ok (hr.mono (by omega)) rfl CQ.nm CQ.kp CQ.bd .nil ar (aa (pv 0) ac)) ac)))
   (af (aY (aK (pv 0) MX.cl MX.mt MX.ok (hr.mono (by omega)) MX.bd MX.dv ar))))))
   (af (av (pv 2))))),?_⟩
  have okm:n=m:=Nat.succ.inj hm
  subst okm
  refine ae (ao ⟨by show 0<=sizeLine;decide,λli nli=>?_⟩)
  dsimp only [aA,List.set_cons_zero,List.set_cons_succ]
  obtain⟨g1,e1⟩:=laid (o:=.lst []) nli
  have h1:=h.keep g1
  generalize upd H li _=H1 at g1 e1 h1 ⊢
  refine ae (j7 (QsW c R r lw li ws pl op n xs H H1) (m:=xs.length) ⟨0,[],rfl,Nat.zero_le _,rfl,λb o e nb=>g1 _ _ e,λb o e _ _=>e,h1,e1,.nil⟩ λmm σ H2 hh=>?_)
  obtain⟨i,as,rfl,hi,rfl,o2,k2,h2,e2,hp⟩:=hh
  have hal:=cu hp
  rw [List.length_take,Nat.min_eq_left hi]at hal
  refine⟨_,rfl,li,_,rfl,.inl (SqL.of e2),_,rfl,_,_,rfl,rfl,_,rfl,?_⟩
  rw [List.length_map,hal]
  by_cases hlt:i < xs.length
  ·rw [decide_eq_true (by omega)]
   refine b5 ⟨QsW' c R r lw li ws pl op n xs H H1 (i+1),λσ' H' hh=>?_,?_⟩
   ·obtain⟨as',z1,z2,z3,z4,z5,z6,z7⟩:=hh
    exact⟨xs.length - (i+1),by omega,i+1,as',rfl,z1,z2,z3,z4,z5,z6,z7⟩
   have hx:xs[i]?=some xs[i]:=List.getElem?_eq_getElem hlt
   have et:xs.take (i+1)=xs.take i++[xs[i]]:=by rw [List.take_add_one,hx];rfl
   have hsp:xs=xs.take i++xs[i]::xs.drop (i+1):=by
    have:=List.take_append_drop i xs
    rw [List.drop_eq_getElem_cons hlt]at this
    exact this.symm
   have at1:At ws (pl+((xs.take i).flatMap (cw n)).length) (opS::(aL n xs[i]++([clS]++(xs.drop (i+1)).flatMap (cw n)))):=by
    have:=hat
    rw [hsp,List.flatMap_append,List.flatMap_cons]at this
    have:=(At.app this).2
    rw [show cw n xs[i]++(xs.drop (i+1)).flatMap (cw n)=opS::(aL n xs[i]++([clS]++(xs.drop (i+1)).flatMap (cw n))) from by show opS::(aL n xs[i]++[clS])++_=_;rw [List.cons_append,List.append_assoc]]at this
    exact this
   have okx:=ok xs[i] (List.getElem_mem hlt)
   have nlr:li≠r:=λz=>by obtain⟨d,e⟩:=h.ob;rw [z,e]at nli;cases nli
   obtain⟨dx2,ho2⟩:=h2.ob
   refine ae (aS ⟨_,rfl,r,dx2,_,rfl,ho2,aG _ _ _ (by decide +kernel) (by decide +kernel) (by decide +kernel),r,lw,ws,_,op,rfl,h2,at1.hd,by omega,λH3 o3 h3=>?_⟩)
   have at2:=at1.tl
   have e3:=o3 _ _ e2 nlr
   obtain⟨at3,at4⟩:=at2.app
   dsimp only
   refine ae (aS ⟨_,rfl,.inl ⟨rfl,_,SqL.of e3⟩,?_⟩)
   refine cy ⟨_,rfl,r,xs[i],rfl,lw,ws,_,op+1,okx,h3,at3,by omega,by omega,λx H4 nx o4 h4 qn=>?_⟩
   have e4:=o4 _ _ e3 nlr
   refine⟨li,_,_,rfl,rfl,e4,?_,?_⟩
   ·rw [List.length_map,hal];exact be (by omega)
   have h5:RdAt R (upd H4 li (.lst (as.map V.ref++[.ref x]))) r lw ws (pl+((xs.take i).flatMap (cw n)).length+1+(aL n xs[i]).length) (op+1):=by
    obtain⟨d,e⟩:=h4.ob
    refine⟨⟨d,by rw [al (Ne.symm nlr)];exact e⟩,?_⟩
    rw [al (am h.wd nli)];exact h4.wd
   generalize hH5:upd H4 li _=H5 at h5
   have e5:H5 li=some (.lst ((as++[x]).map V.ref)):=by rw [<- hH5,aj,List.map_append];rfl
   have k5:∀b o,H4 b=some o->b≠li->H5 b=some o:=λb o e nb=>by rw [<- hH5,al nb];exact e
   dsimp only
   obtain⟨dx5,ho5⟩:=h5.ob
   refine aS ⟨_,rfl,r,dx5,_,rfl,ho5,aG _ _ _ (by decide +kernel) (by decide +kernel) (by decide +kernel),r,lw,ws,_,op+1,rfl,h5,at4.hd,λH6 o6 h6=>?_⟩
   refine⟨as++[x],by omega,rfl,λb o e nb=>?_,λb o e n1 n2=>?_,?_,o6 _ _ e5 nlr,?_⟩
   ·exact o6 _ _ (k5 _ _ (o4 _ _ (o3 _ _ (o2 _ _ e nb) nb) nb) (am e nli)) nb
   ·exact o6 _ _ (k5 _ _ (o4 _ _ (o3 _ _ (k2 _ _ e n1 n2) n1) n1) n2) n1
   ·rw [show op+1 - 1=op from by omega]at h6
    rw [et,List.flatMap_append,List.length_append,List.flatMap_cons,List.flatMap_nil,List.append_nil]
    rw [show pl+(((xs.take i).flatMap (cw n)).length+(cw n xs[i]).length)=pl+((xs.take i).flatMap (cw n)).length+1+(aL n xs[i]).length+1 from by show _+(_+(opS::(_++[clS])).length)=_;rw [List.length_cons,List.length_append,List.length_singleton];omega]
    exact h6
   ·rw [et]
    have kk:∀b o,H1 b=none->H4 b=some o->H6 b=some o:=λb o n e=>o6 _ _ (k5 _ _ e (λz=>by rw [z,e1]at n;cases n)) (λz=>by obtain⟨d,er⟩:=h1.ob;rw [z,er]at n;cases n)
    refine Paired.snoc (Paired.mono (λa q0 hq0=>bY.keep (Kq.grow (dS λb o n e=>?_)) hq0) hp) (bY.keep (Kq.grow (aP.trans (dC (H0:=H1) λb hb=>?_) (dS kk))) qn)
    ·exact kk _ _ n (o4 _ _ (o3 _ _ e (λz=>by obtain⟨d,er⟩:=h1.ob;rw [z,er]at n;cases n)) (λz=>by obtain⟨d,er⟩:=h1.ob;rw [z,er]at n;cases n))
    ·cases e:H1 b with
     | none=>rfl
     | some o=>
      by_cases zr:b=r
      ·obtain⟨d,er⟩:=h3.ob
       rw [zr,er]at hb;cases hb
      ·by_cases zl:b=li
       ·rw [zl,e3]at hb;cases hb
       ·rw [o3 _ _ (k2 _ _ e zr zl) zr]at hb;cases hb
  ·have:i=xs.length:=by omega
   subst this
   rw [decide_eq_false (by omega)]
   rw [List.take_length]at h2 hp
   refine aF (az ⟨_,rfl,q li as H2 nli o2 h2 e2 (Paired.mono (λa q0 hq0=>bY.keep (Kq.grow (dC (H0:=H) λb hb=>bt g1 hb)) hq0) hp)⟩)
noncomputable def vS (c:Cs) (R:Addr):Sp:=λvs H Q E=>∃n,n<=3/\lN c R n vs H Q E
theorem nG {c:Cs}{f f1 f2 f3 f4 f5 f6 f7 f8 f9 f10 R:Addr}{fd:FuncData} (Fq:Fun K "question_here" "question_here" sQh f fd) (nq:mg "question_here" = some (.ref f)) (bq:bA K fd ["reader"] []){fd4:FuncData} (Fs:Fun K "questions_here" "questions_here" lZ f4 fd4) (ns:mg "questions_here" = some (.ref f4)) (bs:bA K fd4 ["reader", "count"] []) (N:Free mg) (ZT:ConT K mg) (VQ:∀C∈c.all,QuC K C){fd1:FuncData} (MB:MC P w K mg base R "beginning_here" 2 ["self"] [] [] (lR R) f1 fd1){fd2:FuncData} (MD:MC P w K mg base R "day_here" 4 ["self", "earliest"] [] [] (i3 R) f2 fd2){fd3:FuncData} (ME:MC P w K mg base R "keys_here" 4 ["self"] [] [] (gC R) f3 fd3){fd5:FuncData} (CG:Cal P w K mg base "single_here" 5 ["reader", "word"] (eW c R) f5 fd5){fd6:FuncData} (KGth:MkC P w K mg base "Gathering" 3 ["self", "word", "keys", "first", "last"] (fW K) c.gth f6 fd6){fd7:FuncData} (KRck:MkC P w K mg base "Reckoning" 4 ["self", "word", "one", "other"] (dW K c) c.rck f7 fd7){fd8:FuncData} (KChc:MkC P w K mg base "Choice" 4 ["self", "word", "one", "other", "chosen", "otherwise"] (dX K c) c.chc f8 fd8){fd9:FuncData} (MO:MC P w K mg base R "bracket_opens" 2 ["self"] [] [] (gy R) f9 fd9){fd10:FuncData} (MX:MC P w K mg base R "bracket_closes" 2 ["self"] [] [] (eY R) f10 fd10) :
  ∀n,Cal P w K mg base "questions_here" (2 * n+5) ["reader", "count"] (iu c R n) f4 fd4/\Cal P w K mg base "question_here" (2 * n+6) ["reader"] (lN c R n) f fd
 | 0=>by
  have a:Cal P w K mg base "questions_here" (2 * 0+5) ["reader", "count"] (iu c R 0) f4 fd4:=⟨FnOk.no (λvs H Q E h=>by obtain⟨r,xs,_,m,_,_,_,_,hm,_⟩:=h;cases hm),ns,Fs.kp,bs⟩
  exact⟨a,wn Fq N ZT VQ MB MD ME a CG KGth KRck KChc,nq,Fq.kp,bq⟩
 | n+1=>by
  obtain⟨_,h2⟩:=nG Fq nq bq Fs ns bs N ZT VQ MB MD ME CG KGth KRck KChc MO MX n
  have a:Cal P w K mg base "questions_here" (2 * (n+1)+5) ["reader", "count"] (iu c R (n+1)) f4 fd4:=⟨xL Fs N MO MX h2,ns,Fs.kp,bs⟩
  exact⟨a,wn Fq N ZT VQ MB MD ME a CG KGth KRck KChc,nq,Fq.kp,bq⟩
theorem xO {c:Cs}{f f1 f2 f3 f4 f5 f6 f7 f8 f9 f10 R:Addr}{fd:FuncData} (Fq:Fun K "question_here" "question_here" sQh f fd) (nq:mg "question_here" = some (.ref f)) (bq:bA K fd ["reader"] []){fd4:FuncData} (Fs:Fun K "questions_here" "questions_here" lZ f4 fd4) (ns:mg "questions_here" = some (.ref f4)) (bs:bA K fd4 ["reader", "count"] []) (N:Free mg) (ZT:ConT K mg) (VQ:∀C∈c.all,QuC K C){fd1:FuncData} (MB:MC P w K mg base R "beginning_here" 2 ["self"] [] [] (lR R) f1 fd1){fd2:FuncData} (MD:MC P w K mg base R "day_here" 4 ["self", "earliest"] [] [] (i3 R) f2 fd2){fd3:FuncData} (ME:MC P w K mg base R "keys_here" 4 ["self"] [] [] (gC R) f3 fd3){fd5:FuncData} (CG:Cal P w K mg base "single_here" 5 ["reader", "word"] (eW c R) f5 fd5){fd6:FuncData} (KGth:MkC P w K mg base "Gathering" 3 ["self", "word", "keys", "first", "last"] (fW K) c.gth f6 fd6){fd7:FuncData} (KRck:MkC P w K mg base "Reckoning" 4 ["self", "word", "one", "other"] (dW K c) c.rck f7 fd7){fd8:FuncData} (KChc:MkC P w K mg base "Choice" 4 ["self", "word", "one", "other", "chosen", "otherwise"] (dX K c) c.chc f8 fd8){fd9:FuncData} (MO:MC P w K mg base R "bracket_opens" 2 ["self"] [] [] (gy R) f9 fd9){fd10:FuncData} (MX:MC P w K mg base R "bracket_closes" 2 ["self"] [] [] (eY R) f10 fd10) :
  FnOk P w K mg base CX0 12 f fd ["reader"] (vS c R):=FnOk.ex (sp:=lN c R) (N:=3) λn hn=>FnOk.mono (nG Fq nq bq Fs ns bs N ZT VQ MB MD ME CG KGth KRck KChc MO MX n).2.ok (by omega)
inductive QoI (c:Cs) (n:Nat) (nd:Nd) (H:Hp) (Q:VK):Prop
 | mk (ok:cC n nd) (hn:n<=3) (q:∀x H',H x=none->aP H H'->bY c n nd (wo H H') x->Q (.ref x) H'):QoI c n nd H Q
noncomputable def vP (c:Cs):Sp:=λvs H Q _=>∃(n:Nat) (nd:Nd),vs=[.str (jn (aL n nd))]/\QoI c n nd H Q
theorem jG:FnScope ["text", "reader", "question"] ["text"] (aw uE):=⟨rfl,rfl,rfl,by decide +kernel,rfl,by decide +kernel,by decide +kernel⟩
theorem xM {c:Cs}{f f1 f2 f3 R:Addr}{fd:FuncData} (F:Fun K "question_of" "question_of" uE f fd) (N:Free mg){fd1:FuncData} (KR:MkC P w K mg base "Reader" 1 ["self", "text"] (kG R) R f1 fd1){fd2:FuncData} (CQ:Cal P w K mg base "question_here" 12 ["reader"] (vS c R) f2 fd2){fd3:FuncData} (MZ:MC P w K mg base R "check_end" 1 ["self"] [] [] (rq R) f3 fd3):FnOk P w K mg base CX0 13 f fd ["text"] (vP c):=by
 refine F.ok (k:=12) jG (λvs H Q E h=>?_) (λcdv A outer s H vs Q E hr h=>?_)
 ·obtain⟨n,nd,rfl,_⟩:=h
  rfl
 ·obtain⟨n,nd,rfl,ok,hn,q⟩:=h
  have hu:=aM hr
  refine⟨_,(ad (aO (cz (cg (aI cv (by rfl) N.isinstance PyProof.Rows.Boot.«isinstance» (aa (pv 0) (aa (ee (v:=.ty "str") (by rfl) N.str PyProof.Rows.Boot.«str» rfl) ac))))) (af gI) ay)
   (ad (ax (i:=1) jG.nd rfl (Or.inl rfl) (bF KR.km KR.ok (hr.mono (by decide)) rfl KR.nm KR.bd .nil ar (aa (pv 0) ac)))
   (ad (ax (i:=2) jG.nd rfl (Or.inl rfl) (au CQ.ok (hr.mono (by decide)) rfl CQ.nm CQ.kp CQ.bd .nil ar (aa (pv 1) ac)))
   (ad (aY (aK (pv 1) MZ.cl MZ.mt MZ.ok (hr.mono (by decide)) MZ.bd MZ.dv ar))
   (af (av (pv 2))))))),?_⟩
  have hws:=eU ok
  have hwl:=Nat.le_trans (cF ok) (uf hn)
  have hjl:=jh (ws:=aL n nd) (m:=79) λw hw=>(hws w hw).len
  refine ae (aq ⟨_,rfl,_,_,_,_,rfl,.str _,rfl,_,rfl,?_⟩)
  refine aF (ai ?_)
  dsimp only
  refine ae (ao ⟨_,rfl,?_⟩)
  intro r dr nr ndr ne
  refine⟨r,dr,aL n nd,rfl,aj,lF n ok,by omega,λw hw=>(hws w hw).free,Nat.le_trans hjl (Nat.le_trans (show _<=100000 by omega) (by decide)),λlw H1 nlw o1 h1=>⟨rfl,?_⟩⟩
  dsimp only [aA,List.set_cons_zero,List.set_cons_succ]
  have g1:aP H H1:=λb o e=>o1 _ _ (by rw [al (am e nr),al (am e ndr)];exact e) (am e nr)
  refine ae (ao ⟨_,rfl,n,hn,r,nd,rfl,lw,_,0,0,ok,h1,At.all _,by omega,hn,λx H2 nx o2 h2 qn=>?_⟩)
  dsimp only [aA,List.set_cons_zero,List.set_cons_succ]
  rw [Nat.zero_add]at h2
  have g2:aP H H2:=λb o e=>o2 _ _ (g1 _ _ e) (am e nr)
  obtain⟨d2,ho2⟩:=h2.ob
  refine ae (aS ⟨_,rfl,r,d2,_,rfl,ho2,aG _ _ _ (by decide +kernel) (by decide +kernel) (by decide +kernel),r,lw,_,0,rfl,h2,?_⟩)
  dsimp only
  exact az ⟨_,rfl,q x H2 (bt g1 nx) g2 (bY.keep (Kq.grow (dC (H0:=H) λb hb=>bt g1 hb)) qn)⟩
open PySem.W PySem.W.KIN PySem.NumText
inductive Ro
 | q | op | cl | k | ks | n | c | f | l | d
noncomputable def eS:Nat->List Ro
 | 0=>[]
 | j+1=>.op::.q::.cl::eS j
noncomputable def bM (w:Str):Option (List Ro):=
 if w=Str.ofString "number" then some [.n] else if w=Str.ofString "value" then some [.k,.d] else if w=Str.ofString "since" then some [.k,.n,.f,.l] else if w=Str.ofString "part" then some [.k,.k,.f,.l] else if w=Str.ofString "change" then some [.c,.k,.f,.l]
 else if w∈cm then some [.ks,.f,.l] else if w∈ce then some (eS 2) else if w∈cp then some (eS 4) else none
noncomputable def fL (w:Str) (lo hi:Int):Bool:=decide ((cM w=true/\Str.ofString (toString (aZ w))=w)/\(lo<=aZ w/\aZ w<=hi))
theorem eA {w:Str}{lo hi:Int} (h:fL w lo hi=true):dm w lo hi=.int (aZ w)/\si (aZ w)=w/\lo<=aZ w/\aZ w<=hi:=by
 have h:=of_decide_eq_true h
 refine⟨?_,h.1.2,h.2⟩
 unfold dm
 rw [if_pos h]
theorem y9 {w:Str}{lo hi:Int} (h:fL w lo hi=false):dm w lo hi=.non:=by
 have h:=of_decide_eq_false h
 unfold dm
 rw [if_neg h]
noncomputable abbrev cmS:Str:=Str.ofString ","
noncomputable def eQ (ks:List Str):Bool:=decide (ks.length<=8) && (ks.all (λk=>bJ k bX 8) && decide ks.Nodup)
noncomputable def cc (r:Ro) (w:Str) (first o:Int):Bool:=match r with
 | .q=>(bM w).isSome
 | .op=>decide (w=opS) && decide (o < 3)
 | .cl=>decide (w=clS)
 | .k=>bJ w bX 8
 | .ks=>eQ (Txt.split w cmS)
 | .n=>fL w (-1000000000) 1000000000
 | .c=>fL w 1 400
 | .l=>fL w first 399
 | .f=>fL w 0 399
 | .d=>fL w 0 399
noncomputable def more (r:Ro) (w:Str):List Ro:=match r with
 | .q=>(bM w).getD []
 | _=>[]
noncomputable def ix (r:Ro) (w:Str) (first:Int):Int:=match r with
 | .f=>aZ w
 | _=>first
noncomputable def gM (r:Ro) (o:Int):Int:=match r with
 | .op=>o+1
 | .cl=>o - 1
 | _=>o
inductive Res
 | bad (p:Nat)
 | ok (first o:Int) (ws:List Str) (pl:Nat)
noncomputable def Cn:List Str->List Ro->Int->Int->Nat->Res
 | [],[],f,o,pl=>.ok f o [] pl
 | [],_::_,_,_,pl=>.bad pl
 | w::ws,[],f,o,pl=>.ok f o (w::ws) pl
 | w::ws,r::R,f,o,pl=>if cc r w f o=true then Cn ws (more r w++R) (ix r w f) (gM r o) (pl+1) else .bad pl
theorem lE (ws:List Str) (f o:Int) (pl:Nat):Cn ws [] f o pl=.ok f o ws pl:=by cases ws <;> rfl
theorem hZ {w:Str}{ws:List Str}{r:Ro}{R:List Ro}{f o:Int}{pl:Nat}:Cn (w::ws) (r::R) f o pl=if cc r w f o=true then Cn ws (more r w++R) (ix r w f) (gM r o) (pl+1) else .bad pl:=rfl
noncomputable def Res.bind (x:Res) (g:Int->Int->List Str->Nat->Res):Res:=match x with
 | .bad p=>.bad p
 | .ok f o ws pl=>g f o ws pl
theorem oq:∀(ws:List Str) (R S:List Ro) (f o:Int) (pl:Nat),Cn ws (R++S) f o pl=(Cn ws R f o pl).bind λf o ws pl=>Cn ws S f o pl
 | ws,[],S,f,o,pl=>by rw [List.nil_append,lE];rfl
 | [],r::R,S,f,o,pl=>rfl
 | w::ws,r::R,S,f,o,pl=>by
  rw [List.cons_append,hZ,hZ]
  by_cases h:cc r w f o=true
  ·rw [if_pos h,if_pos h,<- List.append_assoc]
   exact oq ws (more r w++R) S _ _ _
  ·rw [if_neg h,if_neg h]
   rfl
theorem wH {ws ws':List Str}{r:Ro}{R:List Ro}{f o f' o':Int}{pl pl':Nat} (h:Cn ws (r::R) f o pl=.ok f' o' ws' pl'):∃w t,ws=w::t/\cc r w f o=true/\Cn t (more r w++R) (ix r w f) (gM r o) (pl+1)=.ok f' o' ws' pl':=by
 cases ws with
 | nil=>cases h
 | cons w t=>
  rw [hZ]at h
  by_cases z:cc r w f o=true
  ·rw [if_pos z]at h;exact⟨w,t,rfl,z,h⟩
  ·rw [if_neg z]at h;cases h
inductive Miss (W:List Str) (pl:Nat) (r:Ro) (f o:Int):Prop
 | no (h:W[pl]?=none):Miss W pl r f o
 | not (w:Str) (h:W[pl]?=some w) (s:cc r w f o=false):Miss W pl r f o
theorem pH {W:List Str}{pl:Nat}{w:Str} (h:W[pl]?=some w):W.drop pl=w::W.drop (pl+1):=by
 obtain⟨hl,e⟩:=List.getElem?_eq_some_iff.mp h
 rw [List.drop_eq_getElem_cons hl,e]
theorem Cn_bad {W:List Str}{r:Ro}{R:List Ro}{f o:Int}{pl p:Nat} (h:Cn (W.drop pl) (r::R) f o pl=.bad p):(p=pl/\Miss W pl r f o)\/∃w,W[pl]?=some w/\cc r w f o=true/\Cn (W.drop (pl+1)) (more r w++R) (ix r w f) (gM r o) (pl+1)=.bad p:=by
 cases e:W[pl]? with
 | none=>
  rw [List.drop_eq_nil_of_le (List.getElem?_eq_none_iff.mp e)]at h
  cases h
  exact .inl ⟨rfl,.no e⟩
 | some w=>
  rw [pH e,hZ]at h
  by_cases z:cc r w f o=true
  ·rw [if_pos z]at h;exact .inr ⟨w,rfl,z,h⟩
  ·rw [if_neg z]at h
   cases h
   exact .inl ⟨rfl,.not w e (Bool.eq_false_iff.mpr z)⟩
theorem forms_get {w:Str} (h:(bM w).isSome=true):(w=Str.ofString "number"/\bM w=some [.n])\/(w=Str.ofString "value"/\bM w=some [.k,.d])\/(w=Str.ofString "since"/\bM w=some [.k,.n,.f,.l])\/(w=Str.ofString "part"/\bM w=some [.k,.k,.f,.l])\/(w=Str.ofString "change"/\bM w=some [.c,.k,.f,.l])\/(w∈cm/\bM w=some [.ks,.f,.l])\/(w∈ce/\bM w=some (eS 2))\/(w∈cp/\bM w=some (eS 4)):=by
 unfold bM at h ⊢
 by_cases h1:w=Str.ofString "number"
 ·rw [if_pos h1];exact .inl ⟨h1,rfl⟩
 rw [if_neg h1]at h ⊢
 by_cases h2:w=Str.ofString "value"
 ·rw [if_pos h2];exact .inr (.inl ⟨h2,rfl⟩)
 rw [if_neg h2]at h ⊢
 by_cases h3:w=Str.ofString "since"
 ·rw [if_pos h3];exact .inr (.inr (.inl ⟨h3,rfl⟩))
 rw [if_neg h3]at h ⊢
 by_cases h4:w=Str.ofString "part"
 ·rw [if_pos h4];exact .inr (.inr (.inr (.inl ⟨h4,rfl⟩)))
 rw [if_neg h4]at h ⊢
 by_cases h5:w=Str.ofString "change"
 ·rw [if_pos h5];exact .inr (.inr (.inr (.inr (.inl ⟨h5,rfl⟩))))
 rw [if_neg h5]at h ⊢
 by_cases h6:w∈cm
 ·rw [if_pos h6];exact .inr (.inr (.inr (.inr (.inr (.inl ⟨h6,rfl⟩)))))
 rw [if_neg h6]at h ⊢
 by_cases h7:w∈ce
 ·rw [if_pos h7];exact .inr (.inr (.inr (.inr (.inr (.inr (.inl ⟨h7,rfl⟩))))))
 rw [if_neg h7]at h ⊢
 by_cases h8:w∈cp
 ·rw [if_pos h8];exact .inr (.inr (.inr (.inr (.inr (.inr (.inr ⟨h8,rfl⟩))))))
 rw [if_neg h8]at h
 cases h
theorem pz {w:Str} (h:eQ (Txt.split w cmS)=true):∃ks:List Str,w=jc ks/\1<=ks.length/\ks.length<=8/\ks.Nodup/\∀k∈ks,ju k:=by
 unfold eQ at h
 rw [Bool.and_eq_true,Bool.and_eq_true]at h
 obtain⟨h1,h2,h3⟩:=h
 have e:Txt.join cmS (Txt.split w cmS)=w:=by
  rw [show cmS=(⟨#[44]⟩:Str) from dP]
  have e1:Txt.join ⟨#[44]⟩ (Txt.split w ⟨#[44]⟩)=Str.join ⟨#[44]⟩ (Txt.split w ⟨#[44]⟩):=StrLaws.glued_eq_join _ _
  rw [e1]
  exact StrLaws.join_split _ _
 exact⟨Txt.split w cmS,e.symm,PyProof.Rows.split_pos w cmS,of_decide_eq_true h1,of_decide_eq_true h3,λk hk=>List.all_eq_true.mp h2 k hk⟩
theorem bL {ws ws':List Str}{r:Ro}{R:List Ro}{f o f' o':Int}{pl pl':Nat} (hr:∀w,more r w=[]) (h:Cn ws (r::R) f o pl=.ok f' o' ws' pl'):∃w t,ws=w::t/\cc r w f o=true/\Cn t R (ix r w f) (gM r o) (pl+1)=.ok f' o' ws' pl':=by
 obtain⟨w,t,e,s,h⟩:=wH h
 rw [hr,List.nil_append]at h
 exact⟨w,t,e,s,h⟩
theorem gj {ws ws':List Str}{f o f' o':Int}{pl pl':Nat} (h:Cn ws [] f o pl=.ok f' o' ws' pl'):f'=f/\o'=o/\ws'=ws/\pl'=pl:=by
 rw [lE]at h
 cases h
 exact⟨rfl,rfl,rfl,rfl⟩
noncomputable def Got (n:Nat) (ws ws':List Str) (o o':Int) (pl pl':Nat) (nd:Nd):Prop:=cC n nd/\ws=aL n nd++ws'/\pl'=pl+(aL n nd).length/\o'=o
theorem dM {n:Nat}{l:Lf}{ws ws':List Str}{o o':Int}{pl pl':Nat} (ok:eN l) (e:ws=b8 l++ws') (hp:pl'=pl+(b8 l).length) (ho:o'=o):∃nd,Got n ws ws' o o' pl pl' nd:=
 ⟨.leaf l,by cases n <;> exact ok,by rw [cW];exact e,by rw [cW];exact hp,ho⟩
theorem mz {n:Nat} (ih:∀(o:Int),(n:Int)+o=3->∀(ws ws':List Str) (f f' o':Int) (pl pl':Nat),Cn ws [.q] f o pl=.ok f' o' ws' pl'->∃nd,Got n ws ws' o o' pl pl' nd){o:Int} (ho:(n:Int)+1+o=3):∀(j:Nat) (ws ws':List Str) (f f' o':Int) (pl pl':Nat),Cn ws (eS j) f o pl=.ok f' o' ws' pl'->
  ∃xs:List Nd,xs.length=j/\(∀x∈xs,cC n x)/\ws=xs.flatMap (cw n)++ws'/\pl'=pl+(xs.flatMap (cw n)).length/\o'=o
 | 0,ws,ws',f,f',o',pl,pl',h=>by
  obtain⟨_,h2,h3,h4⟩:=gj h
  exact⟨[],rfl,(λ_ z=>nomatch z),by rw [h3];rfl,by rw [h4];rfl,h2⟩
 | j+1,ws,ws',f,f',o',pl,pl',h=>by
  obtain⟨w1,t1,rfl,s1,h⟩:=bL (λ_=>rfl) (show Cn ws (.op::(([.q]:List Ro)++(.cl::eS j))) f o pl=_ from h)
  have s1:=Bool.and_eq_true_iff.mp s1
  rw [oq]at h
  cases hq:Cn t1 [.q] (ix .op w1 f) (gM .op o) (pl+1) with
  | bad p=>rw [hq]at h;cases h
  | ok f2 o2 t2 pl2=>
   rw [hq]at h
   obtain⟨nd,okn,e2,hp2,ho2⟩:=ih (o+1) (by omega) _ _ _ _ _ _ _ hq
   obtain⟨w3,t3,rfl,s3,h⟩:=bL (λ_=>rfl) (show Cn t2 (.cl::eS j) f2 o2 pl2=_ from h)
   have s3:=of_decide_eq_true s3
   have ho3:gM .cl o2=o:=by show o2 - 1=o;omega
   rw [ho3]at h
   obtain⟨xs,hl,hx,e4,hp4,ho4⟩:=mz ih ho j _ _ _ _ _ _ _ h
   refine⟨nd::xs,by rw [List.length_cons,hl],λx hx'=>?_,?_,?_,ho4⟩
   ·rcases List.mem_cons.mp hx' with z | z
    ·rw [z];exact okn
    ·exact hx x z
   ·rw [List.flatMap_cons,of_decide_eq_true s1.1,e2,s3,e4]
    show opS::(aL n nd++clS::_)=(opS::(aL n nd++[clS]))++_++_
    simp
   ·rw [List.flatMap_cons,List.length_append,hp4,hp2]
    show pl+1+_+1+_=pl+((opS::(aL n nd++[clS])).length+_)
    rw [List.length_cons,List.length_append,List.length_singleton]
    omega
theorem wz {n:Nat}{o:Int} (hk:∀(j:Nat) (ws ws':List Str) (f f' o':Int) (pl pl':Nat),1<=j->Cn ws (eS j) f o pl=.ok f' o' ws' pl'->∃(m:Nat) (xs:List Nd),n=m+1/\xs.length=j/\(∀x∈xs,cC m x)/\ws=xs.flatMap (cw m)++ws'/\pl'=pl+(xs.flatMap (cw m)).length/\o'=o)
  {ws ws':List Str}{f f' o':Int}{pl pl':Nat} (h:Cn ws [.q] f o pl=.ok f' o' ws' pl'):∃nd,Got n ws ws' o o' pl pl' nd:=by
 obtain⟨w,t,rfl,s,h⟩:=wH h
 rw [List.append_nil]at h
 have hm:∀{R:List Ro},bM w=some R->Cn t R f o (pl+1)=.ok f' o' ws' pl':=λ{R} e=>by
  rw [show more .q w=R from by show (bM w).getD []=R;rw [e];rfl]at h
  exact h
 have big:∀{x:Str}{lo hi:Int},fL x lo hi=true->si (aZ x)=x/\lo<=aZ x/\aZ x<=hi:=λh=>⟨(eA h).2.1,(eA h).2.2.1,(eA h).2.2.2⟩
 rcases forms_get s with⟨hw,e⟩ | ⟨hw,e⟩ | ⟨hw,e⟩ | ⟨hw,e⟩ | ⟨hw,e⟩ | ⟨hw,e⟩ | ⟨hw,e⟩ | ⟨hw,e⟩
 ·obtain⟨x1,t1,rfl,s1,h1⟩:=bL (λ_=>rfl) (hm e)
  obtain⟨_,ho,rfl,rfl⟩:=gj h1
  obtain⟨e1,l1,u1⟩:=big s1
  exact dM (l:=.num (aZ x1)) ⟨l1,u1⟩ (by show _=[Str.ofString "number", si (aZ x1)]++_;rw [e1,hw];rfl) rfl ho
 ·obtain⟨x1,t1,rfl,s1,h1⟩:=bL (λ_=>rfl) (hm e)
  obtain⟨x2,t2,rfl,s2,h2⟩:=bL (λ_=>rfl) h1
  obtain⟨_,ho,rfl,rfl⟩:=gj h2
  obtain⟨e2,l2,u2⟩:=big s2
  exact dM (l:=.val x1 (aZ x2)) ⟨s1,l2,u2⟩ (by show _=[Str.ofString "value", x1,si (aZ x2)]++_;rw [e2,hw];rfl) rfl ho
 ·obtain⟨x1,t1,rfl,s1,h1⟩:=bL (λ_=>rfl) (hm e)
  obtain⟨x2,t2,rfl,s2,h2⟩:=bL (λ_=>rfl) h1
  obtain⟨x3,t3,rfl,s3,h3⟩:=bL (λ_=>rfl) h2
  obtain⟨x4,t4,rfl,s4,h4⟩:=bL (λ_=>rfl) h3
  obtain⟨_,ho,rfl,rfl⟩:=gj h4
  obtain⟨e2,l2,u2⟩:=big s2
  obtain⟨e3,l3,u3⟩:=big s3
  obtain⟨e4,l4,u4⟩:=big s4
  exact dM (l:=.snc x1 (aZ x2) (aZ x3) (aZ x4)) ⟨s1,⟨l2,u2⟩,l3,l4,u4⟩ (by show _=[Str.ofString "since", x1,si (aZ x2),si (aZ x3),si (aZ x4)]++_;rw [e2,e3,e4,hw];rfl) rfl ho
 ·obtain⟨x1,t1,rfl,s1,h1⟩:=bL (λ_=>rfl) (hm e)
  obtain⟨x2,t2,rfl,s2,h2⟩:=bL (λ_=>rfl) h1
  obtain⟨x3,t3,rfl,s3,h3⟩:=bL (λ_=>rfl) h2
  obtain⟨x4,t4,rfl,s4,h4⟩:=bL (λ_=>rfl) h3
  obtain⟨_,ho,rfl,rfl⟩:=gj h4
  obtain⟨e3,l3,u3⟩:=big s3
  obtain⟨e4,l4,u4⟩:=big s4
  exact dM (l:=.prt x1 x2 (aZ x3) (aZ x4)) ⟨s1,s2,l3,l4,u4⟩ (by show _=[Str.ofString "part", x1,x2,si (aZ x3),si (aZ x4)]++_;rw [e3,e4,hw];rfl) rfl ho
 ·obtain⟨x1,t1,rfl,s1,h1⟩:=bL (λ_=>rfl) (hm e)
  obtain⟨x2,t2,rfl,s2,h2⟩:=bL (λ_=>rfl) h1
  obtain⟨x3,t3,rfl,s3,h3⟩:=bL (λ_=>rfl) h2
  obtain⟨x4,t4,rfl,s4,h4⟩:=bL (λ_=>rfl) h3
  obtain⟨_,ho,rfl,rfl⟩:=gj h4
  obtain⟨e1,l1,u1⟩:=big s1
  obtain⟨e3,l3,u3⟩:=big s3
  obtain⟨e4,l4,u4⟩:=big s4
  exact dM (l:=.chg (aZ x1) x2 (aZ x3) (aZ x4)) ⟨⟨l1,u1⟩,s2,l3,l4,u4⟩ (by show _=[Str.ofString "change", si (aZ x1),x2,si (aZ x3),si (aZ x4)]++_;rw [e1,e3,e4,hw];rfl) rfl ho
 ·obtain⟨x1,t1,rfl,s1,h1⟩:=bL (λ_=>rfl) (hm e)
  obtain⟨x3,t3,rfl,s3,h3⟩:=bL (λ_=>rfl) h1
  obtain⟨x4,t4,rfl,s4,h4⟩:=bL (λ_=>rfl) h3
  obtain⟨_,ho,rfl,rfl⟩:=gj h4
  obtain⟨ks,ek,k1,k8,knd,hks⟩:=pz s1
  obtain⟨e3,l3,u3⟩:=big s3
  obtain⟨e4,l4,u4⟩:=big s4
  exact dM (l:=.gth w ks (aZ x3) (aZ x4)) ⟨hw,⟨k1,k8,knd,hks⟩,l3,l4,u4⟩ (by show _=[w,jc ks,si (aZ x3),si (aZ x4)]++_;rw [e3,e4,ek];rfl) rfl ho
 ·obtain⟨m,xs,rfl,hl,hx,e2,hp,ho⟩:=hk 2 _ _ _ _ _ _ _ (by decide) (hm e)
  exact⟨.brk w xs,⟨.inl ⟨hw,hl⟩,hx⟩,by rw [e2];rfl,by rw [hp];show _=pl+(w::xs.flatMap (cw m)).length;rw [List.length_cons];omega,ho⟩
 ·obtain⟨m,xs,rfl,hl,hx,e2,hp,ho⟩:=hk 4 _ _ _ _ _ _ _ (by decide) (hm e)
  exact⟨.brk w xs,⟨.inr ⟨hw,hl⟩,hx⟩,by rw [e2];rfl,by rw [hp];show _=pl+(w::xs.flatMap (cw m)).length;rw [List.length_cons];omega,ho⟩
theorem pG:∀(n:Nat) (o:Int),(n:Int)+o=3->∀(ws ws':List Str) (f f' o':Int) (pl pl':Nat),Cn ws [.q] f o pl=.ok f' o' ws' pl'->∃nd,Got n ws ws' o o' pl pl' nd
 | 0,o,ho,ws,ws',f,f',o',pl,pl',h=>wz (λj ws ws' f f' o' pl pl' hj h=>by
  obtain⟨i,rfl⟩:∃i,j=i+1:=⟨j - 1,by omega⟩
  obtain⟨w1,t1,rfl,s1,_⟩:=bL (λ_=>rfl) (show Cn ws (.op::.q::.cl::eS i) f o pl=_ from h)
  have:=of_decide_eq_true (Bool.and_eq_true_iff.mp s1).2
  omega) h
 | n+1,o,ho,ws,ws',f,f',o',pl,pl',h=>wz (λj ws ws' f f' o' pl pl' hj h=>by
  obtain⟨xs,h1,h2,h3,h4,h5⟩:=mz (n:=n) (λo ho ws ws' f f' o' pl pl' h=>pG n o ho ws ws' f f' o' pl pl' h) (by omega) j ws ws' f f' o' pl pl' h
  exact⟨n,xs,rfl,h1,h2,h3,h4,h5⟩) h
structure MCX (P:Program) (w:World) (K:PySem.W.Frag) (mg:Str->Option Value) (base:Heap) (C:Addr) (m:Str) (k:Nat) (ps:List Str) (ds:List Value) (dvs:List V) (sp:Sp) (f:Addr) (fd:FuncData):Prop where
 cl:Cls K C
 mt:Meth K C m f
 ok:FnOk P w K mg base (CXR P w) k f fd ps sp
 bd:bA K fd ps ds
 dv:aX dvs ds
structure CalX (P:Program) (w:World) (K:PySem.W.Frag) (mg:Str->Option Value) (base:Heap) (x:Str) (k:Nat) (ps:List Str) (sp:Sp) (f:Addr) (fd:FuncData):Prop where
 ok:FnOk P w K mg base (CXR P w) k f fd ps sp
 nm:mg x=some (.ref f)
 kp:PySem.W.keepIn K (.ref f)=true
 bd:bA K fd ps []
theorem kZ {K:PySem.W.Frag}{E:XK}{C U:Addr}{fn:Str}{te:TE}{v:V}{D:Ends}{σ:St}{H:Hp} (T:XCls K C U) (nf:PySem.W.findIn K (.ref C) fn=some none) (hte:∀Q:VK,Q v H->te σ H Q) (h:fK C [(fn,v)] H E):mQ K E (mP C (pV K fn) E0 (bV te eR)) D σ H:=
 hte _ λx nx=>⟨x,C,U,v,rfl,aj,T,nf,λd nd=>⟨rfl,x,C,U,some d,rfl,aj,T,ze (K:=K) h nx nd⟩⟩
noncomputable def dR (B r:Addr) (p:Nat) (H:Hp) (E:XK):Prop:=∀(a:Addr) (H':Hp),Ofr r H H'->H a=none->XAt H' a B [("place", .int (p:Int))]->E (.ref B) (some a) H'
theorem dR.step {B R:Addr}{H H1:Hp}{r lw:Addr}{ws:List Str}{pl p:Nat}{op:Int}{E:XK} (h:dR B r p H E) (o:Ofr r H H1) (h1:RdAt R H1 r lw ws pl op):dR B r p H1 E:=λa H' o' na xa=>h a H' (o.trans o') (h1.free o na) xa
theorem dR.rf {B r:Addr}{H:Hp}{p:Nat}{E:XK} (h:dR B r p H E):fK B [("place", .int (p:Int))] H E:=λa H' g na xa=>h a H' (λb o e _=>g b o e) na xa
noncomputable def No (ws:List Str) (pl:Nat) (F:Str->Prop):Prop:=ws[pl]?=none\/∃w,ws[pl]?=some w/\w.length < sizeLine/\F w
noncomputable def oH (B R:Addr):Sp:=λvs H _ E=>∃(r lw:Addr) (ws:List Str) (pl:Nat) (op:Int),vs=[.ref r]/\RdAt R H r lw ws pl op/\pl<=ws.length/\ws[pl]?=none/\dR B r pl H E
noncomputable def wb (B R:Addr):Sp:=λvs H _ E=>∃(r lw:Addr) (ws:List Str) (pl:Nat) (op:Int),vs=[.ref r,.bl false]/\RdAt R H r lw ws pl op/\pl<=ws.length/\dR B r pl H E
noncomputable def oB (B R:Addr):Sp:=λvs H _ E=>∃(r lw:Addr) (ws:List Str) (pl:Nat) (op:Int) (lo hi:Int),vs=[.ref r,.int lo,.int hi]/\RdAt R H r lw ws pl op/\pl<=ws.length/\No ws pl (λw=>dm w lo hi=.non)/\dR B r pl H E
noncomputable def oz (B R:Addr):Sp:=λvs H _ E=>∃(r lw:Addr) (ws:List Str) (pl:Nat) (op:Int),vs=[.ref r]/\RdAt R H r lw ws pl op/\pl<=ws.length/\No ws pl (λw=>dm w (-1000000000) 1000000000=.non)/\dR B r pl H E
noncomputable def oI (B R:Addr):Sp:=λvs H _ E=>∃(r lw:Addr) (ws:List Str) (pl:Nat) (op:Int) (lo:Int),vs=[.ref r,.int lo]/\RdAt R H r lw ws pl op/\pl<=ws.length/\No ws pl (λw=>dm w lo 399=.non)/\dR B r pl H E
noncomputable def oF (B R:Addr):Sp:=λvs H _ E=>∃(r lw:Addr) (ws:List Str) (pl:Nat) (op:Int),vs=[.ref r]/\RdAt R H r lw ws pl op/\pl<=ws.length/\No ws pl (λw=>bJ w bX 8=false)/\dR B r pl H E
noncomputable def lP (B R:Addr):Sp:=λvs H _ E=>∃(r lw:Addr) (ws:List Str) (pl:Nat) (op:Int),vs=[.ref r]/\RdAt R H r lw ws pl op/\pl<=ws.length/\No ws pl (λw=>w.length<=400/\eQ (Txt.split w cmS)=false)/\dR B r pl H E
noncomputable def lO (B R:Addr):Sp:=λvs H _ E=>∃(r lw:Addr) (ws:List Str) (pl:Nat) (op:Int),vs=[.ref r]/\RdAt R H r lw ws pl op/\pl<=ws.length/\No ws pl (λw=>(decide (w=opS) && decide (op < 3))=false)/\dR B r pl H E
noncomputable def jD (B R:Addr):Sp:=λvs H _ E=>∃(r lw:Addr) (ws:List Str) (pl:Nat) (op:Int),vs=[.ref r]/\RdAt R H r lw ws pl op/\pl<=ws.length/\No ws pl (λw=>w≠clS)/\dR B r pl H E
noncomputable def rC (B R:Addr):Sp:=λvs H _ E=>∃(r lw:Addr) (ws:List Str) (pl:Nat) (op:Int),vs=[.ref r]/\RdAt R H r lw ws pl op/\pl<=ws.length/\No ws pl (λw=>w∉cQ/\w∉cm/\w∉ce/\w∉cp)/\dR B r pl H E
noncomputable def rn (B R:Addr):Sp:=λvs H _ E=>∃(r lw:Addr) (ws:List Str) (pl:Nat) (op:Int),vs=[.ref r]/\RdAt R H r lw ws pl op/\pl<=ws.length/\pl < ws.length/\dR B r pl H E
noncomputable def dY (B R:Addr):Sp:=λvs H Q E=>eX R vs H Q E\/oH B R vs H Q E
noncomputable def iW (B R:Addr):Sp:=λvs H Q E=>lQ R vs H Q E\/wb B R vs H Q E
noncomputable def iD (B R:Addr):Sp:=λvs H Q E=>iV R vs H Q E\/oB B R vs H Q E
noncomputable def oA (B R:Addr):Sp:=λvs H Q E=>mS R vs H Q E\/oz B R vs H Q E
noncomputable def gD (B R:Addr):Sp:=λvs H Q E=>i3 R vs H Q E\/oI B R vs H Q E
noncomputable def oG (B R:Addr):Sp:=λvs H Q E=>mV R vs H Q E\/oF B R vs H Q E
noncomputable def gA (B R:Addr):Sp:=λvs H Q E=>gC R vs H Q E\/lP B R vs H Q E
noncomputable def gx (B R:Addr):Sp:=λvs H Q E=>gy R vs H Q E\/lO B R vs H Q E
noncomputable def fq (B R:Addr):Sp:=λvs H Q E=>eY R vs H Q E\/jD B R vs H Q E
noncomputable def kJ (B R:Addr):Sp:=λvs H Q E=>lR R vs H Q E\/rC B R vs H Q E
noncomputable def rp (B R:Addr):Sp:=λvs H Q E=>rq R vs H Q E\/rn B R vs H Q E
theorem qS {x y:Str} (h:x≠y):¬V.str x=V.str y:=λz=>h (V.str.inj z)
theorem sP {f R B U fB:Addr}{fd:FuncData} (F:Fun K "here" "Reader.here" oR f fd) (N:Free mg) (T:RdC K R){fdB:FuncData} (RB:Rf1 P w K mg base "BadQuestion" B U "place" fB fdB):FnOk P w K mg base (CXR P w) 3 f fd ["self"] (oH B R):=by
 refine F.okX (k:=2) rL (λvs H Q E h=>?_) (λcdv A outer s H vs Q E hr h=>?_)
 ·obtain⟨r,lw,ws,pl,op,rfl,_⟩:=h
  rfl
 ·obtain⟨r,lw,ws,pl,op,rfl,h,hpl,hc,hE⟩:=h
  have hu:=aM hr
  refine⟨_,(ad (aO (aC bc (bR (pv 0) rfl) (aI aQ (by rfl) N.len PySem.boot_len (aa (bR (pv 0) rfl) ac)) (aE _)) (af (lg RB (hr.mono (by decide)) rfl (bR (pv 0) rfl))) ay)
   (af (av (b9 aT (bR (pv 0) rfl) (bR (pv 0) rfl) (λ_ _=>rfl))))),?_⟩
  obtain⟨⟨dx,ho⟩,hw⟩:=h
  have at0:SqL K H lw (ws.map V.str):=SqL.of hw
  have hl:=List.getElem?_eq_none_iff.mp hc
  refine ae (aq ⟨_,rfl,r,R,dx,_,_,rfl,ho,T.cl,T.n2,kY _ _ _,_,rfl,r,R,dx,_,_,rfl,ho,T.cl,T.n1,sj _ _ _,lw,_,rfl,.inl at0,rfl,_,rfl,?_⟩)
  rw [List.length_map,decide_eq_true (show V.int (pl:Int)=V.int (ws.length:Int) from by rw [show pl=ws.length by omega])]
  exact b5 (kZ RB.cl RB.nf (λQ q=>⟨_,rfl,r,R,dx,_,_,rfl,ho,T.cl,T.n2,kY _ _ _,q⟩) hE.rf)
theorem y8 {f R B U fB:Addr}{fd:FuncData} (F:Fun K "go_on" "Reader.go_on" sGo f fd) (N:Free mg) (T:RdC K R){fdB:FuncData} (RB:Rf1 P w K mg base "BadQuestion" B U "place" fB fdB):FnOk P w K mg base (CXR P w) 3 f fd ["self", "can_stand"] (wb B R):=by
 refine F.okX (k:=2) yY (λvs H Q E h=>?_) (λcdv A outer s H vs Q E hr h=>?_)
 ·obtain⟨r,lw,ws,pl,op,rfl,_⟩:=h
  rfl
 ·obtain⟨r,lw,ws,pl,op,rfl,h,hpl,hE⟩:=h
  have hu:=aM hr
  refine⟨_,(ad (aO (cz (cg (pv 1))) (af (lg RB (hr.mono (by decide)) rfl (bR (pv 0) rfl))) ay)
   (af (de (pv 0) ag ls))),?_⟩
  obtain⟨⟨dx,ho⟩,hw⟩:=h
  refine ae (aq ⟨_,rfl,_,rfl,b5 ?_⟩)
  exact kZ RB.cl RB.nf (λQ q=>⟨_,rfl,r,R,dx,_,_,rfl,ho,T.cl,T.n2,kY _ _ _,q⟩) hE.rf
theorem sG {f f1 f2 f3 R B:Addr}{fd:FuncData} (F:Fun K "number_here" "Reader.number_here" oP f fd) (N:Free mg) (T:RdC K R){fd1:FuncData} (MH:MCX P w K mg base R "here" 3 ["self"] [] [] (dY B R) f1 fd1){fd2:FuncData} (MG:MCX P w K mg base R "go_on" 3 ["self", "can_stand"] [] [] (iW B R) f2 fd2){fd3:FuncData} (CO:Cal P w K mg base "number_of" 2 ["text", "low", "high"] iU f3 fd3):FnOk P w K mg base (CXR P w) 4 f fd ["self", "low", "high"] (oB B R):=by
 refine F.okX (k:=3) kQ (λvs H Q E h=>?_) (λcdv A outer s H vs Q E hr h=>?_)
 ·obtain⟨r,lw,ws,pl,op,lo,hi,rfl,_⟩:=h
  rfl
 ·obtain⟨r,lw,ws,pl,op,lo,hi,rfl,h,hpl,hc,hE⟩:=h
  have hu:=aM hr
  refine⟨_,(ad (ax (i:=3) kQ.nd rfl (Or.inl rfl) (au CO.ok (hr.mono (by decide)) rfl CO.nm CO.kp CO.bd .nil ar (aa (aK (pv 0) MH.cl MH.mt MH.ok (hr.mono (by decide)) MH.bd MH.dv bp) (aa (pv 1) (aa (pv 2) ac)))))
   (ad (aY (aW (pv 0) MG.cl MG.mt MG.ok (hr.mono (by decide)) MG.bd MG.dv bp (aa (nL (lh (pv 3))) ac)))
   (af (av (pv 3))))),?_⟩
  obtain⟨dx,ho⟩:=h.ob
  rcases hc with hc | ⟨w,hx,hl,hv⟩
  ·exact ae (ao ⟨_,rfl,r,dx,_,rfl,ho,aG _ _ _ (by decide +kernel) (by decide +kernel) (by decide +kernel),.inr ⟨r,lw,ws,pl,op,rfl,h,hpl,hc,hE⟩⟩)
  refine ae (ao ⟨_,rfl,r,dx,_,rfl,ho,aG _ _ _ (by decide +kernel) (by decide +kernel) (by decide +kernel),.inl ⟨r,lw,ws,pl,op,w,rfl,h,hx,_,rfl,_,rfl,w,lo,hi,rfl,hl,λH1 g1=>?_⟩⟩)
  rw [hv]
  dsimp only [aA,List.set_cons_zero,List.set_cons_succ]
  have h1:=h.keep g1
  obtain⟨dx1,ho1⟩:=h1.ob
  exact ae (aS ⟨_,rfl,r,dx1,_,rfl,ho1,aG _ _ _ (by decide +kernel) (by decide +kernel) (by decide +kernel),_,rfl,.inr ⟨r,lw,ws,pl,op,rfl,h1,hpl,hE.step (λb o e _=>g1 _ _ e) h1⟩⟩)
theorem sJ {f f1 f2 f3 R B:Addr}{fd:FuncData} (F:Fun K "key_here" "Reader.key_here" oQ f fd) (N:Free mg) (T:RdC K R){fd1:FuncData} (MH:MCX P w K mg base R "here" 3 ["self"] [] [] (dY B R) f1 fd1){fd2:FuncData} (MG:MCX P w K mg base R "go_on" 3 ["self", "can_stand"] [] [] (iW B R) f2 fd2){fd3:FuncData} (CN:Cal P w K mg base "is_name" 2 ["thing"] (dU K) f3 fd3):FnOk P w K mg base (CXR P w) 4 f fd ["self"] (oF B R):=by
 refine F.okX (k:=3) kR (λvs H Q E h=>?_) (λcdv A outer s H vs Q E hr h=>?_)
 ·obtain⟨r,lw,ws,pl,op,rfl,_⟩:=h
  rfl
 ·obtain⟨r,lw,ws,pl,op,rfl,h,hpl,hc,hE⟩:=h
  have hu:=aM hr
  refine⟨_,(ad (ax (i:=1) kR.nd rfl (Or.inl rfl) (aK (pv 0) MH.cl MH.mt MH.ok (hr.mono (by decide)) MH.bd MH.dv bp))
   (ad (aY (aW (pv 0) MG.cl MG.mt MG.ok (hr.mono (by decide)) MG.bd MG.dv bp (aa (au CN.ok (hr.mono (by decide)) rfl CN.nm CN.kp CN.bd .nil ar (aa (pv 1) ac)) ac)))
   (af (av (pv 1))))),?_⟩
  obtain⟨dx,ho⟩:=h.ob
  rcases hc with hc | ⟨w,hx,hl,hv⟩
  ·exact ae (ao ⟨_,rfl,r,dx,_,rfl,ho,aG _ _ _ (by decide +kernel) (by decide +kernel) (by decide +kernel),.inr ⟨r,lw,ws,pl,op,rfl,h,hpl,hc,hE⟩⟩)
  refine ae (ao ⟨_,rfl,r,dx,_,rfl,ho,aG _ _ _ (by decide +kernel) (by decide +kernel) (by decide +kernel),.inl ⟨r,lw,ws,pl,op,w,rfl,h,hx,?_⟩⟩)
  dsimp only [aA,List.set_cons_zero,List.set_cons_succ]
  refine ae (aS ⟨_,rfl,r,dx,_,rfl,ho,aG _ _ _ (by decide +kernel) (by decide +kernel) (by decide +kernel),_,rfl,.str w,rfl,.inl ⟨w,rfl,hl,λH1 g1=>?_⟩⟩)
  rw [hv]
  exact .inr ⟨r,lw,ws,pl,op,rfl,h.keep g1,hpl,hE.step (λb o e _=>g1 _ _ e) (h.keep g1)⟩
theorem sF {f f1 R B:Addr}{fd:FuncData} (F:Fun K "value_here" "Reader.value_here" oO f fd) (N:Free mg) (Z:Con mg) (T:RdC K R){fd1:FuncData} (MN:MCX P w K mg base R "number_here" 4 ["self", "low", "high"] [] [] (iD B R) f1 fd1):FnOk P w K mg base (CXR P w) 5 f fd ["self"] (oz B R):=by
 obtain⟨t1,c1⟩:=Z.value
 refine F.okX (k:=4) rF (λvs H Q E h=>?_) (λcdv A outer s H vs Q E hr h=>?_)
 ·obtain⟨r,lw,ws,pl,op,rfl,_⟩:=h
  rfl
 ·obtain⟨r,lw,ws,pl,op,rfl,h,hpl,hc,hE⟩:=h
  have hu:=aM hr
  refine⟨_,(af (av (aW (pv 0) MN.cl MN.mt MN.ok (hr.mono (by decide)) MN.bd MN.dv bp (aa (p8 kl (b6 (v:=.int 1000000000) (by rfl) c1 ⟨_,rfl⟩)) (aa (b6 (v:=.int 1000000000) (by rfl) c1 ⟨_,rfl⟩) ac))))),?_⟩
  obtain⟨dx,ho⟩:=h.ob
  exact⟨_,rfl,r,dx,_,rfl,ho,aG _ _ _ (by decide +kernel) (by decide +kernel) (by decide +kernel),_,rfl,.inr ⟨r,lw,ws,pl,op,-1000000000,1000000000,rfl,h,hpl,hc,hE⟩⟩
theorem sR {f f1 R B:Addr}{fd:FuncData} (F:Fun K "day_here" "Reader.day_here" oS f fd) (N:Free mg) (Z:Con mg) (T:RdC K R){fd1:FuncData} (MN:MCX P w K mg base R "number_here" 4 ["self", "low", "high"] [] [] (iD B R) f1 fd1):FnOk P w K mg base (CXR P w) 5 f fd ["self", "earliest"] (oI B R):=by
 obtain⟨t1,c1⟩:=Z.lastday
 refine F.okX (k:=4) rO (λvs H Q E h=>?_) (λcdv A outer s H vs Q E hr h=>?_)
 ·obtain⟨r,lw,ws,pl,op,lo,rfl,_⟩:=h
  rfl
 ·obtain⟨r,lw,ws,pl,op,lo,rfl,h,hpl,hc,hE⟩:=h
  have hu:=aM hr
  refine⟨_,(af (av (aW (pv 0) MN.cl MN.mt MN.ok (hr.mono (by decide)) MN.bd MN.dv bp (aa (pv 1) (aa (b6 (v:=.int 399) (by rfl) c1 ⟨_,rfl⟩) ac))))),?_⟩
  obtain⟨dx,ho⟩:=h.ob
  exact⟨_,rfl,r,dx,_,rfl,ho,aG _ _ _ (by decide +kernel) (by decide +kernel) (by decide +kernel),_,rfl,.inr ⟨r,lw,ws,pl,op,lo,399,rfl,h,hpl,hc,hE⟩⟩
theorem qg {f f1 f2 R B:Addr}{fd:FuncData} (F:Fun K "bracket_opens" "Reader.bracket_opens" kT f fd) (N:Free mg) (Z:Con mg) (T:RdC K R){fd1:FuncData} (MH:MCX P w K mg base R "here" 3 ["self"] [] [] (dY B R) f1 fd1){fd2:FuncData} (MG:MCX P w K mg base R "go_on" 3 ["self", "can_stand"] [] [] (iW B R) f2 fd2):FnOk P w K mg base (CXR P w) 4 f fd ["self"] (lO B R):=by
 obtain⟨t1,c1⟩:=Z.opn
 refine F.okX (k:=3) oK (λvs H Q E h=>?_) (λcdv A outer s H vs Q E hr h=>?_)
 ·obtain⟨r,lw,ws,pl,op,rfl,_⟩:=h
  rfl
 ·obtain⟨r,lw,ws,pl,op,rfl,h,hpl,hc,hE⟩:=h
  have hu:=aM hr
  refine⟨_,(ad (aY (aW (pv 0) MG.cl MG.mt MG.ok (hr.mono (by decide)) MG.bd MG.dv bp (aa (dD (ba bc (aK (pv 0) MH.cl MH.mt MH.ok (hr.mono (by decide)) MH.bd MH.dv bp) ah (aE _)) (dh (ba eO (bR (pv 0) rfl) (b6 (v:=.int 3) (by rfl) c1 ⟨_,rfl⟩) (aE _)))) ac)))
   (af (de (pv 0) ag ls))),?_⟩
  obtain⟨dx,ho⟩:=h.ob
  rcases hc with hc | ⟨w,hx,hl,hv⟩
  ·exact ae (aS ⟨_,rfl,r,dx,_,rfl,ho,aG _ _ _ (by decide +kernel) (by decide +kernel) (by decide +kernel),_,rfl,r,dx,_,rfl,ho,aG _ _ _ (by decide +kernel) (by decide +kernel) (by decide +kernel),.inr ⟨r,lw,ws,pl,op,rfl,h,hpl,hc,hE⟩⟩)
  refine ae (aS ⟨_,rfl,r,dx,_,rfl,ho,aG _ _ _ (by decide +kernel) (by decide +kernel) (by decide +kernel),_,rfl,r,dx,_,rfl,ho,aG _ _ _ (by decide +kernel) (by decide +kernel) (by decide +kernel),.inl ⟨r,lw,ws,pl,op,w,rfl,h,hx,rfl,_,rfl,?_⟩⟩)
  by_cases z:w=opS
  ·rw [decide_eq_true (show V.str w=V.str opS from by rw [z])]
   refine b5 ⟨_,rfl,r,R,dx,_,_,rfl,ho,T.cl,T.n3,uJ _ _ _,_,_,rfl,rfl,?_⟩
   rw [decide_eq_true z,Bool.true_and]at hv
   rw [hv]
   exact .inr ⟨r,lw,ws,pl,op,rfl,h,hpl,hE⟩
  ·rw [decide_eq_false (qS z)]
   exact aF (.inr ⟨r,lw,ws,pl,op,rfl,h,hpl,hE⟩)
theorem nP {f f1 f2 R B:Addr}{fd:FuncData} (F:Fun K "bracket_closes" "Reader.bracket_closes" iI f fd) (N:Free mg) (T:RdC K R){fd1:FuncData} (MH:MCX P w K mg base R "here" 3 ["self"] [] [] (dY B R) f1 fd1){fd2:FuncData} (MG:MCX P w K mg base R "go_on" 3 ["self", "can_stand"] [] [] (iW B R) f2 fd2):FnOk P w K mg base (CXR P w) 4 f fd ["self"] (jD B R):=by
 refine F.okX (k:=3) lX (λvs H Q E h=>?_) (λcdv A outer s H vs Q E hr h=>?_)
 ·obtain⟨r,lw,ws,pl,op,rfl,_⟩:=h
  rfl
 ·obtain⟨r,lw,ws,pl,op,rfl,h,hpl,hc,hE⟩:=h
  have hu:=aM hr
  refine⟨_,(ad (aY (aW (pv 0) MG.cl MG.mt MG.ok (hr.mono (by decide)) MG.bd MG.dv bp (aa (ba bc (aK (pv 0) MH.cl MH.mt MH.ok (hr.mono (by decide)) MH.bd MH.dv bp) ah (aE _)) ac)))
   (af (de (pv 0) ag tL))),?_⟩
  obtain⟨dx,ho⟩:=h.ob
  rcases hc with hc | ⟨w,hx,hl,hv⟩
  ·exact ae (aS ⟨_,rfl,r,dx,_,rfl,ho,aG _ _ _ (by decide +kernel) (by decide +kernel) (by decide +kernel),_,rfl,r,dx,_,rfl,ho,aG _ _ _ (by decide +kernel) (by decide +kernel) (by decide +kernel),.inr ⟨r,lw,ws,pl,op,rfl,h,hpl,hc,hE⟩⟩)
  refine ae (aS ⟨_,rfl,r,dx,_,rfl,ho,aG _ _ _ (by decide +kernel) (by decide +kernel) (by decide +kernel),_,rfl,r,dx,_,rfl,ho,aG _ _ _ (by decide +kernel) (by decide +kernel) (by decide +kernel),.inl ⟨r,lw,ws,pl,op,w,rfl,h,hx,rfl,?_⟩⟩)
  rw [decide_eq_false (qS hv)]
  exact .inr ⟨r,lw,ws,pl,op,rfl,h,hpl,hE⟩
theorem vk {f f1 f2 R B:Addr}{fd:FuncData} (F:Fun K "beginning_here" "Reader.beginning_here" uH f fd) (N:Free mg) (ZT:ConT K mg) (T:RdC K R){fd1:FuncData} (MH:MCX P w K mg base R "here" 3 ["self"] [] [] (dY B R) f1 fd1){fd2:FuncData} (MG:MCX P w K mg base R "go_on" 3 ["self", "can_stand"] [] [] (iW B R) f2 fd2):FnOk P w K mg base (CXR P w) 4 f fd ["self"] (rC B R):=by
 obtain⟨a1,c1,q1⟩:=ZT.sgl
 obtain⟨a2,c2,q2⟩:=ZT.gth
 obtain⟨a3,c3,q3⟩:=ZT.rck
 obtain⟨a4,c4,q4⟩:=ZT.chc
 refine F.okX (k:=3) oN (λvs H Q E h=>?_) (λcdv A outer s H vs Q E hr h=>?_)
 ·obtain⟨r,lw,ws,pl,op,rfl,_⟩:=h
  rfl
 ·obtain⟨r,lw,ws,pl,op,rfl,h,hpl,hc,hE⟩:=h
  have hu:=aM hr
  refine⟨_,(ad (ax (i:=1) oN.nd rfl (Or.inl rfl) (aK (pv 0) MH.cl MH.mt MH.ok (hr.mono (by decide)) MH.bd MH.dv bp))
   (ad (aY (aW (pv 0) MG.cl MG.mt MG.ok (hr.mono (by decide)) MG.bd MG.dv bp (aa (jK (ba bw (pv 1) (b6 (v:=.ref a1) (by rfl) c1 rfl) (by with_unfolding_all rfl)) (jK (ba bw (pv 1) (b6 (v:=.ref a2) (by rfl) c2 rfl) (by with_unfolding_all rfl)) (jK (ba bw (pv 1) (b6 (v:=.ref a3) (by rfl) c3 rfl) (by with_unfolding_all rfl)) (dh (ba bw (pv 1) (b6 (v:=.ref a4) (by rfl) c4 rfl) (by with_unfolding_all rfl)))))) ac)))
   (af (av (pv 1))))),?_⟩
  obtain⟨dx,ho⟩:=h.ob
  rcases hc with hc | ⟨w,hx,hl,hv1,hv2,hv3,hv4⟩
  ·exact ae (ao ⟨_,rfl,r,dx,_,rfl,ho,aG _ _ _ (by decide +kernel) (by decide +kernel) (by decide +kernel),.inr ⟨r,lw,ws,pl,op,rfl,h,hpl,hc,hE⟩⟩)
  refine ae (ao ⟨_,rfl,r,dx,_,rfl,ho,aG _ _ _ (by decide +kernel) (by decide +kernel) (by decide +kernel),.inl ⟨r,lw,ws,pl,op,w,rfl,h,hx,?_⟩⟩)
  dsimp only [aA,List.set_cons_zero,List.set_cons_succ]
  refine ae (aS ⟨_,rfl,r,dx,_,rfl,ho,aG _ _ _ (by decide +kernel) (by decide +kernel) (by decide +kernel),_,rfl,a1,_,rfl,.inr (q1 _),rfl,aR _,?_⟩)
  rw [if_neg Bool.false_ne_true,bb,decide_eq_false hv1]
  refine⟨_,rfl,aF ?_⟩
  refine⟨_,rfl,a2,_,rfl,.inr (q2 _),rfl,aR _,?_⟩
  rw [if_neg Bool.false_ne_true,bb,decide_eq_false hv2]
  refine⟨_,rfl,aF ?_⟩
  refine⟨_,rfl,a3,_,rfl,.inr (q3 _),rfl,aR _,?_⟩
  rw [if_neg Bool.false_ne_true,bb,decide_eq_false hv3]
  refine⟨_,rfl,aF ?_⟩
  refine⟨_,rfl,a4,_,rfl,.inr (q4 _),rfl,aR _,?_⟩
  rw [if_neg Bool.false_ne_true,bb,decide_eq_false hv4]
  exact .inr ⟨r,lw,ws,pl,op,rfl,h,hpl,hE⟩
theorem vh {f R B U fB:Addr}{fd:FuncData} (F:Fun K "check_end" "Reader.check_end" uG f fd) (N:Free mg) (T:RdC K R){fdB:FuncData} (RB:Rf1 P w K mg base "BadQuestion" B U "place" fB fdB):FnOk P w K mg base (CXR P w) 3 f fd ["self"] (rn B R):=by
 refine F.okX (k:=2) wf (λvs H Q E h=>?_) (λcdv A outer s H vs Q E hr h=>?_)
 ·obtain⟨r,lw,ws,pl,op,rfl,_⟩:=h
  rfl
 ·obtain⟨r,lw,ws,pl,op,rfl,h,hpl,hc,hE⟩:=h
  have hu:=aM hr
  refine⟨_,(af (aO (aC eO (bR (pv 0) rfl) (aI aQ (by rfl) N.len PySem.boot_len (aa (bR (pv 0) rfl) ac)) (aE _)) (af (lg RB (hr.mono (by decide)) rfl (bR (pv 0) rfl))) ay)),?_⟩
  obtain⟨⟨dx,ho⟩,hw⟩:=h
  have at0:SqL K H lw (ws.map V.str):=SqL.of hw
  refine aq ⟨_,rfl,r,R,dx,_,_,rfl,ho,T.cl,T.n2,kY _ _ _,_,rfl,r,R,dx,_,_,rfl,ho,T.cl,T.n1,sj _ _ _,lw,_,rfl,.inl at0,_,_,rfl,rfl,_,rfl,?_⟩
  rw [List.length_map,decide_eq_true (by omega)]
  exact b5 (kZ RB.cl RB.nf (λQ q=>⟨_,rfl,r,R,dx,_,_,rfl,ho,T.cl,T.n2,kY _ _ _,q⟩) hE.rf)
theorem u9 {zs:List Str}:∀i,i<=zs.length->eJ zs i=i->(zs.take i).Nodup
 | 0,_,_=>by rw [List.take_zero];exact List.nodup_nil
 | i+1,h,e=>by
  have hi:i < zs.length:=h
  have ez:zs[i]?=some zs[i]:=List.getElem?_eq_getElem hi
  have hle:=lB zs i
  unfold eJ at e
  rw [ez]at e
  simp only at e
  by_cases z:inS zs i zs[i]=true
  ·rw [if_pos z]at e;omega
  ·rw [if_neg z]at e
   have ih:=u9 (zs:=zs) i (by omega) (by omega)
   rw [List.take_add_one,ez]
   refine List.nodup_append.mpr ⟨ih,List.nodup_cons.mpr ⟨List.not_mem_nil,List.nodup_nil⟩,λa ha b hb hab=>?_⟩
   have hb:b=zs[i]:=List.mem_singleton.mp hb
   exact z (decide_eq_true (by rw [<- hb,<- hab];exact ha))
theorem iP (zs:List Str):eJ zs zs.length=zs.length↔zs.Nodup:=⟨λe=>by have:=u9 zs.length (Nat.le_refl _) e;rw [List.take_length]at this;exact this,λh=>ik h _ (Nat.le_refl _)⟩
noncomputable def iY:Sp:=λvs H Q _=>∃(a:Addr) (ks:List Str),vs=[.ref a]/\H a=some (.lst (ks.map V.str))/\1<=ks.length/\ks.length<=900/\(∀k∈ks,k.length < sizeLine)/\∀H',aP H H'->Q (.bl (eQ ks)) H'
theorem kq {K:PySem.W.Frag}{E:XK}{σ:St}{H:Hp}{Q:VK}{a:Addr}{ks:List Str} (e0:σ[0]?=some (some (.ref a))) (ha:H a=some (.lst (ks.map V.str))) (hk:∀k∈ks,k.length < sizeLine) (hl:ks.length<=900)
  (hq:∀(D:Addr) (H':Hp),H D=none->aP H H'->H' D=some (.lst ((ks.map λk=>bJ k bX 8).map V.bl))->Q (.ref D) H') :
  iR (tM K (eV 0)) [] (λ_ H Q=>Q true H) (iS (dU K) [] E (bV (eV 0) eR)) σ H Q:=by
 refine⟨_,e0,a,rfl,⟨_,SqL.of ha⟩,λD nD=>dO (K:=K) (a:=a) (xs:=ks.map V.str) (sub:=[]) (tt:=λ_ H Q=>Q true H) (te:=iS (dU K) [] E (bV (eV 0) eR)) (Q:=Q) (σ:=σ)
  (λi ys H2=>ys=((ks.take i).map λk=>bJ k bX 8).map V.bl/\aP H H2/\H2 D=some (.lst ys)) ⟨rfl,aP.new nD,aj⟩ (λi ys H2 _ hh=>?_) (λi x ys H2 hi hh=>?_) λys H2 hh=>?_⟩
 ·exact SqL.of (hh.2.1 _ _ ha)
 ·obtain⟨rfl,g,hD⟩:=hh
  rw [List.getElem?_map]at hi
  obtain⟨k,ek,rfl⟩:=Option.map_eq_some_iff.mp hi
  have hil:=(List.getElem?_eq_some_iff.mp ek).1
  refine b5 ⟨_,rfl,.str k,rfl,.inl ⟨k,rfl,hk k (List.mem_of_getElem? ek),λH3 g3=>⟨g3 _ _ hD,?_,?_,?_,?_⟩⟩⟩
  ·rw [List.length_map,List.length_map,List.length_take]
   exact be (by omega)
  ·rw [List.take_add_one,ek,List.map_append,List.map_append];rfl
  ·intro b o e
   rw [al (am e nD)]
   exact g3 _ _ (g _ _ e)
  ·exact aj
 ·obtain⟨rfl,g,hD⟩:=hh
  rw [List.length_map,List.take_length]at hD
  exact hq D H2 nD g hD
theorem mf {f f1:Addr}{fd:FuncData} (F:Fun K "are_keys" "are_keys" gE f fd) (N:Free mg) (C:Con mg){fd1:FuncData} (CN:Cal P w K mg base "is_name" 2 ["thing"] (dU K) f1 fd1):FnOk P w K mg base CX0 3 f fd ["thing"] iY:=by
 obtain⟨t1,c1⟩:=C.keys
 refine F.ok (k:=2) jI (λvs H Q E h=>?_) (λcdv A outer s H vs Q E hr h=>?_)
 ·obtain⟨a,ks,rfl,_⟩:=h
  rfl
 ·obtain⟨a,ks,rfl,ha,k1,k9,hk,hq⟩:=h
  have hu:=aM hr
  refine⟨_,(ad (aO (PW.pt (jJ (cz (cg (aI cv (by rfl) N.isinstance PyProof.Rows.Boot.«isinstance» (aD (pv 0) (aD (ee (v:=.ty "list") (by rfl) N.list PyProof.Rows.Boot.«list» rfl) ac))))) (i5 (cz (gG dq dq ag (aI aQ (by rfl) N.len PySem.boot_len (aD (pv 0) ac)) (b6 (v:=.int 8) (by rfl) c1 ⟨_,rfl⟩)))))) (af (av gK)) ay)
   (af (av (dD (aI (ip rfl) (by rfl) N.all PyProof.Rows.Boot.«all» (aD (ff (bP rfl (cq (pv 0)) rfl rfl (by show ∀p∈_,i0 [] p;decide) (by decide) rfl (by show ([Str.ofString "key"]:List Str).Nodup;decide) .nil (λC fp s H=>cY) (λC fp s H=>(au CN.ok (hr.mono (by decide)) rfl CN.nm CN.kp CN.bd .nil ar (aD (pv 0) ac))))) ac)) (dh (ba bc (aI im (by rfl) N.len PySem.boot_len (aD (aV (il rfl) (by rfl) N.set PyProof.Rows.Boot.«set» (aD (pv 0) ac)) ac)) (aI aQ (by rfl) N.len PySem.boot_len (aD (pv 0) ac)) (aE _))))))),?_⟩
  have hS:SqL K H a (ks.map V.str):=SqL.of ha
  have gr:aP H H:=aP.refl
  refine ae (aq ⟨_,rfl,.ref a,"list", _,true,rfl,.lst ha,by rfl,_,rfl,aF ?_⟩)
  refine⟨_,rfl,a,_,rfl,.inl hS,_,_,rfl,rfl,_,rfl,?_⟩
  rw [List.length_map,decide_eq_true (show (1:Int)<=ks.length by omega)]
  refine b5 ⟨_,_,rfl,rfl,_,rfl,?_⟩
  by_cases k8:ks.length<=8
  ·rw [decide_eq_true (show (ks.length:Int)<=8 by omega)]
   refine aF (ai ?_)
   dsimp only
   refine az (oW (sk (cy ?_)))
   refine kq rfl ha hk k9 ?_
   intro D H' nD g hD
   refine⟨D,_,rfl,SqL.of hD,_,rfl,?_⟩
   have ea:(ks.map λk=>bJ k bX 8).all id=ks.all λk=>bJ k bX 8:=by rw [List.all_map];rfl
   rw [ea]
   unfold eQ at hq
   rw [decide_eq_true k8,Bool.true_and]at hq
   cases hb:ks.all λk=>bJ k bX 8 with
   | false=>
    rw [hb,Bool.false_and]at hq
    exact aF (hq _ g)
   | true=>
    rw [hb,Bool.true_and]at hq
    refine b5 ⟨_,rfl,a,ks,rfl,SqL.of (g _ _ ha),by omega,λp np=>?_⟩
    refine⟨p,ks,rfl,aj,_,rfl,a,_,rfl,.inl (SqL.of (by rw [al (am (g _ _ ha) np)];exact g _ _ ha)),rfl,?_⟩
    rw [List.length_map,show decide (V.int (eJ ks ks.length:Int)=V.int (ks.length:Int))=decide ks.Nodup from ?_]
    ·exact hq _ (g.trans (aP.new np))
    ·rw [decide_eq_decide]
     exact⟨λz=>(iP ks).mp (by have:=V.int.inj z;omega),λz=>by rw [(iP ks).mpr z]⟩
  ·rw [decide_eq_false (show ¬(ks.length:Int)<=8 by omega)]
   refine b5 (az ?_)
   unfold eQ at hq
   rw [decide_eq_false k8,Bool.false_and]at hq
   exact hq _ gr
theorem jB {w x:Str} (h:w.length<=400) (hx:x∈Txt.split w cmS):x.length<=400:=by
 have e:Txt.join cmS (Txt.split w cmS)=w:=by
  rw [show cmS=(⟨#[44]⟩:Str) from dP]
  have e1:Txt.join ⟨#[44]⟩ (Txt.split w ⟨#[44]⟩)=Str.join ⟨#[44]⟩ (Txt.split w ⟨#[44]⟩):=StrLaws.glued_eq_join _ _
  rw [e1]
  exact StrLaws.join_split _ _
 have hne:Txt.split w cmS≠[]:=λz=>by rw [z]at hx;cases hx
 have f:=congrArg List.length (tH hne)
 rw [show jc (Txt.split w cmS)=w from e,List.length_cons,<- bG]at f
 have:∀ws:List Str,x∈ws->x.length+1<=(fl 44 ws).length:=by
  intro ws
  induction ws with
  | nil=>intro h;cases h
  | cons y ys ih=>
   intro h
   rw [cL,List.length_append,List.length_cons]
   rcases List.mem_cons.mp h with z | z
   ·rw [z,bG];omega
   ·have:=ih z;omega
 have:=this _ hx
 omega
theorem fV {w:Str}{c:Nat} (h:w.length<=400):(Txt.split w ⟨#[c]⟩).length<=401:=by
 have e:Txt.join ⟨#[c]⟩ (Txt.split w ⟨#[c]⟩)=w:=by
  have e1:Txt.join ⟨#[c]⟩ (Txt.split w ⟨#[c]⟩)=Str.join ⟨#[c]⟩ (Txt.split w ⟨#[c]⟩):=StrLaws.glued_eq_join _ _
  rw [e1]
  exact StrLaws.join_split _ _
 have hp:=PyProof.Rows.split_pos w ⟨#[c]⟩
 have hne:Txt.split w ⟨#[c]⟩≠[]:=λz=>by rw [z]at hp;cases hp
 have f:=congrArg List.length (gP (c:=c) hne)
 rw [e,List.length_cons,<- bG]at f
 have:∀ws:List Str,ws.length<=(fl c ws).length:=by
  intro ws
  induction ws with
  | nil=>exact Nat.le_refl _
  | cons y ys ih=>rw [cL,List.length_append,List.length_cons,List.length_cons];omega
 have:=this (Txt.split w ⟨#[c]⟩)
 omega
theorem qi {f f1 f2 f3 R B:Addr}{fd:FuncData} (F:Fun K "keys_here" "Reader.keys_here" kW f fd) (N:Free mg) (T:RdC K R){fd1:FuncData} (MH:MCX P w K mg base R "here" 3 ["self"] [] [] (dY B R) f1 fd1){fd2:FuncData} (MG:MCX P w K mg base R "go_on" 3 ["self", "can_stand"] [] [] (iW B R) f2 fd2){fd3:FuncData} (CK:Cal P w K mg base "are_keys" 3 ["thing"] iY f3 fd3):FnOk P w K mg base (CXR P w) 4 f fd ["self"] (lP B R):=by
 refine F.okX (k:=3) iF (λvs H Q E h=>?_) (λcdv A outer s H vs Q E hr h=>?_)
 ·obtain⟨r,lw,ws,pl,op,rfl,_⟩:=h
  rfl
 ·obtain⟨r,lw,ws,pl,op,rfl,h,hpl,hc,hE⟩:=h
  have hu:=aM hr
  refine⟨_,(ad (ax (i:=1) iF.nd rfl (Or.inl rfl) (bW PySem.F.plainAttrs_str PySem.F.slot_str_split PySem.F.type_str_split fi (aK (pv 0) MH.cl MH.mt MH.ok (hr.mono (by decide)) MH.bd MH.dv bp) (aa ah ac)))
   (ad (aY (aW (pv 0) MG.cl MG.mt MG.ok (hr.mono (by decide)) MG.bd MG.dv bp (aa (au CK.ok (hr.mono (by decide)) rfl CK.nm CK.kp CK.bd .nil ar (aa (pv 1) ac)) ac)))
   (af (av (pv 1))))),?_⟩
  obtain⟨dx,ho⟩:=h.ob
  rcases hc with hc | ⟨w,hx,hl,h400,hv⟩
  ·exact ae (ao ⟨_,rfl,r,dx,_,rfl,ho,aG _ _ _ (by decide +kernel) (by decide +kernel) (by decide +kernel),.inr ⟨r,lw,ws,pl,op,rfl,h,hpl,hc,hE⟩⟩)
  have hm:(Txt.split w cmS).length<=401:=by
   have:=fV (c:=44) h400
   rw [<- dP]at this
   exact this
  refine ae (ao ⟨_,rfl,r,dx,_,rfl,ho,aG _ _ _ (by decide +kernel) (by decide +kernel) (by decide +kernel),.inl ⟨r,lw,ws,pl,op,w,rfl,h,hx,rfl,_,_,rfl,rfl,by rfl,Nat.le_of_lt hl,(show (Txt.split w cmS).length<=sizeLine from Nat.le_trans hm (by decide)),λp np=>?_⟩⟩)
  obtain⟨g1,e1⟩:=laid (o:=.lst ((Txt.split w cmS).map V.str)) np
  dsimp only [aA,List.set_cons_zero,List.set_cons_succ]
  change kr _ _ _ _ (upd H p (.lst ((Txt.split w cmS).map V.str)))
  generalize upd H p _=H1 at g1 e1 ⊢
  have h1:=h.keep g1
  obtain⟨dx1,ho1⟩:=h1.ob
  refine ae (aS ⟨_,rfl,r,dx1,_,rfl,ho1,aG _ _ _ (by decide +kernel) (by decide +kernel) (by decide +kernel),_,rfl,p,_,rfl,e1,PyProof.Rows.split_pos w cmS,by omega,λk hk=>Nat.lt_of_le_of_lt (jB h400 hk) (by decide),λH2 g2=>?_⟩)
  rw [hv]
  exact .inr ⟨r,lw,ws,pl,op,rfl,h1.keep g2,hpl,hE.step (λb o e _=>g2 _ _ (g1 _ _ e)) (h1.keep g2)⟩
theorem Miss.num {W:List Str}{pl:Nat}{r:Ro}{f o lo hi:Int} (hs:∀w,cc r w f o=fL w lo hi) (hW:∀w∈W,w.length<=400) (h:Miss W pl r f o):No W pl (λw=>dm w lo hi=.non):=by
 rcases h with h | ⟨w,h,s⟩
 ·exact .inl h
 ·exact .inr ⟨w,h,Nat.lt_of_le_of_lt (hW w (List.mem_of_getElem? h)) (by decide),y9 (by rw [<- hs];exact s)⟩
theorem Miss.as {W:List Str}{pl:Nat}{r:Ro}{f o:Int}{F:Str->Prop} (hs:∀w,w.length<=400->cc r w f o=false->F w) (hW:∀w∈W,w.length<=400) (h:Miss W pl r f o):No W pl F:=by
 rcases h with h | ⟨w,h,s⟩
 ·exact .inl h
 ·exact .inr ⟨w,h,Nat.lt_of_le_of_lt (hW w (List.mem_of_getElem? h)) (by decide),hs w (hW w (List.mem_of_getElem? h)) s⟩
theorem qv:∀w∈cQ++cm++ce++cp,(bM w).isSome=true:=by decide +kernel
theorem yC {w:Str} (h:(bM w).isSome=false):w∉cQ/\w∉cm/\w∉ce/\w∉cp:=by
 have k:∀{l:List Str},(∀x∈l,x∈cQ++cm++ce++cp)->w∉l:=λhl hw=>by rw [qv w (hl w hw)]at h;cases h
 exact⟨k (by decide +kernel),k (by decide +kernel),k (by decide +kernel),k (by decide +kernel)⟩
theorem wlt {W:List Str}{pl:Nat}{w:Str} (hW:∀w∈W,w.length<=400) (h:W[pl]?=some w):w.length < sizeLine:=Nat.lt_of_le_of_lt (hW w (List.mem_of_getElem? h)) (by decide)
theorem ple {W:List Str}{pl:Nat}{w:Str} (h:W[pl]?=some w):pl+1<=W.length:=(List.getElem?_eq_some_iff.mp h).1
inductive SxI (B R:Addr) (w:Str) (r:Addr) (H:Hp) (E:XK):Prop
 | mk (lw:Addr) (ws:List Str) (pl:Nat) (op f:Int) (p:Nat) (rs:List Ro) (hw:w∈cQ) (hf:bM w=some rs) (h:RdAt R H r lw ws pl op) (hpl:pl<=ws.length) (hW:∀w∈ws,w.length<=400) (hC:Cn (ws.drop pl) rs f op pl=.bad p) (hE:dR B r p H E):SxI B R w r H E
noncomputable def jC (B R:Addr):Sp:=λvs H _ E=>∃(r:Addr) (w:Str),vs=[.ref r,.str w]/\SxI B R w r H E
noncomputable def fo (c:Cs) (B R:Addr):Sp:=λvs H Q E=>eW c R vs H Q E\/jC B R vs H Q E
theorem sgl_of {w:Str} (h:w∈cQ):w=Str.ofString "number"\/w=Str.ofString "value"\/w=Str.ofString "since"\/w=Str.ofString "part"\/w=Str.ofString "change":=by
 rcases List.mem_cons.mp h with h | h
 ·exact .inl h
 rcases List.mem_cons.mp h with h | h
 ·exact .inr (.inl h)
 rcases List.mem_cons.mp h with h | h
 ·exact .inr (.inr (.inl h))
 rcases List.mem_cons.mp h with h | h
 ·exact .inr (.inr (.inr (.inl h)))
 ·exact .inr (.inr (.inr (.inr (List.mem_singleton.mp h))))
theorem gi {W:List Str}{f o:Int}{pl p:Nat} (h:Cn W [] f o pl=.bad p):False:=by rw [lE]at h;cases h
theorem nN {c:Cs}{f f1 f2 f3 f4 f5 f6 f7 f8 f9 R B:Addr}{fd:FuncData} (F:Fun K "single_here" "single_here" iH f fd) (N:Free mg) (Z:Con mg){fd1:FuncData} (MV_:MCX P w K mg base R "value_here" 5 ["self"] [] [] (oA B R) f1 fd1){fd2:FuncData} (MD:MCX P w K mg base R "day_here" 5 ["self", "earliest"] [] [] (gD B R) f2 fd2){fd3:FuncData} (MK:MCX P w K mg base R "key_here" 4 ["self"] [] [] (oG B R) f3 fd3){fd4:FuncData} (MN:MCX P w K mg base R "number_here" 4 ["self", "low", "high"] [] [] (iD B R) f4 fd4){fd5:FuncData} (KNum:MkC P w K mg base "Number" 3 ["self", "number"] (mZ K) c.num f5 fd5){fd6:FuncData} (KVal:MkC P w K mg base "Value" 3 ["self", "key", "day"] (mW K) c.val f6 fd6){fd7:FuncData} (KSnc:MkC P w K mg base "Since" 3 ["self", "key", "bound", "first", "last"] (mX K) c.snc f7 fd7){fd8:FuncData} (KPrt:MkC P w K mg base "Part" 3 ["self", "one", "other", "first", "last"] (mY K) c.prt f8 fd8){fd9:FuncData} (KChg:MkC P w K mg base "Change" 3 ["self", "rank", "key", "first", "last"] (n6 K) c.chg f9 fd9):FnOk P w K mg base (CXR P w) 6 f fd ["reader", "word"] (jC B R):=by
 obtain⟨t1,c1⟩:=Z.rank
 refine F.okX (k:=5) bh (λvs H Q E h=>?_) (λcdv A outer s H vs Q E hr h=>?_)
 ·obtain⟨r,w,rfl,_⟩:=h
  rfl
 ·obtain⟨r,w,rfl,lw,ws,pl,op,f,p,rs,hw,hf,h,hpl,hW,hC,hE⟩:=h
  have hu:=aM hr
  refine⟨_,(ad (aO (aC bc (pv 1) ah (aE _)) (af (av (bF KNum.km KNum.ok (hr.mono (by decide)) rfl KNum.nm KNum.bd .nil ar (aa (aK (pv 0) MV_.cl MV_.mt MV_.ok (hr.mono (by decide)) MV_.bd MV_.dv bp) ac)))) ay)
   (ad (aO (aC bc (pv 1) ah (aE _)) (ad (ax (i:=2) bh.nd rfl (Or.inl rfl) (aK (pv 0) MK.cl MK.mt MK.ok (hr.mono (by decide)) MK.bd MK.dv bp))
   (af (av (bF KVal.km KVal.ok (hr.mono (by decide)) rfl KVal.nm KVal.bd .nil ar (aa (pv 2) (aa (aW (pv 0) MD.cl MD.mt MD.ok (hr.mono (by decide)) MD.bd MD.dv bp (aa ag ac)) ac)))))) ay)
   (ad (aO (aC bc (pv 1) ah (aE _)) (ad (ax (i:=2) bh.nd rfl (Or.inl rfl) (aK (pv 0) MK.cl MK.mt MK.ok (hr.mono (by decide)) MK.bd MK.dv bp))
   (ad (ax (i:=3) bh.nd rfl (Or.inl rfl) (aK (pv 0) MV_.cl MV_.mt MV_.ok (hr.mono (by decide)) MV_.bd MV_.dv bp))
   (ad (ax (i:=4) bh.nd rfl (Or.inl rfl) (aW (pv 0) MD.cl MD.mt MD.ok (hr.mono (by decide)) MD.bd MD.dv bp (aa ag ac)))
   (af (av (bF KSnc.km KSnc.ok (hr.mono (by decide)) rfl KSnc.nm KSnc.bd .nil ar (aa (pv 2) (aa (pv 3) (aa (pv 4) (aa (aW (pv 0) MD.cl MD.mt MD.ok (hr.mono (by decide)) MD.bd MD.dv bp (aa (pv 4) ac)) ac)))))))))) ay)
   (ad (aO (aC bc (pv 1) ah (aE _)) (ad (ax (i:=5) bh.nd rfl (Or.inl rfl) (aK (pv 0) MK.cl MK.mt MK.ok (hr.mono (by decide)) MK.bd MK.dv bp))
   (ad (ax (i:=6) bh.nd rfl (Or.inl rfl) (aK (pv 0) MK.cl MK.mt MK.ok (hr.mono (by decide)) MK.bd MK.dv bp))
   (ad (ax (i:=4) bh.nd rfl (Or.inl rfl) (aW (pv 0) MD.cl MD.mt MD.ok (hr.mono (by decide)) MD.bd MD.dv bp (aa ag ac)))
   (af (av (bF KPrt.km KPrt.ok (hr.mono (by decide)) rfl KPrt.nm KPrt.bd .nil ar (aa (pv 5) (aa (pv 6) (aa (pv 4) (aa (aW (pv 0) MD.cl MD.mt MD.ok (hr.mono (by decide)) MD.bd MD.dv bp (aa (pv 4) ac)) ac)))))))))) ay)
   (ad (ax (i:=7) bh.nd rfl (Or.inl rfl) (aW (pv 0) MN.cl MN.mt MN.ok (hr.mono (by decide)) MN.bd MN.dv bp (aa ag (aa (b6 (v:=.int 400) (by rfl) c1 ⟨_,rfl⟩) ac))))
   (ad (ax (i:=2) bh.nd rfl (Or.inl rfl) (aK (pv 0) MK.cl MK.mt MK.ok (hr.mono (by decide)) MK.bd MK.dv bp))
   (ad (ax (i:=4) bh.nd rfl (Or.inl rfl) (aW (pv 0) MD.cl MD.mt MD.ok (hr.mono (by decide)) MD.bd MD.dv bp (aa ag ac)))
   (af (av (bF KChg.km KChg.ok (hr.mono (by decide)) rfl KChg.nm KChg.bd .nil ar (aa (pv 7) (aa (pv 2) (aa (pv 4) (aa (aW (pv 0) MD.cl MD.mt MD.ok (hr.mono (by decide)) MD.bd MD.dv bp (aa (pv 4) ac)) ac)))))))))))))),?_⟩
  rcases sgl_of hw with rfl | rfl | rfl | rfl | rfl
  ·cases (show some ([.n]:List Ro)=some rs from hf)
   refine ae (aq ⟨_,rfl,rfl,_,rfl,?_⟩)
   refine b5 ?_
   obtain⟨dx0,ho0⟩:=h.ob
   rcases Cn_bad hC with⟨rfl,ms⟩ | ⟨x0,hx0,st0,hC⟩
   ·exact az ⟨_,rfl,r,dx0,_,rfl,ho0,aG _ _ _ (by decide +kernel) (by decide +kernel) (by decide +kernel),.inr ⟨r,lw,ws,_,op,rfl,h,hpl,(Miss.num (λ_=>rfl) hW ms),hE⟩⟩
   ·exact(gi hC).elim
  ·cases (show some ([.k,.d]:List Ro)=some rs from hf)
   refine ae (aq ⟨_,rfl,rfl,_,rfl,?_⟩)
   rw [show decide (V.str (Str.ofString "value")=V.str (Str.ofString "number"))=false from by decide +kernel]
   refine aF (ai ?_)
   dsimp only
   refine ae (aq ⟨_,rfl,rfl,_,rfl,?_⟩)
   refine b5 ?_
   obtain⟨dx0,ho0⟩:=h.ob
   rcases Cn_bad hC with⟨rfl,ms⟩ | ⟨x0,hx0,st0,hC⟩
   ·exact ae (ao ⟨_,rfl,r,dx0,_,rfl,ho0,aG _ _ _ (by decide +kernel) (by decide +kernel) (by decide +kernel),.inr ⟨r,lw,ws,_,op,rfl,h,hpl,(Miss.as (r:=.k) (λ_ _ s=>s) hW ms),hE⟩⟩)
   refine ae (ao ⟨_,rfl,r,dx0,_,rfl,ho0,aG _ _ _ (by decide +kernel) (by decide +kernel) (by decide +kernel),.inl ⟨r,lw,ws,_,op,x0,rfl,h,hx0,wlt hW hx0,st0,λH0 p0 h0_=>?_⟩⟩)
   dsimp only [aA,List.set_cons_zero,List.set_cons_succ]
   have hE0:=hE.step p0 h0_
   have hpl0:=ple hx0
   obtain⟨dx1,ho1⟩:=h0_.ob
   rcases Cn_bad hC with⟨rfl,ms⟩ | ⟨x1,hx1,st1,hC⟩
   ·exact az ⟨_,rfl,_,rfl,r,dx1,_,rfl,ho1,aG _ _ _ (by decide +kernel) (by decide +kernel) (by decide +kernel),.inr ⟨r,lw,ws,_,op,0,rfl,h0_,hpl0,(Miss.num (λ_=>rfl) hW ms),hE0⟩⟩
   ·exact(gi hC).elim
  ·cases (show some ([.k,.n,.f,.l]:List Ro)=some rs from hf)
   refine ae (aq ⟨_,rfl,rfl,_,rfl,?_⟩)
   rw [show decide (V.str (Str.ofString "since")=V.str (Str.ofString "number"))=false from by decide +kernel]
   refine aF (ai ?_)
   dsimp only
   refine ae (aq ⟨_,rfl,rfl,_,rfl,?_⟩)
   rw [show decide (V.str (Str.ofString "since")=V.str (Str.ofString "value"))=false from by decide +kernel]
   refine aF (ai ?_)
   dsimp only
   refine ae (aq ⟨_,rfl,rfl,_,rfl,?_⟩)
   refine b5 ?_
   obtain⟨dx0,ho0⟩:=h.ob
   rcases Cn_bad hC with⟨rfl,ms⟩ | ⟨x0,hx0,st0,hC⟩
   ·exact ae (ao ⟨_,rfl,r,dx0,_,rfl,ho0,aG _ _ _ (by decide +kernel) (by decide +kernel) (by decide +kernel),.inr ⟨r,lw,ws,_,op,rfl,h,hpl,(Miss.as (r:=.k) (λ_ _ s=>s) hW ms),hE⟩⟩)
   refine ae (ao ⟨_,rfl,r,dx0,_,rfl,ho0,aG _ _ _ (by decide +kernel) (by decide +kernel) (by decide +kernel),.inl ⟨r,lw,ws,_,op,x0,rfl,h,hx0,wlt hW hx0,st0,λH0 p0 h0_=>?_⟩⟩)
   dsimp only [aA,List.set_cons_zero,List.set_cons_succ]
   have hE0:=hE.step p0 h0_
   have hpl0:=ple hx0
   obtain⟨dx1,ho1⟩:=h0_.ob
   rcases Cn_bad hC with⟨rfl,ms⟩ | ⟨x1,hx1,st1,hC⟩
   ·exact ae (ao ⟨_,rfl,r,dx1,_,rfl,ho1,aG _ _ _ (by decide +kernel) (by decide +kernel) (by decide +kernel),.inr ⟨r,lw,ws,_,op,rfl,h0_,hpl0,(Miss.num (λ_=>rfl) hW ms),hE0⟩⟩)
   refine ae (ao ⟨_,rfl,r,dx1,_,rfl,ho1,aG _ _ _ (by decide +kernel) (by decide +kernel) (by decide +kernel),.inl ⟨r,lw,ws,_,op,_,x1,rfl,h0_,hx1,wlt hW hx1,(eA st1).1,λH1 p1 h1_=>?_⟩⟩)
   dsimp only [aA,List.set_cons_zero,List.set_cons_succ]
   have hE1:=hE0.step p1 h1_
   have hpl1:=ple hx1
   obtain⟨dx2,ho2⟩:=h1_.ob
   rcases Cn_bad hC with⟨rfl,ms⟩ | ⟨x2,hx2,st2,hC⟩
   ·exact ae (ao ⟨_,rfl,r,dx2,_,rfl,ho2,aG _ _ _ (by decide +kernel) (by decide +kernel) (by decide +kernel),.inr ⟨r,lw,ws,_,op,0,rfl,h1_,hpl1,(Miss.num (λ_=>rfl) hW ms),hE1⟩⟩)
   refine ae (ao ⟨_,rfl,r,dx2,_,rfl,ho2,aG _ _ _ (by decide +kernel) (by decide +kernel) (by decide +kernel),.inl ⟨r,lw,ws,_,op,0,_,x2,rfl,h1_,hx2,wlt hW hx2,(eA st2).1,λH2 p2 h2_=>?_⟩⟩)
   dsimp only [aA,List.set_cons_zero,List.set_cons_succ]
   have hE2:=hE1.step p2 h2_
   have hpl2:=ple hx2
   obtain⟨dx3,ho3⟩:=h2_.ob
   rcases Cn_bad hC with⟨rfl,ms⟩ | ⟨x3,hx3,st3,hC⟩
   ·exact az ⟨_,rfl,_,rfl,_,rfl,_,rfl,r,dx3,_,rfl,ho3,aG _ _ _ (by decide +kernel) (by decide +kernel) (by decide +kernel),_,rfl,.inr ⟨r,lw,ws,_,op,(aZ x2),rfl,h2_,hpl2,(Miss.num (λ_=>rfl) hW ms),hE2⟩⟩
   ·exact(gi hC).elim
  ·cases (show some ([.k,.k,.f,.l]:List Ro)=some rs from hf)
   refine ae (aq ⟨_,rfl,rfl,_,rfl,?_⟩)
   rw [show decide (V.str (Str.ofString "part")=V.str (Str.ofString "number"))=false from by decide +kernel]
   refine aF (ai ?_)
   dsimp only
   refine ae (aq ⟨_,rfl,rfl,_,rfl,?_⟩)
   rw [show decide (V.str (Str.ofString "part")=V.str (Str.ofString "value"))=false from by decide +kernel]
   refine aF (ai ?_)
   dsimp only
   refine ae (aq ⟨_,rfl,rfl,_,rfl,?_⟩)
   rw [show decide (V.str (Str.ofString "part")=V.str (Str.ofString "since"))=false from by decide +kernel]
   refine aF (ai ?_)
   dsimp only
   refine ae (aq ⟨_,rfl,rfl,_,rfl,?_⟩)
   refine b5 ?_
   obtain⟨dx0,ho0⟩:=h.ob
   rcases Cn_bad hC with⟨rfl,ms⟩ | ⟨x0,hx0,st0,hC⟩
   ·exact ae (ao ⟨_,rfl,r,dx0,_,rfl,ho0,aG _ _ _ (by decide +kernel) (by decide +kernel) (by decide +kernel),.inr ⟨r,lw,ws,_,op,rfl,h,hpl,(Miss.as (r:=.k) (λ_ _ s=>s) hW ms),hE⟩⟩)
   refine ae (ao ⟨_,rfl,r,dx0,_,rfl,ho0,aG _ _ _ (by decide +kernel) (by decide +kernel) (by decide +kernel),.inl ⟨r,lw,ws,_,op,x0,rfl,h,hx0,wlt hW hx0,st0,λH0 p0 h0_=>?_⟩⟩)
   dsimp only [aA,List.set_cons_zero,List.set_cons_succ]
   have hE0:=hE.step p0 h0_
   have hpl0:=ple hx0
   obtain⟨dx1,ho1⟩:=h0_.ob
   rcases Cn_bad hC with⟨rfl,ms⟩ | ⟨x1,hx1,st1,hC⟩
   ·exact ae (ao ⟨_,rfl,r,dx1,_,rfl,ho1,aG _ _ _ (by decide +kernel) (by decide +kernel) (by decide +kernel),.inr ⟨r,lw,ws,_,op,rfl,h0_,hpl0,(Miss.as (r:=.k) (λ_ _ s=>s) hW ms),hE0⟩⟩)
   refine ae (ao ⟨_,rfl,r,dx1,_,rfl,ho1,aG _ _ _ (by decide +kernel) (by decide +kernel) (by decide +kernel),.inl ⟨r,lw,ws,_,op,x1,rfl,h0_,hx1,wlt hW hx1,st1,λH1 p1 h1_=>?_⟩⟩)
   dsimp only [aA,List.set_cons_zero,List.set_cons_succ]
   have hE1:=hE0.step p1 h1_
   have hpl1:=ple hx1
   obtain⟨dx2,ho2⟩:=h1_.ob
   rcases Cn_bad hC with⟨rfl,ms⟩ | ⟨x2,hx2,st2,hC⟩
   ·exact ae (ao ⟨_,rfl,r,dx2,_,rfl,ho2,aG _ _ _ (by decide +kernel) (by decide +kernel) (by decide +kernel),.inr ⟨r,lw,ws,_,op,0,rfl,h1_,hpl1,(Miss.num (λ_=>rfl) hW ms),hE1⟩⟩)
   refine ae (ao ⟨_,rfl,r,dx2,_,rfl,ho2,aG _ _ _ (by decide +kernel) (by decide +kernel) (by decide +kernel),.inl ⟨r,lw,ws,_,op,0,_,x2,rfl,h1_,hx2,wlt hW hx2,(eA st2).1,λH2 p2 h2_=>?_⟩⟩)
   dsimp only [aA,List.set_cons_zero,List.set_cons_succ]
   have hE2:=hE1.step p2 h2_
   have hpl2:=ple hx2
   obtain⟨dx3,ho3⟩:=h2_.ob
   rcases Cn_bad hC with⟨rfl,ms⟩ | ⟨x3,hx3,st3,hC⟩
   ·exact az ⟨_,rfl,_,rfl,_,rfl,_,rfl,r,dx3,_,rfl,ho3,aG _ _ _ (by decide +kernel) (by decide +kernel) (by decide +kernel),_,rfl,.inr ⟨r,lw,ws,_,op,(aZ x2),rfl,h2_,hpl2,(Miss.num (λ_=>rfl) hW ms),hE2⟩⟩
   ·exact(gi hC).elim
  ·cases (show some ([.c,.k,.f,.l]:List Ro)=some rs from hf)
   refine ae (aq ⟨_,rfl,rfl,_,rfl,?_⟩)
   rw [show decide (V.str (Str.ofString "change")=V.str (Str.ofString "number"))=false from by decide +kernel]
   refine aF (ai ?_)
   dsimp only
   refine ae (aq ⟨_,rfl,rfl,_,rfl,?_⟩)
   rw [show decide (V.str (Str.ofString "change")=V.str (Str.ofString "value"))=false from by decide +kernel]
   refine aF (ai ?_)
   dsimp only
   refine ae (aq ⟨_,rfl,rfl,_,rfl,?_⟩)
   rw [show decide (V.str (Str.ofString "change")=V.str (Str.ofString "since"))=false from by decide +kernel]
   refine aF (ai ?_)
   dsimp only
   refine ae (aq ⟨_,rfl,rfl,_,rfl,?_⟩)
   rw [show decide (V.str (Str.ofString "change")=V.str (Str.ofString "part"))=false from by decide +kernel]
   refine aF (ai ?_)
   dsimp only
   obtain⟨dx0,ho0⟩:=h.ob
   rcases Cn_bad hC with⟨rfl,ms⟩ | ⟨x0,hx0,st0,hC⟩
   ·exact ae (ao ⟨_,rfl,r,dx0,_,rfl,ho0,aG _ _ _ (by decide +kernel) (by decide +kernel) (by decide +kernel),.inr ⟨r,lw,ws,_,op,1,400,rfl,h,hpl,(Miss.num (λ_=>rfl) hW ms),hE⟩⟩)
   refine ae (ao ⟨_,rfl,r,dx0,_,rfl,ho0,aG _ _ _ (by decide +kernel) (by decide +kernel) (by decide +kernel),.inl ⟨r,lw,ws,_,op,1,400,_,x0,rfl,h,hx0,wlt hW hx0,(eA st0).1,λH0 p0 h0_=>?_⟩⟩)
   dsimp only [aA,List.set_cons_zero,List.set_cons_succ]
   have hE0:=hE.step p0 h0_
   have hpl0:=ple hx0
   obtain⟨dx1,ho1⟩:=h0_.ob
   rcases Cn_bad hC with⟨rfl,ms⟩ | ⟨x1,hx1,st1,hC⟩
   ·exact ae (ao ⟨_,rfl,r,dx1,_,rfl,ho1,aG _ _ _ (by decide +kernel) (by decide +kernel) (by decide +kernel),.inr ⟨r,lw,ws,_,op,rfl,h0_,hpl0,(Miss.as (r:=.k) (λ_ _ s=>s) hW ms),hE0⟩⟩)
   refine ae (ao ⟨_,rfl,r,dx1,_,rfl,ho1,aG _ _ _ (by decide +kernel) (by decide +kernel) (by decide +kernel),.inl ⟨r,lw,ws,_,op,x1,rfl,h0_,hx1,wlt hW hx1,st1,λH1 p1 h1_=>?_⟩⟩)
   dsimp only [aA,List.set_cons_zero,List.set_cons_succ]
   have hE1:=hE0.step p1 h1_
   have hpl1:=ple hx1
   obtain⟨dx2,ho2⟩:=h1_.ob
   rcases Cn_bad hC with⟨rfl,ms⟩ | ⟨x2,hx2,st2,hC⟩
   ·exact ae (ao ⟨_,rfl,r,dx2,_,rfl,ho2,aG _ _ _ (by decide +kernel) (by decide +kernel) (by decide +kernel),.inr ⟨r,lw,ws,_,op,0,rfl,h1_,hpl1,(Miss.num (λ_=>rfl) hW ms),hE1⟩⟩)
   refine ae (ao ⟨_,rfl,r,dx2,_,rfl,ho2,aG _ _ _ (by decide +kernel) (by decide +kernel) (by decide +kernel),.inl ⟨r,lw,ws,_,op,0,_,x2,rfl,h1_,hx2,wlt hW hx2,(eA st2).1,λH2 p2 h2_=>?_⟩⟩)
   dsimp only [aA,List.set_cons_zero,List.set_cons_succ]
   have hE2:=hE1.step p2 h2_
   have hpl2:=ple hx2
   obtain⟨dx3,ho3⟩:=h2_.ob
   rcases Cn_bad hC with⟨rfl,ms⟩ | ⟨x3,hx3,st3,hC⟩
   ·exact az ⟨_,rfl,_,rfl,_,rfl,_,rfl,r,dx3,_,rfl,ho3,aG _ _ _ (by decide +kernel) (by decide +kernel) (by decide +kernel),_,rfl,.inr ⟨r,lw,ws,_,op,(aZ x2),rfl,h2_,hpl2,(Miss.num (λ_=>rfl) hW ms),hE2⟩⟩
   ·exact(gi hC).elim
inductive QxI (B R:Addr) (n:Nat) (r:Addr) (H:Hp) (E:XK):Prop
 | mk (lw:Addr) (ws:List Str) (pl:Nat) (op f:Int) (p:Nat) (hn:(n:Int)+op=3) (hn3:n<=3) (h:RdAt R H r lw ws pl op) (hpl:pl<=ws.length) (hW:∀w∈ws,w.length<=400) (hC:Cn (ws.drop pl) [.q] f op pl=.bad p) (hE:dR B r p H E):QxI B R n r H E
noncomputable def vQ (B R:Addr) (n:Nat):Sp:=λvs H _ E=>∃r,vs=[.ref r]/\QxI B R n r H E
noncomputable def lM (c:Cs) (B R:Addr) (n:Nat):Sp:=λvs H Q E=>lN c R n vs H Q E\/vQ B R n vs H Q E
inductive QsX (B R:Addr) (n:Nat) (j:Nat) (r:Addr) (H:Hp) (E:XK):Prop
 | mk (lw:Addr) (ws:List Str) (pl:Nat) (op f:Int) (p:Nat) (hn:(n:Int)+op=3) (hn3:n<=3) (hj:j<=4) (h:RdAt R H r lw ws pl op) (hpl:pl<=ws.length) (hW:∀w∈ws,w.length<=400) (hC:Cn (ws.drop pl) (eS j) f op pl=.bad p) (hE:dR B r p H E):QsX B R n j r H E
noncomputable def qZ (B R:Addr) (n:Nat):Sp:=λvs H _ E=>∃(r:Addr) (j:Nat),vs=[.ref r,.int (j:Int)]/\QsX B R n j r H E
noncomputable def kE (c:Cs) (B R:Addr) (n:Nat):Sp:=λvs H Q E=>iu c R n vs H Q E\/qZ B R n vs H Q E
noncomputable def vR (c:Cs) (B R:Addr) (n:Nat):Sp:=λvs H Q E=>∃m,n=m+1/\lM c B R m vs H Q E
theorem qt {w:Str}{R:List Ro} (hs:w∈cQ):w∉cm/\w∉ce/\w∉cp:=by
 have:∀w∈cQ,w∉cm/\w∉ce/\w∉cp:=by decide +kernel
 exact this w hs
theorem xN {c:Cs}{n:Nat}{f f1 f2 f3 f4 f5 f6 f7 f8 R B:Addr}{fd:FuncData} (F:Fun K "question_here" "question_here" sQh f fd) (N:Free mg) (ZT:ConT K mg){fd1:FuncData} (MB:MCX P w K mg base R "beginning_here" 4 ["self"] [] [] (kJ B R) f1 fd1){fd2:FuncData} (MD:MCX P w K mg base R "day_here" 5 ["self", "earliest"] [] [] (gD B R) f2 fd2){fd3:FuncData} (ME:MCX P w K mg base R "keys_here" 4 ["self"] [] [] (gA B R) f3 fd3){fd4:FuncData} (CS:CalX P w K mg base "questions_here" (2 * n+7) ["reader", "count"] (kE c B R n) f4 fd4){fd5:FuncData} (CG:CalX P w K mg base "single_here" 6 ["reader", "word"] (fo c B R) f5 fd5){fd6:FuncData} (KGth:MkC P w K mg base "Gathering" 3 ["self", "word", "keys", "first", "last"] (fW K) c.gth f6 fd6){fd7:FuncData} (KRck:MkC P w K mg base "Reckoning" 4 ["self", "word", "one", "other"] (dW K c) c.rck f7 fd7){fd8:FuncData} (KChc:MkC P w K mg base "Choice" 4 ["self", "word", "one", "other", "chosen", "otherwise"] (dX K c) c.chc f8 fd8):FnOk P w K mg base (CXR P w) (2 * n+8) f fd ["reader"] (vQ B R n):=by
 obtain⟨a2,c2,q2⟩:=ZT.gth
 obtain⟨a3,c3,q3⟩:=ZT.rck
 obtain⟨a4,c4,q4⟩:=ZT.chc
 refine F.okX (k:=2 * n+7) iA (λvs H Q E h=>?_) (λcdv A outer s H vs Q E hr h=>?_)
 ·obtain⟨r,rfl,_⟩:=h
  rfl
 ·obtain⟨r,rfl,lw,ws,pl,op,f,p,hn,hn3,h,hpl,hW,hC,hE⟩:=h
  have hu:=aM hr
  refine⟨_,(ad (ax (i:=1) iA.nd rfl (Or.inl rfl) (aK (pv 0) MB.cl MB.mt MB.ok (hr.mono (by omega)) MB.bd MB.dv bp))
   (ad (aO (aC bw (pv 1) (b6 (v:=.ref a2) (by rfl) c2 rfl) (by with_unfolding_all rfl)) (ad (ax (i:=2) iA.nd rfl (Or.inl rfl) (aK (pv 0) ME.cl ME.mt ME.ok (hr.mono (by omega)) ME.bd ME.dv bp))
   (ad (ax (i:=3) iA.nd rfl (Or.inl rfl) (aW (pv 0) MD.cl MD.mt MD.ok (hr.mono (by omega)) MD.bd MD.dv bp (aa ag ac)))
   (af (av (bF KGth.km KGth.ok (hr.mono (by omega)) rfl KGth.nm KGth.bd .nil ar (aa (pv 1) (aa (pv 2) (aa (pv 3) (aa (aW (pv 0) MD.cl MD.mt MD.ok (hr.mono (by omega)) MD.bd MD.dv bp (aa (pv 3) ac)) ac))))))))) ay)
   (ad (aO (aC bw (pv 1) (b6 (v:=.ref a3) (by rfl) c3 rfl) (by with_unfolding_all rfl)) (ad (ax (i:=4) iA.nd rfl (Or.inl rfl) (au CS.ok (hr.mono (by omega)) rfl CS.nm CS.kp CS.bd .nil bp (aa (pv 0) (aa ag ac))))
   (af (av (bF KRck.km KRck.ok (hr.mono (by omega)) rfl KRck.nm KRck.bd .nil ar (aa (pv 1) (aa (b9 aT (pv 4) ag (λ_ _=>rfl)) (aa (b9 aT (pv 4) ag (λ_ _=>rfl)) ac))))))) ay)
   (ad (aO (aC bw (pv 1) (b6 (v:=.ref a4) (by rfl) c4 rfl) (by with_unfolding_all rfl)) (ad (ax (i:=4) iA.nd rfl (Or.inl rfl) (au CS.ok (hr.mono (by omega)) rfl CS.nm CS.kp CS.bd .nil bp (aa (pv 0) (aa ag ac))))
   (af (av (bF KChc.km KChc.ok (hr.mono (by omega)) rfl KChc.nm KChc.bd .nil ar (aa (pv 1) (aa (b9 aT (pv 4) ag (λ_ _=>rfl)) (aa (b9 aT (pv 4) ag (λ_ _=>rfl)) (aa (b9 aT (pv 4) ag (λ_ _=>rfl)) (aa (b9 aT (pv 4) ag (λ_ _=>rfl)) ac))))))))) ay)
   (af (av (au CG.ok (hr.mono (by omega)) rfl CG.nm CG.kp CG.bd .nil bp (aa (pv 0) (aa (pv 1) ac))))))))),?_⟩
  obtain⟨dx0,ho0⟩:=h.ob
  rcases Cn_bad hC with⟨rfl,ms⟩ | ⟨w0,hx0,st0,hC⟩
  ·exact ae (ao ⟨_,rfl,r,dx0,_,rfl,ho0,aG _ _ _ (by decide +kernel) (by decide +kernel) (by decide +kernel),.inr ⟨r,lw,ws,_,op,rfl,h,hpl,(Miss.as (r:=.q) (λ_ _ s=>yC s) hW ms),hE⟩⟩)
  rw [List.append_nil]at hC
  have hC:Cn (ws.drop (pl+1)) ((bM w0).getD []) f op (pl+1)=.bad p:=hC
  have hfg:=forms_get st0
  have hin:w0∈cQ\/w0∈cm\/w0∈ce\/w0∈cp:=by
   have s5:∀{x:Str},x∈cQ->w0=x->w0∈cQ\/w0∈cm\/w0∈ce\/w0∈cp:=λhx e=>.inl (by rw [e];exact hx)
   rcases hfg with⟨e,_⟩ | ⟨e,_⟩ | ⟨e,_⟩ | ⟨e,_⟩ | ⟨e,_⟩ | ⟨e,_⟩ | ⟨e,_⟩ | ⟨e,_⟩
   ·exact s5 (by decide +kernel) e
   ·exact s5 (by decide +kernel) e
   ·exact s5 (by decide +kernel) e
   ·exact s5 (by decide +kernel) e
   ·exact s5 (by decide +kernel) e
   ·exact .inr (.inl e)
   ·exact .inr (.inr (.inl e))
   ·exact .inr (.inr (.inr e))
  refine ae (ao ⟨_,rfl,r,dx0,_,rfl,ho0,aG _ _ _ (by decide +kernel) (by decide +kernel) (by decide +kernel),.inl ⟨r,lw,ws,pl,op,w0,rfl,h,hx0,hin,λH1 p1 h1=>?_⟩⟩)
  dsimp only [aA,List.set_cons_zero,List.set_cons_succ]
  have hE1:=hE.step p1 h1
  have hpl1:=ple hx0
  have brn:(∀w∈ce,w∉cm)/\(∀w∈cp,w∉cm/\w∉ce):=lC
  by_cases hs:w0∈cQ
  ·obtain⟨z1,z2,z3⟩:=qt (R:=[]) hs
   obtain⟨rs,hrs⟩:=Option.isSome_iff_exists.mp st0
   rw [hrs]at hC
   refine ae (aq ⟨_,rfl,a2,_,rfl,.inr (q2 _),rfl,aR _,?_⟩)
   rw [if_neg Bool.false_ne_true,bb]
   refine⟨_,rfl,?_⟩
   rw [decide_eq_false z1]
   refine aF (ai ?_)
   dsimp only
   refine ae (aq ⟨_,rfl,a3,_,rfl,.inr (q3 _),rfl,aR _,?_⟩)
   rw [if_neg Bool.false_ne_true,bb]
   refine⟨_,rfl,?_⟩
   rw [decide_eq_false z2]
   refine aF (ai ?_)
   dsimp only
   refine ae (aq ⟨_,rfl,a4,_,rfl,.inr (q4 _),rfl,aR _,?_⟩)
   rw [if_neg Bool.false_ne_true,bb]
   refine⟨_,rfl,?_⟩
   rw [decide_eq_false z3]
   refine aF (ai ?_)
   dsimp only
   exact az ⟨_,rfl,_,rfl,.inr ⟨r,w0,rfl,lw,ws,_,op,f,p,rs,hs,hrs,h1,hpl1,hW,hC,hE1⟩⟩
  have five:∀{x:Str}{P:Prop},x∈cQ->w0=x->P:=λhx e=>absurd (by rw [e];exact hx) hs
  rcases hfg with⟨e,_⟩ | ⟨e,_⟩ | ⟨e,_⟩ | ⟨e,_⟩ | ⟨e,_⟩ | ⟨hg,e⟩ | ⟨hg,e⟩ | ⟨hg,e⟩
  ·exact five (by decide +kernel) e
  ·exact five (by decide +kernel) e
  ·exact five (by decide +kernel) e
  ·exact five (by decide +kernel) e
  ·exact five (by decide +kernel) e
  ·rw [e]at hC
   have hC:Cn (ws.drop (pl+1)) [.ks,.f,.l] f op (pl+1)=.bad p:=hC
   clear h hE hpl
   have h:=h1
   have hE:=hE1
   have hpl:=hpl1
   refine ae (aq ⟨_,rfl,a2,_,rfl,.inr (q2 _),rfl,aR _,?_⟩)
   rw [if_neg Bool.false_ne_true,bb]
   refine⟨_,rfl,?_⟩
   rw [decide_eq_true hg]
   refine b5 ?_
   obtain⟨dx0,ho0⟩:=h.ob
   rcases Cn_bad hC with⟨rfl,ms⟩ | ⟨x0,hx0,st0,hC⟩
   ·exact ae (ao ⟨_,rfl,r,dx0,_,rfl,ho0,aG _ _ _ (by decide +kernel) (by decide +kernel) (by decide +kernel),.inr ⟨r,lw,ws,_,op,rfl,h,hpl,(Miss.as (r:=.ks) (λ_ h s=>⟨h,s⟩) hW ms),hE⟩⟩)
   obtain⟨ks,ek,k1,k8,knd,hk⟩:=pz st0
   refine ae (ao ⟨_,rfl,r,dx0,_,rfl,ho0,aG _ _ _ (by decide +kernel) (by decide +kernel) (by decide +kernel),.inl ⟨r,lw,ws,_,op,ks,rfl,h,(by rw [hx0,ek]),(show (jc ks).length<=sizeLine from by rw [<- ek];exact Nat.le_of_lt (wlt hW hx0)),k1,k8,knd,(λk m=>⟨hk k m,nl (hk k m)⟩),λlk H0 nlk p0 elk h0_=>?_⟩⟩)
   dsimp only [aA,List.set_cons_zero,List.set_cons_succ]
   have hE0:=hE.step p0 h0_
   have hpl0:=ple hx0
   obtain⟨dx1,ho1⟩:=h0_.ob
   rcases Cn_bad hC with⟨rfl,ms⟩ | ⟨x1,hx1,st1,hC⟩
   ·exact ae (ao ⟨_,rfl,r,dx1,_,rfl,ho1,aG _ _ _ (by decide +kernel) (by decide +kernel) (by decide +kernel),.inr ⟨r,lw,ws,_,op,0,rfl,h0_,hpl0,(Miss.num (λ_=>rfl) hW ms),hE0⟩⟩)
   refine ae (ao ⟨_,rfl,r,dx1,_,rfl,ho1,aG _ _ _ (by decide +kernel) (by decide +kernel) (by decide +kernel),.inl ⟨r,lw,ws,_,op,0,_,x1,rfl,h0_,hx1,wlt hW hx1,(eA st1).1,λH1 p1 h1_=>?_⟩⟩)
   dsimp only [aA,List.set_cons_zero,List.set_cons_succ]
   have hE1:=hE0.step p1 h1_
   have hpl1:=ple hx1
   obtain⟨dx2,ho2⟩:=h1_.ob
   rcases Cn_bad hC with⟨rfl,ms⟩ | ⟨x2,hx2,st2,hC⟩
   ·exact az ⟨_,rfl,_,rfl,_,rfl,_,rfl,r,dx2,_,rfl,ho2,aG _ _ _ (by decide +kernel) (by decide +kernel) (by decide +kernel),_,rfl,.inr ⟨r,lw,ws,_,op,(aZ x1),rfl,h1_,hpl1,(Miss.num (λ_=>rfl) hW ms),hE1⟩⟩
   ·exact(gi hC).elim
  ·rw [e]at hC
   have hC:Cn (ws.drop (pl+1)) (eS 2) f op (pl+1)=.bad p:=hC
   have zg:=brn.1 w0 hg
   refine ae (aq ⟨_,rfl,a2,_,rfl,.inr (q2 _),rfl,aR _,?_⟩)
   rw [if_neg Bool.false_ne_true,bb]
   refine⟨_,rfl,?_⟩
   rw [decide_eq_false zg]
   refine aF (ai ?_)
   dsimp only
   refine ae (aq ⟨_,rfl,a3,_,rfl,.inr (q3 _),rfl,aR _,?_⟩)
   rw [if_neg Bool.false_ne_true,bb]
   refine⟨_,rfl,?_⟩
   rw [decide_eq_true hg]
   refine b5 ?_
   exact ae (ao ⟨_,rfl,.inr ⟨r,2,rfl,lw,ws,_,op,f,p,hn,hn3,by decide,h1,hpl1,hW,hC,hE1⟩⟩)
  ·rw [e]at hC
   have hC:Cn (ws.drop (pl+1)) (eS 4) f op (pl+1)=.bad p:=hC
   obtain⟨zg,zr⟩:=brn.2 w0 hg
   refine ae (aq ⟨_,rfl,a2,_,rfl,.inr (q2 _),rfl,aR _,?_⟩)
   rw [if_neg Bool.false_ne_true,bb]
   refine⟨_,rfl,?_⟩
   rw [decide_eq_false zg]
   refine aF (ai ?_)
   dsimp only
   refine ae (aq ⟨_,rfl,a3,_,rfl,.inr (q3 _),rfl,aR _,?_⟩)
   rw [if_neg Bool.false_ne_true,bb]
   refine⟨_,rfl,?_⟩
   rw [decide_eq_false zr]
   refine aF (ai ?_)
   dsimp only
   refine ae (aq ⟨_,rfl,a4,_,rfl,.inr (q4 _),rfl,aR _,?_⟩)
   rw [if_neg Bool.false_ne_true,bb]
   refine⟨_,rfl,?_⟩
   rw [decide_eq_true hg]
   refine b5 ?_
   exact ae (ao ⟨_,rfl,.inr ⟨r,4,rfl,lw,ws,_,op,f,p,hn,hn3,by decide,h1,hpl1,hW,hC,hE1⟩⟩)
inductive QsWX (B R r lw li:Addr) (ws:List Str) (op:Int) (p j:Nat) (H:Hp) (m:Nat) (σ:St) (H2:Hp):Prop
 | mk (as:List Addr) (pl:Nat) (f:Int) (h0:as.length+m=j) (h1:σ=[some (.ref r),some (.int (j:Int)),some (.ref li)]) (h2:RdAt R H2 r lw ws pl op) (h3:pl<=ws.length) (h4:H2 li=some (.lst (as.map V.ref))) (h5:Cn (ws.drop pl) (eS m) f op pl=.bad p) (h6:Ofr r H H2):QsWX B R r lw li ws op p j H m σ H2
theorem uW {c:Cs}{n:Nat}{f f1 f2 f3 R B:Addr}{fd:FuncData} (F:Fun K "questions_here" "questions_here" lZ f fd) (N:Free mg){fd1:FuncData} (MO:MCX P w K mg base R "bracket_opens" 4 ["self"] [] [] (gx B R) f1 fd1){fd2:FuncData} (MX:MCX P w K mg base R "bracket_closes" 4 ["self"] [] [] (fq B R) f2 fd2){fd3:FuncData} (CQ:CalX P w K mg base "question_here" (2 * n+6) ["reader"] (vR c B R n) f3 fd3):FnOk P w K mg base (CXR P w) (2 * n+7) f fd ["reader", "count"] (qZ B R n):=by
 refine F.okX (k:=2 * n+6) oJ (λvs H Q E h=>?_) (λcdv A outer s H vs Q E hr h=>?_)
 ·obtain⟨r,j,rfl,_⟩:=h
  rfl
 ·obtain⟨r,j,rfl,lw,ws,pl,op,f,p,hn,hn3,hj,h,hpl,hW,hC,hE⟩:=h
  have hu:=aM hr
  refine⟨_,(ad (ax (i:=2) oJ.nd rfl (Or.inl rfl) (aH ac))
   (ad (j8 PassesOwn.leaving (aC eO (aI aQ (by rfl) N.len PySem.boot_len (aa (pv 2) ac)) (pv 1) (aE _)) (ad (aY (aK (pv 0) MO.cl MO.mt MO.ok (hr.mono (by omega)) MO.bd MO.dv bp))
   (ad (aY (bW PySem.F.plainAttrs_list PySem.F.slot_list_append PySem.F.type_list_append df (pv 2) (aa (au CQ.ok (hr.mono (by omega)) rfl CQ.nm CQ.kp CQ.bd .nil bp (aa (pv 0) ac)) ac)))
   (af (aY (aK (pv 0) MX.cl MX.mt MX.ok (hr.mono (by omega)) MX.bd MX.dv bp))))))
   (af (av (pv 2))))),?_⟩
  refine ae (ao ⟨by show 0<=sizeLine;decide,λli nli=>?_⟩)
  dsimp only [aA,List.set_cons_zero,List.set_cons_succ]
  obtain⟨g1,e1⟩:=laid (o:=.lst []) nli
  have h1:=h.keep g1
  have nlr:li≠r:=λz=>by obtain⟨d,e⟩:=h.ob;rw [z,e]at nli;cases nli
  have o1:Ofr r H (upd H li (.lst [])):=λb o e _=>g1 _ _ e
  generalize upd H li _=H1 at g1 e1 h1 o1 ⊢
  refine ae (j7 (QsWX B R r lw li ws op p j H) (m:=j) ⟨[],pl,f,by simp,rfl,h1,hpl,e1,hC,o1⟩ λmm σ H2 hh=>?_)
  obtain⟨as,pl2,f2,hlen,rfl,h2,hpl2,e2,hC2,o2⟩:=hh
  have hE2:=hE.step o2 h2
  refine⟨_,rfl,li,_,rfl,.inl (SqL.of e2),_,rfl,_,_,rfl,rfl,_,rfl,?_⟩
  rw [List.length_map]
  cases mm with
  | zero=>exact(gi hC2).elim
  | succ mm=>
   rw [decide_eq_true (by omega)]
   refine b5 ⟨QsWX B R r lw li ws op p j H mm,λσ' H' hh=>⟨mm,by omega,hh⟩,?_⟩
   obtain⟨dx2,ho2⟩:=h2.ob
   rcases Cn_bad (show Cn (ws.drop pl2) (.op::(([.q]:List Ro)++(.cl::eS mm))) f2 op pl2=.bad p from hC2) with⟨rfl,ms⟩ | ⟨x0,hx0,st0,hC3⟩
   ·exact ae (aS ⟨_,rfl,r,dx2,_,rfl,ho2,aG _ _ _ (by decide +kernel) (by decide +kernel) (by decide +kernel),.inr ⟨r,lw,ws,_,op,rfl,h2,hpl2,(Miss.as (r:=.op) (λ_ _ s=>s) hW ms),hE2⟩⟩)
   have st0:=Bool.and_eq_true_iff.mp st0
   have ex0:=of_decide_eq_true st0.1
   have ho3:=of_decide_eq_true st0.2
   refine ae (aS ⟨_,rfl,r,dx2,_,rfl,ho2,aG _ _ _ (by decide +kernel) (by decide +kernel) (by decide +kernel),.inl ⟨r,lw,ws,_,op,rfl,h2,(by rw [hx0,ex0]),ho3,λH3 o3 h3=>?_⟩⟩)
   dsimp only
   have e3:=o3 _ _ e2 nlr
   have hE3:=hE2.step o3 h3
   have hpl3:=ple hx0
   have hC3:Cn (ws.drop (pl2+1)) (([.q]:List Ro)++(.cl::eS mm)) f2 (op+1) (pl2+1)=.bad p:=hC3
   rw [oq]at hC3
   obtain⟨m,rfl⟩:∃m,n=m+1:=⟨n - 1,by omega⟩
   refine ae (aS ⟨_,rfl,.inl ⟨rfl,_,SqL.of e3⟩,?_⟩)
   cases hq:Cn (ws.drop (pl2+1)) [.q] f2 (op+1) (pl2+1) with
   | bad p'=>
    rw [hq]at hC3
    rw [Res.bad.inj (show Res.bad p'=Res.bad p from hC3)]at hq
    exact cy ⟨_,rfl,m,rfl,.inr ⟨r,rfl,lw,ws,_,op+1,f2,p,by omega,by omega,h3,hpl3,hW,hq,hE3⟩⟩
   | ok f4 o4 ws4 pl4=>
    rw [hq]at hC3
    obtain⟨nd,okn,ew,hp4,ho4⟩:=pG m (op+1) (by omega) _ _ _ _ _ _ _ hq
    have hC4:Cn ws4 (.cl::eS mm) f4 o4 pl4=.bad p:=hC3
    have ed:ws4=ws.drop pl4:=by
     have:=congrArg (List.drop (aL m nd).length) ew
     rw [List.drop_drop,List.drop_left]at this
     rw [hp4];exact this.symm
    have hp4':pl4<=ws.length:=by
     have:=congrArg List.length ew
     rw [List.length_drop,List.length_append]at this
     omega
    rw [ed,ho4]at hC4
    refine cy ⟨_,rfl,m,rfl,.inl ⟨r,nd,rfl,lw,ws,_,op+1,okn,h3,⟨ws4,ew.symm⟩,by omega,by omega,λx H4 nx o4' h4 qn=>?_⟩⟩
    rw [<- hp4]at h4
    have e4:=o4' _ _ e3 nlr
    refine⟨li,_,_,rfl,rfl,e4,?_,?_⟩
    ·rw [List.length_map];exact be (by omega)
    have h5:RdAt R (upd H4 li (.lst (as.map V.ref++[.ref x]))) r lw ws pl4 (op+1):=by
     obtain⟨d,e⟩:=h4.ob
     refine⟨⟨d,by rw [al (Ne.symm nlr)];exact e⟩,?_⟩
     rw [al (am h.wd nli)];exact h4.wd
    have o5:Ofr r H (upd H4 li (.lst (as.map V.ref++[.ref x]))):=λb o e nb=>by
     rw [al (am e nli)];exact o4' _ _ (o3 _ _ (o2 _ _ e nb) nb) nb
    have hE5:=hE.step o5 h5
    generalize hH5:upd H4 li _=H5 at h5 hE5 o5
    have e5:H5 li=some (.lst ((as++[x]).map V.ref)):=by rw [<- hH5,aj,List.map_append];rfl
    dsimp only
    obtain⟨dx5,ho5⟩:=h5.ob
    rcases Cn_bad hC4 with⟨rfl,ms⟩ | ⟨x5,hx5,st5,hC5⟩
    ·exact aS ⟨_,rfl,r,dx5,_,rfl,ho5,aG _ _ _ (by decide +kernel) (by decide +kernel) (by decide +kernel),.inr ⟨r,lw,ws,_,op+1,rfl,h5,hp4',(Miss.as (r:=.cl) (λ_ _ s=>of_decide_eq_false s) hW ms),hE5⟩⟩
    have ex5:=of_decide_eq_true st5
    refine aS ⟨_,rfl,r,dx5,_,rfl,ho5,aG _ _ _ (by decide +kernel) (by decide +kernel) (by decide +kernel),.inl ⟨r,lw,ws,_,op+1,rfl,h5,(by rw [hx5,ex5]),λH6 o6 h6=>?_⟩⟩
    rw [show op+1 - 1=op from by omega]at h6
    have hC5:Cn (ws.drop (pl4+1)) (eS mm) f4 (op+1 - 1) (pl4+1)=.bad p:=hC5
    rw [show op+1 - 1=op from by omega]at hC5
    exact⟨as++[x],pl4+1,f4,by rw [List.length_append,List.length_singleton];omega,rfl,h6,ple hx5,o6 _ _ e5 nlr,hC5,o5.trans o6⟩
theorem uN {c:Cs}{f f1 f2 f3 f4 f5 f6 f7 f8 f9 f10 R B:Addr}{fd:FuncData} (Fq:Fun K "question_here" "question_here" sQh f fd){fd4:FuncData} (Fs:Fun K "questions_here" "questions_here" lZ f4 fd4) (N:Free mg) (ZT:ConT K mg) (G:∀n,Cal P w K mg base "questions_here" (2 * n+5) ["reader", "count"] (iu c R n) f4 fd4/\Cal P w K mg base "question_here" (2 * n+6) ["reader"] (lN c R n) f fd){fd1:FuncData} (MB:MCX P w K mg base R "beginning_here" 4 ["self"] [] [] (kJ B R) f1 fd1){fd2:FuncData} (MD:MCX P w K mg base R "day_here" 5 ["self", "earliest"] [] [] (gD B R) f2 fd2){fd3:FuncData} (ME:MCX P w K mg base R "keys_here" 4 ["self"] [] [] (gA B R) f3 fd3){fd5:FuncData} (CG:CalX P w K mg base "single_here" 6 ["reader", "word"] (fo c B R) f5 fd5){fd6:FuncData} (KGth:MkC P w K mg base "Gathering" 3 ["self", "word", "keys", "first", "last"] (fW K) c.gth f6 fd6){fd7:FuncData} (KRck:MkC P w K mg base "Reckoning" 4 ["self", "word", "one", "other"] (dW K c) c.rck f7 fd7){fd8:FuncData} (KChc:MkC P w K mg base "Choice" 4 ["self", "word", "one", "other", "chosen", "otherwise"] (dX K c) c.chc f8 fd8){fd9:FuncData} (MO:MCX P w K mg base R "bracket_opens" 4 ["self"] [] [] (gx B R) f9 fd9){fd10:FuncData} (MX:MCX P w K mg base R "bracket_closes" 4 ["self"] [] [] (fq B R) f10 fd10) :
  ∀n,CalX P w K mg base "questions_here" (2 * n+7) ["reader", "count"] (kE c B R n) f4 fd4/\CalX P w K mg base "question_here" (2 * n+8) ["reader"] (lM c B R n) f fd:=by
 have up:∀n,CalX P w K mg base "question_here" (2 * n+6) ["reader"] (vR c B R n) f fd->CalX P w K mg base "questions_here" (2 * n+7) ["reader", "count"] (kE c B R n) f4 fd4/\CalX P w K mg base "question_here" (2 * n+8) ["reader"] (lM c B R n) f fd:=λn h=>by
  obtain⟨g1,g2⟩:=G n
  have a:CalX P w K mg base "questions_here" (2 * n+7) ["reader", "count"] (kE c B R n) f4 fd4:=⟨FnOk.both (FnOk.mono g1.ok (by omega)) (uW Fs N MO MX h),g1.nm,g1.kp,g1.bd⟩
  exact⟨a,FnOk.both (FnOk.mono g2.ok (by omega)) (xN Fq N ZT MB MD ME a CG KGth KRck KChc),g2.nm,g2.kp,g2.bd⟩
 intro n
 induction n with
 | zero=>
  obtain⟨_,g2⟩:=G 0
  exact up 0 ⟨FnOk.no (λvs H Q E h=>by obtain⟨m,hm,_⟩:=h;cases hm),g2.nm,g2.kp,g2.bd⟩
 | succ n ih=>
  obtain⟨_,h2⟩:=ih
  exact up (n+1) ⟨FnOk.imp h2.ok λvs H Q E ⟨m,hm,q⟩=>by cases hm;exact q,h2.nm,h2.kp,h2.bd⟩
noncomputable def r8 (c:Cs) (B R:Addr):Sp:=λvs H Q E=>∃n,n<=3/\lM c B R n vs H Q E
theorem uY {c:Cs}{f f1 f2 f3 f4 f5 f6 f7 f8 f9 f10 R B:Addr}{fd:FuncData} (Fq:Fun K "question_here" "question_here" sQh f fd){fd4:FuncData} (Fs:Fun K "questions_here" "questions_here" lZ f4 fd4) (N:Free mg) (ZT:ConT K mg) (G:∀n,Cal P w K mg base "questions_here" (2 * n+5) ["reader", "count"] (iu c R n) f4 fd4/\Cal P w K mg base "question_here" (2 * n+6) ["reader"] (lN c R n) f fd){fd1:FuncData} (MB:MCX P w K mg base R "beginning_here" 4 ["self"] [] [] (kJ B R) f1 fd1){fd2:FuncData} (MD:MCX P w K mg base R "day_here" 5 ["self", "earliest"] [] [] (gD B R) f2 fd2){fd3:FuncData} (ME:MCX P w K mg base R "keys_here" 4 ["self"] [] [] (gA B R) f3 fd3){fd5:FuncData} (CG:CalX P w K mg base "single_here" 6 ["reader", "word"] (fo c B R) f5 fd5){fd6:FuncData} (KGth:MkC P w K mg base "Gathering" 3 ["self", "word", "keys", "first", "last"] (fW K) c.gth f6 fd6){fd7:FuncData} (KRck:MkC P w K mg base "Reckoning" 4 ["self", "word", "one", "other"] (dW K c) c.rck f7 fd7){fd8:FuncData} (KChc:MkC P w K mg base "Choice" 4 ["self", "word", "one", "other", "chosen", "otherwise"] (dX K c) c.chc f8 fd8){fd9:FuncData} (MO:MCX P w K mg base R "bracket_opens" 4 ["self"] [] [] (gx B R) f9 fd9){fd10:FuncData} (MX:MCX P w K mg base R "bracket_closes" 4 ["self"] [] [] (fq B R) f10 fd10):FnOk P w K mg base (CXR P w) 14 f fd ["reader"] (r8 c B R):=FnOk.ex (sp:=lM c B R) (N:=3) λn hn=>FnOk.mono (uN Fq Fs N ZT G MB MD ME CG KGth KRck KChc MO MX n).2.ok (by omega)
noncomputable def zM (ws:List Str) (p:Nat):Prop:=Cn ws [.q] 0 0 0=.bad p\/∃(f o:Int) (x:Str) (t:List Str),Cn ws [.q] 0 0 0=.ok f o (x::t) p
inductive QoX (B:Addr) (ws:List Str) (H:Hp) (E:XK):Prop
 | mk (p:Nat) (h0:ws≠[]) (h1:ws.length<=900) (h2:∀w∈ws,32∉w.cps.toList) (h3:(Txt.join (Str.ofString " ") ws).length<=sizeLine) (h4:∀w∈ws,w.length<=400) (h5:zM ws p) (h6:fK B [("place", .int (p:Int))] H E):QoX B ws H E
noncomputable def mT (K:PySem.W.Frag) (B:Addr):Sp:=λvs H _ E=>∃v,vs=[v]/\((∃t,TyOf K H v t/\PySem.W.kitOne K t (.type "str")=some false/\fK B [("place", .int 0)] H E)\/∃ws,v=.str (Txt.join (Str.ofString " ") ws)/\QoX B ws H E)
noncomputable def r6 (K:PySem.W.Frag) (c:Cs) (B:Addr):Sp:=λvs H Q E=>vP c vs H Q E\/mT K B vs H Q E
theorem uX {c:Cs}{f f1 f2 f3 R B U fB:Addr}{fd:FuncData} (F:Fun K "question_of" "question_of" uE f fd) (N:Free mg){fd1:FuncData} (KR:MkC P w K mg base "Reader" 1 ["self", "text"] (kG R) R f1 fd1){fd2:FuncData} (CQ:CalX P w K mg base "question_here" 14 ["reader"] (r8 c B R) f2 fd2){fd3:FuncData} (MZ:MCX P w K mg base R "check_end" 3 ["self"] [] [] (rp B R) f3 fd3){fdB:FuncData} (RB:Rf1 P w K mg base "BadQuestion" B U "place" fB fdB):FnOk P w K mg base (CXR P w) 15 f fd ["text"] (mT K B):=by
 refine F.okX (k:=14) jG (λvs H Q E h=>?_) (λcdv A outer s H vs Q E hr h=>?_)
 ·obtain⟨v,rfl,_⟩:=h
  rfl
 ·obtain⟨v,rfl,hv⟩:=h
  have hu:=aM hr
  refine⟨_,(ad (aO (cz (cg (aI cv (by rfl) N.isinstance PyProof.Rows.Boot.«isinstance» (aa (pv 0) (aa (ee (v:=.ty "str") (by rfl) N.str PyProof.Rows.Boot.«str» rfl) ac))))) (af (lg RB (hr.mono (by decide)) rfl ag)) ay)
   (ad (ax (i:=1) jG.nd rfl (Or.inl rfl) (bF KR.km KR.ok (hr.mono (by decide)) rfl KR.nm KR.bd .nil ar (aa (pv 0) ac)))
   (ad (ax (i:=2) jG.nd rfl (Or.inl rfl) (au CQ.ok (hr.mono (by decide)) rfl CQ.nm CQ.kp CQ.bd .nil bp (aa (pv 1) ac)))
   (ad (aY (aK (pv 1) MZ.cl MZ.mt MZ.ok (hr.mono (by decide)) MZ.bd MZ.dv bp))
   (af (av (pv 2))))))),?_⟩
  rcases hv with⟨t,ht,hk,hE⟩ | ⟨ws,rfl,p,hne,hl,hfr,hjl,hW,hb,hE⟩
  ·refine ae (aq ⟨_,rfl,_,_,t,_,rfl,ht,hk,_,rfl,?_⟩)
   exact b5 (kZ RB.cl RB.nf (λQ q=>q) hE)
  refine ae (aq ⟨_,rfl,_,_,_,_,rfl,.str _,rfl,_,rfl,?_⟩)
  refine aF (ai ?_)
  dsimp only
  refine ae (ao ⟨_,rfl,?_⟩)
  intro r dr nr ndr ne
  refine⟨r,dr,ws,rfl,aj,hne,hl,hfr,hjl,λlw H1 nlw o1 h1=>⟨rfl,?_⟩⟩
  dsimp only [aA,List.set_cons_zero,List.set_cons_succ]
  have g1:aP H H1:=λb o e=>o1 _ _ (by rw [al (am e nr),al (am e ndr)];exact e) (am e nr)
  have hE1:dR B r p H1 E:=λa H' o' na xa=>hE a H' (λb o e=>o' b o (g1 b o e) (am e nr)) (bt g1 na) xa
  rcases hb with hb | ⟨f1,o1',x,t,hb⟩
  ·exact ae (ao ⟨_,rfl,3,Nat.le_refl 3,.inr ⟨r,rfl,lw,ws,0,0,0,p,rfl,Nat.le_refl 3,h1,Nat.zero_le _,hW,hb,hE1⟩⟩)
  obtain⟨nd,okn,ew,hp,ho⟩:=pG 3 0 rfl _ _ _ _ _ _ _ hb
  refine ae (ao ⟨_,rfl,3,Nat.le_refl 3,.inl ⟨r,nd,rfl,lw,ws,0,0,okn,h1,⟨_,ew.symm⟩,by decide,Nat.le_refl 3,λy H2 nx o2 h2 qn=>?_⟩⟩)
  dsimp only [aA,List.set_cons_zero,List.set_cons_succ]
  rw [<- hp]at h2
  obtain⟨d2,ho2⟩:=h2.ob
  have hlt:p < ws.length:=by rw [ew,hp,List.length_append,List.length_cons];omega
  exact ae (aS ⟨_,rfl,r,d2,_,rfl,ho2,aG _ _ _ (by decide +kernel) (by decide +kernel) (by decide +kernel),.inr ⟨r,lw,ws,p,0,rfl,h2,Nat.le_of_lt hlt,hlt,hE1.step o2 h2⟩⟩)
noncomputable def lfV (p:Addr):Lf->List V
 | .num z=>[.str (Str.ofString "number"),.int z]
 | .val k d=>[.str (Str.ofString "value"),.str k,.int d]
 | .gth w _ f l=>[.str w,.ref p,.int f,.int l]
 | .snc k b f l=>[.str (Str.ofString "since"),.str k,.int b,.int f,.int l]
 | .prt a b f l=>[.str (Str.ofString "part"),.str a,.str b,.int f,.int l]
 | .chg r k f l=>[.str (Str.ofString "change"),.int r,.str k,.int f,.int l]
noncomputable def lfL (p:Addr) (H:Hp):Lf->Prop
 | .gth _ ks _ _=>H p=some (.lst (ks.map V.str))
 | _=>True
inductive LN (l:Lf) (H:Hp) (a:Addr):Prop
 | mk (p:Addr) (h1:H a=some (.tup (lfV p l))) (h2:lfL p H l):LN l H a
inductive BN (w:Str) (xs:List Nd) (F:Addr->Nd->Prop) (H:Hp) (a:Addr):Prop
 | mk (li:Addr) (as:List Addr) (h1:H a=some (.tup [.str w,.ref li])) (h2:H li=some (.lst (as.map V.ref))) (h3:Paired F as xs):BN w xs F H a
noncomputable def cV:Nat->Nd->Hp->Addr->Prop
 | 0,.leaf l,H,a=>LN l H a
 | 0,.brk _ _,_,_=>False
 | _+1,.leaf l,H,a=>LN l H a
 | n+1,.brk w xs,H,a=>BN w xs (λa q=>cV n q H a) H a
theorem pj {n:Nat}{l:Lf}{H:Hp}{a:Addr}:cV n (.leaf l) H a↔LN l H a:=by cases n <;> exact Iff.rfl
theorem LN.keep {l:Lf}{H H':Hp}{a:Addr} (h:LN l H a) (g:aP H H'):LN l H' a:=by
 obtain⟨p,h1,h2⟩:=h
 refine⟨p,g _ _ h1,?_⟩
 cases l <;> first | exact True.intro | exact g _ _ h2
theorem cV.keep {H H':Hp} (g:aP H H'):∀{n:Nat}{nd:Nd}{a:Addr},cV n nd H a->cV n nd H' a
 | 0,.leaf l,a,h=>LN.keep (show LN l H a from h) g
 | 0,.brk _ _,_,h=>(show False from h).elim
 | _+1,.leaf l,a,h=>LN.keep (show LN l H a from h) g
 | n+1,.brk w xs,a,h=>by
  obtain⟨li,as,h1,h2,h3⟩:BN w xs (λa q=>cV n q H a) H a:=h
  exact BN.mk li as (g _ _ h1) (g _ _ h2) (Paired.mono (λa q h=>cV.keep g h) h3)
theorem SAt.free {H H1:Hp}{s a:Addr} (h:SAt H1 s) (o:Off s H H1) (n:H1 a=none):H a=none:=by
 cases e:H a with
 | none=>rfl
 | some u=>
  by_cases z:a=s
  ·obtain⟨xs,es⟩:=h.lst
   rw [z,es]at n;cases n
  ·rw [o _ _ e z]at n;cases n
theorem ml {ss:List Str}{n:Int} (h:Nms ss) (n0:0<=n) (n1:n < 8):∃k,atI (ss.map V.str) n=some (.str k)/\ju k:=by
 obtain⟨hl,_,hk⟩:=h
 obtain⟨j,rfl⟩:∃j:Nat,n=(j:Int):=⟨n.toNat,by omega⟩
 have hj:j < ss.length:=by omega
 exact⟨ss[j],dB (by rw [List.getElem?_map,List.getElem?_eq_getElem hj];rfl),hk _ (List.getElem_mem hj)⟩
noncomputable abbrev w9:List Str:=[Str.ofString "value", Str.ofString "sum", Str.ofString "count", Str.ofString "least", Str.ofString "greatest", Str.ofString "since", Str.ofString "part", Str.ofString "change", Str.ofString "number"]
theorem at9 {n:Int} (n0:0<=n) (n1:n < 9):∃w,atI (w9.map V.str) n=some (.str w)/\(w∈cm\/w=Str.ofString "value"\/w=Str.ofString "since"\/w=Str.ofString "part"\/w=Str.ofString "change"\/w=Str.ofString "number"):=by
 rcases (show n=0\/n=1\/n=2\/n=3\/n=4\/n=5\/n=6\/n=7\/n=8 by omega) with rfl | rfl | rfl | rfl | rfl | rfl | rfl | rfl | rfl
 ·exact⟨_,rfl,.inr (.inl rfl)⟩
 ·exact⟨_,rfl,.inl (by decide +kernel)⟩
 ·exact⟨_,rfl,.inl (by decide +kernel)⟩
 ·exact⟨_,rfl,.inl (by decide +kernel)⟩
 ·exact⟨_,rfl,.inl (by decide +kernel)⟩
 ·exact⟨_,rfl,.inr (.inr (.inl rfl))⟩
 ·exact⟨_,rfl,.inr (.inr (.inr (.inl rfl)))⟩
 ·exact⟨_,rfl,.inr (.inr (.inr (.inr (.inl rfl))))⟩
 ·exact⟨_,rfl,.inr (.inr (.inr (.inr (.inr rfl))))⟩
theorem gR:∀w∈cm,w≠Str.ofString "number"/\w≠Str.ofString "value"/\w≠Str.ofString "since"/\w≠Str.ofString "part"/\w≠Str.ofString "change":=by decide +kernel
theorem fU {x y:Str} (h:x≠y):¬V.str x=V.str y:=λz=>h (V.str.inj z)
inductive LeI (s ln t:Addr) (m:Int) (H:Hp) (Q:VK):Prop
 | mk (ss:List Str) (lo wd:Int) (hs:SAt H s) (el:H ln=some (.lst (ss.map V.str))) (hss:Nms ss) (nls:ln≠s) (et:H t=some (.tup [.int lo,.int wd])) (nts:t≠s) (h0:0<=lo) (h1:1<=wd) (h2:lo+wd<=400) (m1:1<=m) (m2:m<=8) (q:∀(a:Addr) (l:Lf) (H':Hp),eN l->H a=none->Off s H H'->SAt H' s->LN l (wo H H') a->Q (.ref a) H'):LeI s ln t m H Q
noncomputable def kF:Sp:=λvs H Q _=>∃(s ln t:Addr) (m:Int),vs=[.ref s,.ref ln,.ref t,.int m]/\LeI s ln t m H Q
theorem dJ {H H1:Hp}{s a:Addr}{l:Lf}{p:Addr} (hs:SAt H1 s) (o:Off s H H1) (na:H1 a=none) (hl:lfL p (wo H H1) l):H a=none/\Off s H (upd H1 a (.tup (lfV p l)))/\SAt (upd H1 a (.tup (lfV p l))) s/\LN l (wo H (upd H1 a (.tup (lfV p l)))) a:=by
 have f:=hs.free o na
 obtain⟨g,e⟩:=laid (o:=.tup (lfV p l)) na
 refine⟨f,o.trans (Off.grow g),hs.keep g,p,by rw [dg f];exact e,?_⟩
 cases l <;> first | exact True.intro | exact(dS λb u _ eb=>g _ _ eb) _ _ hl
theorem iE:FnScope ["_law_state", "_law_names_here", "_law_window_here", "_law_most", "_law_word_here", "_law_first", "_law_last"] ["_law_state", "_law_names_here", "_law_window_here", "_law_most"] (aw nh):=⟨rfl,rfl,rfl,by decide +kernel,rfl,by decide +kernel,by decide +kernel⟩
theorem sI {f f1 f2 f3 f4:Addr}{fd:FuncData} (F:Fun K "_law_leaf" "_law_leaf" nh f fd) (N:Free mg){fd1:FuncData} (CP:Cal P w K mg base "_law_pull" 2 ["_law_state", "_law_many"] cG f1 fd1){fd2:FuncData} (CS:Cal P w K mg base "_law_some" 3 ["_law_state", "_law_names_here", "_law_most"] qY f2 fd2){fd3:FuncData} (CD:Cal P w K mg base "_law_days" 3 ["_law_state", "_law_window_here"] rA f3 fd3){fd4:FuncData} (CA:Cal P w K mg base "_law_amount" 3 ["_law_state"] lT f4 fd4):FnOk P w K mg base CX0 4 f fd ["_law_state", "_law_names_here", "_law_window_here", "_law_most"] kF:=by
 refine F.ok (k:=3) iE (λvs H Q E h=>?_) (λcdv A outer s H vs Q E hr h=>?_)
 ·obtain⟨s,ln,t,m,rfl,_⟩:=h
  rfl
 ·obtain⟨s,ln,t,m,rfl,ss,lo,wd,hs,el,hss,nls,et,nts,h0,h1,h2,m1,m2,q⟩:=h
  have hu:=aM hr
  refine⟨_,(@ad _ _ _ _ _ (@ax (i:=4) _ _ _ _ _ _ iE.nd rfl (Or.inl rfl) (@b9 _ _ _ _ _ _ _ aT (@aH _ _ _ _ (@aa _ _ _ _ _ ah (@aa _ _ _ _ _ ah (@aa _ _ _ _ _ ah (@aa _ _ _ _ _ ah (@aa _ _ _ _ _ ah (@aa _ _ _ _ _ ah (@aa _ _ _ _ _ ah (@aa _ _ _ _ _ ah (@aa _ _ _ _ _ ah ac rfl) rfl) rfl) rfl) rfl) rfl) rfl) rfl) rfl)) (au CP.ok (hr.mono (by decide)) rfl CP.nm CP.kp CP.bd .nil ar (@aa _ _ _ _ _ (pv 0) (@aa _ _ _ _ _ ag ac rfl) rfl)) (λ_ _=>rfl)) (by rfl) (by first | exact .inl rfl | exact .inr rfl))
   (ad (aO (aC bc (pv 4) ah (aE _)) (@af _ _ _ (@av _ _ _ _ (@bQ _ _ _ _ _ (@aa _ _ _ _ _ (pv 4) (@aa _ _ _ _ _ (au CA.ok (hr.mono (by decide)) rfl CA.nm CA.kp CA.bd .nil ar (@aa _ _ _ _ _ (pv 0) ac rfl)) ac rfl) rfl)))) ay)
   (ad (nH (au CD.ok (hr.mono (by decide)) rfl CD.nm CD.kp CD.bd .nil ar (aa (pv 0) (aa (pv 2) ac))) (su rfl (gJ (bO (i:=5) iE.nd rfl (Or.inl rfl)) (gJ (bO (i:=6) iE.nd rfl (Or.inl rfl)) oZ))))
   (ad (aO (aC bc (pv 4) ah (aE _)) (@af _ _ _ (@av _ _ _ _ (@bQ _ _ _ _ _ (@aa _ _ _ _ _ (pv 4) (@aa _ _ _ _ _ (@b9 _ _ _ _ _ _ _ aT (pv 1) (au CP.ok (hr.mono (by decide)) rfl CP.nm CP.kp CP.bd .nil ar (@aa _ _ _ _ _ (pv 0) (@aa _ _ _ _ _ ag ac rfl) rfl)) (λ_ _=>rfl)) (@aa _ _ _ _ _ (pv 6) ac rfl) rfl) rfl)))) ay)
   (ad (aO (aC bc (pv 4) ah (aE _)) (@af _ _ _ (@av _ _ _ _ (@bQ _ _ _ _ _ (@aa _ _ _ _ _ (pv 4) (@aa _ _ _ _ _ (@b9 _ _ _ _ _ _ _ aT (pv 1) (au CP.ok (hr.mono (by decide)) rfl CP.nm CP.kp CP.bd .nil ar (@aa _ _ _ _ _ (pv 0) (@aa _ _ _ _ _ ag ac rfl) rfl)) (λ_ _=>rfl)) (@aa _ _ _ _ _ (au CA.ok (hr.mono (by decide)) rfl CA.nm CA.kp CA.bd .nil ar (@aa _ _ _ _ _ (pv 0) ac rfl)) (@aa _ _ _ _ _ (pv 5) (@aa _ _ _ _ _ (pv 6) ac rfl) rfl) rfl) rfl) rfl)))) ay)
   (ad (aO (aC bc (pv 4) ah (aE _)) (@af _ _ _ (@av _ _ _ _ (@bQ _ _ _ _ _ (@aa _ _ _ _ _ (pv 4) (@aa _ _ _ _ _ (@b9 _ _ _ _ _ _ _ aT (pv 1) (au CP.ok (hr.mono (by decide)) rfl CP.nm CP.kp CP.bd .nil ar (@aa _ _ _ _ _ (pv 0) (@aa _ _ _ _ _ ag ac rfl) rfl)) (λ_ _=>rfl)) (@aa _ _ _ _ _ (@b9 _ _ _ _ _ _ _ aT (pv 1) (au CP.ok (hr.mono (by decide)) rfl CP.nm CP.kp CP.bd .nil ar (@aa _ _ _ _ _ (pv 0) (@aa _ _ _ _ _ ag ac rfl) rfl)) (λ_ _=>rfl)) (@aa _ _ _ _ _ (pv 5) (@aa _ _ _ _ _ (pv 6) ac rfl) rfl) rfl) rfl) rfl)))) ay)
   (ad (aO (aC bc (pv 4) ah (aE _)) (@af _ _ _ (@av _ _ _ _ (@bQ _ _ _ _ _ (@aa _ _ _ _ _ (pv 4) (@aa _ _ _ _ _ (@aJ _ _ _ _ _ _ _ _ bE ag (au CP.ok (hr.mono (by decide)) rfl CP.nm CP.kp CP.bd .nil ar (@aa _ _ _ _ _ (pv 0) (@aa _ _ _ _ _ (@b9 _ _ _ _ _ _ _ aT (@aH _ _ _ _ (@aa _ _ _ _ _ ag (@aa _ _ _ _ _ ag ac rfl) rfl)) (au CP.ok (hr.mono (by decide)) rfl CP.nm CP.kp CP.bd .nil ar (@aa _ _ _ _ _ (pv 0) (@aa _ _ _ _ _ ag ac rfl) rfl)) (λ_ _=>rfl)) ac rfl) rfl))) (@aa _ _ _ _ _ (@b9 _ _ _ _ _ _ _ aT (pv 1) (au CP.ok (hr.mono (by decide)) rfl CP.nm CP.kp CP.bd .nil ar (@aa _ _ _ _ _ (pv 0) (@aa _ _ _ _ _ ag ac rfl) rfl)) (λ_ _=>rfl)) (@aa _ _ _ _ _ (pv 5) (@aa _ _ _ _ _ (pv 6) ac rfl) rfl) rfl) rfl) rfl)))) ay)
   (@af _ _ _ (@av _ _ _ _ (@bQ _ _ _ _ _ (@aa _ _ _ _ _ (pv 4) (@aa _ _ _ _ _ (au CS.ok (hr.mono (by decide)) rfl CS.nm CS.kp CS.bd .nil ar (@aa _ _ _ _ _ (pv 0) (@aa _ _ _ _ _ (pv 1) (@aa _ _ _ _ _ (pv 3) ac rfl) rfl) rfl)) (@aa _ _ _ _ _ (pv 5) (@aa _ _ _ _ _ (pv 6) ac rfl) rfl) rfl) rfl))))))))))),?_⟩
  refine ae (ao ⟨by show 9<=sizeLine;decide,λlw nlw=>?_⟩)
  obtain⟨g1,e1⟩:=laid (o:=.lst (w9.map V.str)) nlw
  have hs1:=hs.keep g1
  have nws:lw≠s:=λz=>by obtain⟨xs,e⟩:=hs.lst;rw [z,e]at nlw;cases nlw
  have o1:Off s H (upd H lw (.lst (w9.map V.str))):=Off.grow g1
  change iS _ _ _ _ _ (upd H lw (.lst (w9.map V.str))) _
  generalize upd H lw (.lst (w9.map V.str))=H1 at g1 e1 hs1 o1 ⊢
  refine⟨_,rfl,s,9,rfl,hs1,by decide,by decide,λn H2 n0 n1 p2 hs2=>?_⟩
  obtain⟨w,ew,hw⟩:=at9 n0 n1
  refine⟨lw,_,_,_,rfl,rfl,SqL.of (p2 _ _ e1 nws),ew,?_⟩
  dsimp only [aA,List.set_cons_zero,List.set_cons_succ]
  have o2:=o1.trans p2
  have okn:∀{H':Hp},Off s H H'->H' ln=some (.lst (ss.map V.str)):=λo=>o _ _ el nls
  by_cases zn:w=Str.ofString "number"
  ·subst zn
   refine ae (aq ⟨_,rfl,rfl,_,rfl,?_⟩)
   refine b5 ?_
   refine az ⟨_,rfl,_,rfl,s,rfl,hs2,λz H3 p3 hs3 z0 z1=>⟨by show 2<=sizeLine;decide,λa na=>?_⟩⟩
   obtain⟨f,o,hs',hl⟩:=dJ (l:=.num z) (p:=a) hs3 (o2.trans p3) na True.intro
   exact q a (.num z) _ ⟨z0,z1⟩ f o hs' hl
  refine ae (aq ⟨_,rfl,rfl,_,rfl,?_⟩)
  rw [decide_eq_false (fU zn)]
  refine aF (ai ?_)
  dsimp only
  refine ae (ao ⟨_,rfl,_,rfl,s,t,lo,wd,rfl,hs2,o2 _ _ et nts,nts,h0,h1,h2,λu f0 l0 H3 p3 hs3 eu d1 d2 d3=>?_⟩)
  refine⟨u,_,rfl,SqT.of eu,rfl,_,_,rfl,_,_,rfl,rfl,?_⟩
  dsimp only [aA,List.set_cons_zero,List.set_cons_succ]
  have o3:=o2.trans p3
  have hd:mJ f0 l0:=⟨d1,d2,by omega⟩
  rcases hw with hw | rfl | rfl | rfl | rfl | hw
  ·have gn:=gR w hw
   refine ae (aq ⟨_,rfl,rfl,_,rfl,?_⟩)
   rw [decide_eq_false (fU (gR w hw).2.1)]
   refine aF (ai ?_)
   dsimp only
   refine ae (aq ⟨_,rfl,rfl,_,rfl,?_⟩)
   rw [decide_eq_false (fU (gR w hw).2.2.1)]
   refine aF (ai ?_)
   dsimp only
   refine ae (aq ⟨_,rfl,rfl,_,rfl,?_⟩)
   rw [decide_eq_false (fU (gR w hw).2.2.2.1)]
   refine aF (ai ?_)
   dsimp only
   refine ae (aq ⟨_,rfl,rfl,_,rfl,?_⟩)
   rw [decide_eq_false (fU (gR w hw).2.2.2.2)]
   refine aF (ai ?_)
   dsimp only
   refine az ⟨_,rfl,_,rfl,_,rfl,_,rfl,s,ln,ss,m,rfl,hs3,okn o3,nls,m1,(by rw [hss.1];exact m2),(by rw [hss.1];decide),λp xs ys H4 np p4 hs4 ep hne hpm hlm=>?_⟩
   refine⟨_,rfl,_,rfl,by show 4<=sizeLine;decide,λa na=>?_⟩
   have o4:=o3.trans p4
   have hsub:∀k∈xs,ju k:=λk hk=>hss.2.2 k (hpm.mem_iff.mp (List.mem_append_left _ hk))
   have hnd:xs.Nodup:=(List.nodup_append.mp (hpm.nodup_iff.mpr hss.2.1)).1
   obtain⟨f,o,hs',hl⟩:=dJ (l:=.gth w xs f0 l0) (p:=p) hs4 o4 na (show wo H H4 p=_ by rw [dg (hs3.free o3 np)];exact ep)
   exact q a (.gth w xs f0 l0) _ ⟨hw,⟨List.length_pos_iff.mpr hne,by omega,hnd,hsub⟩,hd⟩ f o hs' hl
  ·refine ae (aq ⟨_,rfl,rfl,_,rfl,?_⟩)
   refine b5 ?_
   refine az ⟨_,rfl,_,rfl,_,rfl,s,8,rfl,hs3,by decide,by decide,λn4 H4 m40 m41 p4 hs4=>?_⟩
   have o4:=o3.trans p4
   obtain⟨k,ek,hk⟩:=ml hss m40 m41
   refine⟨ln,_,_,_,rfl,rfl,SqL.of (okn o4),ek,_,rfl,by show 3<=sizeLine;decide,λa na=>?_⟩
   obtain⟨f,o,hs',hl⟩:=dJ (l:=.val k l0) (p:=a) hs4 o4 na True.intro
   exact q a (.val k l0) _ ⟨hk,by omega,by omega⟩ f o hs' hl
  ·refine ae (aq ⟨_,rfl,rfl,_,rfl,?_⟩)
   rw [show decide (V.str (Str.ofString "since")=V.str (Str.ofString "value"))=false from by decide +kernel]
   refine aF (ai ?_)
   dsimp only
   refine ae (aq ⟨_,rfl,rfl,_,rfl,?_⟩)
   refine b5 ?_
   refine az ⟨_,rfl,_,rfl,_,rfl,s,8,rfl,hs3,by decide,by decide,λn4 H4 m40 m41 p4 hs4=>?_⟩
   have o4:=o3.trans p4
   obtain⟨k,ek,hk⟩:=ml hss m40 m41
   refine⟨ln,_,_,_,rfl,rfl,SqL.of (okn o4),ek,_,rfl,s,rfl,hs4,λb0 H5 p5 hs5 z0 z1=>⟨_,rfl,_,rfl,by show 5<=sizeLine;decide,λa na=>?_⟩⟩
   obtain⟨f,o,hs',hl⟩:=dJ (l:=.snc k b0 f0 l0) (p:=a) hs5 (o4.trans p5) na True.intro
   exact q a (.snc k b0 f0 l0) _ ⟨hk,⟨z0,z1⟩,hd⟩ f o hs' hl
  ·refine ae (aq ⟨_,rfl,rfl,_,rfl,?_⟩)
   rw [show decide (V.str (Str.ofString "part")=V.str (Str.ofString "value"))=false from by decide +kernel]
   refine aF (ai ?_)
   dsimp only
   refine ae (aq ⟨_,rfl,rfl,_,rfl,?_⟩)
   rw [show decide (V.str (Str.ofString "part")=V.str (Str.ofString "since"))=false from by decide +kernel]
   refine aF (ai ?_)
   dsimp only
   refine ae (aq ⟨_,rfl,rfl,_,rfl,?_⟩)
   refine b5 ?_
   refine az ⟨_,rfl,_,rfl,_,rfl,s,8,rfl,hs3,by decide,by decide,λn4 H4 m40 m41 p4 hs4=>?_⟩
   have o4:=o3.trans p4
   obtain⟨k,ek,hk⟩:=ml hss m40 m41
   refine⟨ln,_,_,_,rfl,rfl,SqL.of (okn o4),ek,_,rfl,_,rfl,s,8,rfl,hs4,by decide,by decide,λn5 H5 m50 m51 p5 hs5=>?_⟩
   have o5:=o4.trans p5
   obtain⟨k2,ek2,hk2⟩:=ml hss m50 m51
   refine⟨ln,_,_,_,rfl,rfl,SqL.of (okn o5),ek2,_,rfl,_,rfl,by show 5<=sizeLine;decide,λa na=>?_⟩
   obtain⟨f,o,hs',hl⟩:=dJ (l:=.prt k k2 f0 l0) (p:=a) hs5 o5 na True.intro
   exact q a (.prt k k2 f0 l0) _ ⟨hk,hk2,hd⟩ f o hs' hl
  ·refine ae (aq ⟨_,rfl,rfl,_,rfl,?_⟩)
   rw [show decide (V.str (Str.ofString "change")=V.str (Str.ofString "value"))=false from by decide +kernel]
   refine aF (ai ?_)
   dsimp only
   refine ae (aq ⟨_,rfl,rfl,_,rfl,?_⟩)
   rw [show decide (V.str (Str.ofString "change")=V.str (Str.ofString "since"))=false from by decide +kernel]
   refine aF (ai ?_)
   dsimp only
   refine ae (aq ⟨_,rfl,rfl,_,rfl,?_⟩)
   rw [show decide (V.str (Str.ofString "change")=V.str (Str.ofString "part"))=false from by decide +kernel]
   refine aF (ai ?_)
   dsimp only
   refine ae (aq ⟨_,rfl,rfl,_,rfl,?_⟩)
   refine b5 ?_
   refine az ⟨_,rfl,?_⟩
   refine cy (oV ?_)
   dsimp only [tC]
   refine⟨_,rfl,by show 2<=sizeLine;decide,λl2 nl2=>?_⟩
   obtain⟨g4,e4⟩:=laid (o:=.lst [V.int 3,V.int 400]) nl2
   have hs4:=hs3.keep g4
   have n2s:l2≠s:=λz=>by obtain⟨xs,e⟩:=hs3.lst;rw [z,e]at nl2;cases nl2
   have o4:=o3.trans (Off.grow g4)
   generalize upd H3 l2 _=H4 at g4 e4 hs4 o4 ⊢
   refine⟨_,rfl,s,2,rfl,hs4,by decide,by decide,λn5 H5 m0 m1' p5 hs5=>?_⟩
   have o5:=o4.trans p5
   obtain⟨mm,em,hm1,hm2⟩:∃mm:Int,atI [V.int 3,V.int 400] n5=some (.int mm)/\1<=mm/\mm<=400:=by
    rcases (show n5=0\/n5=1 by omega) with rfl | rfl
    ·exact⟨3,rfl,by decide,by decide⟩
    ·exact⟨400,rfl,by decide,by decide⟩
   refine⟨l2,_,_,_,rfl,rfl,SqL.of (p5 _ _ e4 n2s),em,s,mm,rfl,hs5,by omega,by omega,λr0 H6 r1 r2 p6 hs6=>?_⟩
   have o6:=o5.trans p6
   refine⟨_,_,rfl,rfl,?_⟩
   refine⟨_,rfl,_,rfl,s,8,rfl,hs6,by decide,by decide,λn7 H7 m70 m71 p7 hs7=>?_⟩
   have o7:=o6.trans p7
   obtain⟨k,ek,hk⟩:=ml hss m70 m71
   refine⟨ln,_,_,_,rfl,rfl,SqL.of (okn o7),ek,_,rfl,_,rfl,by show 5<=sizeLine;decide,λa na=>?_⟩
   obtain⟨f,o,hs',hl⟩:=dJ (l:=.chg (1+r0) k f0 l0) (p:=a) hs7 o7 na True.intro
   exact q a (.chg (1+r0) k f0 l0) _ ⟨⟨by omega,by omega⟩,hk,hd⟩ f o hs' hl
  ·exact absurd hw zn
noncomputable abbrev sLq:Stmt:=top 56
theorem xA {t:TT}{s1 s2:TS}{D:Ends}{σ:St}{H:Hp} (c:Bool) (h:∀Q:Bool->Hp->Prop,Q c H->t σ H Q) (h1:c=true->s1 D σ H) (h2:c=false->s2 D σ H):wP t s1 s2 D σ H:=by
 refine aq (h _ ?_)
 cases c with
 | true=>exact b5 (h1 rfl)
 | false=>exact aF (h2 rfl)
theorem u8 {sub:List Nat}{te:TE}{σ:St}{H:Hp}{Q:VK}{s:Addr}{m cnt:Nat} (hs:SAt H s) (hn:cnt<=4)
  (hte:∀(i:Nat) (H2:Hp) (R:VK),i < cnt->SAt H2 s->Off s H H2->(∀(a:Addr) (nd:Nd) (H3:Hp),cC m nd->H2 a=none->Off s H2 H3->SAt H3 s->cV m nd (wo H2 H3) a->R (.ref a) H3)->te (some (.int (0+(i:Int)))::bS sub σ) H2 R)
  (hq:∀(D:Addr) (as:List Addr) (xs:List Nd) (H':Hp),H D=none->Off s H H'->SAt H' s->H' D=some (.lst (as.map V.ref))->Paired (λa q=>cV m q (wo H H') a) as xs->xs.length=cnt->(∀x∈xs,cC m x)->Q (.ref D) H'):hX (Itr 0 cnt) sub (λ_ H Q=>Q true H) te σ Q H:=by
 intro D nD
 have nDs:D≠s:=λz=>by obtain⟨xs,e⟩:=hs.lst;rw [z,e]at nD;cases nD
 obtain⟨g1,e1⟩:=laid (o:=.lst []) nD
 have s1:=hs.keep g1
 refine gh (lo:=0) (n:=cnt) (sub:=sub) (tt:=λ_ H Q=>Q true H) (te:=te) (Q:=Q) (σ:=σ) (λi ys H2=>∃(as:List Addr) (xs:List Nd),ys=as.map V.ref/\xs.length=i/\H2 D=some (.lst ys)/\Off s H H2/\(∀b o,upd H D (.lst []) b=some o->b≠s->b≠D->H2 b=some o)/\SAt H2 s/\Paired (λa q=>cV m q (wo (upd H D (.lst [])) H2) a) as xs/\∀x∈xs,cC m x) ⟨[],[],rfl,rfl,e1,Off.grow g1,λb o e _ _=>e,s1,.nil,λ_ z=>nomatch z⟩ (λi ys H2 hi hh=>?_) λys H2 hh=>?_
 ·obtain⟨as,xs,rfl,hl,e2,o2,k2,s2,hp,hx⟩:=hh
  have hal:=cu hp
  refine b5 (hte i _ _ hi s2 o2 λa nd H3 okn na o3 s3 hn3=>⟨o3 _ _ e2 nDs,by rw [List.length_map];exact be (by omega),as++[a],xs++[nd],by rw [List.map_append];rfl,by rw [List.length_append,hl];rfl,aj,λb o e nb=>?_,λb o e n1 n2=>?_,?_,?_,λx hx'=>?_⟩)
  ·rw [al (am e nD)];exact o3 _ _ (o2 _ _ e nb) nb
  ·rw [al n2];exact o3 _ _ (k2 _ _ e n1 n2) n1
  ·exact s3.off nDs λb o e nb=>by rw [al nb];exact e
  ·have kk:∀b o,upd H D (.lst []) b=none->H3 b=some o->upd H3 D (.lst (as.map V.ref++[.ref a])) b=some o:=λb o n e=>by
    rw [al (λz=>by rw [z,e1]at n;cases n)];exact e
   have ns:∀b,upd H D (.lst []) b=none->b≠s:=λb n z=>by obtain⟨xs,e⟩:=s1.lst;rw [z,e]at n;cases n
   refine Paired.snoc (Paired.mono (λa q0 h0=>cV.keep (dS λb o n e=>kk _ _ n (o3 _ _ e (ns b n))) h0) hp) (cV.keep (aP.trans (dC (H0:=upd H D (.lst [])) λb hb=>?_) (dS kk)) hn3)
   cases e:upd H D (.lst []) b with
   | none=>rfl
   | some o=>
    by_cases zs:b=s
    ·obtain⟨xs,es⟩:=s2.lst
     rw [zs,es]at hb;cases hb
    ·by_cases zd:b=D
     ·rw [zd,e2]at hb;cases hb
     ·rw [k2 _ _ e zs zd]at hb;cases hb
  ·rcases List.mem_append.mp hx' with h | h
   ·exact hx x h
   ·rw [List.mem_singleton.mp h];exact okn
 ·obtain⟨as,xs,rfl,hl,e2,o2,k2,s2,hp,hx⟩:=hh
  exact hq D as xs H2 nD o2 s2 e2 (Paired.mono (λa q0 h0=>cV.keep (dC (H0:=H) λb hb=>bt g1 hb) h0) hp) hl hx
noncomputable abbrev w4:List Str:=[Str.ofString "plus", Str.ofString "minus", Str.ofString "less", Str.ofString "same"]
theorem at4 {v:Int} (h0:4<=v) (h1:v < 8):∃(w:Str) (cnt:Nat),atI (w4.map V.str) (v - 4)=some (.str w)/\atI [V.int 2,V.int 2,V.int 4,V.int 4] (v - 4)=some (.int (cnt:Int))/\((w∈ce/\cnt=2)\/(w∈cp/\cnt=4)):=by
 rcases (show v=4\/v=5\/v=6\/v=7 by omega) with rfl | rfl | rfl | rfl
 ·exact⟨_,2,rfl,rfl,.inl ⟨by decide +kernel,rfl⟩⟩
 ·exact⟨_,2,rfl,rfl,.inl ⟨by decide +kernel,rfl⟩⟩
 ·exact⟨_,4,rfl,rfl,.inr ⟨by decide +kernel,rfl⟩⟩
 ·exact⟨_,4,rfl,rfl,.inr ⟨by decide +kernel,rfl⟩⟩
inductive LqI (n:Nat) (s ln t:Addr) (H:Hp) (Q:VK):Prop
 | mk (ss:List Str) (lo wd:Int) (hn:n<=4) (hs:SAt H s) (el:H ln=some (.lst (ss.map V.str))) (hss:Nms ss) (nls:ln≠s) (et:H t=some (.tup [.int lo,.int wd])) (nts:t≠s) (h0:0<=lo) (h1:1<=wd) (h2:lo+wd<=400) (q:∀(a:Addr) (nd:Nd) (H':Hp),cC n nd->H a=none->Off s H H'->SAt H' s->cV n nd (wo H H') a->Q (.ref a) H'):LqI n s ln t H Q
noncomputable def rh (n:Nat):Sp:=λvs H Q _=>∃(s ln t:Addr),vs=[.ref s,.ref ln,.ref t,.int (n:Int)]/\LqI n s ln t H Q
noncomputable def yS (n:Nat):Sp:=λvs H Q E=>∃m,n=m+1/\rh m vs H Q E
theorem nO {n:Nat}{l:Lf} (h:eN l):cC n (.leaf l):=by cases n <;> exact h
theorem at8 {n:Nat} (h:n<=4):∃m:Int,atI [V.int 8,V.int 3,V.int 2,V.int 2,V.int 1] (n:Int)=some (.int m)/\1<=m/\m<=8:=by
 rcases (show n=0\/n=1\/n=2\/n=3\/n=4 by omega) with rfl | rfl | rfl | rfl | rfl
 ·exact⟨8,rfl,by decide,by decide⟩
 ·exact⟨3,rfl,by decide,by decide⟩
 ·exact⟨2,rfl,by decide,by decide⟩
 ·exact⟨2,rfl,by decide,by decide⟩
 ·exact⟨1,rfl,by decide,by decide⟩
theorem wW:FnScope ["_law_state", "_law_names_here", "_law_window_here", "_law_deep", "_law_way", "_law_word_here"] ["_law_state", "_law_names_here", "_law_window_here", "_law_deep"] (aw sLq):=⟨rfl,rfl,rfl,by decide +kernel,rfl,by decide +kernel,by decide +kernel⟩
theorem wq {n:Nat}{f f1 f2 f3:Addr}{fd:FuncData} (F:Fun K "_law_question" "_law_question" sLq f fd) (N:Free mg){fd1:FuncData} (CP:Cal P w K mg base "_law_pull" 2 ["_law_state", "_law_many"] cG f1 fd1){fd2:FuncData} (CL:Cal P w K mg base "_law_leaf" 4 ["_law_state", "_law_names_here", "_law_window_here", "_law_most"] kF f2 fd2){fd3:FuncData} (CQ:Cal P w K mg base "_law_question" (n+4) ["_law_state", "_law_names_here", "_law_window_here", "_law_deep"] (yS n) f3 fd3):FnOk P w K mg base CX0 (n+5) f fd ["_law_state", "_law_names_here", "_law_window_here", "_law_deep"] (rh n):=by
 refine F.ok (k:=n+4) wW (λvs H Q E h=>?_) (λcdv A outer s H vs Q E hr h=>?_)
 ·obtain⟨s,ln,t,rfl,_⟩:=h
  rfl
 ·obtain⟨s,ln,t,rfl,ss,lo,wd,hn,hs,el,hss,nls,et,nts,h0,h1,h2,q⟩:=h
  have hu:=aM hr
  refine⟨_,(ad (ax (i:=4) wW.nd rfl (Or.inl rfl) (au CP.ok (hr.mono (by omega)) rfl CP.nm CP.kp CP.bd .nil ar (aa (pv 0) (aa ag ac))))
   (ad (aO (PW.pt (jJ (aC bc (pv 3) ag (aE _)) (i5 (aC eO (pv 4) ag (aE _))))) (af (av (au CL.ok (hr.mono (by omega)) rfl CL.nm CL.kp CL.bd .nil ar (aa (pv 0) (aa (pv 1) (aa (pv 2) (aa (b9 aT (aH (aa ag (aa ag (aa ag (aa ag (aa ag ac)))))) (pv 3) (λ_ _=>rfl)) ac))))))) ay)
   (@ad _ _ _ _ _ (@ax (i:=5) _ _ _ _ _ _ wW.nd rfl (Or.inl rfl) (@b9 _ _ _ _ _ _ _ aT (@aH _ _ _ _ (@aa _ _ _ _ _ ah (@aa _ _ _ _ _ ah (@aa _ _ _ _ _ ah (@aa _ _ _ _ _ ah ac rfl) rfl) rfl) rfl)) (@aJ _ _ _ _ _ _ _ _ fg (pv 4) ag) (λ_ _=>rfl)) (by rfl) (by first | exact .inl rfl | exact .inr rfl))
   (af (av (bQ (aa (pv 5) (aa (ff (bP rfl (cI rfl N.range (aa (b9 aT (aH (aa ag (aa ag (aa ag (aa ag ac))))) (aJ fg (pv 4) ag) (λ_ _=>rfl)) ac)) rfl rfl (by show ∀p∈_,i0 [Str.ofString "_law_window_here", Str.ofString "_law_state", Str.ofString "_law_names_here", Str.ofString "_law_deep"] p;decide) (by decide) rfl (by show ([Str.ofString "_law_k", Str.ofString "_law_window_here", Str.ofString "_law_state", Str.ofString "_law_names_here", Str.ofString "_law_deep"]:List Str).Nodup;decide) (.cons (i:=2) rfl (.inr (.inl rfl)) (by show (some NameKind.cell)≠some NameKind.local;decide) (.inl rfl) rfl (.cons (i:=0) rfl (.inr (.inl rfl)) (by show (some NameKind.cell)≠some NameKind.local;decide) (.inl rfl) rfl (.cons (i:=1) rfl (.inr (.inl rfl)) (by show (some NameKind.cell)≠some NameKind.local;decide) (.inl rfl) rfl (.cons (i:=3) rfl (.inr (.inl rfl)) (by show (some NameKind.cell)≠some NameKind.local;decide) (.inl rfl) rfl .nil)))) (λC fp s H=>cY) (λC fp s H=>(au CQ.ok (hr.mono (by omega)) rfl CQ.nm CQ.kp CQ.bd .nil ar (aa (pv 2) (aa (pv 3) (aa (pv 1) (aa (aJ fg (pv 4) ag) ac)))))))) ac)))))))),?_⟩
  refine ae (ao ⟨_,rfl,s,8,rfl,hs,by decide,by decide,λv H1 v0 v1 o1 hs1=>?_⟩)
  dsimp only [aA,List.set_cons_zero,List.set_cons_succ]
  have eln:=o1 _ _ el nls
  have ett:=o1 _ _ et nts
  refine ae (xA (decide ((n:Int)=0) || decide (v < 4)) (λQ hQ=>⟨_,rfl,rfl,_,rfl,?_⟩) (λ_=>?_) λhc=>ai ?_)
  ·by_cases z:(n:Int)=0
   ·rw [decide_eq_true (congrArg V.int z)]
    rw [decide_eq_true z,Bool.true_or]at hQ
    exact b5 hQ
   ·rw [decide_eq_false (λy=>z (V.int.inj y))]
    rw [decide_eq_false z,Bool.false_or]at hQ
    exact aF ⟨_,rfl,_,_,rfl,rfl,_,rfl,hQ⟩
  ·refine az ⟨_,rfl,_,rfl,_,rfl,by show 5<=sizeLine;decide,λl8 nl8=>?_⟩
   obtain⟨g2,e2⟩:=laid (o:=.lst [V.int 8,V.int 3,V.int 2,V.int 2,V.int 1]) nl8
   have o2:=o1.trans (Off.grow g2)
   have hs2:=hs1.keep g2
   generalize upd H1 l8 _=H2 at g2 e2 o2 hs2 ⊢
   obtain⟨m,em,m1,m2⟩:=at8 hn
   refine⟨_,rfl,l8,_,_,_,rfl,rfl,SqL.of e2,em,s,ln,t,m,rfl,ss,lo,wd,hs2,g2 _ _ eln,hss,nls,g2 _ _ ett,nts,h0,h1,h2,m1,m2,λa l H3 okl na o3 hs3 hl=>?_⟩
   exact q a (.leaf l) H3 (nO okl) (hs2.free o2 na) (o2.trans o3) hs3 (pj.mpr (hl.keep (dC (H0:=H) λb hb=>hs2.free o2 hb)))
  ·rw [Bool.or_eq_false_iff]at hc
   have hv:4<=v:=by have:=of_decide_eq_false hc.2;omega
   have hn0:=of_decide_eq_false hc.1
   dsimp only
   obtain⟨w,cnt,ew,ec,hb⟩:=at4 hv v1
   refine ae (ao ⟨by show 4<=sizeLine;decide,λl4 nl4=>?_⟩)
   obtain⟨g2,e2⟩:=laid (o:=.lst (w4.map V.str)) nl4
   have o2:=o1.trans (Off.grow g2)
   have hs2:=hs1.keep g2
   refine⟨_,rfl,_,_,rfl,rfl,l4,_,_,_,rfl,rfl,SqL.of e2,ew,?_⟩
   dsimp only [aA,List.set_cons_zero,List.set_cons_succ]
   change uo _ _ _ (upd H1 l4 (.lst (w4.map V.str)))
   generalize upd H1 l4 (.lst (w4.map V.str))=H2 at g2 e2 o2 hs2 ⊢
   refine az ⟨_,rfl,cy (cX ⟨by show 4<=sizeLine;decide,λl5 nl5=>?_⟩)⟩
   obtain⟨g3,e3⟩:=laid (o:=.lst [V.int 2,V.int 2,V.int 4,V.int 4]) nl5
   have o3:=o2.trans (Off.grow g3)
   have hs3:=hs2.keep g3
   generalize upd H2 l5 _=H3 at g3 e3 o3 hs3 ⊢
   have el3:H3 ln=some (.lst (ss.map V.str)):=o3 _ _ el nls
   have et3:H3 t=some (.tup [.int lo,.int wd]):=o3 _ _ et nts
   obtain⟨m,rfl⟩:∃m,n=m+1:=⟨n - 1,by omega⟩
   have hcn:cnt=2\/cnt=4:=hb.elim (λz=>.inl z.2) λz=>.inr z.2
   refine⟨_,rfl,_,_,rfl,rfl,l5,_,_,_,rfl,rfl,SqL.of e3,ec,_,rfl,by omega,by omega,u8 (m:=m) (cnt:=cnt) hs3 (by omega) (λi H4 R hi hs4 o4 hR=>?_) λD as xs H4 nD o4 hs4 eD hp hxl hxs=>?_⟩
   ·refine⟨_,rfl,_,rfl,_,rfl,_,rfl,_,_,rfl,rfl,m,rfl,s,ln,t,?_,ss,lo,wd,by omega,hs4,o4 _ _ el3 nls,hss,nls,o4 _ _ et3 nts,nts,h0,h1,h2,hR⟩
    rw [show ((m+1:Nat):Int) - 1=(m:Int) from by omega];rfl
   ·refine⟨by show 2<=sizeLine;decide,λa na=>?_⟩
    have o5:=o3.trans o4
    have fa:=hs4.free o5 na
    obtain⟨g6,e6⟩:=laid (o:=.tup [V.str w,V.ref D]) na
    have fD:=hs3.free o3 nD
    refine q a (.brk w xs) _ ⟨by rw [hxl];exact hb,hxs⟩ fa (o5.trans (Off.grow g6)) (hs4.keep g6) (BN.mk D as (by rw [dg fa];exact e6) (by rw [dg fD];exact g6 _ _ eD) (Paired.mono (λa q0 h0=>cV.keep (aP.trans (dC (H0:=H) λb hb=>hs3.free o3 hb) (dS λb o _ e=>g6 _ _ e)) h0) hp))
theorem tm {f f1 f2:Addr}{fd:FuncData} (F:Fun K "_law_question" "_law_question" sLq f fd) (nq:mg "_law_question" = some (.ref f)) (bq:bA K fd ["_law_state", "_law_names_here", "_law_window_here", "_law_deep"] []) (N:Free mg){fd1:FuncData} (CP:Cal P w K mg base "_law_pull" 2 ["_law_state", "_law_many"] cG f1 fd1){fd2:FuncData} (CL:Cal P w K mg base "_law_leaf" 4 ["_law_state", "_law_names_here", "_law_window_here", "_law_most"] kF f2 fd2):∀n,FnOk P w K mg base CX0 (n+5) f fd ["_law_state", "_law_names_here", "_law_window_here", "_law_deep"] (rh n)
 | 0=>wq F N CP CL ⟨FnOk.no (λvs H Q E h=>by obtain⟨m,hm,_⟩:=h;cases hm),nq,F.kp,bq⟩
 | n+1=>wq F N CP CL ⟨FnOk.imp (tm F nq bq N CP CL n) (λvs H Q E h=>by obtain⟨m,hm,h⟩:=h;cases hm;exact h),nq,F.kp,bq⟩
noncomputable def vW:Sp:=λvs H Q E=>∃n,n<=4/\rh n vs H Q E
theorem xV {f f1 f2:Addr}{fd:FuncData} (F:Fun K "_law_question" "_law_question" sLq f fd) (nq:mg "_law_question" = some (.ref f)) (bq:bA K fd ["_law_state", "_law_names_here", "_law_window_here", "_law_deep"] []) (N:Free mg){fd1:FuncData} (CP:Cal P w K mg base "_law_pull" 2 ["_law_state", "_law_many"] cG f1 fd1){fd2:FuncData} (CL:Cal P w K mg base "_law_leaf" 4 ["_law_state", "_law_names_here", "_law_window_here", "_law_most"] kF f2 fd2):FnOk P w K mg base CX0 9 f fd ["_law_state", "_law_names_here", "_law_window_here", "_law_deep"] vW:=FnOk.ex (sp:=rh) (N:=4) λn hn=>FnOk.mono (tm F nq bq N CP CL n) (by omega)
noncomputable abbrev sLw:Stmt:=top 57
theorem yy {w:Str}{m:Nat} (h:(w∈ce/\m=2)\/(w∈cp/\m=4)):w∈w4:=by
 have a:∀w∈ce,w∈w4:=by decide +kernel
 have b:∀w∈cp,w∈w4:=by decide +kernel
 exact h.elim (λz=>a w z.1) λz=>b w z.1
theorem tw {p:Addr}{l:Lf} (ok:eN l):∃w r,lfV p l=.str w::r/\w∉w4/\cD l=w/\r=(lfV p l).tail:=by
 have g:∀w∈cm,w∉w4:=by decide +kernel
 cases l with
 | gth w ks f0 l0=>exact⟨w,_,rfl,g w ok.1,rfl,rfl⟩
 | num=>exact⟨_,_,rfl,by decide +kernel,rfl,rfl⟩
 | val=>exact⟨_,_,rfl,by decide +kernel,rfl,rfl⟩
 | snc=>exact⟨_,_,rfl,by decide +kernel,rfl,rfl⟩
 | prt=>exact⟨_,_,rfl,by decide +kernel,rfl,rfl⟩
 | chg=>exact⟨_,_,rfl,by decide +kernel,rfl,rfl⟩
noncomputable def zu:Lf->List Str
 | .gth _ ks _ _=>ks
 | _=>[]
noncomputable def gW (ks:List Str):V->V
 | .int i=>.str (si i)
 | .ref _=>.str (jc ks)
 | v=>v
theorem um (p:Addr) (l:Lf):(lfV p l).tail.map (gW (zu l))=(gm l).map V.str:=by cases l <;> rfl
theorem qP (p:Addr) (l:Lf):(lfV p l).tail.length<=4:=by cases l <;> exact Nat.le_of_ble_eq_true rfl
theorem mJ.bf {f l:Int} (h:mJ f l):Big f/\Big l:=by
 obtain⟨h1,h2,h3⟩:=h
 unfold Big
 omega
theorem lf_item {p:Addr}{l:Lf}{x:V} (ok:eN l) (h:x∈(lfV p l).tail):(∃z,x=.str z)\/(∃i,x=.int i/\Big i)\/(x=.ref p/\∃w ks f0 l0,l=.gth w ks f0 l0):=by
 have cs:∀{z:Str},x=.str z->(∃z,x=.str z)\/(∃i,x=.int i/\Big i)\/(x=.ref p/\∃w ks f0 l0,l=.gth w ks f0 l0):=λe=>.inl ⟨_,e⟩
 have ci:∀{z:Int},x=.int z->Big z->(∃z,x=.str z)\/(∃i,x=.int i/\Big i)\/(x=.ref p/\∃w ks f0 l0,l=.gth w ks f0 l0):=λe b=>.inr (.inl ⟨_,e,b⟩)
 cases l with
 | num z=>
  exact ci (List.mem_singleton.mp (show x∈[V.int z] from h)) ok
 | val k d=>
  rcases List.mem_cons.mp (show x∈[V.str k,V.int d] from h) with e | h
  ·exact cs e
  ·exact ci (List.mem_singleton.mp h) ⟨by have:=ok.2.1;omega,by have:=ok.2.2;omega⟩
 | gth w ks f0 l0=>
  rcases List.mem_cons.mp (show x∈[V.ref p,V.int f0,V.int l0] from h) with e | h
  ·exact .inr (.inr ⟨e,w,ks,f0,l0,rfl⟩)
  ·rcases List.mem_cons.mp h with e | h
   ·exact ci e ok.2.2.bf.1
   ·exact ci (List.mem_singleton.mp h) ok.2.2.bf.2
 | snc k b0 f0 l0=>
  rcases List.mem_cons.mp (show x∈[V.str k,V.int b0,V.int f0,V.int l0] from h) with e | h
  ·exact cs e
  ·rcases List.mem_cons.mp h with e | h
   ·exact ci e ok.2.1
   ·rcases List.mem_cons.mp h with e | h
    ·exact ci e ok.2.2.bf.1
    ·exact ci (List.mem_singleton.mp h) ok.2.2.bf.2
 | prt k k2 f0 l0=>
  rcases List.mem_cons.mp (show x∈[V.str k,V.str k2,V.int f0,V.int l0] from h) with e | h
  ·exact cs e
  ·rcases List.mem_cons.mp h with e | h
   ·exact cs e
   ·rcases List.mem_cons.mp h with e | h
    ·exact ci e ok.2.2.bf.1
    ·exact ci (List.mem_singleton.mp h) ok.2.2.bf.2
 | chg r0 k f0 l0=>
  rcases List.mem_cons.mp (show x∈[V.int r0,V.str k,V.int f0,V.int l0] from h) with e | h
  ·exact ci e ⟨by have:=ok.1.1;omega,by have:=ok.1.2;omega⟩
  ·rcases List.mem_cons.mp h with e | h
   ·exact cs e
   ·rcases List.mem_cons.mp h with e | h
    ·exact ci e ok.2.2.bf.1
    ·exact ci (List.mem_singleton.mp h) ok.2.2.bf.2
inductive LwI (n:Nat) (nd:Nd) (a:Addr) (H:Hp) (Q:VK):Prop
 | mk (ok:cC n nd) (hn:n<=4) (h:cV n nd H a) (q:∀p H',H p=none->aP H H'->H' p=some (.lst ((aL n nd).map V.str))->Q (.ref p) H'):LwI n nd a H Q
noncomputable def re (n:Nat):Sp:=λvs H Q _=>∃(a:Addr) (nd:Nd),vs=[.ref a]/\LwI n nd a H Q
noncomputable def yR (n:Nat):Sp:=λvs H Q E=>∃m,n=m+1/\re m vs H Q E
inductive LwV (H:Hp) (a:Addr) (w:Str) (m:Nat) (xs:List Nd) (i:Nat) (σ:St) (H2:Hp):Prop
 | mk (p:Addr) (v2:Option V) (h1:σ=[some (.ref a),some (.ref p),v2]) (h2:H p=none) (h3:aP H H2) (h4:H2 p=some (.lst ((w::(xs.take i).flatMap (cw m)).map V.str))):LwV H a w m xs i σ H2
theorem pw {n:Nat}{q:Nd} (h:cC n q) (hn:n<=3):(cw n q).length<=511:=by
 have:=cF h
 have h2:=uf hn
 show (opS::(aL n q++[clS])).length<=511
 rw [List.length_cons,List.length_append,List.length_singleton]
 omega
theorem br {k:Nat} (h:k<=100000):k<=sizeLine:=Nat.le_trans h (by decide)
theorem ud (x:V) (r:List V):atI (x::r) 0=some x:=dB (show (x::r)[0]?=some x from rfl)
theorem tZ (r:List V):HT.sIx (r.length+1) 0 (some 1)=1:=by
 rw [show (some (1:Int))=some ((1:Nat):Int) from rfl,HT.sIx_nat]
 exact Nat.min_eq_left (by omega)
theorem yv (x:V) (r:List V):da (x::r) (some 1) none=r:=by
 unfold da
 rw [List.length_cons,tZ]
 show (r.take (r.length+1 - 1))=r
 rw [Nat.add_sub_cancel,List.take_length]
theorem ux:FnScope ["_law_node", "_law_found", "_law_part"] ["_law_node"] (aw sLw):=⟨rfl,rfl,rfl,by decide +kernel,rfl,by decide +kernel,by decide +kernel⟩
theorem wp {n:Nat}{f f1:Addr}{fd:FuncData} (F:Fun K "_law_words" "_law_words" sLw f fd) (N:Free mg){fd1:FuncData} (CW:Cal P w K mg base "_law_words" n ["_law_node"] (yR n) f1 fd1):FnOk P w K mg base CX0 (n+1) f fd ["_law_node"] (re n):=by
 refine F.ok (k:=n) ux (λvs H Q E h=>?_) (λcdv A outer s H vs Q E hr h=>?_)
 ·obtain⟨a,nd,rfl,_⟩:=h
  rfl
 ·obtain⟨a,nd,rfl,ok,hn,h,q⟩:=h
  have hu:=aM hr
  refine⟨_,(ad (aO (aC bw (b9 eF (pv 0) ag (λ_ _=>rfl)) (bQ (aa ah (aa ah (aa ah (aa ah ac))))) (by with_unfolding_all rfl)) (ad (ax (i:=1) ux.nd rfl (Or.inl rfl) (aH (aa (b9 eF (pv 0) ag (λ_ _=>rfl)) ac)))
   (ad (cS PassesOwn.never rfl (cq (b9 eF (pv 0) ag (λ_ _=>rfl))) (bO (i:=2) ux.nd rfl (Or.inl rfl))
   (af (ax (i:=1) ux.nd rfl (Or.inl rfl) (aJ bK (aJ bK (aJ bK (pv 1) (aH (aa ah ac))) (au CW.ok (hr.mono (by omega)) rfl CW.nm CW.kp CW.bd .nil ar (aa (pv 2) ac))) (aH (aa ah ac))))))
   (af (av (pv 1))))) ay)
   (af (av (aJ bK (aH (aa (b9 eF (pv 0) ag (λ_ _=>rfl)) ac)) (ff (bP rfl (xF (bj wS (pv 0) (bu ag) bD)) rfl rfl (by show ∀p∈_,i0 [] p;decide) (by decide) rfl (by show ([Str.ofString "_law_one"]:List Str).Nodup;decide) .nil (λC fp s H=>cY) (λC fp s H=>(ja (cg (aI (r:=rIs K) cv (by rfl) N.isinstance PyProof.Rows.Boot.«isinstance» (aa (pv 0) (aa (ee (v:=.ty "list") (by rfl) N.list PyProof.Rows.Boot.«list» rfl) ac)))) (xI (K:=K) rfl PySem.F.plainAttrs_str PySem.F.slot_str_join PySem.F.type_str_join du ah (aa (pv 0) ac)) (aV qA (by rfl) N.str PyProof.Rows.Boot.«str» (aa (pv 0) ac)))))))))),?_⟩
  cases nd with
  | leaf l=>
   have okl:=iK ok
   obtain⟨pk,ea,hk⟩:=pj.mp h
   obtain⟨w,r,ev,nw,ew,er⟩:=tw (p:=pk) okl
   have ea':=ea
   rw [ev]at ea'
   refine ae (aq ⟨_,rfl,a,_,0,_,rfl,rfl,SqT.of ea',ud _ _,by show 4<=sizeLine;decide,λtp ntp=>?_⟩)
   obtain⟨g1,e1⟩:=laid (o:=.tup (w4.map V.str)) ntp
   change rIn _ _ _ _ (upd H tp (.tup (w4.map V.str))) _
   generalize upd H tp _=H1 at g1 e1 ⊢
   refine⟨tp,_,rfl,.inr (SqT.of e1),rfl,aR _,?_⟩
   rw [if_neg Bool.false_ne_true,bb,decide_eq_false nw]
   refine⟨_,rfl,aF (ai ?_)⟩
   dsimp only
   refine az ⟨_,rfl,a,_,0,_,rfl,rfl,SqT.of (g1 _ _ ea'),ud _ _,by show 1<=sizeLine;decide,λp1 np1=>?_⟩
   obtain⟨g2,e2⟩:=laid (o:=.lst [V.str w]) np1
   generalize upd H1 p1 _=H2 at g2 e2 ⊢
   have g12:=g1.trans g2
   refine cX ⟨_,rfl,_,rfl,a,_,rfl,SqT.of (g12 _ _ ea'),(λz=>by rw [List.length_cons,tZ]at z;exact absurd z.1 (by decide)),λt2 nt2=>?_⟩
   obtain⟨g3,e3⟩:=laid (o:=.tup (da (.str w::r) (some 1) none)) nt2
   generalize upd H2 t2 _=H3 at g3 e3 ⊢
   have g13:=g12.trans g3
   have ec:da (.str w::r) (some 1) none=(lfV pk l).tail:=by rw [er];exact yv _ _
   rw [ec]at e3
   refine⟨t2,rfl,⟨_,SqT.of e3⟩,nZ (g:=gW (zu l)) (Nat.lt_of_le_of_lt (qP pk l) (by decide)) e3 (λx H4 R hx g4 hR=>?_) λD nD=>?_⟩
   ·have g14:=g13.trans g4
    rcases lf_item okl hx with⟨z,rfl⟩ | ⟨i,rfl,hb⟩ | ⟨rfl,w',ks,f0,l0,rfl⟩
    ·exact⟨_,rfl,_,"list", _,false,rfl,.str z,by rfl,_,rfl,aF ⟨_,rfl,.str z rfl hR⟩⟩
    ·exact⟨_,rfl,_,"list", _,false,rfl,.int i,by rfl,_,rfl,aF ⟨_,rfl,.int i rfl (cf hb.1 hb.2) hR⟩⟩
    ·have ek:=g14 _ _ (show H pk=some (.lst (ks.map V.str)) from hk)
     obtain⟨hg,⟨k1,k8,_,hks⟩,_⟩:=id okl
     refine⟨_,rfl,_,"list", _,true,rfl,.lst ek,by rfl,_,rfl,b5 ⟨rfl,_,rfl,_,pk,ks,rfl,rfl,ek,?_,hR⟩⟩
     have:=fS 8 ks λw hw=>(jf (hks w hw)).2.1
     rw [show (Str.ofString ",").length=1 from by decide +kernel]
     omega
   ·rw [um]
    obtain⟨g4,e4⟩:=laid (o:=.lst ((gm l).map V.str)) nD
    refine⟨p1,D,_,_,rfl,rfl,g4 _ _ (g3 _ _ e2),e4,?_,λp3 np3=>?_⟩
    ·rw [List.length_map]
     have:(gm l).length<=5:=by
      have:=(ib l).2
      rw [qL l,List.length_cons]at this
      omega
     exact br (show 1+_<=100000 by omega)
    obtain⟨g5,e5⟩:=laid (o:=.lst ([V.str w]++(gm l).map V.str)) np3
    refine q p3 _ (bt (g13.trans g4) np3) ((g13.trans g4).trans g5) ?_
    rw [e5,cW,qL l,ew]
    rfl
  | brk w xs=>
   cases n with
   | zero=>exact(show False from ok).elim
   | succ m=>
    obtain⟨li,as,ea,eli,hp⟩:BN w xs (λa q=>cV m q H a) H a:=h
    obtain⟨hw,hxs⟩:_/\_:=id ok
    have hl4:=fJ hw
    have hal:=cu hp
    refine ae (aq ⟨_,rfl,a,_,0,_,rfl,rfl,SqT.of ea,rfl,by show 4<=sizeLine;decide,λtp ntp=>?_⟩)
    obtain⟨g1,e1⟩:=laid (o:=.tup (w4.map V.str)) ntp
    change rIn _ _ _ _ (upd H tp (.tup (w4.map V.str))) _
    generalize upd H tp _=H1 at g1 e1 ⊢
    refine⟨tp,_,rfl,.inr (SqT.of e1),rfl,aR _,?_⟩
    rw [if_neg Bool.false_ne_true,bb,decide_eq_true (yy hw)]
    refine⟨_,rfl,b5 ?_⟩
    refine ae (ao ⟨_,rfl,a,_,0,_,rfl,rfl,SqT.of (g1 _ _ ea),rfl,by show 1<=sizeLine;decide,λp1 np1=>?_⟩)
    dsimp only [aA,List.set_cons_zero,List.set_cons_succ]
    obtain⟨g2,e2⟩:=laid (o:=.lst [V.str w]) np1
    generalize upd H1 p1 _=H2 at g2 e2 ⊢
    have g12:=g1.trans g2
    refine ae ⟨_,rfl,a,_,1,_,rfl,rfl,SqT.of (g12 _ _ ea),rfl,li,rfl,⟨_,SqL.of (g12 _ _ eli)⟩,dk (K:=K) (a:=li) (xs:=as.map V.ref) (LwV H a w m xs) ⟨p1,none,rfl,bt g1 np1,g12,e2⟩ (λi σ H3 _ hh=>?_) (λi v σ H3 hi hh=>?_) λσ H3 hh=>?_⟩
    ·obtain⟨p,v2,rfl,_,g3,_⟩:=hh
     exact SqL.of (g3 _ _ eli)
    ·obtain⟨p,v2,rfl,np,g3,e3⟩:=hh
     rw [List.getElem?_map]at hi
     obtain⟨b0,hb0,rfl⟩:=Option.map_eq_some_iff.mp hi
     obtain⟨q0,hq0,hqa⟩:=eg hp hb0
     have hqx:=hxs q0 (List.mem_of_getElem? hq0)
     have hil:=(List.getElem?_eq_some_iff.mp hq0).1
     have et:xs.take (i+1)=xs.take i++[q0]:=by rw [List.take_add_one,hq0];rfl
     dsimp only [aA,List.set_cons_zero,List.set_cons_succ]
     have hbl:=cN (g:=cw m) (m:=511) (xs.take i) λq hq=>pw (hxs q (List.mem_of_mem_take hq)) (by omega)
     rw [List.length_take]at hbl
     have hkl:=pw hqx (show m<=3 by omega)
     have hwl:(aL m q0).length<=509:=Nat.le_trans (cF hqx) (uf (by omega))
     refine ao ⟨_,rfl,by show 1<=sizeLine;decide,λp2 np2=>?_⟩
     obtain⟨g4,e4⟩:=laid (o:=.lst [V.str opS]) np2
     change uM _ _ (upd H3 p2 (.lst [V.str opS])) _
     generalize upd H3 p2 _=H4 at g4 e4 ⊢
     have e3':=g4 _ _ e3
     refine⟨p,p2,_,_,rfl,rfl,e3',e4,?_,λp3 np3=>?_⟩
     ·rw [List.length_map,List.length_cons]
      exact br (show _+1+1<=100000 by omega)
     obtain⟨g5,e5⟩:=laid (o:=.lst ((w::(xs.take i).flatMap (cw m)).map V.str++[V.str opS])) np3
     generalize upd H4 p3 _=H5 at g5 e5 ⊢
     have g35:=(g3.trans g4).trans g5
     refine⟨_,rfl,m,rfl,b0,q0,rfl,hqx,by omega,cV.keep g35 hqa,λp4 H6 np4 g6 e6=>?_⟩
     refine⟨p3,p4,_,_,rfl,rfl,g6 _ _ e5,e6,?_,λp5 np5=>?_⟩
     ·rw [List.length_append,List.length_map,List.length_map,List.length_cons,List.length_singleton]
      exact br (show _+1+1+_<=100000 by omega)
     obtain⟨g7,e7⟩:=laid (o:=.lst ((w::(xs.take i).flatMap (cw m)).map V.str++[V.str opS]++(aL m q0).map V.str)) np5
     generalize upd H6 p5 _=H7 at g7 e7 ⊢
     refine⟨by show 1<=sizeLine;decide,λp6 np6=>?_⟩
     obtain⟨g8,e8⟩:=laid (o:=.lst [V.str clS]) np6
     change uM _ _ (upd H7 p6 (.lst [V.str clS])) _
     generalize upd H7 p6 _=H8 at g8 e8 ⊢
     have e7':=g8 _ _ e7
     refine⟨p5,p6,_,_,rfl,rfl,e7',e8,?_,λp9 np9=>?_⟩
     ·rw [List.length_append,List.length_append,List.length_map,List.length_map,List.length_cons,List.length_singleton]
      exact br (show _+1+1+_+1<=100000 by omega)
     obtain⟨g9,e9⟩:=laid (o:=.lst ((w::(xs.take i).flatMap (cw m)).map V.str++[V.str opS]++(aL m q0).map V.str++[V.str clS])) np9
     have gg:=((g35.trans g6).trans g7).trans g8
     refine⟨p9,_,rfl,bt gg np9,gg.trans g9,?_⟩
     show upd H8 p9 _ p9=_
     rw [e9,et,List.flatMap_append,List.flatMap_cons,List.flatMap_nil,List.append_nil]
     show some (HO.lst (V.str w::_++_++_++_))=some (HO.lst (V.str w::((xs.take i).flatMap (cw m)++(opS::(aL m q0++[clS]))).map V.str))
     rw [List.map_append,List.map_cons,List.map_append,List.append_assoc,List.append_assoc]
     rfl
    ·obtain⟨p,v2,rfl,np,g3,e3⟩:=hh
     rw [List.length_map,hal,List.take_length]at e3
     dsimp only
     exact az ⟨_,rfl,q p H3 np g3 e3⟩
noncomputable def rc:Sp:=λvs H Q E=>∃n,n<=4/\re n vs H Q E
theorem tf {f:Addr}{fd:FuncData} (F:Fun K "_law_words" "_law_words" sLw f fd) (nq:mg "_law_words" = some (.ref f)) (bq:bA K fd ["_law_node"] []) (N:Free mg):∀n,FnOk P w K mg base CX0 (n+1) f fd ["_law_node"] (re n)
 | 0=>wp F N ⟨FnOk.no (λvs H Q E h=>by obtain⟨m,hm,_⟩:=h;cases hm),nq,F.kp,bq⟩
 | n+1=>wp F N ⟨FnOk.imp (tf F nq bq N n) (λvs H Q E h=>by obtain⟨m,hm,h⟩:=h;cases hm;exact h),nq,F.kp,bq⟩
theorem xR {f:Addr}{fd:FuncData} (F:Fun K "_law_words" "_law_words" sLw f fd) (nq:mg "_law_words" = some (.ref f)) (bq:bA K fd ["_law_node"] []) (N:Free mg):FnOk P w K mg base CX0 5 f fd ["_law_node"] rc:=FnOk.ex (sp:=re) (N:=4) λn hn=>FnOk.mono (tf F nq bq N n) (by omega)
noncomputable abbrev xp:Stmt:=top 58
noncomputable abbrev xq:Stmt:=top 59
noncomputable abbrev xm:Stmt:=top 60
noncomputable abbrev xl:Stmt:=top 61
noncomputable abbrev xt:Stmt:=top 62
noncomputable abbrev xi:Stmt:=top 63
noncomputable abbrev xr:Stmt:=top 64
noncomputable abbrev xh:Stmt:=top 65
noncomputable abbrev xj:Stmt:=top 66
noncomputable abbrev xk:Stmt:=top 67
noncomputable abbrev xo:Stmt:=top 68
theorem ue {n:Nat} (h:n<=4):Wn n<=2045:=by
 rcases (show n=0\/n=1\/n=2\/n=3\/n=4 by omega) with rfl | rfl | rfl | rfl | rfl <;> decide
theorem tG {ws:List Str} (h:∀w∈ws,w.length<=400) (hl:ws.length<=3000):(ws.map (·.length)).sum+ws.length * (Str.ofString " ").length<=16777216:=by
 have:=fS 400 ws h
 rw [show (Str.ofString " ").length=1 from by decide +kernel,Nat.mul_one]
 omega
theorem qE {k:Nat} (h:k<=2000000):k<=sizeLine:=Nat.le_trans h (by decide)
inductive FtI (n:Nat) (nd:Nd) (a:Addr) (H:Hp) (Q:VK):Prop
 | mk (ok:cC n nd) (hn:n<=4) (h:cV n nd H a) (q:∀m nd' a' H',m<=4->cC m nd'->cV m nd' H' a'->aP H H'->Q (.ref a') H'):FtI n nd a H Q
noncomputable def vZ:Sp:=λvs H Q _=>∃(n:Nat) (nd:Nd) (a:Addr),vs=[.ref a]/\FtI n nd a H Q
inductive FtW (H:Hp) (m:Nat) (σ:St) (H2:Hp):Prop
 | mk (nd:Nd) (a:Addr) (h1:σ=[some (.ref a)]) (h2:m<=4) (h3:cC m nd) (h4:cV m nd H2 a) (h5:aP H H2):FtW H m σ H2
theorem tz {l:Lf} (ok:eN l):(jn (b8 l)).length<=400:=by
 have:=jh (ws:=b8 l) (m:=79) λw hw=>(pq ok w hw).hi
 have h2:=(ib l).2
 omega
theorem wc:FnScope ["_law_node"] ["_law_node"] (aw xp):=⟨rfl,rfl,rfl,by decide +kernel,rfl,by decide +kernel,by decide +kernel⟩
theorem xZ {f f1:Addr}{fd:FuncData} (F:Fun K "_law_fitting" "_law_fitting" xp f fd) (N:Free mg){fd1:FuncData} (CW:Cal P w K mg base "_law_words" 5 ["_law_node"] rc f1 fd1):FnOk P w K mg base CX0 6 f fd ["_law_node"] vZ:=by
 refine F.ok (k:=5) wc (λvs H Q E h=>?_) (λcdv A outer s H vs Q E hr h=>?_)
 ·obtain⟨n,nd,a,rfl,_⟩:=h
  rfl
 ·obtain⟨n,nd,a,rfl,ok,hn,h,q⟩:=h
  have hu:=aM hr
  refine⟨_,(ad (j8 PassesOwn.never (aC sC (aI dc (by rfl) N.len PySem.boot_len (aa (bW PySem.F.plainAttrs_str PySem.F.slot_str_join PySem.F.type_str_join du ah (aa (au CW.ok (hr.mono (by decide)) rfl CW.nm CW.kp CW.bd .nil ar (aa (pv 0) ac)) ac)) ac)) ag (aE _)) (af (ax (i:=0) wc.nd rfl (Or.inl rfl) (b9 aT (b9 eF (pv 0) ag (λ_ _=>rfl)) ag (λ_ _=>rfl)))))
   (af (av (pv 0)))),?_⟩
  refine ae (j7 (FtW H) (m:=n) ⟨nd,a,rfl,hn,ok,h,aP.refl⟩ λm σ H2 hh=>?_)
  obtain⟨nd2,a2,rfl,hm,ok2,h2,g2⟩:=hh
  refine⟨rfl,_,rfl,m,hm,a2,nd2,rfl,ok2,hm,h2,λp H3 np g3 e3=>?_⟩
  have hws:=eU ok2
  have hwl:=Nat.le_trans (cF ok2) (ue hm)
  refine⟨_,p,_,rfl,rfl,e3,tG (λw hw=>Nat.le_trans (hws w hw).len (by decide)) (by omega),?_⟩
  have hjl:=jh (ws:=aL m nd2) (m:=79) λw hw=>(hws w hw).len
  refine⟨_,rfl,qE (Nat.le_trans hjl (by omega)),?_⟩
  refine⟨_,_,rfl,rfl,_,rfl,cj (λhc=>?_) λ_=>?_⟩
  ·have hc:((jn (aL m nd2)).length:Int) > 400:=of_decide_eq_true hc
   cases nd2 with
   | leaf l=>
    rw [cW]at hc
    have:=tz (iK ok2)
    omega
   | brk w xs=>
    cases m with
    | zero=>exact(show False from ok2).elim
    | succ m=>
     obtain⟨li,as,ea,eli,hp⟩:BN w xs (λa q=>cV m q H2 a) H2 a2:=h2
     obtain⟨hw,hxs⟩:_/\_:=id ok2
     have hl4:=fJ hw
     refine⟨FtW H m,λσ' H' hh=>⟨m,by omega,hh⟩,?_⟩
     cases hp with
     | nil=>exact absurd hl4.1 (by decide)
     | cons hq0 hr=>
      refine ao ⟨_,rfl,a2,_,1,_,rfl,rfl,SqT.of (g3 _ _ ea),rfl,li,_,0,_,rfl,rfl,SqL.of (g3 _ _ eli),ud _ _,?_⟩
      dsimp only [aA,List.set_cons_zero,List.set_cons_succ]
      exact⟨_,_,rfl,by omega,hxs _ List.mem_cons_self,cV.keep g3 hq0,g2.trans g3⟩
  ·dsimp only
   exact az ⟨_,rfl,q m nd2 a2 H3 hm ok2 (cV.keep g3 h2) (g2.trans g3)⟩
noncomputable def roS:Ro->Str
 | .q=>Str.ofString "q" | .op=>Str.ofString "(" | .cl=>Str.ofString ")" | .k=>Str.ofString "k" | .ks=>Str.ofString "ks" | .n=>Str.ofString "n" | .c=>Str.ofString "c" | .f=>Str.ofString "f" | .l=>Str.ofString "l" | .d=>Str.ofString "d"
noncomputable abbrev FT:=Str->Option (List Str)
inductive FvI (H H2:Hp) (o:Option (List Str)) (v:Option V):Prop
 | no (h1:o=none) (h2:v=none):FvI H H2 o v
 | ye (R:List Str) (a:Addr) (h1:o=some R) (h2:v=some (.ref a)) (h3:H a=none) (h4:H2 a=some (.lst (R.map V.str))):FvI H H2 o v
noncomputable def Fv (H H2:Hp) (kvs:List (Key × V)) (F:FT):Prop:=∀w,FvI H H2 (F w) (valV kvs (.inr w))
theorem Fv.nil {H H2:Hp}:Fv H H2 [] (λ_=>none):=λ_=>.no rfl rfl
theorem Fv.put {H H2:Hp}{kvs:List (Key × V)}{F:FT}{x:Str}{R:List Str}{a:Addr} (h:Fv H H2 kvs F) (na:H a=none) (ea:H2 a=some (.lst (R.map V.str))):Fv H H2 (dZ kvs (.inr x) (.ref a)) (λw=>if w=x then some R else F w):=λw=>by
 dsimp only
 rw [qM]
 by_cases z:w=x
 ·rw [if_pos z,if_pos (congrArg Sum.inr z)]
  exact .ye R a rfl rfl na ea
 ·rw [if_neg z,if_neg (λy=>z (Sum.inr.inj y))]
  exact h w
theorem Fv.keep {H H2 H3:Hp}{kvs:List (Key × V)}{F:FT} (h:Fv H H2 kvs F) (k:∀b xs,H2 b=some (.lst xs)->H3 b=some (.lst xs)):Fv H H3 kvs F:=λw=>by
 rcases h w with⟨h1,h2⟩ | ⟨R,a,h1,h2,h3,h4⟩
 ·exact .no h1 h2
 ·exact .ye R a h1 h2 h3 (k _ _ h4)
inductive FD (H:Hp) (d:Addr) (m:Nat) (F:FT) (H2:Hp):Prop
 | mk (kvs:List (Key × V)) (h1:H d=none) (h2:aP H H2) (h3:H2 d=some (.dK kvs)) (h4:kvs.length<=m) (h5:Fv H H2 kvs F):FD H d m F H2
theorem FD.keep {H H2 H3:Hp}{d:Addr}{m:Nat}{F:FT} (h:FD H d m F H2) (g:aP H2 H3):FD H d m F H3:=by
 obtain⟨kvs,h1,h2,h3,h4,h5⟩:=h
 exact⟨kvs,h1,h2.trans g,g _ _ h3,h4,h5.keep λb xs e=>g _ _ e⟩
theorem FD.gr {H H2:Hp}{d:Addr}{m:Nat}{F:FT} (h:FD H d m F H2):aP H H2:=by obtain⟨_,_,h2,_⟩:=h;exact h2
theorem FD.congr {H H2:Hp}{d:Addr}{m:Nat}{F F':FT} (h:FD H d m F H2) (e:∀w,F w=F' w):FD H d m F' H2:=by rw [show F'=F from funext λw=>(e w).symm];exact h
theorem FD.put {H H2:Hp}{d a:Addr}{m:Nat}{F:FT}{x:Str}{R:List Str} (h:FD H d m F H2) (hm:m<=20) (na:H a=none) (ea:H2 a=some (.lst (R.map V.str))):∃H4,qF H2 d (.str x) (.ref a) H4/\FD H d (m+1) (λw=>if w=x then some R else F w) H4/\∀b xs,H2 b=some (.lst xs)->H4 b=some (.lst xs):=by
 obtain⟨kvs,h1,h2,h3,h4,h5⟩:=h
 have kp:∀b xs,H2 b=some (.lst xs)->upd H2 d (.dK (dZ kvs (.inr x) (.ref a))) b=some (.lst xs):=λb xs e=>by
  rw [al (λz=>by rw [z,h3]at e;cases e)];exact e
 refine⟨_,qF.k (k:=.inr x) h3 (be (by omega)),⟨_,h1,λb o e=>?_,aj,?_,(h5.put na ea).keep kp⟩,kp⟩
 ·rw [al (am e h1)];exact h2 _ _ e
 ·exact Nat.le_trans (dw _ _ _) (by omega)
noncomputable abbrev f0T:FT:=λw=>if w=Str.ofString "part" then some [Str.ofString "k", Str.ofString "k", Str.ofString "f", Str.ofString "l"] else if w=Str.ofString "since" then some [Str.ofString "k", Str.ofString "n", Str.ofString "f", Str.ofString "l"] else if w=Str.ofString "value" then some [Str.ofString "k", Str.ofString "d"] else if w=Str.ofString "number" then some [Str.ofString "n"] else none
noncomputable abbrev f1T:FT:=λw=>if w=Str.ofString "change" then some [Str.ofString "c", Str.ofString "k", Str.ofString "f", Str.ofString "l"] else f0T w
noncomputable def onT (ns R:List Str) (F:FT):FT:=λw=>if w∈ns then some R else F w
theorem lm (R:List Str) (F:FT) (w:Str):F w=onT [] R F w:=by unfold onT;rw [if_neg (λz=>nomatch z)]
theorem jd {ns R:List Str}{F:FT}{i:Nat}{x:Str} (h:ns[i]?=some x) (w:Str):(if w=x then some R else onT (ns.take i) R F w)=onT (ns.take (i+1)) R F w:=by
 unfold onT
 rw [List.take_add_one,h]
 show _=if w∈ns.take i++[x] then _ else _
 by_cases z:w=x
 ·rw [if_pos z,if_pos (by rw [z];exact List.mem_append_right _ List.mem_cons_self)]
 ·rw [if_neg z]
  by_cases y:w∈ns.take i
  ·rw [if_pos y,if_pos (List.mem_append_left _ y)]
  ·rw [if_neg y,if_neg (λm=>(List.mem_append.mp m).elim y λq=>z (List.mem_singleton.mp q))]
noncomputable abbrev fGT:FT:=onT [Str.ofString "sum", Str.ofString "count", Str.ofString "least", Str.ofString "greatest"] [Str.ofString "ks", Str.ofString "f", Str.ofString "l"] f1T
noncomputable abbrev fRT:FT:=onT [Str.ofString "plus", Str.ofString "minus"] [Str.ofString "(", Str.ofString "q", Str.ofString ")", Str.ofString "(", Str.ofString "q", Str.ofString ")"] fGT
noncomputable abbrev fCT:FT:=onT [Str.ofString "less", Str.ofString "same"] [Str.ofString "(", Str.ofString "q", Str.ofString ")", Str.ofString "(", Str.ofString "q", Str.ofString ")", Str.ofString "(", Str.ofString "q", Str.ofString ")", Str.ofString "(", Str.ofString "q", Str.ofString ")"] fRT
noncomputable abbrev vB:List Str:=[Str.ofString "number", Str.ofString "value", Str.ofString "since", Str.ofString "part", Str.ofString "change"]++[Str.ofString "sum", Str.ofString "count", Str.ofString "least", Str.ofString "greatest"]++[Str.ofString "plus", Str.ofString "minus"]++[Str.ofString "less", Str.ofString "same"]
theorem tQ (w:Str):fCT w=(bM w).map (List.map roS):=by
 by_cases h:w∈vB
 ·have:∀w∈vB,fCT w=(bM w).map (List.map roS):=by decide +kernel
  exact this w h
 ·have n:∀{l:List Str},(∀x∈l,x∈vB)->w∉l:=λhl hw=>h (hl w hw)
  have e:∀{x:Str},x∈vB->w≠x:=λhx z=>h (z ▸ hx)
  unfold bM fCT fRT fGT onT f1T f0T
  rw [if_neg (n (l:=[Str.ofString "less", Str.ofString "same"]) (by decide +kernel)),if_neg (n (l:=[Str.ofString "plus", Str.ofString "minus"]) (by decide +kernel)),if_neg (n (l:=[Str.ofString "sum", Str.ofString "count", Str.ofString "least", Str.ofString "greatest"]) (by decide +kernel)),if_neg (e (x:=Str.ofString "change") (by decide +kernel)),if_neg (e (x:=Str.ofString "part") (by decide +kernel)),if_neg (e (x:=Str.ofString "since") (by decide +kernel)),if_neg (e (x:=Str.ofString "value") (by decide +kernel)),if_neg (e (x:=Str.ofString "number") (by decide +kernel)),
   if_neg (e (x:=Str.ofString "number") (by decide +kernel)),if_neg (e (x:=Str.ofString "value") (by decide +kernel)),if_neg (e (x:=Str.ofString "since") (by decide +kernel)),if_neg (e (x:=Str.ofString "part") (by decide +kernel)),if_neg (e (x:=Str.ofString "change") (by decide +kernel)),if_neg (n (l:=cm) (by decide +kernel)),if_neg (n (l:=ce) (by decide +kernel)),if_neg (n (l:=cp) (by decide +kernel))]
  rfl
inductive FmV (H H':Hp) (w:Str) (v:V):Prop
 | no (h1:bM w=none) (h2:v=.non):FmV H H' w v
 | ye (R:List Ro) (p:Addr) (h1:bM w=some R) (h2:v=.ref p) (h3:H p=none) (h4:H' p=some (.lst ((R.map roS).map V.str))):FmV H H' w v
noncomputable def rl:Sp:=λvs H Q _=>∃w:Str,vs=[.str w]/\∀v H',aP H H'->FmV H H' w v->Q v H'
inductive FmW (H:Hp) (w:Str) (d li:Addr) (m:Nat) (ns R:List Str) (F:FT) (i:Nat) (σ:St) (H2:Hp):Prop
 | mk (v2:Option V) (h1:σ=[some (.str w),some (.ref d),v2]) (h2:FD H d (m+i) (onT (ns.take i) R F) H2) (h3:H2 li=some (.lst (ns.map V.str))):FmW H w d li m ns R F i σ H2
theorem lW:FnScope ["_law_word_here", "_law_some_here", "_law_each"] ["_law_word_here"] (aw xq):=⟨rfl,rfl,rfl,by decide +kernel,rfl,by decide +kernel,by decide +kernel⟩
theorem y0 {f:Addr}{fd:FuncData} (F:Fun K "_law_forms" "_law_forms" xq f fd) (N:Free mg):FnOk P w K mg base CX0 1 f fd ["_law_word_here"] rl:=by
 refine F.ok (k:=0) lW (λvs H Q E h=>?_) (λcdv A outer s H vs Q E hr h=>?_)
 ·obtain⟨w,rfl,_⟩:=h
  rfl
 ·obtain⟨w,rfl,q⟩:=h
  have hu:=aM hr
  refine⟨_,(@ad _ _ _ _ _ (@ax (i:=1) _ _ _ _ _ _ lW.nd rfl (Or.inl rfl) (@pb _ _ _ _ _ (@fe _ _ _ _ _ _ _ _ _ ah (@aH _ _ _ _ (@aa _ _ _ _ _ ah ac rfl)) (@fe _ _ _ _ _ _ _ _ _ ah (@aH _ _ _ _ (@aa _ _ _ _ _ ah (@aa _ _ _ _ _ ah ac rfl) rfl)) (@fe _ _ _ _ _ _ _ _ _ ah (@aH _ _ _ _ (@aa _ _ _ _ _ ah (@aa _ _ _ _ _ ah (@aa _ _ _ _ _ ah (@aa _ _ _ _ _ ah ac rfl) rfl) rfl) rfl)) (@fe _ _ _ _ _ _ _ _ _ ah (@aH _ _ _ _ (@aa _ _ _ _ _ ah (@aa _ _ _ _ _ ah (@aa _ _ _ _ _ ah (@aa _ _ _ _ _ ah ac rfl) rfl) rfl) rfl)) oY)))) rfl rfl (by decide) (by decide)) (by rfl) (by first | exact .inl rfl | exact .inr rfl))
   (@ad _ _ _ _ _ (@iJ _ _ _ _ _ _ _ _ _ hu (pv 1) ah (@aH _ _ _ _ (@aa _ _ _ _ _ ah (@aa _ _ _ _ _ ah (@aa _ _ _ _ _ ah (@aa _ _ _ _ _ ah ac rfl) rfl) rfl) rfl)) rfl)
   (ad (cS PassesOwn.never rfl (cq (@aH _ _ _ _ (@aa _ _ _ _ _ ah (@aa _ _ _ _ _ ah (@aa _ _ _ _ _ ah (@aa _ _ _ _ _ ah ac rfl) rfl) rfl) rfl))) (bO (i:=2) lW.nd rfl (Or.inl rfl))
   (af (iJ hu (pv 1) (pv 2) (aH (aa ah (aa ah (aa ah ac)))) rfl)))
   (ad (cS PassesOwn.never rfl (cq (aH (aa ah (aa ah ac)))) (bO (i:=2) lW.nd rfl (Or.inl rfl))
   (af (iJ hu (pv 1) (pv 2) (aJ sB (aH (aa ah (aa ah (aa ah ac)))) ag) rfl)))
   (ad (cS PassesOwn.never rfl (cq (aH (aa ah (aa ah ac)))) (bO (i:=2) lW.nd rfl (Or.inl rfl))
   (af (iJ hu (pv 1) (pv 2) (aJ sB (aH (aa ah (aa ah (aa ah ac)))) ag) rfl)))
   (af (av (sx hu (pv 1) (pv 0) ⟨rfl,rfl,rfl,rfl⟩)))))))),?_⟩
  refine ae (ao ?_)
  intro d nd
  refine⟨by show 1<=sizeLine;decide,λl1 n1=>⟨by show 2<=sizeLine;decide,λl2 n2=>⟨by show 4<=sizeLine;decide,λl3 n3=>⟨by show 4<=sizeLine;decide,λl4 n4=>?_⟩⟩⟩⟩
  obtain⟨g0,e0⟩:=laid (o:=.dK []) nd
  obtain⟨g1,e1⟩:=laid (o:=.lst [V.str (Str.ofString "n")]) n1
  obtain⟨g2,e2⟩:=laid (o:=.lst [V.str (Str.ofString "k"),V.str (Str.ofString "d")]) n2
  obtain⟨g3,e3⟩:=laid (o:=.lst [V.str (Str.ofString "k"),V.str (Str.ofString "n"),V.str (Str.ofString "f"),V.str (Str.ofString "l")]) n3
  obtain⟨g4,e4⟩:=laid (o:=.lst [V.str (Str.ofString "k"),V.str (Str.ofString "k"),V.str (Str.ofString "f"),V.str (Str.ofString "l")]) n4
  have m1:=bt g0 n1
  have m2:=bt (g0.trans g1) n2
  have m3:=bt ((g0.trans g1).trans g2) n3
  have m4:=bt (((g0.trans g1).trans g2).trans g3) n4
  have gH:=(((g0.trans g1).trans g2).trans g3).trans g4
  have ed:=g4 _ _ (g3 _ _ (g2 _ _ (g1 _ _ e0)))
  have e1:=g4 _ _ (g3 _ _ (g2 _ _ e1))
  have e2:=g4 _ _ (g3 _ _ e2)
  have e3:=g4 _ _ e3
  generalize upd (upd (upd (upd (upd H d _) l1 _) l2 _) l3 _) l4 _=H5 at e1 e2 e3 e4 ed gH ⊢
  refine⟨ed,[(.inr (Str.ofString "number"),.ref l1),(.inr (Str.ofString "value"),.ref l2),(.inr (Str.ofString "since"),.ref l3),(.inr (Str.ofString "part"),.ref l4)],rfl,by show 4<=15;decide,?_⟩
  have fv:Fv H H5 _ f0T:=(((Fv.nil.put (x:=Str.ofString "number") (R:=[Str.ofString "n"]) m1 e1).put (x:=Str.ofString "value") (R:=[Str.ofString "k", Str.ofString "d"]) m2 e2).put (x:=Str.ofString "since") (R:=[Str.ofString "k", Str.ofString "n", Str.ofString "f", Str.ofString "l"]) m3 e3).put (x:=Str.ofString "part") (R:=[Str.ofString "k", Str.ofString "k", Str.ofString "f", Str.ofString "l"]) m4 e4
  have fd:FD H d 4 f0T (upd H5 d (.dK (dE [] [(.inr (Str.ofString "number"),.ref l1),(.inr (Str.ofString "value"),.ref l2),(.inr (Str.ofString "since"),.ref l3),(.inr (Str.ofString "part"),.ref l4)]))):=⟨_,nd,λb o e=>by rw [al (am e nd)];exact gH _ _ e,aj,Nat.le_trans (dF _ _) (Nat.le_refl 4),fv.keep λb xs e=>by rw [al (λz=>by rw [z,ed]at e;cases e)];exact e⟩
  generalize upd H5 d _=H6 at fd ⊢
  dsimp only [aA,List.set_cons_zero,List.set_cons_succ]
  refine ae ⟨by show 4<=sizeLine;decide,λl5 n5=>?_⟩
  obtain⟨g7,e7⟩:=laid (o:=.lst [V.str (Str.ofString "c"),V.str (Str.ofString "k"),V.str (Str.ofString "f"),V.str (Str.ofString "l")]) n5
  obtain⟨H7,dp,fd,_⟩:=(fd.keep g7).put (x:=Str.ofString "change") (R:=[Str.ofString "c", Str.ofString "k", Str.ofString "f", Str.ofString "l"]) (by decide) (bt fd.gr n5) e7
  refine⟨_,rfl,d,H7,rfl,dp,?_⟩
  have fd:FD H d 5 f1T H7:=fd
  dsimp only
  refine ae ⟨by show 4<=sizeLine;decide,λli nli=>?_⟩
  obtain⟨gl,el⟩:=laid (o:=.lst [V.str (Str.ofString "sum"),V.str (Str.ofString "count"),V.str (Str.ofString "least"),V.str (Str.ofString "greatest")]) nli
  have fd:=fd.keep gl
  generalize upd _ li _=HL at el fd ⊢
  refine⟨li,rfl,⟨_,SqL.of el⟩,dk (K:=K) (a:=li) (xs:=([Str.ofString "sum", Str.ofString "count", Str.ofString "least", Str.ofString "greatest"]:List Str).map V.str) (FmW H w d li 5 [Str.ofString "sum", Str.ofString "count", Str.ofString "least", Str.ofString "greatest"] [Str.ofString "ks", Str.ofString "f", Str.ofString "l"] f1T) ⟨_,rfl,fd.congr (lm _ _),el⟩ (λi σ H3 _ hh=>?_) (λi v σ H3 hi hh=>?_) λσ H3 hh=>?_⟩
  ·obtain⟨v2,rfl,_,e3⟩:=hh
   exact SqL.of e3
  ·obtain⟨v2,rfl,fd,e3⟩:=hh
   rw [List.getElem?_map]at hi
   obtain⟨x,hx,rfl⟩:=Option.map_eq_some_iff.mp hi
   have hil:i < 4:=(List.getElem?_eq_some_iff.mp hx).1
   dsimp only [aA,List.set_cons_zero,List.set_cons_succ]
   refine⟨by show 3<=sizeLine;decide,λp np=>?_⟩
   obtain⟨g4,e4⟩:=laid (o:=.lst [V.str (Str.ofString "ks"),V.str (Str.ofString "f"),V.str (Str.ofString "l")]) np
   obtain⟨H5,dp,fd5,kp⟩:=(fd.keep g4).put (x:=x) (R:=[Str.ofString "ks", Str.ofString "f", Str.ofString "l"]) (by omega) (bt fd.gr np) e4
   exact⟨_,rfl,_,rfl,d,H5,rfl,dp,⟨_,rfl,fd5.congr (jd hx),kp _ _ (g4 _ _ e3)⟩⟩
  obtain⟨v2,rfl,fd,_⟩:=hh
  have fd:FD H d 9 fGT H3:=fd
  dsimp only
  refine ae ⟨by show 2<=sizeLine;decide,λli nli=>?_⟩
  obtain⟨gl,el⟩:=laid (o:=.lst [V.str (Str.ofString "plus"),V.str (Str.ofString "minus")]) nli
  have fd:=fd.keep gl
  generalize upd _ li _=HL at el fd ⊢
  refine⟨li,rfl,⟨_,SqL.of el⟩,dk (K:=K) (a:=li) (xs:=([Str.ofString "plus", Str.ofString "minus"]:List Str).map V.str) (FmW H w d li 9 [Str.ofString "plus", Str.ofString "minus"] [Str.ofString "(", Str.ofString "q", Str.ofString ")", Str.ofString "(", Str.ofString "q", Str.ofString ")"] fGT) ⟨_,rfl,fd.congr (lm _ _),el⟩ (λi σ H3 _ hh=>?_) (λi v σ H3 hi hh=>?_) λσ H3 hh=>?_⟩
  ·obtain⟨v2,rfl,_,e3⟩:=hh
   exact SqL.of e3
  ·obtain⟨v2,rfl,fd,e3⟩:=hh
   rw [List.getElem?_map]at hi
   obtain⟨x,hx,rfl⟩:=Option.map_eq_some_iff.mp hi
   have hil:i < 2:=(List.getElem?_eq_some_iff.mp hx).1
   dsimp only [aA,List.set_cons_zero,List.set_cons_succ]
   refine⟨by show 3<=sizeLine;decide,λp np=>?_⟩
   obtain⟨g4,e4⟩:=laid (o:=.lst [V.str (Str.ofString "("),V.str (Str.ofString "q"),V.str (Str.ofString ")")]) np
   refine⟨p,2,_,rfl,rfl,e4,by decide,by decide,by show 3 * 2<=sizeLine;decide,λp2 np2=>?_⟩
   obtain⟨g5,e5⟩:=laid (o:=.lst [V.str (Str.ofString "("),V.str (Str.ofString "q"),V.str (Str.ofString ")"),V.str (Str.ofString "("),V.str (Str.ofString "q"),V.str (Str.ofString ")")]) np2
   obtain⟨H5,dp,fd5,kp⟩:=((fd.keep g4).keep g5).put (x:=x) (R:=[Str.ofString "(", Str.ofString "q", Str.ofString ")", Str.ofString "(", Str.ofString "q", Str.ofString ")"]) (by omega) (bt (fd.keep g4).gr np2) e5
   exact⟨_,rfl,_,rfl,d,H5,rfl,dp,⟨_,rfl,fd5.congr (jd hx),kp _ _ (g5 _ _ (g4 _ _ e3))⟩⟩
  obtain⟨v2,rfl,fd,_⟩:=hh
  have fd:FD H d 11 fRT H3:=fd
  dsimp only
  refine ae ⟨by show 2<=sizeLine;decide,λli nli=>?_⟩
  obtain⟨gl,el⟩:=laid (o:=.lst [V.str (Str.ofString "less"),V.str (Str.ofString "same")]) nli
  have fd:=fd.keep gl
  generalize upd _ li _=HL at el fd ⊢
  refine⟨li,rfl,⟨_,SqL.of el⟩,dk (K:=K) (a:=li) (xs:=([Str.ofString "less", Str.ofString "same"]:List Str).map V.str) (FmW H w d li 11 [Str.ofString "less", Str.ofString "same"] [Str.ofString "(", Str.ofString "q", Str.ofString ")", Str.ofString "(", Str.ofString "q", Str.ofString ")", Str.ofString "(", Str.ofString "q", Str.ofString ")", Str.ofString "(", Str.ofString "q", Str.ofString ")"] fRT) ⟨_,rfl,fd.congr (lm _ _),el⟩ (λi σ H3 _ hh=>?_) (λi v σ H3 hi hh=>?_) λσ H3 hh=>?_⟩
  ·obtain⟨v2,rfl,_,e3⟩:=hh
   exact SqL.of e3
  ·obtain⟨v2,rfl,fd,e3⟩:=hh
   rw [List.getElem?_map]at hi
   obtain⟨x,hx,rfl⟩:=Option.map_eq_some_iff.mp hi
   have hil:i < 2:=(List.getElem?_eq_some_iff.mp hx).1
   dsimp only [aA,List.set_cons_zero,List.set_cons_succ]
   refine⟨by show 3<=sizeLine;decide,λp np=>?_⟩
   obtain⟨g4,e4⟩:=laid (o:=.lst [V.str (Str.ofString "("),V.str (Str.ofString "q"),V.str (Str.ofString ")")]) np
   refine⟨p,4,_,rfl,rfl,e4,by decide,by decide,by show 3 * 4<=sizeLine;decide,λp2 np2=>?_⟩
   obtain⟨g5,e5⟩:=laid (o:=.lst [V.str (Str.ofString "("),V.str (Str.ofString "q"),V.str (Str.ofString ")"),V.str (Str.ofString "("),V.str (Str.ofString "q"),V.str (Str.ofString ")"),V.str (Str.ofString "("),V.str (Str.ofString "q"),V.str (Str.ofString ")"),V.str (Str.ofString "("),V.str (Str.ofString "q"),V.str (Str.ofString ")")]) np2
   obtain⟨H5,dp,fd5,kp⟩:=((fd.keep g4).keep g5).put (x:=x) (R:=[Str.ofString "(", Str.ofString "q", Str.ofString ")", Str.ofString "(", Str.ofString "q", Str.ofString ")", Str.ofString "(", Str.ofString "q", Str.ofString ")", Str.ofString "(", Str.ofString "q", Str.ofString ")"]) (by omega) (bt (fd.keep g4).gr np2) e5
   exact⟨_,rfl,_,rfl,d,H5,rfl,dp,⟨_,rfl,fd5.congr (jd hx),kp _ _ (g5 _ _ (g4 _ _ e3))⟩⟩
  obtain⟨v2,rfl,fd,_⟩:=hh
  have fd:FD H d 13 fCT H3:=fd
  dsimp only
  obtain⟨kvs,h1,h2,h3,h4,h5⟩:=fd
  have h:=h5 w
  rw [tQ]at h
  refine az ⟨_,rfl,d,rfl,.inl ⟨kvs,.inl h3⟩,_,rfl,_,ug.k (k:=.inr w) h3,q _ _ h2 ?_⟩
  rcases h with⟨a,b⟩ | ⟨R,a,r1,r2,r3,r4⟩
  ·rw [b];exact .no (Option.map_eq_none_iff.mp a) rfl
  ·obtain⟨R',e,rfl⟩:=Option.map_eq_some_iff.mp r1
   rw [r2];exact .ye R' a e rfl r3 r4
end Mine
namespace L2
open PySem PySem.Spec PyProof.Rows
inductive rNilL (neg:Bool) (x:V) (y:V) (H:Hp) (Q:VK):Prop
 | mk (a b xs) (h1:x=.ref a) (h2:y=.ref b) (h3:H a=some (.lst xs)) (h4:H b=some (.lst [])) (h6:Q (.bl (if neg=true then !xs.isEmpty else xs.isEmpty)) H):rNilL neg x y H Q
section
variable {X:Cx}
theorem i9 (hu:X.A.units+64 < cLine):OpR X (compareOp .Eq) (rNilL false):=by
 intro pins s σ H x y v u Q I r1 r2 h
 obtain⟨a,b,xs,rfl,rfl,ea,eb,q⟩:=h
 cases r1;cases r2
 obtain⟨us,v1,o1⟩:=pF I ea
 obtain⟨vs,v2,o2⟩:=pF I eb
 cases v2
 cases xs with
 | nil=>
  cases v1
  refine SeqAt.eq_listAt (e:=λ_=>true) o1 o2 rfl (by omega) (λj h1 h2=>absurd h1 (Nat.not_lt_zero _)) ?_
  rw [cB]
  exact⟨.bl true,H,I,rfl,q⟩
 | cons x r=>
  refine SeqAt.eq_list_lengthsAt o1 o2 ?_ (by omega) ⟨.bl false,H,I,rfl,q⟩
  rw [List.size_toArray,List.size_toArray,<- Paired.length v1]
  rfl
theorem i8 (hu:X.A.units+64 < cLine):OpR X (compareOp .NotEq) (rNilL true):=by
 intro pins s σ H x y v u Q I r1 r2 h
 obtain⟨a,b,xs,rfl,rfl,ea,eb,q⟩:=h
 cases r1;cases r2
 obtain⟨us,v1,o1⟩:=pF I ea
 obtain⟨vs,v2,o2⟩:=pF I eb
 cases v2
 cases xs with
 | nil=>
  cases v1
  refine SeqAt.RcNeAt.lists (e:=λ_=>true) o1 o2 rfl (by omega) (λj h1 h2=>absurd h1 (Nat.not_lt_zero _)) _ _ _ _ ?_
  rw [cB]
  exact⟨.bl false,H,I,rfl,q⟩
 | cons x r=>
  refine SeqAt.RcNeAt.lists_lengths o1 o2 ?_ (by omega) _ _ _ _ ⟨.bl true,H,I,rfl,q⟩
  rw [List.size_toArray,List.size_toArray,<- Paired.length v1]
  rfl
theorem kb {x:Str}{sub:List Nat}{tt:TT}{te:TE}{σ:St}{Q:VK}{H:Hp} (p:Nat->Bool) (hl:x.length < sizeLine)
  (htt:∀(c:Nat) (H2:Hp) (R:Bool->Hp->Prop),R (p c) H2->tt (some (.str ⟨#[c]⟩)::bS sub σ) H2 R)
  (hte:∀(v:V) (H2:Hp) (R:VK),R v H2->te (some v::bS sub σ) H2 R)
  (hq:∀D,H D=none->Q (.ref D) (upd H D (.lst (((x.cps.toList.filter p).map λc=>(⟨#[c]⟩:Str)).map V.str)))):hX (Its x) sub tt te σ Q H:=by
 intro D nD
 refine mH (x:=x) (sub:=sub) (tt:=tt) (te:=te) (Q:=Q) (σ:=σ) (λi ys H2=>ys=((((x.cps.toList.take i).filter p).map λc=>(⟨#[c]⟩:Str)).map V.str)/\H2=upd H D (.lst ys)) ⟨rfl,rfl⟩ (λi c ys H2 hi hh=>?_) λys H2 hh=>?_
 ·obtain⟨rfl,rfl⟩:=hh
  have hi':x.cps.toList[i]?=some c:=by simpa using hi
  have hil:i < x.cps.size:=(Array.getElem?_eq_some_iff.mp hi).1
  refine htt c _ _ ?_
  cases hp:p c with
  | true=>
   refine b5 (hte _ _ _ ⟨aj,?_,?_,?_⟩)
   ·rw [List.length_map,List.length_map]
    have h1:=List.length_filter_le p (x.cps.toList.take i)
    rw [List.length_take]at h1
    have:x.cps.toList.length=x.length:=by simp [Str.length]
    omega
   ·rw [List.take_add_one,hi',List.filter_append,List.map_append,List.map_append]
    show _=_++List.map V.str (List.map _ (List.filter p [c]))
    rw [List.filter_cons,if_pos hp];rfl
   ·rw [bv]
  | false=>
   refine aF ⟨?_,rfl⟩
   rw [List.take_add_one,hi',List.filter_append]
   show _=List.map V.str (List.map _ (_++List.filter p [c]))
   rw [List.filter_cons,if_neg (by rw [hp];exact Bool.false_ne_true),List.filter_nil,List.append_nil]
 ·obtain⟨rfl,rfl⟩:=hh
  rw [List.take_of_length_le (by simp)]
  exact hq D nD
end
theorem iN {α:Type} (p:α->Bool):∀l:List α,(l.filter λc=>!p c).isEmpty=l.all p
 | []=>rfl
 | a::l=>by
  rw [List.filter_cons,List.all_cons]
  cases h:p a with
  | true=>rw [if_neg (by decide),Bool.true_and];exact iN p l
  | false=>rfl
end L2
namespace Mine
open PySem L2
variable {P:Program}{w:World}{K:PySem.W.Frag}{mg:Str->Option Value}{base:Heap}
theorem vn {α β γ:Type} (l:List α) (f:α->β) (g:β->γ):((l.map f).map g).isEmpty=l.isEmpty:=by cases l <;> rfl
noncomputable def rj:Sp:=λvs H Q _=>∃w:Str,vs=[.str w]/\w.length < sizeLine/\∀H',aP H H'->Q (.bl (bJ w bX 8)) H'
noncomputable def vX:Sp:=λvs H Q _=>∃(w:Str) (lo hi:Int),vs=[.str w,.int lo,.int hi]/\w.length < sizeLine/\∀H',aP H H'->Q (.bl (fL w lo hi)) H'
theorem mh {w:Str}{lo hi:Int} (h:cM w=false):fL w lo hi=false:=decide_eq_false λz=>by rw [h]at z;cases z.1.1
theorem sX {w:Str}{lo hi:Int} (h:¬Str.ofString (toString (aZ w))=w):fL w lo hi=false:=decide_eq_false λz=>h z.1.2
theorem sW {w:Str}{lo hi:Int} (h:cM w=true) (h2:Str.ofString (toString (aZ w))=w):fL w lo hi=(decide (lo<=aZ w) && decide (aZ w<=hi)):=by
 unfold fL
 by_cases z:lo<=aZ w
 ·by_cases y:aZ w<=hi
  ·rw [decide_eq_true ⟨⟨h,h2⟩,z,y⟩,decide_eq_true z,decide_eq_true y];rfl
  ·rw [decide_eq_false (λq=>y q.2.2),decide_eq_false y,Bool.and_false]
 ·rw [decide_eq_false (λq=>z q.2.1),decide_eq_false z,Bool.false_and]
theorem vA {x:Str} (hl:x.length < sizeLine):(dN x).length < sizeLine:=by
 refine Nat.lt_of_le_of_lt ?_ hl
 rw [gX]
 have e:x.length=x.cps.toList.length:=by simp [Str.length]
 unfold figs
 split
 ·rw [List.length_tail];omega
 ·omega
theorem zH (x:Nat) (r:List Nat):atI (x::r) 0=some x:=dB (show (x::r)[0]?=some x from rfl)
theorem yW:FnScope ["_law_word_here"] ["_law_word_here"] (aw xm):=⟨rfl,rfl,rfl,by decide +kernel,rfl,by decide +kernel,by decide +kernel⟩
theorem xX {f:Addr}{fd:FuncData} (F:Fun K "_law_is_name" "_law_is_name" xm f fd) (N:Free mg):FnOk P w K mg base CX0 1 f fd ["_law_word_here"] rj:=by
 refine F.ok (k:=0) yW (λvs H Q E h=>?_) (λcdv A outer s H vs Q E hr h=>?_)
 ·obtain⟨w,rfl,_⟩:=h
  rfl
 ·obtain⟨x,rfl,hl,hq⟩:=h
  have hu:=aM hr
  refine⟨_,(af (av (dD (jb dq dq ag (aI dc (by rfl) N.len PySem.boot_len (aa (pv 0) ac)) ag) (dh (ba (i9 hr.units) (ff (bP rfl (nK (pv 0)) rfl rfl (by show ∀p∈_,i0 [] p;decide) (by decide) rfl (by show ([Str.ofString "_law_sign"]:List Str).Nodup;decide) .nil (λC fp s H=>(lf (aC gL (pv 0) ah (by with_unfolding_all rfl)))) (λC fp s H=>(pv 0)))) (aH ac) (aE _)))))),?_⟩
  have gr:∀{b:Bool}{H':Hp},aP H H'->bJ x bX 8=b->Q (.bl b) H':=λ{b H'} g e=>by rw [<- e];exact hq H' g
  refine az ⟨_,rfl,x,rfl,Nat.le_of_lt hl,_,_,rfl,rfl,_,rfl,cj (λh1=>?_) λh1=>⟨_,rfl,aF (gr aP.refl ?_)⟩⟩
  ·refine⟨_,_,rfl,rfl,_,rfl,cj (λh2=>?_) λh2=>gr aP.refl ?_⟩
   ·refine cX ⟨_,rfl,x,rfl,kb (λc=>!inZ bX c) hl (λc H2 R hR=>⟨_,rfl,_,_,rfl,rfl,_,rfl,by rw [PySem.StrLaws.found_one];exact hR⟩) (λv H2 R hR=>⟨_,rfl,hR⟩) λD nD=>⟨by show 0<=sizeLine;decide,λp np=>?_⟩⟩
    obtain⟨g1,e1⟩:=laid (o:=.lst (((x.cps.toList.filter λc=>!inZ bX c).map λc=>(⟨#[c]⟩:Str)).map V.str)) nD
    obtain⟨g2,e2⟩:=laid (o:=.lst []) np
    refine⟨D,p,_,rfl,rfl,g2 _ _ e1,e2,gr (g1.trans g2) ?_⟩
    rw [if_neg Bool.false_ne_true,vn,iN]
    unfold bJ
    rw [h1,h2,Bool.true_and,Bool.true_and]
   ·unfold bJ
    rw [Bool.eq_false_iff.mpr h2,Bool.false_and,Bool.and_false]
  ·unfold bJ
   rw [Bool.eq_false_iff.mpr h1,Bool.false_and]
theorem rJ:FnScope ["_law_word_here", "_law_low", "_law_high", "_law_figures"] ["_law_word_here", "_law_low", "_law_high"] (aw xl):=⟨rfl,rfl,rfl,by decide +kernel,rfl,by decide +kernel,by decide +kernel⟩
theorem xW {f:Addr}{fd:FuncData} (F:Fun K "_law_is_number" "_law_is_number" xl f fd) (N:Free mg):FnOk P w K mg base CX0 1 f fd ["_law_word_here", "_law_low", "_law_high"] vX:=by
 refine F.ok (k:=0) rJ (λvs H Q E h=>?_) (λcdv A outer s H vs Q E hr h=>?_)
 ·obtain⟨w,lo,hi,rfl,_⟩:=h
  rfl
 ·obtain⟨x,lo,hi,rfl,hl,hq⟩:=h
  have hu:=aM hr
  refine⟨_,(ad (ax (i:=3) rJ.nd rfl (Or.inl rfl) (pv 0))
   (ad (aO (aC bc (bj kM (pv 0) bD (bu ag)) ah (aE _)) (af (ax (i:=3) rJ.nd rfl (Or.inl rfl) (bj kM (pv 0) (bu ag) bD))) ay)
   (ad (aO (PW.pt (jJ (cz (gG dq dq ag (aI dc (by rfl) N.len PySem.boot_len (aa (pv 3) ac)) ag)) (i5 (aC (i8 hr.units) (ff (bP rfl (nK (pv 3)) rfl rfl (by show ∀p∈_,i0 [] p;decide) (by decide) rfl (by show ([Str.ofString "_law_sign"]:List Str).Nodup;decide) .nil (λC fp s H=>(lf (aC gL (pv 0) ah (by with_unfolding_all rfl)))) (λC fp s H=>(pv 0)))) (aH ac) (aE _))))) (af (av gK)) ay)
   (ad (aO (PW.pt (ld (aC bc (b9 tI (pv 3) ag (λ_ _=>rfl)) ah (aE _)) (lc (aC wm (pv 0) ah (aE _))))) (af (av gK)) ay)
   (af (av (jb dq dq (pv 1) (aV dG (by rfl) N.int PyProof.Rows.Boot.«int» (aa (pv 0) ac)) (pv 2)))))))),?_⟩
  have gr:∀{b:Bool}{H':Hp},aP H H'->fL x lo hi=b->Q (.bl b) H':=λ{b H'} g e=>by rw [<- e];exact hq H' g
  have hfl:=vA hl
  refine ae (ao ⟨_,rfl,?_⟩)
  dsimp only [aA,List.set_cons_zero,List.set_cons_succ]
  refine nF (λσ' H'=>σ'=[some (.str x),some (.int lo),some (.int hi),some (.str (dN x))]/\H'=H) (λR hR=>?_) λσ' H' hh=>?_
  ·refine aq ⟨_,rfl,_,rfl,x,rfl,Nat.le_of_lt hl,rfl,_,rfl,?_⟩
   by_cases hn:gN x=true
   ·rw [decide_eq_true (congrArg V.str ((mC x).mpr hn))]
    refine b5 (ao ⟨_,rfl,_,rfl,x,rfl,Nat.le_of_lt hl,?_⟩)
    dsimp only [aA,List.set_cons_zero,List.set_cons_succ]
    exact hR _ _ ⟨by rw [jl hn];rfl,rfl⟩
   ·rw [decide_eq_false (λz=>hn ((mC x).mp (V.str.inj z)))]
    refine aF (ai ?_)
    dsimp only
    exact hR _ _ ⟨by rw [<- mD (Bool.eq_false_iff.mpr hn)];rfl,rfl⟩
  obtain⟨rfl,rfl⟩:=hh
  refine ae (aq (pZ (i:=1) (j:=((dN x).length:Int)) (k:=12) (λR r=>r) (λR r=>⟨_,rfl,dN x,rfl,Nat.le_of_lt hfl,r⟩) (λR r=>r) ?_))
  have hgd:cM x=(decide (1<=((dN x).length:Int)) && decide (((dN x).length:Int)<=12) && (dN x).cps.toList.all (inZ fm)):=by unfold cM bJ;rw [Bool.and_assoc]
  cases hc:decide (1<=((dN x).length:Int)) && decide (((dN x).length:Int)<=12) with
  | false=>
   rw [hc,Bool.false_and]at hgd
   exact b5 (b5 (az (gr aP.refl (mh hgd))))
  | true=>
   rw [hc,Bool.true_and]at hgd
   refine aF (oV (cX ⟨_,rfl,dN x,rfl,kb (λc=>!inZ fm c) hfl (λc H2 R hR=>⟨_,rfl,_,_,rfl,rfl,_,rfl,by rw [PySem.StrLaws.found_one];exact hR⟩) (λv H2 R hR=>⟨_,rfl,hR⟩) λD nD=>⟨by show 0<=sizeLine;decide,λp np=>?_⟩⟩))
   obtain⟨g1,e1⟩:=laid (o:=.lst ((((dN x).cps.toList.filter λc=>!inZ fm c).map λc=>(⟨#[c]⟩:Str)).map V.str)) nD
   obtain⟨g2,e2⟩:=laid (o:=.lst []) np
   have g12:=g1.trans g2
   refine⟨D,p,_,rfl,rfl,g2 _ _ e1,e2,_,rfl,?_⟩
   generalize upd (upd _ D _) p _=H1 at g12 ⊢
   rw [if_pos rfl,vn,iN,<- hgd]
   cases hg:cM x with
   | false=>exact b5 (az (gr g12 (mh hg)))
   | true=>
    refine aF (ai ?_)
    dsimp only
    obtain⟨gd,gn,gl⟩:=gS hg
    have pi:=i6 gd gn
    have z0:x=Str.ofString "0"↔x.cps.toList=[48]:=⟨λz=>by rw [z];decide,λz=>cx (z.trans (by decide))⟩
    obtain⟨c,r,ec⟩:∃c r,figs x=c::r:=by
     cases q:figs x with
     | nil=>exact absurd q gn
     | cons c r=>exact⟨c,r,rfl⟩
    rw [ec]at pi
    have c0:(⟨#[c]⟩:Str)=Str.ofString "0"↔c=48:=⟨λz=>by have:=congrArg (λy:Str=>y.cps.toList.head?) z;exact Option.some.inj this,λz=>by rw [z];decide⟩
    have fin:Str.ofString (toString (aZ x))=x->uo (ku (rI0 λi j=>V.bl (decide (i<=j))) (rI0 λi j=>V.bl (decide (i<=j))) (eV 1) (tCB (λxs H Q=>∃x n,xs=[.str x]/\PySem.intText? x=some n/\x.length<=640/\Q (.int n) H) (bV (eV 0) eR)) (eV 2)) { nx:=λ_ H'=>Q .non H',rt:=Q } [some (.str x),some (.int lo),some (.int hi),some (.str (dN x))] H1:=λhp=>by
     have e:=sW (lo:=lo) (hi:=hi) hg hp
     refine az ⟨_,rfl,_,rfl,x,aZ x,rfl,ii hg,di gl,_,_,rfl,rfl,_,rfl,cj (λh4=>⟨_,rfl,_,_,rfl,rfl,gr g12 ?_⟩) λh4=>gr g12 ?_⟩
     ·rw [e,h4,Bool.true_and]
     ·rw [e,Bool.eq_false_iff.mpr h4,Bool.false_and]
    refine ae (aq ⟨_,rfl,dN x,0,c,rfl,rfl,Nat.le_of_lt hfl,(by show atI (figs x) 0=_;rw [ec];exact zH c r),rfl,_,rfl,?_⟩)
    by_cases h2:c=48
    ·rw [decide_eq_true (congrArg V.str (c0.mpr h2))]
     refine b5 ⟨_,rfl,rfl,_,rfl,cj (λh3=>?_) λh3=>ai ?_⟩
     ·exact az (gr g12 (sX λz=>pi.mp z ⟨by rw [h2];rfl,λw=>by rw [z0.mpr w]at h3;exact absurd h3 (by decide)⟩))
     ·dsimp only
      refine fin (pi.mpr λz=>h3 ?_)
      rw [Bool.not_eq_true',decide_eq_false_iff_not]
      intro w
      injection w with w
      exact z.2 (z0.mp w)
    ·rw [decide_eq_false (λz=>h2 (c0.mp (V.str.inj z)))]
     refine aF (aF (ai ?_))
     dsimp only
     exact fin (pi.mpr λz=>h2 (Option.some.inj z.1))
theorem oi {K:PySem.W.Frag}{la:Addr}{ks:List Str}{sub:List Nat}{tt:TT}{te:TE}{σ:St}{Q:VK}{H:Hp} (p:Str->Bool) (hn:ks.length < 1000) (ha:H la=some (.lst (ks.map V.str)))
  (htt:∀(k:Str) (H2:Hp) (R:Bool->Hp->Prop),k∈ks->(∀H3,aP H2 H3->R (p k) H3)->tt (some (.str k)::bS sub σ) H2 R)
  (hte:∀(v:V) (H2:Hp) (R:VK),R v H2->te (some v::bS sub σ) H2 R)
  (hq:∀(D:Addr) (H':Hp),H D=none->aP H H'->H' D=some (.lst ((ks.filter p).map V.str))->Q (.ref D) H'):hX (Itl K la) sub tt te σ Q H:=by
 intro D nD
 refine dO (K:=K) (a:=la) (xs:=ks.map V.str) (sub:=sub) (tt:=tt) (te:=te) (Q:=Q) (σ:=σ) (λi ys H2=>ys=((ks.take i).filter p).map V.str/\aP H H2/\H2 D=some (.lst ys)) ⟨rfl,(laid nD).1,aj⟩ (λi ys H2 _ hh=>?_) (λi x ys H2 hi hh=>?_) λys H2 hh=>?_
 ·obtain⟨_,g2,_⟩:=hh
  exact SqL.of (g2 _ _ ha)
 ·obtain⟨rfl,g2,e2⟩:=hh
  rw [List.getElem?_map]at hi
  obtain⟨k,hk,rfl⟩:=Option.map_eq_some_iff.mp hi
  have hil:=(List.getElem?_eq_some_iff.mp hk).1
  have et:ks.take (i+1)=ks.take i++[k]:=by rw [List.take_add_one,hk];rfl
  refine htt k _ _ (List.mem_of_getElem? hk) λH3 g3=>?_
  cases hp:p k with
  | true=>
   refine b5 (hte _ _ _ ⟨g3 _ _ e2,?_,?_,λb o e=>?_,aj⟩)
   ·rw [List.length_map]
    have h1:=List.length_filter_le p (ks.take i)
    rw [List.length_take]at h1
    exact be (by omega)
   ·rw [et,List.filter_append,List.map_append,List.filter_cons,if_pos hp];rfl
   ·rw [al (am e nD)];exact g3 _ _ (g2 _ _ e)
  | false=>
   refine aF ⟨?_,g2.trans g3,g3 _ _ e2⟩
   rw [et,List.filter_append,List.filter_cons,if_neg (by rw [hp];exact Bool.false_ne_true),List.filter_nil,List.append_nil]
 ·obtain⟨rfl,g2,e2⟩:=hh
  rw [List.length_map,List.take_length]at e2
  exact hq D H2 nD g2 e2
noncomputable def w8:Sp:=λvs H Q _=>∃w:Str,vs=[.str w]/\w.length<=400/\∀H',aP H H'->Q (.bl (eQ (Txt.split w cmS))) H'
noncomputable def vU:Sp:=λvs H Q _=>∃(r:Ro) (w:Str) (f o:Int),vs=[.str (roS r),.str w,.int f,.int o]/\w.length<=400/\∀H',aP H H'->Q (.bl (cc r w f o)) H'
theorem isE {α β:Type} (l:List α) (f:α->β):(l.map f).isEmpty=l.isEmpty:=by cases l <;> rfl
theorem we:FnScope ["_law_word_here", "_law_some_here"] ["_law_word_here"] (aw xt):=⟨rfl,rfl,rfl,by decide +kernel,rfl,by decide +kernel,by decide +kernel⟩
theorem y4 {f f1:Addr}{fd:FuncData} (F:Fun K "_law_are_names" "_law_are_names" xt f fd) (N:Free mg){fd1:FuncData} (CN:Cal P w K mg base "_law_is_name" 1 ["_law_word_here"] rj f1 fd1):FnOk P w K mg base CX0 2 f fd ["_law_word_here"] w8:=by
 refine F.ok (k:=1) we (λvs H Q E h=>?_) (λcdv A outer s H vs Q E hr h=>?_)
 ·obtain⟨x,rfl,_⟩:=h
  rfl
 ·obtain⟨x,rfl,hl,hq⟩:=h
  have hu:=aM hr
  refine⟨_,(ad (ax (i:=1) we.nd rfl (Or.inl rfl) (bW PySem.F.plainAttrs_str PySem.F.slot_str_split PySem.F.type_str_split fi (pv 0) (aa ah ac)))
   (ad (aO (PW.pt (jJ (aC sC (aI aQ (by rfl) N.len PySem.boot_len (aa (pv 1) ac)) ag (aE _)) (i5 (aC eO (aI im (by rfl) N.len PySem.boot_len (aa (aV (il rfl) (by rfl) N.set PyProof.Rows.Boot.«set» (aa (aV db (by rfl) N.list PyProof.Rows.Boot.«list» (aa (pv 1) ac)) ac)) ac)) (aI aQ (by rfl) N.len PySem.boot_len (aa (pv 1) ac)) (aE _))))) (af (av gK)) ay)
   (af (av (ba (i9 hr.units) (ff (bP rfl (cq (pv 1)) rfl rfl (by show ∀p∈_,i0 [] p;decide) (by decide) rfl (by show ([Str.ofString "_law_name"]:List Str).Nodup;decide) .nil (λC fp s H=>(lf (cz (cg (au CN.ok (hr.mono (by decide)) rfl CN.nm CN.kp CN.bd .nil ar (aa (pv 0) ac)))))) (λC fp s H=>(pv 0)))) (aH ac) (aE _)))))),?_⟩
  have hm:(Txt.split x cmS).length<=401:=by
   have:=fV (c:=44) hl
   rw [<- dP]at this
   exact this
  have hk:∀k∈Txt.split x cmS,k.length < sizeLine:=λk hk=>Nat.lt_of_le_of_lt (jB hl hk) (by decide)
  refine ae (ao ⟨_,rfl,rfl,_,_,rfl,rfl,by rfl,Nat.le_trans hl (by decide),(show (Txt.split x cmS).length<=sizeLine from Nat.le_trans hm (by decide)),λp np=>?_⟩)
  obtain⟨g1,e1⟩:=laid (o:=.lst ((Txt.split x cmS).map V.str)) np
  dsimp only [aA,List.set_cons_zero,List.set_cons_succ]
  change kr _ _ _ _ (upd H p (.lst ((Txt.split x cmS).map V.str)))
  generalize upd H p _=H1 at g1 e1 ⊢
  generalize Txt.split x cmS=ks at e1 hk hm hq ⊢
  have gr:∀{b:Bool}{H':Hp},aP H1 H'->eQ ks=b->Q (.bl b) H':=λ{b H'} g e=>by rw [<- e];exact hq H' (g1.trans g)
  refine ae (aq ⟨_,rfl,p,_,rfl,.inl (SqL.of e1),_,_,rfl,rfl,_,rfl,?_⟩)
  rw [List.length_map]
  by_cases k8:ks.length<=8
  ·rw [decide_eq_false (show ¬((ks.length:Int) > 8) by omega)]
   refine aF ⟨_,rfl,p,_,rfl,.inl (SqL.of e1),λl nl=>?_⟩
   obtain⟨g2,e2⟩:=laid (o:=.lst (ks.map V.str)) nl
   refine⟨l,ks,rfl,SqL.of e2,by omega,λt nt=>?_⟩
   have g3:aP (upd H1 l (.lst (ks.map V.str))) (upd (upd H1 l (.lst (ks.map V.str))) t (.ext (iC P w t ks ks.length))):=(laid nt).1
   refine⟨t,ks,rfl,aj,_,rfl,p,_,rfl,.inl (SqL.of (g3 _ _ (g2 _ _ e1))),_,_,rfl,rfl,_,rfl,?_⟩
   have g13:=g2.trans g3
   rw [List.length_map]
   by_cases nd:ks.Nodup
   ·rw [(iP ks).mpr nd,decide_eq_false (by omega)]
    refine aF (ai ?_)
    dsimp only
    refine az (oV (cX ⟨_,rfl,p,rfl,⟨_,SqL.of (g13 _ _ e1)⟩,oi (λk=>!bJ k bX 8) (by omega) (g13 _ _ e1) (λk H3 R hk' hR=>⟨_,rfl,k,rfl,hk k hk',λH4 g4=>⟨_,rfl,hR H4 g4⟩⟩) (λv H3 R hR=>⟨_,rfl,hR⟩) λD H3 nD g3' eD=>⟨by show 0<=sizeLine;decide,λp2 np2=>?_⟩⟩))
    obtain⟨g4,e4⟩:=laid (o:=.lst []) np2
    refine⟨D,p2,_,rfl,rfl,g4 _ _ eD,e4,gr ((g13.trans g3').trans g4) ?_⟩
    rw [if_neg Bool.false_ne_true,isE,iN]
    unfold eQ
    rw [decide_eq_true k8,decide_eq_true nd,Bool.true_and,Bool.and_true]
   ·have h1:eJ ks ks.length≠ks.length:=λz=>nd ((iP ks).mp z)
    have h2:=lB ks ks.length
    rw [decide_eq_true (by omega)]
    refine b5 (az (gr g13 ?_))
    unfold eQ
    rw [decide_eq_false nd,Bool.and_false,Bool.and_false]
  ·rw [decide_eq_true (show (ks.length:Int) > 8 by omega)]
   refine b5 (b5 (az (gr aP.refl ?_)))
   unfold eQ
   rw [decide_eq_false k8,Bool.false_and]
theorem yV:FnScope ["_law_role", "_law_word_here", "_law_first", "_law_open_now"] ["_law_role", "_law_word_here", "_law_first", "_law_open_now"] (aw xi):=⟨rfl,rfl,rfl,by decide +kernel,rfl,by decide +kernel,by decide +kernel⟩
theorem xS {f f1 f2 f3 f4:Addr}{fd:FuncData} (F:Fun K "_law_stands" "_law_stands" xi f fd) (N:Free mg){fd1:FuncData} (CF:Cal P w K mg base "_law_forms" 1 ["_law_word_here"] rl f1 fd1){fd2:FuncData} (CN:Cal P w K mg base "_law_is_name" 1 ["_law_word_here"] rj f2 fd2){fd3:FuncData} (CA:Cal P w K mg base "_law_are_names" 2 ["_law_word_here"] w8 f3 fd3){fd4:FuncData} (CU:Cal P w K mg base "_law_is_number" 1 ["_law_word_here", "_law_low", "_law_high"] vX f4 fd4):FnOk P w K mg base CX0 3 f fd ["_law_role", "_law_word_here", "_law_first", "_law_open_now"] vU:=by
 refine F.ok (k:=2) yV (λvs H Q E h=>?_) (λcdv A outer s H vs Q E hr h=>?_)
 ·obtain⟨r,w,f,o,rfl,_⟩:=h
  rfl
 ·obtain⟨r,w,f,o,rfl,hl,hq⟩:=h
  have hu:=aM hr
  refine⟨_,(ad (aO (aC bc (pv 0) ah (aE _)) (af (av (nL (lh (au CF.ok (hr.mono (by decide)) rfl CF.nm CF.kp CF.bd .nil ar (aa (pv 1) ac)))))) ay)
   (ad (aO (aC bc (pv 0) ah (aE _)) (af (av (dD (ba bc (pv 1) ah (aE _)) (dh (ba eO (pv 3) ag (aE _)))))) ay)
   (ad (aO (aC bc (pv 0) ah (aE _)) (af (av (ba bc (pv 1) ah (aE _)))) ay)
   (ad (aO (aC bc (pv 0) ah (aE _)) (af (av (au CN.ok (hr.mono (by decide)) rfl CN.nm CN.kp CN.bd .nil ar (aa (pv 1) ac)))) ay)
   (ad (aO (aC bc (pv 0) ah (aE _)) (af (av (au CA.ok (hr.mono (by decide)) rfl CA.nm CA.kp CA.bd .nil ar (aa (pv 1) ac)))) ay)
   (ad (aO (aC bc (pv 0) ah (aE _)) (af (av (au CU.ok (hr.mono (by decide)) rfl CU.nm CU.kp CU.bd .nil ar (aa (pv 1) (aa (p8 kl ag) (aa ag ac)))))) ay)
   (ad (aO (aC bc (pv 0) ah (aE _)) (af (av (au CU.ok (hr.mono (by decide)) rfl CU.nm CU.kp CU.bd .nil ar (aa (pv 1) (aa ag (aa ag ac)))))) ay)
   (ad (aO (aC bc (pv 0) ah (aE _)) (af (av (au CU.ok (hr.mono (by decide)) rfl CU.nm CU.kp CU.bd .nil ar (aa (pv 1) (aa (pv 2) (aa ag ac)))))) ay)
   (af (av (au CU.ok (hr.mono (by decide)) rfl CU.nm CU.kp CU.bd .nil ar (aa (pv 1) (aa ag (aa ag ac)))))))))))))),?_⟩
  have hl2:w.length < sizeLine:=Nat.lt_of_le_of_lt hl (by decide)
  cases r with
  | q=>
   refine ae (aq ⟨_,rfl,rfl,_,rfl,?_⟩)
   refine b5 ?_
   refine az ⟨_,rfl,w,rfl,λv H1 g1 hv=>?_⟩
   have hq:=hq H1 g1
   unfold cc at hq
   rcases hv with⟨h1,rfl⟩ | ⟨R,p,h1,rfl,_,_⟩
   ·rw [h1]at hq;exact hq
   ·rw [h1]at hq;exact hq
  | op=>
   refine ae (aq ⟨_,rfl,rfl,_,rfl,?_⟩)
   rw [show decide (V.str (roS .op)=V.str (Str.ofString "q"))=false from by decide +kernel]
   refine aF (ai ?_)
   dsimp only
   refine ae (aq ⟨_,rfl,rfl,_,rfl,?_⟩)
   refine b5 ?_
   have hq:=hq H aP.refl
   unfold cc at hq
   refine az ⟨_,rfl,rfl,_,rfl,?_⟩
   by_cases z:w=opS
   ·rw [decide_eq_true z,Bool.true_and]at hq
    rw [decide_eq_true (congrArg V.str z)]
    exact b5 ⟨_,rfl,_,_,rfl,rfl,hq⟩
   ·rw [decide_eq_false z,Bool.false_and]at hq
    rw [decide_eq_false (fU z)]
    exact aF hq
  | cl=>
   refine ae (aq ⟨_,rfl,rfl,_,rfl,?_⟩)
   rw [show decide (V.str (roS .cl)=V.str (Str.ofString "q"))=false from by decide +kernel]
   refine aF (ai ?_)
   dsimp only
   refine ae (aq ⟨_,rfl,rfl,_,rfl,?_⟩)
   rw [show decide (V.str (roS .cl)=V.str (Str.ofString "("))=false from by decide +kernel]
   refine aF (ai ?_)
   dsimp only
   refine ae (aq ⟨_,rfl,rfl,_,rfl,?_⟩)
   refine b5 ?_
   have hq:=hq H aP.refl
   unfold cc at hq
   refine az ⟨_,rfl,rfl,?_⟩
   by_cases z:w=clS
   ·rw [decide_eq_true z]at hq
    rw [decide_eq_true (congrArg V.str z)]
    exact hq
   ·rw [decide_eq_false z]at hq
    rw [decide_eq_false (fU z)]
    exact hq
  | k=>
   refine ae (aq ⟨_,rfl,rfl,_,rfl,?_⟩)
   rw [show decide (V.str (roS .k)=V.str (Str.ofString "q"))=false from by decide +kernel]
   refine aF (ai ?_)
   dsimp only
   refine ae (aq ⟨_,rfl,rfl,_,rfl,?_⟩)
   rw [show decide (V.str (roS .k)=V.str (Str.ofString "("))=false from by decide +kernel]
   refine aF (ai ?_)
   dsimp only
   refine ae (aq ⟨_,rfl,rfl,_,rfl,?_⟩)
   rw [show decide (V.str (roS .k)=V.str (Str.ofString ")"))=false from by decide +kernel]
   refine aF (ai ?_)
   dsimp only
   refine ae (aq ⟨_,rfl,rfl,_,rfl,?_⟩)
   refine b5 ?_
   exact az ⟨_,rfl,w,rfl,hl2,hq⟩
  | ks=>
   refine ae (aq ⟨_,rfl,rfl,_,rfl,?_⟩)
   rw [show decide (V.str (roS .ks)=V.str (Str.ofString "q"))=false from by decide +kernel]
   refine aF (ai ?_)
   dsimp only
   refine ae (aq ⟨_,rfl,rfl,_,rfl,?_⟩)
   rw [show decide (V.str (roS .ks)=V.str (Str.ofString "("))=false from by decide +kernel]
   refine aF (ai ?_)
   dsimp only
   refine ae (aq ⟨_,rfl,rfl,_,rfl,?_⟩)
   rw [show decide (V.str (roS .ks)=V.str (Str.ofString ")"))=false from by decide +kernel]
   refine aF (ai ?_)
   dsimp only
   refine ae (aq ⟨_,rfl,rfl,_,rfl,?_⟩)
   rw [show decide (V.str (roS .ks)=V.str (Str.ofString "k"))=false from by decide +kernel]
   refine aF (ai ?_)
   dsimp only
   refine ae (aq ⟨_,rfl,rfl,_,rfl,?_⟩)
   refine b5 ?_
   exact az ⟨_,rfl,w,rfl,hl,hq⟩
  | n=>
   refine ae (aq ⟨_,rfl,rfl,_,rfl,?_⟩)
   rw [show decide (V.str (roS .n)=V.str (Str.ofString "q"))=false from by decide +kernel]
   refine aF (ai ?_)
   dsimp only
   refine ae (aq ⟨_,rfl,rfl,_,rfl,?_⟩)
   rw [show decide (V.str (roS .n)=V.str (Str.ofString "("))=false from by decide +kernel]
   refine aF (ai ?_)
   dsimp only
   refine ae (aq ⟨_,rfl,rfl,_,rfl,?_⟩)
   rw [show decide (V.str (roS .n)=V.str (Str.ofString ")"))=false from by decide +kernel]
   refine aF (ai ?_)
   dsimp only
   refine ae (aq ⟨_,rfl,rfl,_,rfl,?_⟩)
   rw [show decide (V.str (roS .n)=V.str (Str.ofString "k"))=false from by decide +kernel]
   refine aF (ai ?_)
   dsimp only
   refine ae (aq ⟨_,rfl,rfl,_,rfl,?_⟩)
   rw [show decide (V.str (roS .n)=V.str (Str.ofString "ks"))=false from by decide +kernel]
   refine aF (ai ?_)
   dsimp only
   refine ae (aq ⟨_,rfl,rfl,_,rfl,?_⟩)
   refine b5 ?_
   exact az ⟨_,rfl,_,rfl,w,_,_,rfl,hl2,hq⟩
  | c=>
   refine ae (aq ⟨_,rfl,rfl,_,rfl,?_⟩)
   rw [show decide (V.str (roS .c)=V.str (Str.ofString "q"))=false from by decide +kernel]
   refine aF (ai ?_)
   dsimp only
   refine ae (aq ⟨_,rfl,rfl,_,rfl,?_⟩)
   rw [show decide (V.str (roS .c)=V.str (Str.ofString "("))=false from by decide +kernel]
   refine aF (ai ?_)
   dsimp only
   refine ae (aq ⟨_,rfl,rfl,_,rfl,?_⟩)
   rw [show decide (V.str (roS .c)=V.str (Str.ofString ")"))=false from by decide +kernel]
   refine aF (ai ?_)
   dsimp only
   refine ae (aq ⟨_,rfl,rfl,_,rfl,?_⟩)
   rw [show decide (V.str (roS .c)=V.str (Str.ofString "k"))=false from by decide +kernel]
   refine aF (ai ?_)
   dsimp only
   refine ae (aq ⟨_,rfl,rfl,_,rfl,?_⟩)
   rw [show decide (V.str (roS .c)=V.str (Str.ofString "ks"))=false from by decide +kernel]
   refine aF (ai ?_)
   dsimp only
   refine ae (aq ⟨_,rfl,rfl,_,rfl,?_⟩)
   rw [show decide (V.str (roS .c)=V.str (Str.ofString "n"))=false from by decide +kernel]
   refine aF (ai ?_)
   dsimp only
   refine ae (aq ⟨_,rfl,rfl,_,rfl,?_⟩)
   refine b5 ?_
   exact az ⟨_,rfl,w,_,_,rfl,hl2,hq⟩
  | f=>
   refine ae (aq ⟨_,rfl,rfl,_,rfl,?_⟩)
   rw [show decide (V.str (roS .f)=V.str (Str.ofString "q"))=false from by decide +kernel]
   refine aF (ai ?_)
   dsimp only
   refine ae (aq ⟨_,rfl,rfl,_,rfl,?_⟩)
   rw [show decide (V.str (roS .f)=V.str (Str.ofString "("))=false from by decide +kernel]
   refine aF (ai ?_)
   dsimp only
   refine ae (aq ⟨_,rfl,rfl,_,rfl,?_⟩)
   rw [show decide (V.str (roS .f)=V.str (Str.ofString ")"))=false from by decide +kernel]
   refine aF (ai ?_)
   dsimp only
   refine ae (aq ⟨_,rfl,rfl,_,rfl,?_⟩)
   rw [show decide (V.str (roS .f)=V.str (Str.ofString "k"))=false from by decide +kernel]
   refine aF (ai ?_)
   dsimp only
   refine ae (aq ⟨_,rfl,rfl,_,rfl,?_⟩)
   rw [show decide (V.str (roS .f)=V.str (Str.ofString "ks"))=false from by decide +kernel]
   refine aF (ai ?_)
   dsimp only
   refine ae (aq ⟨_,rfl,rfl,_,rfl,?_⟩)
   rw [show decide (V.str (roS .f)=V.str (Str.ofString "n"))=false from by decide +kernel]
   refine aF (ai ?_)
   dsimp only
   refine ae (aq ⟨_,rfl,rfl,_,rfl,?_⟩)
   rw [show decide (V.str (roS .f)=V.str (Str.ofString "c"))=false from by decide +kernel]
   refine aF (ai ?_)
   dsimp only
   refine ae (aq ⟨_,rfl,rfl,_,rfl,?_⟩)
   rw [show decide (V.str (roS .f)=V.str (Str.ofString "l"))=false from by decide +kernel]
   refine aF (ai ?_)
   dsimp only
   exact az ⟨_,rfl,w,_,_,rfl,hl2,hq⟩
  | l=>
   refine ae (aq ⟨_,rfl,rfl,_,rfl,?_⟩)
   rw [show decide (V.str (roS .l)=V.str (Str.ofString "q"))=false from by decide +kernel]
   refine aF (ai ?_)
   dsimp only
   refine ae (aq ⟨_,rfl,rfl,_,rfl,?_⟩)
   rw [show decide (V.str (roS .l)=V.str (Str.ofString "("))=false from by decide +kernel]
   refine aF (ai ?_)
   dsimp only
   refine ae (aq ⟨_,rfl,rfl,_,rfl,?_⟩)
   rw [show decide (V.str (roS .l)=V.str (Str.ofString ")"))=false from by decide +kernel]
   refine aF (ai ?_)
   dsimp only
   refine ae (aq ⟨_,rfl,rfl,_,rfl,?_⟩)
   rw [show decide (V.str (roS .l)=V.str (Str.ofString "k"))=false from by decide +kernel]
   refine aF (ai ?_)
   dsimp only
   refine ae (aq ⟨_,rfl,rfl,_,rfl,?_⟩)
   rw [show decide (V.str (roS .l)=V.str (Str.ofString "ks"))=false from by decide +kernel]
   refine aF (ai ?_)
   dsimp only
   refine ae (aq ⟨_,rfl,rfl,_,rfl,?_⟩)
   rw [show decide (V.str (roS .l)=V.str (Str.ofString "n"))=false from by decide +kernel]
   refine aF (ai ?_)
   dsimp only
   refine ae (aq ⟨_,rfl,rfl,_,rfl,?_⟩)
   rw [show decide (V.str (roS .l)=V.str (Str.ofString "c"))=false from by decide +kernel]
   refine aF (ai ?_)
   dsimp only
   refine ae (aq ⟨_,rfl,rfl,_,rfl,?_⟩)
   refine b5 ?_
   exact az ⟨_,rfl,_,rfl,w,_,_,rfl,hl2,hq⟩
  | d=>
   refine ae (aq ⟨_,rfl,rfl,_,rfl,?_⟩)
   rw [show decide (V.str (roS .d)=V.str (Str.ofString "q"))=false from by decide +kernel]
   refine aF (ai ?_)
   dsimp only
   refine ae (aq ⟨_,rfl,rfl,_,rfl,?_⟩)
   rw [show decide (V.str (roS .d)=V.str (Str.ofString "("))=false from by decide +kernel]
   refine aF (ai ?_)
   dsimp only
   refine ae (aq ⟨_,rfl,rfl,_,rfl,?_⟩)
   rw [show decide (V.str (roS .d)=V.str (Str.ofString ")"))=false from by decide +kernel]
   refine aF (ai ?_)
   dsimp only
   refine ae (aq ⟨_,rfl,rfl,_,rfl,?_⟩)
   rw [show decide (V.str (roS .d)=V.str (Str.ofString "k"))=false from by decide +kernel]
   refine aF (ai ?_)
   dsimp only
   refine ae (aq ⟨_,rfl,rfl,_,rfl,?_⟩)
   rw [show decide (V.str (roS .d)=V.str (Str.ofString "ks"))=false from by decide +kernel]
   refine aF (ai ?_)
   dsimp only
   refine ae (aq ⟨_,rfl,rfl,_,rfl,?_⟩)
   rw [show decide (V.str (roS .d)=V.str (Str.ofString "n"))=false from by decide +kernel]
   refine aF (ai ?_)
   dsimp only
   refine ae (aq ⟨_,rfl,rfl,_,rfl,?_⟩)
   rw [show decide (V.str (roS .d)=V.str (Str.ofString "c"))=false from by decide +kernel]
   refine aF (ai ?_)
   dsimp only
   refine ae (aq ⟨_,rfl,rfl,_,rfl,?_⟩)
   rw [show decide (V.str (roS .d)=V.str (Str.ofString "l"))=false from by decide +kernel]
   refine aF (ai ?_)
   dsimp only
   exact az ⟨_,rfl,w,_,_,rfl,hl2,hq⟩
noncomputable def ck (ws:List Str):V:=match Cn ws [.q] 0 0 0 with
 | .bad p=>.int (p:Int)
 | .ok _ _ [] _=>.non
 | .ok _ _ (_::_) p=>.int (p:Int)
theorem ij {ws:List Str}{p:Nat} (h:Cn ws [.q] 0 0 0=.bad p):ck ws=.int (p:Int):=by unfold ck;rw [h]
theorem mE {ws:List Str}{f o:Int}{p:Nat} (h:Cn ws [.q] 0 0 0=.ok f o [] p):ck ws=.non:=by unfold ck;rw [h]
theorem jm {ws t:List Str}{x:Str}{f o:Int}{p:Nat} (h:Cn ws [.q] 0 0 0=.ok f o (x::t) p):ck ws=.int (p:Int):=by unfold ck;rw [h]
noncomputable def w6:Sp:=λvs H Q _=>∃(a:Addr) (ws:List Str),vs=[.ref a]/\H a=some (.lst (ws.map V.str))/\ws.length<=900/\(∀w∈ws,w.length<=400)/\∀H',aP H H'->Q (ck ws) H'
noncomputable abbrev rvs (R:List Ro):List V:=(R.map roS).map V.str
theorem ro_q (r:Ro):r=.q\/(decide (V.str (roS r)=V.str (Str.ofString "q"))=false/\∀w,more r w=[]):=by
 cases r <;> first | exact .inl rfl | exact .inr ⟨by decide +kernel,λ_=>rfl⟩
theorem ro_f (r:Ro):r=.f\/(decide (V.str (roS r)=V.str (Str.ofString "f"))=false/\∀w f,ix r w f=f):=by
 cases r <;> first | exact .inl rfl | exact .inr ⟨by decide +kernel,λ_ _=>rfl⟩
noncomputable def yl:Ro->Bool
 | .op=>true
 | _=>false
noncomputable def yn:Ro->Bool
 | .cl=>true
 | _=>false
theorem zb (r:Ro):decide (V.str (roS r)=V.str (Str.ofString "("))=yl r:=by cases r <;> decide +kernel
theorem zc (r:Ro):decide (V.str (roS r)=V.str (Str.ofString ")"))=yn r:=by cases r <;> decide +kernel
theorem zY (r:Ro) (o:Int):o+(if yl r=true then 1 else 0) - (if yn r=true then 1 else 0)=gM r o:=by
 cases r <;> simp [yl,yn,gM]
theorem jX {w:Str}{R:List Ro} (h:bM w=some R):R.length<=12:=by
 have:=forms_get (w:=w) (by rw [h];rfl)
 have k:∀{x:Option (List Ro)}{n:Nat},x=some R->(∀y,x=some y->y.length<=12)->R.length<=12:=λe q=>q R e
 rcases this with⟨_,e⟩ | ⟨_,e⟩ | ⟨_,e⟩ | ⟨_,e⟩ | ⟨_,e⟩ | ⟨_,e⟩ | ⟨_,e⟩ | ⟨_,e⟩ <;> (rw [h]at e;cases e;decide)
inductive FaI (H:Hp) (a:Addr) (ws:List Str) (i:Nat) (σ:St) (H2:Hp):Prop
 | mk (wa:Addr) (R:List Ro) (f o:Int) (v4 v5 v6:Option V) (h1:σ=[some (.ref a),some (.ref wa),some (.int f),some (.int o),v4,v5,v6]) (h2:H wa=none) (h3:aP H H2) (h4:H2 wa=some (.lst (rvs R))) (h5:R.length<=1+12 * i) (h6:Cn ws [.q] 0 0 0=Cn (ws.drop i) R f o i):FaI H a ws i σ H2
inductive FaJ (H:Hp) (a:Addr) (i:Nat) (w:Str) (r:Ro) (R:List Ro) (f o:Int) (σ:St) (H2:Hp):Prop
 | mk (wa:Addr) (h1:σ=[some (.ref a),some (.ref wa),some (.int f),some (.int o),some (.int (i:Int)),some (.str w),some (.str (roS r))]) (h2:H wa=none) (h3:aP H H2) (h4:H2 wa=some (.lst (rvs R))):FaJ H a i w r R f o σ H2
theorem fO:FnScope ["_law_words_here", "_law_waiting", "_law_first", "_law_open_now", "_law_at", "_law_word_here", "_law_role"] ["_law_words_here"] (aw xr):=⟨rfl,rfl,rfl,by decide +kernel,rfl,by decide +kernel,by decide +kernel⟩
theorem y2 {f f1 f2:Addr}{fd:FuncData} (F:Fun K "_law_fault" "_law_fault" xr f fd) (N:Free mg){fd1:FuncData} (CF:Cal P w K mg base "_law_forms" 1 ["_law_word_here"] rl f1 fd1){fd2:FuncData} (CS:Cal P w K mg base "_law_stands" 3 ["_law_role", "_law_word_here", "_law_first", "_law_open_now"] vU f2 fd2):FnOk P w K mg base CX0 4 f fd ["_law_words_here"] w6:=by
 refine F.ok (k:=3) fO (λvs H Q E h=>?_) (λcdv A outer s H vs Q E hr h=>?_)
 ·obtain⟨a,ws,rfl,_⟩:=h
  rfl
 ·obtain⟨a,ws,rfl,ha,h9,hW,q⟩:=h
  have hu:=aM hr
  refine⟨_,(ad (ax (i:=1) fO.nd rfl (Or.inl rfl) (aH (aa ah ac)))
   (ad (ax (i:=2) fO.nd rfl (Or.inl rfl) ag)
   (ad (ax (i:=3) fO.nd rfl (Or.inl rfl) ag)
   (ad (cS PassesOwn.never rfl (uR rfl N.enumerate (aa (pv 0) ac)) (su rfl (gJ (bO (i:=4) fO.nd rfl (Or.inl rfl)) (gJ (bO (i:=5) fO.nd rfl (Or.inl rfl)) oZ)))
   (ad (aO (aC (i9 hr.units) (pv 1) (aH ac) (aE _)) (af (av (pv 4))) ay)
   (ad (ax (i:=6) fO.nd rfl (Or.inl rfl) (bW PySem.F.plainAttrs_list PySem.F.slot_list_pop PySem.F.type_list_pop mn (pv 1) (aa ag ac)))
   (ad (aO (cz (cg (au CS.ok (hr.mono (by decide)) rfl CS.nm CS.kp CS.bd .nil ar (aa (pv 6) (aa (pv 5) (aa (pv 2) (aa (pv 3) ac))))))) (af (av (pv 4))) ay)
   (ad (aO (aC bc (pv 6) ah (aE _)) (af (ax (i:=1) fO.nd rfl (Or.inl rfl) (aJ bK (au CF.ok (hr.mono (by decide)) rfl CF.nm CF.kp CF.bd .nil ar (aa (pv 5) ac)) (pv 1)))) ay)
   (ad (aO (aC bc (pv 6) ah (aE _)) (af (ax (i:=2) fO.nd rfl (Or.inl rfl) (aV dG (by rfl) N.int PyProof.Rows.Boot.«int» (aa (pv 5) ac)))) ay)
   (af (ax (i:=3) fO.nd rfl (Or.inl rfl) (aJ fg (aJ bE (pv 3) (aV io (by rfl) N.int PyProof.Rows.Boot.«int» (aa (ba bc (pv 6) ah (aE _)) ac))) (aV io (by rfl) N.int PyProof.Rows.Boot.«int» (aa (ba bc (pv 6) ah (aE _)) ac)))))))))))
   (ad (aO (aC (i8 hr.units) (pv 1) (aH ac) (aE _)) (af (av (aI aQ (by rfl) N.len PySem.boot_len (aa (pv 0) ac)))) ay)
   (af (av cr))))))),?_⟩
  refine ae (ao ⟨by show 1<=sizeLine;decide,λwa nwa=>?_⟩)
  obtain⟨g1,e1⟩:=laid (o:=.lst (rvs [.q])) nwa
  dsimp only [aA,List.set_cons_zero,List.set_cons_succ]
  change kr _ _ _ _ (upd H wa (.lst (rvs [.q])))
  generalize upd H wa _=H1 at g1 e1 ⊢
  refine ae (ao ?_)
  dsimp only [aA,List.set_cons_zero,List.set_cons_succ]
  refine ae (ao ?_)
  dsimp only [aA,List.set_cons_zero,List.set_cons_succ]
  refine wg (σ':=[some (.ref a),some (.ref wa),some (.int 0),some (.int 0),none,none,none]) rfl ?_
  refine ae ⟨_,rfl,a,rfl,⟨_,SqL.of (g1 _ _ ha)⟩,tR (K:=K) (a:=a) (xs:=ws.map V.str) (FaI H a ws) ⟨wa,[.q],0,0,none,none,none,rfl,nwa,g1,e1,by decide,rfl⟩ (λi σ H2 _ hh=>?_) (λi x σ H2 t hi hh nt=>?_) λσ H2 hh=>?_⟩
  ·obtain⟨_,_,_,_,_,_,_,_,_,g,_⟩:=hh
   exact SqL.of (g _ _ ha)
  ·obtain⟨wa,R,f,o,v4,v5,v6,rfl,nwa,g,ew,hR,hC⟩:=hh
   rw [List.getElem?_map]at hi
   obtain⟨w,hw,rfl⟩:=Option.map_eq_some_iff.mp hi
   have hil:=(List.getElem?_eq_some_iff.mp hw).1
   have hlw:=hW w (List.mem_of_getElem? hw)
   rw [pH hw]at hC
   refine⟨t,_,rfl,SqT.of aj,rfl,_,_,rfl,_,_,rfl,rfl,?_⟩
   dsimp only [aA,List.set_cons_zero,List.set_cons_succ]
   obtain⟨g3,_⟩:=laid (o:=.tup [V.int (i:Int),V.str w]) nt
   have g:=g.trans g3
   have ew:=g3 _ _ ew
   generalize upd H2 t _=H3 at g ew ⊢
   refine ae (aq ⟨_,rfl,by show 0<=sizeLine;decide,λz nz=>?_⟩)
   obtain⟨g4,e4⟩:=laid (o:=.lst []) nz
   have g:=g.trans g4
   have ew:=g4 _ _ ew
   refine⟨wa,z,_,rfl,rfl,ew,e4,_,rfl,?_⟩
   generalize upd H3 z _=H4 at g ew ⊢
   rw [if_neg Bool.false_ne_true,vn]
   cases R with
   | nil=>
    rw [lE]at hC
    refine b5 (az ⟨_,rfl,?_⟩)
    have:=q H4 g
    rw [jm hC]at this
    exact this
   | cons r R=>
    rw [hZ]at hC
    refine aF (ai ?_)
    dsimp only
    refine ae (ao ⟨_,rfl,.inl ⟨rfl,_,SqL.of ew⟩,wa,_,0,0,.str (roS r),rfl,rfl,ew,by decide,by decide,by rw [PySem.StrLaws.seqIndex_nonneg (by omega) (by rw [List.length_map,List.length_map,List.length_cons];omega)];rfl,rfl,?_⟩)
    have nwt:wa≠a:=λz=>by rw [z,ha]at nwa;cases nwa
    have g5:aP H (upd H4 wa (.lst (rvs R))):=λb o e=>by rw [al (am e nwa)];exact g _ _ e
    have e5:upd H4 wa (.lst (rvs R)) wa=some (.lst (rvs R)):=aj
    dsimp only [aA,List.set_cons_zero,List.set_cons_succ]
    change kr _ _ _ _ (upd H4 wa (.lst (rvs R)))
    generalize upd H4 wa (.lst (rvs R))=H5 at g5 e5 ⊢
    refine ae (aq ⟨_,rfl,_,rfl,_,rfl,_,rfl,r,w,f,o,rfl,hlw,λH6 g6=>⟨_,rfl,?_⟩⟩)
    have g6':=g5.trans g6
    have e6:=g6 _ _ e5
    cases hst:cc r w f o with
    | false=>
     rw [hst,if_neg Bool.false_ne_true]at hC
     refine b5 (az ⟨_,rfl,?_⟩)
     have:=q H6 g6'
     rw [ij hC]at this
     exact this
    | true=>
     rw [hst,if_pos rfl]at hC
     refine aF (ai ?_)
     dsimp only
     have hm:(more r w++R).length<=1+12 * (i+1):=by
      rw [List.length_append]
      rw [List.length_cons]at hR
      have:(more r w).length<=12:=by
       rcases ro_q r with rfl | ⟨_,e⟩
       ·show ((bM w).getD []).length<=12
        cases hf:bM w with
        | none=>exact Nat.zero_le _
        | some y=>exact jX hf
       ·rw [e];exact Nat.zero_le _
      omega
     refine nF (FaJ H a i w r (more r w++R) f o) (λRR hRR=>?_) λσ' H' hh=>?_
     ·refine aq ⟨_,rfl,rfl,_,rfl,?_⟩
      rcases ro_q r with rfl | ⟨e,em⟩
      ·refine b5 (ao ⟨_,rfl,w,rfl,λv H7 g7 hv=>?_⟩)
       rcases hv with⟨h1,rfl⟩ | ⟨R2,p,h1,rfl,np,ep⟩
       ·rw [show cc .q w f o=(bM w).isSome from rfl,h1]at hst;cases hst
       refine⟨_,rfl,p,wa,_,_,rfl,rfl,ep,g7 _ _ e6,?_,λp3 np3=>?_⟩
       ·rw [List.length_map,List.length_map,List.length_map,List.length_map]
        have:=jX h1
        rw [List.length_cons]at hR
        exact br (show _+_<=100000 by omega)
       obtain⟨g8,e8⟩:=laid (o:=.lst (rvs R2++rvs R)) np3
       dsimp only [aA,List.set_cons_zero,List.set_cons_succ]
       refine hRR _ _ ⟨p3,rfl,bt (g6'.trans g7) np3,(g6'.trans g7).trans g8,?_⟩
       refine e8.trans ?_
       rw [show more .q w=R2 from by show (bM w).getD []=R2;rw [h1];rfl]
       unfold rvs
       rw [List.map_append,List.map_append]
      ·rw [e]
       refine aF (ai (hRR _ _ ⟨wa,rfl,nwa,g6',?_⟩))
       rw [em];exact e6
     obtain⟨wa,rfl,nwa,g7,e7⟩:=hh
     refine nF (FaJ H a i w r (more r w++R) (ix r w f) o) (λRR hRR=>?_) λσ' H' hh=>?_
     ·refine aq ⟨_,rfl,rfl,_,rfl,?_⟩
      rcases ro_f r with rfl | ⟨e,em⟩
      ·have hg:cM w=true:=(of_decide_eq_true (show fL w 0 399=true from hst)).1.1
       refine b5 (ao ⟨_,rfl,w,aZ w,rfl,ii hg,di (gS hg).2.2,?_⟩)
       dsimp only [aA,List.set_cons_zero,List.set_cons_succ]
       exact hRR _ _ ⟨wa,rfl,nwa,g7,e7⟩
      ·rw [e]
       refine aF (ai (hRR _ _ ⟨wa,?_,nwa,g7,e7⟩))
       rw [em]
     obtain⟨wa,rfl,nwa,g8,e8⟩:=hh
     refine ao ⟨_,rfl,_,rfl,rfl,.inr ⟨_,rfl,_,_,rfl,rfl,_,rfl,rfl,.inr ⟨_,rfl,_,_,rfl,rfl,?_⟩⟩⟩
     dsimp only [aA,List.set_cons_zero,List.set_cons_succ]
     rw [zb,zc,zY]
     exact⟨wa,_,_,_,_,_,_,rfl,nwa,g8,e8,hm,hC⟩
  ·obtain⟨wa,R,f,o,v4,v5,v6,rfl,nwa,g,ew,hR,hC⟩:=hh
   rw [List.length_map,List.drop_length]at hC
   dsimp only
   refine ae (aq ⟨_,rfl,by show 0<=sizeLine;decide,λz nz=>?_⟩)
   obtain⟨g4,e4⟩:=laid (o:=.lst []) nz
   have g:=g.trans g4
   have ew:=g4 _ _ ew
   refine⟨wa,z,_,rfl,rfl,ew,e4,_,rfl,?_⟩
   generalize upd H2 z _=H4 at g ew ⊢
   rw [if_pos rfl,vn]
   cases R with
   | nil=>
    refine aF (ai ?_)
    dsimp only
    refine az ?_
    have:=q H4 g
    rw [mE hC]at this
    exact this
   | cons r R=>
    refine b5 (az ⟨_,rfl,a,_,rfl,.inl (SqL.of (g _ _ ha)),?_⟩)
    have:=q H4 g
    rw [ij hC]at this
    rw [List.length_map]
    exact this
noncomputable abbrev cW1:List Str:=[Str.ofString "", Str.ofString "?", Str.ofString "(", Str.ofString ")", Str.ofString "0", Str.ofString "-0", Str.ofString "00", Str.ofString "399", Str.ofString "400", Str.ofString "-1", Str.ofString "1", Str.ofString "401", Str.ofString "1000000000", Str.ofString "1000000001"]
noncomputable abbrev cW2:List Str:=[Str.ofString "-1000000000", Str.ofString "-1000000001", Str.ofString "+5", Str.ofString "05", Str.ofString "1e2", Str.ofString "--1", Str.ofString "A", Str.ofString "a1", Str.ofString "abcdefghi", Str.ofString "a,", Str.ofString ",a", Str.ofString "a,,b"]
noncomputable abbrev cW3:List Str:=[Str.ofString "a,a", Str.ofString "a,b,a", Str.ofString "1\n", Str.ofString "\n", Str.ofString "a\tb", Str.ofString "sum\n", Str.ofString "(\n", Str.ofString "a\n"]
noncomputable abbrev cW4:List Str:=[Str.ofString "((", Str.ofString "()", Str.ofString "sums", Str.ofString "value", Str.ofString "number"]
noncomputable abbrev cW5:List Str:=[Str.ofString "plus", Str.ofString "a b", Str.ofString "(a", Str.ofString "greatest", Str.ofString "since", Str.ofString "change", Str.ofString "part", Str.ofString "9999999999999", Str.ofString "-", Str.ofString "less", Str.ofString "*"]
noncomputable abbrev z8:Str:=Str.ofString "zzzzzzzz"
noncomputable def Sh (ws:List Str):Prop:=∀w∈ws,w.length<=400
theorem Sh.app {a c:List Str} (h:Sh a) (k:Sh c):Sh (a++c):=λw m=>(List.mem_append.mp m).elim (h w) (k w)
theorem yx:(∀w∈cW1,w.length<=400)/\(∀w∈cW2,w.length<=400)/\(∀w∈cW3,w.length<=400)/\(∀w∈cW4,w.length<=400)/\(∀w∈cW5,w.length<=400):=by decide +kernel
theorem zx {ks:List Str} (hne:ks≠[]) (h9:ks.length<=9) (hk:∀k∈ks,k.length<=8):(Txt.join cmS ks).length<=400:=by
 have h1:=congrArg List.length (tH hne)
 have h2:=ly 44 8 ks hk
 rw [List.length_cons,<- bG]at h1
 have:(jc ks).length<=400:=by omega
 exact this
theorem ua {ks:List Str} (h9:ks.length<=9) (hk:∀k∈ks,k.length<=8):(ks.map (·.length)).sum+ks.length * (Str.ofString ",").length<=16777216:=by
 have:=fS 8 ks hk
 rw [show (Str.ofString ",").length=1 from by decide +kernel,Nat.mul_one]
 omega
theorem om {ws:List Str}{n:Int} (h0:0<=n) (h1:n < ws.length):∃x,atI (ws.map V.str) n=some (.str x)/\x∈ws:=by
 obtain⟨j,rfl⟩:∃j:Nat,n=(j:Int):=⟨n.toNat,by omega⟩
 have hj:j < ws.length:=by omega
 exact⟨ws[j],dB (by rw [List.getElem?_map,List.getElem?_eq_getElem hj];rfl),List.getElem_mem hj⟩
inductive WoI (s wl nl:Addr) (H:Hp):Prop
 | mk (ws ss:List Str) (hs:SAt H s) (ew:H wl=some (.lst (ws.map V.str))) (nws:wl≠s) (w1:1<=ws.length) (w9:ws.length<=8200) (hW:Sh ws) (en:H nl=some (.lst (ss.map V.str))) (nns:nl≠s) (hn:Nms ss):WoI s wl nl H
noncomputable def vT:Sp:=λvs H Q _=>∃(s wl nl:Addr),vs=[.ref s,.ref wl,.ref nl]/\WoI s wl nl H/\∀(x:Str) (H':Hp),x.length<=400->Off s H H'->SAt H' s->Q (.str x) H'
noncomputable def cT (ws:List Str) (lo hi:Option Int):List Str:=(ws.drop (HT.sIx ws.length 0 lo)).take (HT.sIx ws.length ws.length hi - HT.sIx ws.length 0 lo)
theorem vD (ws:List Str) (lo hi:Option Int):da (ws.map V.str) lo hi=(cT ws lo hi).map V.str:=by
 unfold da cT
 rw [List.length_map,List.map_take,List.map_drop]
theorem cJ {ws:List Str}{lo hi:Option Int} (h:Sh ws):Sh (cT ws lo hi):=λw m=>h w (List.mem_of_mem_drop (List.mem_of_mem_take m))
theorem b7 (ws:List Str) (lo hi:Option Int):(cT ws lo hi).length<=ws.length:=by
 unfold cT
 rw [List.length_take,List.length_drop]
 omega
theorem j5:FnScope ["_law_state", "_law_words_here", "_law_names_here", "_law_some_here", "_law_at"] ["_law_state", "_law_words_here", "_law_names_here"] (aw xh):=⟨rfl,rfl,rfl,by decide +kernel,rfl,by decide +kernel,by decide +kernel⟩
theorem xQ {f f1:Addr}{fd:FuncData} (F:Fun K "_law_word" "_law_word" xh f fd) (N:Free mg){fd1:FuncData} (CP:Cal P w K mg base "_law_pull" 2 ["_law_state", "_law_many"] cG f1 fd1):FnOk P w K mg base CX0 4 f fd ["_law_state", "_law_words_here", "_law_names_here"] vT:=by
 refine F.ok (k:=3) j5 (λvs H Q E h=>?_) (λcdv A outer s H vs Q E hr h=>?_)
 ·obtain⟨s,wl,nl,rfl,_⟩:=h
  rfl
 ·obtain⟨s,wl,nl,rfl,⟨ws,ss,hs,ew,nws,w1,w9,hW,en,nns,hn⟩,q⟩:=h
  have hu:=aM hr
  refine⟨_,(@ad _ _ _ _ _ (@ax (i:=3) _ _ _ _ _ _ j5.nd rfl (Or.inl rfl) (@aH _ _ _ _ (@aa _ _ _ _ _ ah (@aa _ _ _ _ _ ah (@aa _ _ _ _ _ ah (@aa _ _ _ _ _ ah (@aa _ _ _ _ _ ah (@aa _ _ _ _ _ ah (@aa _ _ _ _ _ ah (@aa _ _ _ _ _ ah (@aa _ _ _ _ _ ah (@aa _ _ _ _ _ ah (@aa _ _ _ _ _ ah (@aa _ _ _ _ _ ah (@aa _ _ _ _ _ ah (@aa _ _ _ _ _ ah ac rfl) rfl) rfl) rfl) rfl) rfl) rfl) rfl) rfl) rfl) rfl) rfl) rfl) rfl)) (by rfl) (by first | exact .inl rfl | exact .inr rfl))
   (@ad _ _ _ _ _ (@ax (i:=3) _ _ _ _ _ _ j5.nd rfl (Or.inl rfl) (@aJ _ _ _ _ _ _ _ _ bK (pv 3) (@aH _ _ _ _ (@aa _ _ _ _ _ ah (@aa _ _ _ _ _ ah (@aa _ _ _ _ _ ah (@aa _ _ _ _ _ ah (@aa _ _ _ _ _ ah (@aa _ _ _ _ _ ah (@aa _ _ _ _ _ ah (@aa _ _ _ _ _ ah (@aa _ _ _ _ _ ah (@aa _ _ _ _ _ ah (@aa _ _ _ _ _ ah (@aa _ _ _ _ _ ah ac rfl) rfl) rfl) rfl) rfl) rfl) rfl) rfl) rfl) rfl) rfl) rfl))) (by rfl) (by first | exact .inl rfl | exact .inr rfl))
   (@ad _ _ _ _ _ (@ax (i:=3) _ _ _ _ _ _ j5.nd rfl (Or.inl rfl) (@aJ _ _ _ _ _ _ _ _ bK (pv 3) (@aH _ _ _ _ (@aa _ _ _ _ _ ah (@aa _ _ _ _ _ ah (@aa _ _ _ _ _ ah (@aa _ _ _ _ _ ah (@aa _ _ _ _ _ ah (@aa _ _ _ _ _ ah (@aa _ _ _ _ _ ah (@aa _ _ _ _ _ ah ac rfl) rfl) rfl) rfl) rfl) rfl) rfl) rfl))) (by rfl) (by first | exact .inl rfl | exact .inr rfl))
   (@ad _ _ _ _ _ (@ax (i:=3) _ _ _ _ _ _ j5.nd rfl (Or.inl rfl) (@aJ _ _ _ _ _ _ _ _ bK (pv 3) (@aH _ _ _ _ (@aa _ _ _ _ _ (bW PySem.F.plainAttrs_str PySem.F.slot_str_join PySem.F.type_str_join du ah (@aa _ _ _ _ _ (pv 2) ac rfl)) (@aa _ _ _ _ _ (bW PySem.F.plainAttrs_str PySem.F.slot_str_join PySem.F.type_str_join du ah (@aa _ _ _ _ _ (@aJ _ _ _ _ _ _ _ _ bK (pv 2) (@aH _ _ _ _ (@aa _ _ _ _ _ ah ac rfl))) ac rfl)) (@aa _ _ _ _ _ (@b9 _ _ _ _ _ _ _ aT (pv 2) ag (λ_ _=>rfl)) (@aa _ _ _ _ _ ah (@aa _ _ _ _ _ ah (@aa _ _ _ _ _ ah (@aa _ _ _ _ _ ah (@aa _ _ _ _ _ ah ac rfl) rfl) rfl) rfl) rfl) rfl) rfl) rfl))) (by rfl) (by first | exact .inl rfl | exact .inr rfl))
   (@ad _ _ _ _ _ (@ax (i:=3) _ _ _ _ _ _ j5.nd rfl (Or.inl rfl) (@aJ _ _ _ _ _ _ _ _ bK (pv 3) (@aH _ _ _ _ (@aa _ _ _ _ _ ah (@aa _ _ _ _ _ ah (@aa _ _ _ _ _ ah (@aa _ _ _ _ _ ah (@aa _ _ _ _ _ ah (@aa _ _ _ _ _ ah (@aa _ _ _ _ _ ah (@aa _ _ _ _ _ ah (@aa _ _ _ _ _ ah (@aa _ _ _ _ _ ah (@aa _ _ _ _ _ ah ac rfl) rfl) rfl) rfl) rfl) rfl) rfl) rfl) rfl) rfl) rfl))) (by rfl) (by first | exact .inl rfl | exact .inr rfl))
   (ad (ax (i:=4) j5.nd rfl (Or.inl rfl) (au CP.ok (hr.mono (by decide)) rfl CP.nm CP.kp CP.bd .nil ar (aa (pv 0) (aa (aJ bE (aI aQ (by rfl) N.len PySem.boot_len (aa (pv 3) ac)) ag) ac))))
   (ad (aO (aC eO (pv 4) (aI aQ (by rfl) N.len PySem.boot_len (aa (pv 3) ac)) (aE _)) (af (av (b9 aT (pv 3) (pv 4) (λ_ _=>rfl)))) ay)
   (af (av (b9 aT (pv 1) (au CP.ok (hr.mono (by decide)) rfl CP.nm CP.kp CP.bd .nil ar (aa (pv 0) (aa (aI aQ (by rfl) N.len PySem.boot_len (aa (pv 1) ac)) ac))) (λ_ _=>rfl))))))))))),?_⟩
  have c9:=yx
  have hn8:∀k∈ss,k.length<=8:=λk hk=>(jf (hn.2.2 k hk)).2.1
  have hn9:=hn.1
  refine ae (ao ⟨by show 14<=sizeLine;decide,λp1 np1=>?_⟩)
  obtain⟨g,e⟩:=laid (o:=.lst (cW1.map V.str)) np1
  dsimp only [aA,List.set_cons_zero,List.set_cons_succ]
  change kr _ _ _ _ (upd H p1 (.lst (cW1.map V.str)))
  generalize upd H p1 (.lst (cW1.map V.str))=H1 at g e ⊢
  refine ae (ao ⟨_,rfl,by show 12<=sizeLine;decide,λa2 na2=>?_⟩)
  obtain⟨ga,ea⟩:=laid (o:=.lst (cW2.map V.str)) na2
  refine⟨p1,a2,_,_,rfl,rfl,ga _ _ e,ea,(by rw [List.length_map,List.length_map];exact br (k:=14+12) (by decide)),λp2 np2=>?_⟩
  rw [<- List.map_append]
  obtain⟨gb,e⟩:=laid (o:=.lst ((cW1++cW2).map V.str)) np2
  dsimp only [aA,List.set_cons_zero,List.set_cons_succ]
  have g:=(g.trans ga).trans gb
  generalize upd (upd _ a2 _) p2 _=H2 at g e ⊢
  refine ae (ao ⟨_,rfl,by show 8<=sizeLine;decide,λa3 na3=>?_⟩)
  obtain⟨ga,ea⟩:=laid (o:=.lst (cW3.map V.str)) na3
  refine⟨p2,a3,_,_,rfl,rfl,ga _ _ e,ea,(by rw [List.length_map,List.length_map];exact br (k:=26+8) (by decide)),λp3 np3=>?_⟩
  rw [<- List.map_append]
  obtain⟨gb,e⟩:=laid (o:=.lst (((cW1++cW2)++cW3).map V.str)) np3
  dsimp only [aA,List.set_cons_zero,List.set_cons_succ]
  have g:=(g.trans ga).trans gb
  generalize upd (upd _ a3 _) p3 _=H3 at g e ⊢
  have en3:=g _ _ en
  obtain⟨k0,ek0,hk0⟩:=om (ws:=ss) (n:=0) (Int.le_refl 0) (by omega)
  refine ae (ao ⟨_,rfl,rfl,_,rfl,_,nl,ss,rfl,rfl,en3,ua (by omega) hn8,?_⟩)
  refine⟨rfl,_,rfl,by show 1<=sizeLine;decide,λq1 nq1=>?_⟩
  obtain⟨gq,eq1⟩:=laid (o:=.lst ([z8].map V.str)) nq1
  refine⟨nl,q1,_,_,rfl,rfl,gq _ _ en3,eq1,(by rw [List.length_map,List.length_map];exact br (show _+1<=100000 by omega)),λq2 nq2=>?_⟩
  rw [<- List.map_append]
  obtain⟨gr,eq2⟩:=laid (o:=.lst ((ss++[z8]).map V.str)) nq2
  have h9z:∀k∈ss++[z8],k.length<=8:=λk m=>(List.mem_append.mp m).elim (hn8 k) λz=>by rw [List.mem_singleton.mp z];decide +kernel
  have l9z:(ss++[z8]).length<=9:=by rw [List.length_append,hn9];decide
  refine⟨_,q2,ss++[z8],rfl,rfl,eq2,ua l9z h9z,?_⟩
  have gqr:=gq.trans gr
  have g:=g.trans gqr
  have e:=gqr _ _ e
  generalize upd (upd _ q1 _) q2 _=H4 at g e ⊢
  refine⟨_,rfl,nl,_,0,_,rfl,rfl,SqL.of (g _ _ en),ek0,?_⟩
  refine⟨by show 8<=sizeLine;decide,λa4 na4=>?_⟩
  obtain⟨ga,ea⟩:=laid (o:=.lst (([Txt.join cmS ss,Txt.join cmS (ss++[z8]),k0]++cW4).map V.str)) na4
  refine⟨p3,a4,_,_,rfl,rfl,ga _ _ e,ea,(by rw [List.length_map,List.length_map];exact br (k:=34+8) (by decide)),λp4 np4=>?_⟩
  rw [<- List.map_append]
  obtain⟨gb,e⟩:=laid (o:=.lst ((((cW1++cW2)++cW3)++([Txt.join cmS ss,Txt.join cmS (ss++[z8]),k0]++cW4)).map V.str)) np4
  dsimp only [aA,List.set_cons_zero,List.set_cons_succ]
  have g:=(g.trans ga).trans gb
  generalize upd (upd _ a4 _) p4 _=H5 at g e ⊢
  refine ae (ao ⟨_,rfl,by show 11<=sizeLine;decide,λa5 na5=>?_⟩)
  obtain⟨ga,ea⟩:=laid (o:=.lst (cW5.map V.str)) na5
  have g5s:=g.trans ga
  refine⟨p4,a5,_,_,rfl,rfl,ga _ _ e,ea,(by rw [List.length_map,List.length_map];exact br (k:=42+11) (by decide)),λp5 np5=>?_⟩
  rw [<- List.map_append]
  obtain⟨gb,e⟩:=laid (o:=.lst (((((cW1++cW2)++cW3)++([Txt.join cmS ss,Txt.join cmS (ss++[z8]),k0]++cW4))++cW5).map V.str)) np5
  dsimp only [aA,List.set_cons_zero,List.set_cons_succ]
  have g:=(g.trans ga).trans gb
  generalize upd (upd _ a5 _) p5 _=H6 at g e ⊢
  have hsh:Sh ((((cW1++cW2)++cW3)++([Txt.join cmS ss,Txt.join cmS (ss++[z8]),k0]++cW4))++cW5):=by
   refine Sh.app (Sh.app (Sh.app (Sh.app c9.1 c9.2.1) c9.2.2.1) (Sh.app (λx m=>?_) c9.2.2.2.1)) c9.2.2.2.2
   rcases List.mem_cons.mp m with rfl | m
   ·exact zx (λz=>by rw [z]at hn9;cases hn9) (by omega) hn8
   rcases List.mem_cons.mp m with rfl | m
   ·exact zx (λz=>by have:=congrArg List.length z;rw [List.length_append]at this;cases this) l9z h9z
   ·rw [List.mem_singleton.mp m];have:=hn8 k0 hk0;omega
  have hlen:(((((cW1++cW2)++cW3)++([Txt.join cmS ss,Txt.join cmS (ss++[z8]),k0]++cW4))++cW5)).length=53:=rfl
  generalize ((((cW1++cW2)++cW3)++([Txt.join cmS ss,Txt.join cmS (ss++[z8]),k0]++cW4))++cW5)=LL at e hsh hlen ⊢
  have hs6:=hs.keep g
  have nps:p5≠s:=λz=>by obtain⟨xs,es⟩:=hs.lst;have:=g5s _ _ es;rw [<- z]at this;exact nomatch np5.symm.trans this
  refine ae (ao ⟨_,rfl,_,rfl,p5,_,rfl,.inl (SqL.of e),_,_,rfl,rfl,s,_,rfl,hs6,?_,?_,λn H7 n0 n1 o7 hs7=>?_⟩)
  ·rw [List.length_map];omega
  ·rw [List.length_map,hlen];decide
  dsimp only [aA,List.set_cons_zero,List.set_cons_succ]
  rw [List.length_map]at n1
  have e7:=o7 _ _ e nps
  have oo:Off s H H7:=(Off.grow g).trans o7
  refine ae (aq ⟨_,rfl,_,rfl,p5,_,rfl,.inl (SqL.of e7),_,_,rfl,rfl,_,rfl,cj (λhc=>?_) λhc=>ai ?_⟩)
  ·have hc:=of_decide_eq_true hc
   rw [List.length_map]at hc
   obtain⟨x,ex,hx⟩:=om n0 hc
   exact az ⟨_,rfl,_,rfl,p5,_,_,_,rfl,rfl,SqL.of e7,ex,q x H7 (hsh x hx) oo hs7⟩
  ·dsimp only
   have ew7:=oo _ _ ew nws
   refine az ⟨_,rfl,_,rfl,_,rfl,wl,_,rfl,.inl (SqL.of ew7),s,_,rfl,hs7,?_,?_,λn2 H8 m0 m1 o8 hs8=>?_⟩
   ·rw [List.length_map];omega
   ·rw [List.length_map];omega
   rw [List.length_map]at m1
   obtain⟨x,ex,hx⟩:=om m0 m1
   exact⟨wl,_,_,_,rfl,rfl,SqL.of (o8 _ _ ew7 nws),ex,q x H8 (hW x hx) (oo.trans o8) hs8⟩
inductive WoJ (s wl nl:Addr) (ws:List Str) (H:Hp):Prop
 | mk (ss:List Str) (hs:SAt H s) (ew:H wl=some (.lst (ws.map V.str))) (nws:wl≠s) (w1:1<=ws.length) (w9:ws.length<=8200) (hW:Sh ws) (en:H nl=some (.lst (ss.map V.str))) (nns:nl≠s) (hn:Nms ss):WoJ s wl nl ws H
noncomputable def vV:Sp:=λvs H Q _=>∃(s wl nl:Addr) (ws:List Str),vs=[.ref s,.ref wl,.ref nl]/\WoJ s wl nl ws H/\∀(p:Addr) (ws':List Str) (H':Hp),p≠s->Off s H H'->SAt H' s->H' p=some (.lst (ws'.map V.str))->ws'.length<=4 * ws.length+1->Sh ws'->Q (.ref p) H'
theorem dL {H:Hp}{l:Addr} (ws:List Str) (lo hi:Option Int) (n:H l=none):aP H (upd H l (.lst (da (ws.map V.str) lo hi)))/\upd H l (.lst (da (ws.map V.str) lo hi)) l=some (.lst ((cT ws lo hi).map V.str)):=⟨(laid n).1,by rw [aj,vD]⟩
theorem fP {H:Hp}{l:Addr} (A B:List Str) (n:H l=none):aP H (upd H l (.lst (A.map V.str++B.map V.str)))/\upd H l (.lst (A.map V.str++B.map V.str)) l=some (.lst ((A++B).map V.str)):=⟨(laid n).1,by rw [aj,List.map_append]⟩
theorem tE {H:Hp}{l:Addr} (x:Str) (n:H l=none):aP H (upd H l (.lst [V.str x]))/\upd H l (.lst [V.str x]) l=some (.lst ([x].map V.str)):=laid n
theorem bH {H:Hp}{s p:Addr} (h:SAt H s) (n:H p=none):p≠s:=λz=>by obtain⟨xs,e⟩:=h.lst;rw [z,e]at n;cases n
theorem sh1 {x:Str} (h:x.length<=400):Sh [x]:=λw m=>by rw [List.mem_singleton.mp m];exact h
theorem oM:FnScope ["_law_state", "_law_words_here", "_law_names_here", "_law_at", "_law_way", "_law_turned"] ["_law_state", "_law_words_here", "_law_names_here"] (aw xj):=⟨rfl,rfl,rfl,by decide +kernel,rfl,by decide +kernel,by decide +kernel⟩
theorem xT {f f1 f2:Addr}{fd:FuncData} (F:Fun K "_law_spoilt" "_law_spoilt" xj f fd) (N:Free mg){fd1:FuncData} (CP:Cal P w K mg base "_law_pull" 2 ["_law_state", "_law_many"] cG f1 fd1){fd2:FuncData} (CW:Cal P w K mg base "_law_word" 4 ["_law_state", "_law_words_here", "_law_names_here"] vT f2 fd2):FnOk P w K mg base CX0 5 f fd ["_law_state", "_law_words_here", "_law_names_here"] vV:=by
 refine F.ok (k:=4) oM (λvs H Q E h=>?_) (λcdv A outer s H vs Q E hr h=>?_)
 ·obtain⟨s,wl,nl,ws,rfl,_⟩:=h
  rfl
 ·obtain⟨s,wl,nl,ws,rfl,⟨ss,hs,ew,nws,w1,w9,hW,en,nns,hn⟩,q⟩:=h
  have hu:=aM hr
  refine⟨_,(ad (ax (i:=3) oM.nd rfl (Or.inl rfl) (au CP.ok (hr.mono (by decide)) rfl CP.nm CP.kp CP.bd .nil ar (aa (pv 0) (aa (aI aQ (by rfl) N.len PySem.boot_len (aa (pv 1) ac)) ac))))
   (ad (ax (i:=4) oM.nd rfl (Or.inl rfl) (au CP.ok (hr.mono (by decide)) rfl CP.nm CP.kp CP.bd .nil ar (aa (pv 0) (aa ag ac))))
   (ad (aO (aC bc (pv 4) ag (aE _)) (af (av (aJ bK (bj bN (pv 1) bD (bu (pv 3))) (bj bN (pv 1) (bu (aJ bE (pv 3) ag)) bD)))) ay)
   (ad (aO (aC bc (pv 4) ag (aE _)) (af (av (aJ bK (aJ bK (bj bN (pv 1) bD (bu (pv 3))) (aH (aa (au CW.ok (hr.mono (by decide)) rfl CW.nm CW.kp CW.bd .nil ar (aa (pv 0) (aa (pv 1) (aa (pv 2) ac)))) ac))) (bj bN (pv 1) (bu (pv 3)) bD)))) ay)
   (ad (aO (aC bc (pv 4) ag (aE _)) (ad (ax (i:=5) oM.nd rfl (Or.inl rfl) (aJ bK (bj bN (pv 1) (bu (aJ bE (pv 3) ag)) (bu (aJ bE (pv 3) ag))) (bj bN (pv 1) (bu (pv 3)) (bu (aJ bE (pv 3) ag)))))
   (af (av (aJ bK (aJ bK (bj bN (pv 1) bD (bu (pv 3))) (pv 5)) (bj bN (pv 1) (bu (aJ bE (pv 3) ag)) bD))))) ay)
   (ad (aO (aC bc (pv 4) ag (aE _)) (af (av (aJ bK (bj bN (pv 1) bD (bu (aJ bE (pv 3) ag))) (bj bN (pv 1) (bu (pv 3)) bD)))) ay)
   (ad (aO (aC bc (pv 4) ag (aE _)) (af (av (bj bN (pv 1) bD (bu (pv 3))))) ay)
   (ad (aO (aC bc (pv 4) ag (aE _)) (af (av (aJ bK (pv 1) (aH (aa (au CW.ok (hr.mono (by decide)) rfl CW.nm CW.kp CW.bd .nil ar (aa (pv 0) (aa (pv 1) (aa (pv 2) ac)))) ac))))) ay)
   (af (av (aJ bK (aJ bK (bj bN (pv 1) bD (bu (pv 3))) (aH (aa (au CW.ok (hr.mono (by decide)) rfl CW.nm CW.kp CW.bd .nil ar (aa (pv 0) (aa (pv 1) (aa (pv 2) ac)))) ac))) (bj bN (pv 1) (bu (aJ bE (pv 3) ag)) bD)))))))))))),?_⟩
  have ew0:=ew
  refine ae (ao ⟨_,rfl,_,rfl,wl,_,rfl,.inl (SqL.of ew),s,_,rfl,hs,(by rw [List.length_map];omega),(by rw [List.length_map];omega),λn H1 n0 n1 o1 hs1=>?_⟩)
  dsimp only [aA,List.set_cons_zero,List.set_cons_succ]
  refine ae (ao ⟨_,rfl,s,8,rfl,hs1,by decide,by decide,λv H2 v0 v1 o2 hs2=>?_⟩)
  dsimp only [aA,List.set_cons_zero,List.set_cons_succ]
  have o:=o1.trans o2
  have ew:=o _ _ ew nws
  have en:=o _ _ en nns
  clear hs
  have hs:=hs2
  refine ae (aq ⟨_,rfl,rfl,_,rfl,cj (λ_=>?_) λ_=>ai ?_⟩)
  ·refine az ⟨_,rfl,_,rfl,_,rfl,wl,_,rfl,SqL.of ew,λp1 np1=>?_⟩
   have ns1:=bH hs np1
   obtain⟨g1,e1⟩:=dL ws none (some n) np1
   have o:=o.trans (Off.grow g1)
   have hs:=hs.keep g1
   have ew:=g1 _ _ ew
   have en:=g1 _ _ en
   generalize upd _ p1 _=H21 at o hs ew en e1 ⊢
   refine⟨_,rfl,_,rfl,_,_,rfl,rfl,_,rfl,wl,_,rfl,SqL.of ew,λp2 np2=>?_⟩
   have ns2:=bH hs np2
   obtain⟨g2,e2⟩:=dL ws (some (n+1)) none np2
   have o:=o.trans (Off.grow g2)
   have hs:=hs.keep g2
   have ew:=g2 _ _ ew
   have en:=g2 _ _ en
   have e1:=g2 _ _ e1
   generalize upd _ p2 _=H22 at o hs ew en e1 e2 ⊢
   refine⟨p1,p2,_,_,rfl,rfl,e1,e2,(by rw [List.length_map,List.length_map];exact br (show _<=100000 by(try simp only [List.length_append,List.length_singleton]);have l0:=b7 ws none (some n);have l1:=b7 ws (some (n+1)) none;omega)),λp3 np3=>?_⟩
   have ns3:=bH hs np3
   obtain⟨g3,e3⟩:=fP (cT ws none (some n)) (cT ws (some (n+1)) none) np3
   have o:=o.trans (Off.grow g3)
   have hs:=hs.keep g3
   have ew:=g3 _ _ ew
   have en:=g3 _ _ en
   have e1:=g3 _ _ e1
   have e2:=g3 _ _ e2
   generalize upd _ p3 _=H23 at o hs ew en e1 e2 e3 ⊢
   exact q p3 _ _ ns3 o hs e3 (by(try simp only [List.length_append,List.length_singleton]);have l0:=b7 ws none (some n);have l1:=b7 ws (some (n+1)) none;omega) (Sh.app (cJ hW) (cJ hW))
  dsimp only
  refine ae (aq ⟨_,rfl,rfl,_,rfl,cj (λ_=>?_) λ_=>ai ?_⟩)
  ·refine az ⟨_,rfl,_,rfl,_,rfl,wl,_,rfl,SqL.of ew,λp1 np1=>?_⟩
   have ns1:=bH hs np1
   obtain⟨g1,e1⟩:=dL ws none (some n) np1
   have o:=o.trans (Off.grow g1)
   have hs:=hs.keep g1
   have ew:=g1 _ _ ew
   have en:=g1 _ _ en
   generalize upd _ p1 _=H21 at o hs ew en e1 ⊢
   refine⟨_,rfl,_,rfl,_,rfl,s,wl,nl,rfl,⟨ws,ss,hs,ew,nws,w1,w9,hW,en,nns,hn⟩,λx HX hx ox hsx=>⟨by show 1<=sizeLine;decide,λp2 np2=>?_⟩⟩
   have o:=o.trans ox
   have hs:=hsx
   have ew:=ox _ _ ew nws
   have en:=ox _ _ en nns
   have e1:=ox _ _ e1 ns1
   have ns2:=bH hs np2
   obtain⟨g2,e2⟩:=tE x np2
   have o:=o.trans (Off.grow g2)
   have hs:=hs.keep g2
   have ew:=g2 _ _ ew
   have en:=g2 _ _ en
   have e1:=g2 _ _ e1
   generalize upd _ p2 _=H22 at o hs ew en e1 e2 ⊢
   refine⟨p1,p2,_,_,rfl,rfl,e1,e2,(by rw [List.length_map,List.length_map];exact br (show _<=100000 by(try simp only [List.length_append,List.length_singleton]);have l0:=b7 ws none (some n);omega)),λp3 np3=>?_⟩
   have ns3:=bH hs np3
   obtain⟨g3,e3⟩:=fP (cT ws none (some n)) ([x]) np3
   have o:=o.trans (Off.grow g3)
   have hs:=hs.keep g3
   have ew:=g3 _ _ ew
   have en:=g3 _ _ en
   have e1:=g3 _ _ e1
   have e2:=g3 _ _ e2
   generalize upd _ p3 _=H23 at o hs ew en e1 e2 e3 ⊢
   refine⟨_,rfl,_,rfl,_,rfl,wl,_,rfl,SqL.of ew,λp4 np4=>?_⟩
   have ns4:=bH hs np4
   obtain⟨g4,e4⟩:=dL ws (some n) none np4
   have o:=o.trans (Off.grow g4)
   have hs:=hs.keep g4
   have ew:=g4 _ _ ew
   have en:=g4 _ _ en
   have e1:=g4 _ _ e1
   have e2:=g4 _ _ e2
   have e3:=g4 _ _ e3
   generalize upd _ p4 _=H24 at o hs ew en e1 e2 e3 e4 ⊢
   refine⟨p3,p4,_,_,rfl,rfl,e3,e4,(by rw [List.length_map,List.length_map];exact br (show _<=100000 by(try simp only [List.length_append,List.length_singleton]);have l0:=b7 ws none (some n);have l1:=b7 ws (some n) none;omega)),λp5 np5=>?_⟩
   have ns5:=bH hs np5
   obtain⟨g5,e5⟩:=fP ((cT ws none (some n)++[x])) (cT ws (some n) none) np5
   have o:=o.trans (Off.grow g5)
   have hs:=hs.keep g5
   have ew:=g5 _ _ ew
   have en:=g5 _ _ en
   have e1:=g5 _ _ e1
   have e2:=g5 _ _ e2
   have e3:=g5 _ _ e3
   have e4:=g5 _ _ e4
   generalize upd _ p5 _=H25 at o hs ew en e1 e2 e3 e4 e5 ⊢
   exact q p5 _ _ ns5 o hs e5 (by(try simp only [List.length_append,List.length_singleton]);have l0:=b7 ws none (some n);have l1:=b7 ws (some n) none;omega) (Sh.app (Sh.app (cJ hW) (sh1 hx)) (cJ hW))
  dsimp only
  refine ae (aq ⟨_,rfl,rfl,_,rfl,cj (λ_=>?_) λ_=>ai ?_⟩)
  ·refine ae (ao ⟨_,rfl,_,rfl,_,_,rfl,rfl,_,rfl,_,rfl,_,_,rfl,rfl,_,rfl,wl,_,rfl,SqL.of ew,λp1 np1=>?_⟩)
   have ns1:=bH hs np1
   obtain⟨g1,e1⟩:=dL ws (some (n+1)) (some (n+2)) np1
   have o:=o.trans (Off.grow g1)
   have hs:=hs.keep g1
   have ew:=g1 _ _ ew
   have en:=g1 _ _ en
   generalize upd _ p1 _=H21 at o hs ew en e1 ⊢
   refine⟨_,rfl,_,rfl,_,rfl,_,rfl,_,_,rfl,rfl,_,rfl,wl,_,rfl,SqL.of ew,λp2 np2=>?_⟩
   have ns2:=bH hs np2
   obtain⟨g2,e2⟩:=dL ws (some n) (some (n+1)) np2
   have o:=o.trans (Off.grow g2)
   have hs:=hs.keep g2
   have ew:=g2 _ _ ew
   have en:=g2 _ _ en
   have e1:=g2 _ _ e1
   generalize upd _ p2 _=H22 at o hs ew en e1 e2 ⊢
   refine⟨p1,p2,_,_,rfl,rfl,e1,e2,(by rw [List.length_map,List.length_map];exact br (show _<=100000 by(try simp only [List.length_append,List.length_singleton]);have l0:=b7 ws (some (n+1)) (some (n+2));have l1:=b7 ws (some n) (some (n+1));omega)),λp3 np3=>?_⟩
   have ns3:=bH hs np3
   obtain⟨g3,e3⟩:=fP (cT ws (some (n+1)) (some (n+2))) (cT ws (some n) (some (n+1))) np3
   have o:=o.trans (Off.grow g3)
   have hs:=hs.keep g3
   have ew:=g3 _ _ ew
   have en:=g3 _ _ en
   have e1:=g3 _ _ e1
   have e2:=g3 _ _ e2
   generalize upd _ p3 _=H23 at o hs ew en e1 e2 e3 ⊢
   dsimp only [aA,List.set_cons_zero,List.set_cons_succ]
   refine az ⟨_,rfl,_,rfl,_,rfl,wl,_,rfl,SqL.of ew,λp4 np4=>?_⟩
   have ns4:=bH hs np4
   obtain⟨g4,e4⟩:=dL ws none (some n) np4
   have o:=o.trans (Off.grow g4)
   have hs:=hs.keep g4
   have ew:=g4 _ _ ew
   have en:=g4 _ _ en
   have e1:=g4 _ _ e1
   have e2:=g4 _ _ e2
   have e3:=g4 _ _ e3
   generalize upd _ p4 _=H24 at o hs ew en e1 e2 e3 e4 ⊢
   refine⟨_,rfl,?_⟩
   refine⟨p4,p3,_,_,rfl,rfl,e4,e3,(by rw [List.length_map,List.length_map];exact br (show _<=100000 by(try simp only [List.length_append,List.length_singleton]);have l0:=b7 ws (some (n+1)) (some (n+2));have l1:=b7 ws (some n) (some (n+1));have l2:=b7 ws none (some n);omega)),λp5 np5=>?_⟩
   have ns5:=bH hs np5
   obtain⟨g5,e5⟩:=fP (cT ws none (some n)) ((cT ws (some (n+1)) (some (n+2))++cT ws (some n) (some (n+1)))) np5
   have o:=o.trans (Off.grow g5)
   have hs:=hs.keep g5
   have ew:=g5 _ _ ew
   have en:=g5 _ _ en
   have e1:=g5 _ _ e1
   have e2:=g5 _ _ e2
   have e3:=g5 _ _ e3
   have e4:=g5 _ _ e4
   generalize upd _ p5 _=H25 at o hs ew en e1 e2 e3 e4 e5 ⊢
   refine⟨_,rfl,_,rfl,_,_,rfl,rfl,_,rfl,wl,_,rfl,SqL.of ew,λp6 np6=>?_⟩
   have ns6:=bH hs np6
   obtain⟨g6,e6⟩:=dL ws (some (n+2)) none np6
   have o:=o.trans (Off.grow g6)
   have hs:=hs.keep g6
   have ew:=g6 _ _ ew
   have en:=g6 _ _ en
   have e1:=g6 _ _ e1
   have e2:=g6 _ _ e2
   have e3:=g6 _ _ e3
   have e4:=g6 _ _ e4
   have e5:=g6 _ _ e5
   generalize upd _ p6 _=H26 at o hs ew en e1 e2 e3 e4 e5 e6 ⊢
   refine⟨p5,p6,_,_,rfl,rfl,e5,e6,(by rw [List.length_map,List.length_map];exact br (show _<=100000 by(try simp only [List.length_append,List.length_singleton]);have l0:=b7 ws (some (n+1)) (some (n+2));have l1:=b7 ws (some n) (some (n+1));have l2:=b7 ws none (some n);have l3:=b7 ws (some (n+2)) none;omega)),λp7 np7=>?_⟩
   have ns7:=bH hs np7
   obtain⟨g7,e7⟩:=fP ((cT ws none (some n)++(cT ws (some (n+1)) (some (n+2))++cT ws (some n) (some (n+1))))) (cT ws (some (n+2)) none) np7
   have o:=o.trans (Off.grow g7)
   have hs:=hs.keep g7
   have ew:=g7 _ _ ew
   have en:=g7 _ _ en
   have e1:=g7 _ _ e1
   have e2:=g7 _ _ e2
   have e3:=g7 _ _ e3
   have e4:=g7 _ _ e4
   have e5:=g7 _ _ e5
   have e6:=g7 _ _ e6
   generalize upd _ p7 _=H27 at o hs ew en e1 e2 e3 e4 e5 e6 e7 ⊢
   exact q p7 _ _ ns7 o hs e7 (by(try simp only [List.length_append,List.length_singleton]);have l0:=b7 ws (some (n+1)) (some (n+2));have l1:=b7 ws (some n) (some (n+1));have l2:=b7 ws none (some n);have l3:=b7 ws (some (n+2)) none;omega) (Sh.app (Sh.app (cJ hW) (Sh.app (cJ hW) (cJ hW))) (cJ hW))
  dsimp only
  refine ae (aq ⟨_,rfl,rfl,_,rfl,cj (λ_=>?_) λ_=>ai ?_⟩)
  ·refine az ⟨_,rfl,_,rfl,_,_,rfl,rfl,_,rfl,wl,_,rfl,SqL.of ew,λp1 np1=>?_⟩
   have ns1:=bH hs np1
   obtain⟨g1,e1⟩:=dL ws none (some (n+1)) np1
   have o:=o.trans (Off.grow g1)
   have hs:=hs.keep g1
   have ew:=g1 _ _ ew
   have en:=g1 _ _ en
   generalize upd _ p1 _=H21 at o hs ew en e1 ⊢
   refine⟨_,rfl,_,rfl,_,rfl,wl,_,rfl,SqL.of ew,λp2 np2=>?_⟩
   have ns2:=bH hs np2
   obtain⟨g2,e2⟩:=dL ws (some n) none np2
   have o:=o.trans (Off.grow g2)
   have hs:=hs.keep g2
   have ew:=g2 _ _ ew
   have en:=g2 _ _ en
   have e1:=g2 _ _ e1
   generalize upd _ p2 _=H22 at o hs ew en e1 e2 ⊢
   refine⟨p1,p2,_,_,rfl,rfl,e1,e2,(by rw [List.length_map,List.length_map];exact br (show _<=100000 by(try simp only [List.length_append,List.length_singleton]);have l0:=b7 ws none (some (n+1));have l1:=b7 ws (some n) none;omega)),λp3 np3=>?_⟩
   have ns3:=bH hs np3
   obtain⟨g3,e3⟩:=fP (cT ws none (some (n+1))) (cT ws (some n) none) np3
   have o:=o.trans (Off.grow g3)
   have hs:=hs.keep g3
   have ew:=g3 _ _ ew
   have en:=g3 _ _ en
   have e1:=g3 _ _ e1
   have e2:=g3 _ _ e2
   generalize upd _ p3 _=H23 at o hs ew en e1 e2 e3 ⊢
   exact q p3 _ _ ns3 o hs e3 (by(try simp only [List.length_append,List.length_singleton]);have l0:=b7 ws none (some (n+1));have l1:=b7 ws (some n) none;omega) (Sh.app (cJ hW) (cJ hW))
  dsimp only
  refine ae (aq ⟨_,rfl,rfl,_,rfl,cj (λ_=>?_) λ_=>ai ?_⟩)
  ·refine az ⟨_,rfl,_,rfl,_,rfl,wl,_,rfl,SqL.of ew,λp1 np1=>?_⟩
   have ns1:=bH hs np1
   obtain⟨g1,e1⟩:=dL ws none (some n) np1
   have o:=o.trans (Off.grow g1)
   have hs:=hs.keep g1
   have ew:=g1 _ _ ew
   have en:=g1 _ _ en
   generalize upd _ p1 _=H21 at o hs ew en e1 ⊢
   exact q p1 _ _ ns1 o hs e1 (by(try simp only [List.length_append,List.length_singleton]);have l0:=b7 ws none (some n);omega) (cJ hW)
  dsimp only
  refine ae (aq ⟨_,rfl,rfl,_,rfl,cj (λ_=>?_) λ_=>ai ?_⟩)
  ·refine az ⟨_,rfl,?_⟩
   refine⟨_,rfl,_,rfl,_,rfl,s,wl,nl,rfl,⟨ws,ss,hs,ew,nws,w1,w9,hW,en,nns,hn⟩,λx HX hx ox hsx=>⟨by show 1<=sizeLine;decide,λp1 np1=>?_⟩⟩
   have o:=o.trans ox
   have hs:=hsx
   have ew:=ox _ _ ew nws
   have en:=ox _ _ en nns
   have ns1:=bH hs np1
   obtain⟨g1,e1⟩:=tE x np1
   have o:=o.trans (Off.grow g1)
   have hs:=hs.keep g1
   have ew:=g1 _ _ ew
   have en:=g1 _ _ en
   generalize upd _ p1 _=H21 at o hs ew en e1 ⊢
   refine⟨wl,p1,_,_,rfl,rfl,ew,e1,(by rw [List.length_map,List.length_map];exact br (show _<=100000 by(try simp only [List.length_append,List.length_singleton]); omega)),λp2 np2=>?_⟩
   have ns2:=bH hs np2
   obtain⟨g2,e2⟩:=fP (ws) ([x]) np2
   have o:=o.trans (Off.grow g2)
   have hs:=hs.keep g2
   have ew:=g2 _ _ ew
   have en:=g2 _ _ en
   have e1:=g2 _ _ e1
   generalize upd _ p2 _=H22 at o hs ew en e1 e2 ⊢
   exact q p2 _ _ ns2 o hs e2 (by(try simp only [List.length_append,List.length_singleton]); omega) (Sh.app hW (sh1 hx))
  dsimp only
  refine az ⟨_,rfl,_,rfl,_,rfl,wl,_,rfl,SqL.of ew,λp1 np1=>?_⟩
  have ns1:=bH hs np1
  obtain⟨g1,e1⟩:=dL ws none (some n) np1
  have o:=o.trans (Off.grow g1)
  have hs:=hs.keep g1
  have ew:=g1 _ _ ew
  have en:=g1 _ _ en
  generalize upd _ p1 _=H21 at o hs ew en e1 ⊢
  refine⟨_,rfl,_,rfl,_,rfl,s,wl,nl,rfl,⟨ws,ss,hs,ew,nws,w1,w9,hW,en,nns,hn⟩,λx HX hx ox hsx=>⟨by show 1<=sizeLine;decide,λp2 np2=>?_⟩⟩
  have o:=o.trans ox
  have hs:=hsx
  have ew:=ox _ _ ew nws
  have en:=ox _ _ en nns
  have e1:=ox _ _ e1 ns1
  have ns2:=bH hs np2
  obtain⟨g2,e2⟩:=tE x np2
  have o:=o.trans (Off.grow g2)
  have hs:=hs.keep g2
  have ew:=g2 _ _ ew
  have en:=g2 _ _ en
  have e1:=g2 _ _ e1
  generalize upd _ p2 _=H22 at o hs ew en e1 e2 ⊢
  refine⟨p1,p2,_,_,rfl,rfl,e1,e2,(by rw [List.length_map,List.length_map];exact br (show _<=100000 by(try simp only [List.length_append,List.length_singleton]);have l0:=b7 ws none (some n);omega)),λp3 np3=>?_⟩
  have ns3:=bH hs np3
  obtain⟨g3,e3⟩:=fP (cT ws none (some n)) ([x]) np3
  have o:=o.trans (Off.grow g3)
  have hs:=hs.keep g3
  have ew:=g3 _ _ ew
  have en:=g3 _ _ en
  have e1:=g3 _ _ e1
  have e2:=g3 _ _ e2
  generalize upd _ p3 _=H23 at o hs ew en e1 e2 e3 ⊢
  refine⟨_,rfl,_,rfl,_,_,rfl,rfl,_,rfl,wl,_,rfl,SqL.of ew,λp4 np4=>?_⟩
  have ns4:=bH hs np4
  obtain⟨g4,e4⟩:=dL ws (some (n+1)) none np4
  have o:=o.trans (Off.grow g4)
  have hs:=hs.keep g4
  have ew:=g4 _ _ ew
  have en:=g4 _ _ en
  have e1:=g4 _ _ e1
  have e2:=g4 _ _ e2
  have e3:=g4 _ _ e3
  generalize upd _ p4 _=H24 at o hs ew en e1 e2 e3 e4 ⊢
  refine⟨p3,p4,_,_,rfl,rfl,e3,e4,(by rw [List.length_map,List.length_map];exact br (show _<=100000 by(try simp only [List.length_append,List.length_singleton]);have l0:=b7 ws none (some n);have l1:=b7 ws (some (n+1)) none;omega)),λp5 np5=>?_⟩
  have ns5:=bH hs np5
  obtain⟨g5,e5⟩:=fP ((cT ws none (some n)++[x])) (cT ws (some (n+1)) none) np5
  have o:=o.trans (Off.grow g5)
  have hs:=hs.keep g5
  have ew:=g5 _ _ ew
  have en:=g5 _ _ en
  have e1:=g5 _ _ e1
  have e2:=g5 _ _ e2
  have e3:=g5 _ _ e3
  have e4:=g5 _ _ e4
  generalize upd _ p5 _=H25 at o hs ew en e1 e2 e3 e4 e5 ⊢
  exact q p5 _ _ ns5 o hs e5 (by(try simp only [List.length_append,List.length_singleton]);have l0:=b7 ws none (some n);have l1:=b7 ws (some (n+1)) none;omega) (Sh.app (Sh.app (cJ hW) (sh1 hx)) (cJ hW))
end Mine
namespace L2
open PySem PySem.Spec PyProof.Rows
noncomputable def jq (CX:CXT) (X:Cx) (E:St->XK):Prop:=∀(pins:List (Addr × Obj)) (σ:St) (H:Hp) (s:Shared) (e:Value) (s':Shared),Inv X pins σ H s->CX X.stack H s (E σ) e s'->X.xe e s'
noncomputable def wR (sp:Sp) (E:St->XK) (t:TA):TE:=λσ H Q=>t σ H λvs H1=>sp vs H1 Q (E σ)
noncomputable def yL (tb:(St->XK)->TS) (th:TH):TS:=λD σ H=>∃E1:St->XK,tb E1 D σ H/\∀(C a:Addr) (Dd:Option Addr) (H':Hp) (σ':St),H' a=some (XOn false C a Dd)->E1 σ' (.ref C) (some a) H'->th a C D σ' H'
section
variable {X:Cx}{CX:CXT}{k:Nat}{f:Addr}{fd:FuncData}{ps:List Str}{sp:Sp}{E:St->XK}{x:Str}{p pos:Pos}{e:Expr}{es:List Expr}{t:TA}
theorem sA (F:FnOk X.prog X.w X.K X.mg X.base CX k f fd ps sp) (hr:Room k X.A) (hg:Gl X x) (hm:X.mg x=some (.ref f)) (hk:PySem.W.keepIn X.K (.ref f)=true) (hb:bA X.K fd ps []) (hx:jq CX X E)
  (ha:PA X (e::es) t) (hdb:(x == ("__debug__" : Str))=false:=by decide) (he:starEach (e::es) X.env=(false,eval e X.env)::starEach es X.env:=by rfl) (hpl:(backTo pos (starEach es X.env)).any (·.1)=false:=by rfl) :
  PE X (.Call (.Name x p) (e::es) [] pos) (wR sp E t):=by
 intro pins s σ H Q I h
 refine wpAny_Call_Name_kw (eE I hg hm ?_ hdb)
 refine PySem.W.callWith_K (h₀:=X.base) I.ok.mod.kin hk (thn (ha pos pins s σ H _ I h) λus s1 ⟨vs,H1,I1,r,q⟩=>⟨I1.kIn,?_⟩) he hpl
 have r2:aX (vs++[]) (us++[]):=r.append .nil
 rw [<- List.append_nil vs]at q
 have hl:(us++[]).length=ps.length:=by rw [<- r2.length];exact F.len _ _ _ _ q
 refine wpAny_call (codeAny_mono (F.run X.A X.stack s1 H1 ⟨us,[]⟩ (us++[]) (vs++[]) Q (E σ) hr I1.env0 (hb s1 us I1.kIn hl) r2 q) λr s' hq=>?_)
 cases r with
 | error e=>exact hx pins σ H1 s1 e s' I1 hq
 | ok fl=>
  cases fl with
  | ret u=>exact I1.after hq
  | next=>exact False.elim hq
  | brk=>exact False.elim hq
  | cont=>exact False.elim hq
theorem uP {body:List Stmt}{h₀:ExceptHandler}{hs:List ExceptHandler}{pos:Pos}{tb:(St->XK)->TS}{th:TH} (hst:X.stack=X.env::X.outer) (hf:X.env.frame=some X.env.locals)
  (hb:∀(E1:St->XK) (xe':Value->Shared->Prop) (pn:List (Addr × Obj)),jq (CXR X.prog X.w) (X.tried xe' pn) E1->PSs (X.tried xe' pn) body (tb E1)) (hh:PH X (h₀::hs) th):PS X (.Try body (h₀::hs) [] [] pos) (yL tb th):=by
 intro pins s σ H D I h
 obtain⟨E1,hb',hh'⟩:=h
 refine wpAny_Try_except ?_
 have hp:jq (CXR X.prog X.w) (X.tried (λe s₁=>wpAny (model X.prog X.w) X.A (noteFrame e X.env) (λ_ s₂=>wpAny (model X.prog X.w) X.A (setFlight e none) (λ_ s₃=>wpAny (model X.prog X.w) X.A (handleBy e X.env (h₀::hs)) (SP X pins D) X.xe s₃) X.xe s₂) X.xe s₁) (X.pn++pins)) E1:=by
  rintro pins' σ' H1 s1 e s2 J ⟨a,C,Dd,H2,rfl,fl,hx,os,bare,un,hok,q⟩
  have J2:=J.call' os un hok bare λb z=>nomatch (show b∈([]:List Addr) from z)
  have J3:Inv X pins σ' H2 s2:=J2.untry
  obtain⟨vs,he,_⟩:=fR J3 hx
  show wpAny (model X.prog X.w) X.A (noteFrame (.ref a) X.env) _ _ s2
  refine wu (base:=X.base) (L:=X.env.locals) (outer:=X.outer) (by rw [<- hst];exact J3.ok.frames) (by rw [<- hst];exact J3.stack) hf he rfl (.inr fl) λh' Nt=>?_
  obtain⟨vs',ha'⟩:=Nt.exc _ _ he rfl
  rw [<- hst]at Nt
  have J4:=J3.call (h':=h') (g':=s2.gens) (d':=s2.drawn) (t':=s2.toks) (sY Nt hx ⟨_,ha'⟩) (jN J3.hok Nt hx J3.stkFree) J3.bare λb z=>nomatch (show b∈([]:List Addr) from z)
  rw [lH hx]at J4
  exact hh pins _ σ' H2 D a C Dd J4 hx Nt.fly (hh' C a Dd H2 σ' hx q)
 refine wpAny_mono (hb E1 _ _ hp [] s σ H D (I.try' _) hb') (λf s1 q=>?_) λ_ _ z=>z
 cases f with
 | next=>obtain⟨σ',H',J,q⟩:=q;exact wpAny_execs_nil ⟨σ',H',J.untry,q⟩
 | brk=>obtain⟨σ',H',J,q⟩:=q;exact⟨σ',H',J.untry,q⟩
 | cont=>obtain⟨σ',H',J,q⟩:=q;exact⟨σ',H',J.untry,q⟩
 | ret u=>obtain⟨v,σ',H',J,r,q⟩:=q;exact⟨v,σ',H',J.untry,r,q⟩
end
end L2
namespace Mine
open PySem L2
variable {P:Program}{w:World}{K:PySem.W.Frag}{mg:Str->Option Value}{base:Heap}
theorem vo (C U:Addr):(iz C U).contains (Value.ref U)=true:=by
 unfold iz
 simp
inductive RdI (K:PySem.W.Frag) (B:Addr) (v:V) (H:Hp) (Q:VK):Prop
 | good (n:Nat) (nd:Nd) (h1:v=.str (jn (aL n nd))) (h2:cC n nd) (h3:n<=3) (h4:∀t H',aP H H'->H' t=some (.tup [.str (jn (aL n nd)),.non])->Q (.ref t) H'):RdI K B v H Q
 | bad (p:Nat) (h1:∀(Q:VK) (E:XK),fK B [("place", .int (p:Int))] H E->mT K B [v] H Q E) (h2:∀t H',aP H H'->H' t=some (.tup [.non,.int (p:Int)])->Q (.ref t) H'):RdI K B v H Q
noncomputable def rg (K:PySem.W.Frag) (B:Addr):Sp:=λvs H Q _=>∃v,vs=[v]/\RdI K B v H Q
theorem jH:FnScope ["_law_thing", "_law_place", "_law_found", "e"] ["_law_thing"] (aw xk):=⟨rfl,rfl,rfl,by decide +kernel,rfl,by decide +kernel,by decide +kernel⟩
theorem xU {c:Cs}{f f1 B U fB:Addr}{fd:FuncData} (F:Fun K "_law_read" "_law_read" xk f fd) (N:Free mg) (VQ:∀C∈c.all,QuC K C) (VT:∀C∈c.all,MV P w K mg base CX0 "text" 1 ["self"] (kD K) C){fdB:FuncData} (RB:Rf1 P w K mg base "BadQuestion" B U "place" fB fdB) (mU:mg "UnsayError" = some (.ref U)) (hU:hIn K U=true){NK:Addr} (mN:mg "NoKey" = some (.ref NK)) (hVE:mg "ValueError" = none) (kB:PySem.W.kitOne K (.ref B) (.ref B)=some true) (kV:PySem.W.kitOne K (.ref B) (.type "ValueError")=some true) (kN:PySem.W.kitOne K (.ref B) (.ref NK)=some false){fd1:FuncData} (CQ:CalX P w K mg base "question_of" 15 ["text"] (r6 K c B) f1 fd1):FnOk P w K mg base CX0 16 f fd ["_law_thing"] (rg K B):=by
 refine F.ok (k:=15) jH (λvs H Q E h=>?_) (λcdv A outer s H vs Q E hr h=>?_)
 ·obtain⟨v,rfl,_⟩:=h
  rfl
 ·obtain⟨v,rfl,hv⟩:=h
  have hu:=aM hr
  refine⟨_,(ad (ax (i:=1) jH.nd rfl (Or.inl rfl) cr)
   (ad (ax (i:=2) jH.nd rfl (Or.inl rfl) cr)
   (ad (uP rfl rfl (λE1 xe pn hp=>(af (ax (i:=2) jH.nd rfl (Or.inl rfl) (fw VT (sA CQ.ok (hr.mono (by decide)) rfl CQ.nm CQ.kp CQ.bd hp (aa (pv 0) ac)) (hr.mono (by decide)) ar)))) (zm hr.hd hU rfl mU jH.nd (i:=3) rfl rfl (λa=>(af (aO (PW.pt (ld (cg (aI eK (by rfl) N.isinstance PyProof.Rows.Boot.«isinstance» (aa (pv 3) (aa (b6 (v:=.ref B) (by rfl) RB.nm rfl) ac)))) (ld (cg (aI eK (by rfl) N.isinstance PyProof.Rows.Boot.«isinstance» (aa (pv 3) (aa (ee (v:=.ty "ValueError") (by rfl) hVE PyProof.Rows.Boot.«ValueError» rfl) ac)))) (lc (cz (cg (aI eK (by rfl) N.isinstance PyProof.Rows.Boot.«isinstance» (aa (pv 3) (aa (b6 (v:=.ref NK) (by rfl) mN rfl) ac))))))))) (af (ax (i:=1) jH.nd rfl (Or.inl rfl) (uS (pv 3)))) ay))) xG))
   (af (av (bQ (aa (pv 2) (aa (pv 1) ac)))))))),?_⟩
  refine ae (ao ?_)
  dsimp only [aA,List.set_cons_zero,List.set_cons_succ]
  refine ae (ao ?_)
  refine wg (σ':=[some v,some .non,some .non,none]) rfl ?_
  cases hv with
  | good n nd h1 h2 h3 h4=>
   subst h1
   refine ae ⟨λ_ _ _ _=>False,?_,λ_ _ _ _ _ _ z=>z.elim⟩
   refine ao ⟨_,rfl,.inl ⟨n,nd,rfl,h2,h3,λx H1 nx g1 qn=>?_⟩⟩
   have qx:bY c n nd H1 x:=bY.keep (Kq.grow qJ) qn
   obtain⟨C,ln,hC,qa⟩:=qx.at
   obtain⟨dx1,fs1,ex1,ef1⟩:=qa.ob' (m:="text") (by decide +kernel)
   refine⟨x,C,dx1,fs1,rfl,ex1,hC,ef1,x,C,ln,_,_,_,rfl,VQ C hC,qa,?_⟩
   dsimp only [aA,List.set_cons_zero,List.set_cons_succ]
   exact az ⟨_,rfl,_,rfl,by show 2<=sizeLine;decide,λt nt=>h4 t _ (g1.trans (laid nt).1) aj⟩
  | bad p h1 h2=>
   refine ae ⟨λσ' c oa H'=>σ'=[some v,some .non,some .non,none]/\c=Value.ref B/\∃a,oa=some a/\aP H H'/\XAt H' a B [("place", .int (p:Int))],?_,?_⟩
   ·exact ao ⟨_,rfl,.inr (h1 _ _ λa H' g n xa=>⟨rfl,rfl,a,rfl,g,xa⟩)⟩
   rintro C' a Dd H1 σ' hx1 ⟨rfl,ec,a',ea,g1,xa⟩
   cases ec
   cases ea
   refine⟨U,RB.cl,?_⟩
   rw [if_pos (vo _ _)]
   dsimp only [List.set_cons_zero,List.set_cons_succ]
   refine aq ⟨_,rfl,a,B,U,_,.ref B,true,rfl,xa,RB.cl,.inl ⟨B,rfl,kB⟩,_,rfl,b5 ⟨_,rfl,a,B,U,_,.ty "ValueError", true,rfl,xa,RB.cl,.inr ⟨"ValueError", rfl,kV⟩,_,rfl,b5 ⟨_,rfl,a,B,U,_,.ref NK,false,rfl,xa,RB.cl,.inl ⟨NK,rfl,kN⟩,_,rfl,b5 ?_⟩⟩⟩
   refine ao ⟨_,rfl,a,B,U,_,_,rfl,xa,RB.cl,RB.nf,rfl,?_⟩
   dsimp only [aA,List.set_cons_zero,List.set_cons_succ]
   exact az ⟨_,rfl,_,rfl,by show 2<=sizeLine;decide,λt nt=>h2 t _ (g1.trans (laid nt).1) aj⟩
theorem wT (x:Str):(Txt.slice x none (some 400)).length<=400:=by
 rw [bG]
 rw [eq_of_beq (PyProof.Rows.slice_to_min_closes (x:=x) (n:=400) (m:=if (x.length:Int) < 400 then (x.length:Int) else 400) (by omega) rfl)]
 show ((x.cps.toList.drop 0).take ((if (x.length:Int) < 400 then (x.length:Int) else 400) - 0).toNat).length<=400
 rw [List.length_take]
 refine Nat.le_trans (Nat.min_le_left _ _) ?_
 split <;> omega
theorem qW {w x:Str}{c:Nat} (h:w.length<=400) (hx:x∈Txt.split w ⟨#[c]⟩):x.length<=400:=by
 have e:Txt.join ⟨#[c]⟩ (Txt.split w ⟨#[c]⟩)=w:=by
  have e1:Txt.join ⟨#[c]⟩ (Txt.split w ⟨#[c]⟩)=Str.join ⟨#[c]⟩ (Txt.split w ⟨#[c]⟩):=StrLaws.glued_eq_join _ _
  rw [e1]
  exact StrLaws.join_split _ _
 have hne:Txt.split w ⟨#[c]⟩≠[]:=λz=>by rw [z]at hx;cases hx
 have f:=congrArg List.length (gP (c:=c) hne)
 rw [e,List.length_cons,<- bG]at f
 have:∀ws:List Str,x∈ws->x.length+1<=(fl c ws).length:=by
  intro ws
  induction ws with
  | nil=>intro h;cases h
  | cons y ys ih=>
   intro h
   rw [cL,List.length_append,List.length_cons]
   rcases List.mem_cons.mp h with z | z
   ·rw [z,bG];omega
   ·have:=ih z;omega
 have:=this _ hx
 omega
inductive Spl (T:Str) (W:List Str):Prop
 | mk (h1:T=Txt.join (Str.ofString " ") W) (h0:W≠[]) (h9:W.length<=401) (hf:∀w∈W,32∉w.cps.toList) (h4:∀w∈W,w.length<=400):Spl T W
theorem qX {T:Str} (h:T.length<=400):Spl T (Txt.split T (Str.ofString " ")):=by
 rw [show Str.ofString " " = (⟨#[32]⟩:Str) from by decide]
 have hp:=PyProof.Rows.split_pos T ⟨#[32]⟩
 refine⟨?_,λz=>(by rw [z]at hp;cases hp),fV h,StrLaws.split_free _ _,λw hw=>qW h hw⟩
 rw [show Str.ofString " " = (⟨#[32]⟩:Str) from by decide]
 have e1:Txt.join ⟨#[32]⟩ (Txt.split T ⟨#[32]⟩)=Str.join ⟨#[32]⟩ (Txt.split T ⟨#[32]⟩):=StrLaws.glued_eq_join _ _
 rw [e1]
 exact(StrLaws.join_split _ _).symm
inductive DueV (K:PySem.W.Frag) (B:Addr) (T:Str) (W:List Str):Prop
 | good (h1:ck W=.non) (h2:∀(H:Hp) (Q:VK),(∀t H',aP H H'->H' t=some (.tup [.str T,.non])->Q (.ref t) H')->RdI K B (.str T) H Q):DueV K B T W
 | bad (p:Nat) (h1:ck W=.int (p:Int)) (h2:∀(H:Hp) (Q:VK),(∀t H',aP H H'->H' t=some (.tup [.non,.int (p:Int)])->Q (.ref t) H')->RdI K B (.str T) H Q):DueV K B T W
theorem due_of {K:PySem.W.Frag}{B:Addr}{T:Str}{W:List Str} (h:Spl T W) (hT:T.length<=400):DueV K B T W:=by
 obtain⟨h1,h0,h9,hf,h4⟩:=h
 have bad:∀p,zM W p->ck W=.int (p:Int)->DueV K B T W:=λp hb hv=>.bad p hv λH Q q=>.bad p (λQ' E r=>⟨_,rfl,.inr ⟨W,by rw [h1],⟨p,h0,by omega,hf,by rw [<- h1];exact Nat.le_trans hT (by decide),h4,hb,r⟩⟩⟩) q
 cases hC:Cn W [.q] 0 0 0 with
 | bad p=>exact bad p (.inl hC) (ij hC)
 | ok f o ws' p=>
  cases ws' with
  | nil=>
   obtain⟨nd,okn,ew,hp,ho⟩:=pG 3 0 rfl _ _ _ _ _ _ _ hC
   rw [List.append_nil]at ew
   have eT:T=jn (aL 3 nd):=by rw [h1,ew]
   refine .good (mE hC) λH Q q=>?_
   rw [eT]at q ⊢
   exact .good 3 nd rfl okn (Nat.le_refl 3) q
  | cons x t=>exact bad p (.inr ⟨f,o,x,t,hC⟩) (jm hC)
theorem at5 {n:Int} (h0:0<=n) (h1:n < 5):∃m:Nat,atI [V.int 0,V.int 1,V.int 2,V.int 3,V.int 4] n=some (.int (m:Int))/\m<=4:=by
 rcases (show n=0\/n=1\/n=2\/n=3\/n=4 by omega) with rfl | rfl | rfl | rfl | rfl
 ·exact⟨0,rfl,by decide⟩
 ·exact⟨1,rfl,by decide⟩
 ·exact⟨2,rfl,by decide⟩
 ·exact⟨3,rfl,by decide⟩
 ·exact⟨4,rfl,by decide⟩
noncomputable def bnd:Nat->Nat
 | 0=>2045
 | 1=>8181
 | _=>32725
noncomputable def vY:Sp:=λvs H Q _=>∃(c k:Int),vs=[.int c,.int k]/\∀H',aP H H'->Q (.bl true) H'
inductive GoI (H:Hp) (c k:Int) (s nl:Addr) (ss:List Str) (v4:Option V) (i:Nat) (σ:St) (H2:Hp):Prop
 | mk (wl:Addr) (ws:List Str) (v6:Option V) (h1:σ=[some (.int c),some (.int k),some (.ref s),some (.ref nl),v4,some (.ref wl),v6,none,none,none]) (h2:SAt H2 s) (h3:aP H H2) (h4:H2 wl=some (.lst (ws.map V.str))) (h5:wl≠s) (h6:Sh ws) (h7:ws.length<=bnd i) (h8:H2 nl=some (.lst (ss.map V.str))):GoI H c k s nl ss v4 i σ H2
theorem fb:FnScope ["_law_cell_here", "_law_k", "_law_state", "_law_names_here", "_law_node", "_law_words_here", "_law_turn", "_law_text", "_law_place", "_law_due"] ["_law_cell_here", "_law_k"] (aw xo):=⟨rfl,rfl,rfl,by decide +kernel,rfl,by decide +kernel,by decide +kernel⟩
theorem xY {f f1 f2 f3 f4 f5 f6 f7 f8 f9 f10 f11 B:Addr}{fd:FuncData} (F:Fun K "_law_good" "_law_good" xo f fd) (N:Free mg){fd1:FuncData} (CP:Cal P w K mg base "_law_pull" 2 ["_law_state", "_law_many"] cG f1 fd1){fd2:FuncData} (CB:Cal P w K mg base "_law_begun" 1 ["_law_cell_here"] kI f2 fd2){fd3:FuncData} (CN:Cal P w K mg base "_law_names" 3 ["_law_cell_here"] oC f3 fd3){fd4:FuncData} (CM:Cal P w K mg base "_law_mix" 1 ["_law_cell_here", "_law_k"] rb f4 fd4){fd5:FuncData} (CL:Cal P w K mg base "_law_question" 9 ["_law_state", "_law_names_here", "_law_window_here", "_law_deep"] vW f5 fd5){fd6:FuncData} (CI:Cal P w K mg base "_law_window" 3 ["_law_state"] lL f6 fd6){fd7:FuncData} (CW:Cal P w K mg base "_law_words" 5 ["_law_node"] rc f7 fd7){fd8:FuncData} (CF:Cal P w K mg base "_law_fitting" 6 ["_law_node"] vZ f8 fd8){fd9:FuncData} (CS:Cal P w K mg base "_law_spoilt" 5 ["_law_state", "_law_words_here", "_law_names_here"] vV f9 fd9){fd10:FuncData} (CA:Cal P w K mg base "_law_fault" 4 ["_law_words_here"] w6 f10 fd10){fd11:FuncData} (CR:Cal P w K mg base "_law_read" 16 ["_law_thing"] (rg K B) f11 fd11):FnOk P w K mg base CX0 17 f fd ["_law_cell_here", "_law_k"] vY:=by
 refine F.ok (k:=16) fb (λvs H Q E h=>?_) (λcdv A outer s H vs Q E hr h=>?_)
 ·obtain⟨c,k,rfl,_⟩:=h
  rfl
 ·obtain⟨c,k,rfl,q⟩:=h
  have hu:=aM hr
  refine⟨_,(ad (ax (i:=2) fb.nd rfl (Or.inl rfl) (au CB.ok (hr.mono (by decide)) rfl CB.nm CB.kp CB.bd .nil ar (aa (pv 0) ac)))
   (ad (ax (i:=3) fb.nd rfl (Or.inl rfl) (au CN.ok (hr.mono (by decide)) rfl CN.nm CN.kp CN.bd .nil ar (aa (au CM.ok (hr.mono (by decide)) rfl CM.nm CM.kp CM.bd .nil ar (aa (pv 0) (aa ag ac))) ac)))
   (@ad _ _ _ _ _ (@ax (i:=4) _ _ _ _ _ _ fb.nd rfl (Or.inl rfl) (au CL.ok (hr.mono (by decide)) rfl CL.nm CL.kp CL.bd .nil ar (@aa _ _ _ _ _ (pv 2) (@aa _ _ _ _ _ (pv 3) (@aa _ _ _ _ _ (au CI.ok (hr.mono (by decide)) rfl CI.nm CI.kp CI.bd .nil ar (@aa _ _ _ _ _ (pv 2) ac rfl)) (@aa _ _ _ _ _ (@b9 _ _ _ _ _ _ _ aT (@aH _ _ _ _ (@aa _ _ _ _ _ ag (@aa _ _ _ _ _ ag (@aa _ _ _ _ _ ag (@aa _ _ _ _ _ ag (@aa _ _ _ _ _ ag ac rfl) rfl) rfl) rfl) rfl)) (au CP.ok (hr.mono (by decide)) rfl CP.nm CP.kp CP.bd .nil ar (@aa _ _ _ _ _ (pv 2) (@aa _ _ _ _ _ ag ac rfl) rfl)) (λ_ _=>rfl)) ac rfl) rfl) rfl) rfl)) (by rfl) (by first | exact .inl rfl | exact .inr rfl))
   (ad (ax (i:=5) fb.nd rfl (Or.inl rfl) (au CW.ok (hr.mono (by decide)) rfl CW.nm CW.kp CW.bd .nil ar (aa (au CF.ok (hr.mono (by decide)) rfl CF.nm CF.kp CF.bd .nil ar (aa (pv 4) ac)) ac)))
   (ad (cS PassesOwn.never rfl (cI rfl N.range (aa (au CP.ok (hr.mono (by decide)) rfl CP.nm CP.kp CP.bd .nil ar (aa (pv 2) (aa ag ac))) ac)) (bO (i:=6) fb.nd rfl (Or.inl rfl))
   (af (aO (aC (i8 hr.units) (pv 5) (aH ac) (aE _)) (af (ax (i:=5) fb.nd rfl (Or.inl rfl) (au CS.ok (hr.mono (by decide)) rfl CS.nm CS.kp CS.bd .nil ar (aa (pv 2) (aa (pv 5) (aa (pv 3) ac)))))) ay)))
   (ad (ax (i:=7) fb.nd rfl (Or.inl rfl) (bj kM (bW PySem.F.plainAttrs_str PySem.F.slot_str_join PySem.F.type_str_join du ah (aa (pv 5) ac)) bD (bu ag)))
   (ad (ax (i:=8) fb.nd rfl (Or.inl rfl) (au CA.ok (hr.mono (by decide)) rfl CA.nm CA.kp CA.bd .nil ar (aa (bW PySem.F.plainAttrs_str PySem.F.slot_str_split PySem.F.type_str_split fi (pv 7) (aa ah ac)) ac)))
   (ad (ax (i:=9) fb.nd rfl (Or.inl rfl) (bQ (aa cr (aa (pv 8) ac))))
   (ad (aO (xE (xJ (pv 8))) (af (ax (i:=9) fb.nd rfl (Or.inl rfl) (bQ (aa (pv 7) (aa cr ac))))) ay)
   (af (av (ba (fz hr.units) (au CR.ok (hr.mono (by decide)) rfl CR.nm CR.kp CR.bd .nil ar (aa (pv 7) ac)) (pv 9) (aE _))))))))))))),?_⟩
  refine ae (ao ⟨_,rfl,c,rfl,λs H1 ns g1 hs=>?_⟩)
  dsimp only [aA,List.set_cons_zero,List.set_cons_succ]
  refine ae (ao ⟨_,rfl,c,99,rfl,λm0 _ _=>⟨m0,rfl,λnl ss H2 nnl g2 enl hss=>?_⟩⟩)
  dsimp only [aA,List.set_cons_zero,List.set_cons_succ]
  have nls:=bH hs nnl
  have hs:=hs.keep g2
  have gH:=g1.trans g2
  have og:∀{Ha Hb:Hp},aP H Ha->Off s Ha Hb->aP H Hb:=λga o b u e=>o _ _ (ga _ _ e) (am e ns)
  refine ae (ao ⟨_,rfl,_,rfl,_,rfl,s,rfl,hs,λt lo wd H3 o3 hs3 et nts h0 h1 h2=>?_⟩)
  refine⟨by show 5<=sizeLine;decide,λl5 nl5=>?_⟩
  obtain⟨g4,e4⟩:=laid (o:=.lst [V.int 0,V.int 1,V.int 2,V.int 3,V.int 4]) nl5
  have n5s:=bH hs3 nl5
  have hs4:=hs3.keep g4
  have o4:=o3.trans (Off.grow g4)
  have et4:=g4 _ _ et
  generalize upd H3 l5 _=H4 at g4 e4 hs4 o4 et4 ⊢
  refine⟨_,rfl,s,5,rfl,hs4,by decide,by decide,λn H5 n0 n1 o5 hs5=>?_⟩
  obtain⟨m,em,hm⟩:=at5 n0 n1
  refine⟨l5,_,_,_,rfl,rfl,SqL.of (o5 _ _ e4 n5s),em,?_⟩
  have oo:=o4.trans o5
  refine⟨m,hm,s,nl,t,rfl,ss,lo,wd,hm,hs5,oo _ _ enl nls,hss,nls,o5 _ _ et4 nts,nts,h0,h1,h2,λa nd H6 ok6 na6 o6 hs6 hn6=>?_⟩
  dsimp only [aA,List.set_cons_zero,List.set_cons_succ]
  have o26:=oo.trans o6
  refine ae (ao ⟨_,rfl,m,nd,a,rfl,ok6,hm,cV.keep qJ hn6,λn' nd' a' H7 hn' ok' hnd' g7=>⟨n',hn',a',nd',rfl,ok',hn',hnd',λwl H8 nwl g8 e8=>?_⟩⟩)
  dsimp only [aA,List.set_cons_zero,List.set_cons_succ]
  have hs7:=hs6.keep g7
  have nws:=bH hs7 nwl
  have hs8:=hs7.keep g8
  have o28:=o26.trans (Off.grow (g7.trans g8))
  have hW:Sh (aL n' nd'):=λw hw=>Nat.le_trans (eU ok' w hw).len (by decide)
  have hwl:=Nat.le_trans (cF ok') (ue hn')
  refine ae ⟨_,rfl,s,3,rfl,hs8,by decide,by decide,λr H9 r0 r1 o9 hs9=>⟨r,rfl,by omega,by omega,fH (lo:=0) (n:=r.toNat) (GoI H c k s nl ss (some (.ref a))) ⟨wl,aL n' nd',none,rfl,hs9,og gH (o28.trans o9),o9 _ _ e8 nws,nws,hW,hwl,(o28.trans o9) _ _ enl nls⟩ (λi σ Ha hi hh=>?_) λσ Ha hh=>?_⟩⟩
  ·obtain⟨wl,ws,v6,rfl,hs,g,ew,nws,hW,hwl,en⟩:=hh
   dsimp only [aA,List.set_cons_zero,List.set_cons_succ]
   have hi2:i=0\/i=1:=by omega
   have hb1:bnd i<=8200/\bnd i<=bnd (i+1)/\4 * bnd i+1<=bnd (i+1):=by rcases hi2 with rfl | rfl <;> decide
   refine aq ⟨_,rfl,by show 0<=sizeLine;decide,λz nz=>?_⟩
   obtain⟨gz,ez⟩:=laid (o:=.lst []) nz
   have hs:=hs.keep gz
   have g:=g.trans gz
   have ew:=gz _ _ ew
   have en:=gz _ _ en
   refine⟨wl,z,_,rfl,rfl,ew,ez,_,rfl,?_⟩
   generalize upd Ha z _=Hb at hs g ew en ⊢
   rw [if_pos rfl,isE]
   cases ws with
   | nil=>exact aF (ai ⟨wl,[],_,rfl,hs,g,ew,nws,hW,by omega,en⟩)
   | cons w0 ws=>
    refine b5 (ao ⟨_,rfl,_,rfl,_,rfl,s,wl,nl,_,rfl,⟨ss,hs,ew,nws,by rw [List.length_cons];omega,by omega,hW,en,nls,hss⟩,λp ws' Hc np oc hsc ec hlc hWc=>?_⟩)
    dsimp only [aA,List.set_cons_zero,List.set_cons_succ]
    exact⟨p,ws',_,rfl,hsc,og g oc,ec,np,hWc,by omega,oc _ _ en nls⟩
  ·obtain⟨wl,ws,v6,rfl,hs,g,ew,nws,hW,hwl,en⟩:=hh
   have hwl:ws.length<=32725:=by
    have:r.toNat=0\/r.toNat=1\/r.toNat=2:=by omega
    refine Nat.le_trans hwl ?_
    rcases this with e | e | e <;> rw [e] <;> decide
   have hjl:=jh (ws:=ws) (m:=400) hW
   have hfit:(ws.map (·.length)).sum+ws.length * (Str.ofString " ").length<=16777216:=by
    have:=fS 400 ws hW
    rw [show (Str.ofString " ").length=1 from by decide +kernel,Nat.mul_one]
    omega
   dsimp only
   refine ae (ao ⟨rfl,_,rfl,_,wl,ws,rfl,rfl,ew,hfit,_,rfl,_,rfl,(show (jn ws).length<=2 ^ 24 by omega),?_⟩)
   dsimp only [aA,List.set_cons_zero,List.set_cons_succ]
   have hT:=wT (Txt.join (Str.ofString " ") ws)
   generalize Txt.slice (Txt.join (Str.ofString " ") ws) none (some 400)=T at hT ⊢
   have hsp:=qX hT
   refine ae (ao ⟨_,rfl,rfl,_,_,rfl,rfl,by rfl,Nat.le_trans hT (by decide),(show (Txt.split T (Str.ofString " ")).length<=sizeLine from by obtain⟨_,_,h9,_,_⟩:=hsp;exact Nat.le_trans h9 (by decide)),λp np=>?_⟩)
   obtain⟨g2',e2⟩:=laid (o:=.lst ((Txt.split T (Str.ofString " ")).map V.str)) np
   change eR _ (upd Ha p (.lst ((Txt.split T (Str.ofString " ")).map V.str))) _
   generalize upd Ha p (.lst ((Txt.split T (Str.ofString " ")).map V.str))=Hb at g2' e2 ⊢
   generalize Txt.split T (Str.ofString " ")=W at hsp e2 ⊢
   have hdue:=due_of (K:=K) (B:=B) hsp hT
   obtain⟨_,_,h9,_,h4⟩:=hsp
   refine⟨p,W,rfl,e2,by omega,h4,λHc gc=>?_⟩
   have g:=(g.trans g2').trans gc
   dsimp only [aA,List.set_cons_zero,List.set_cons_succ]
   refine ae (ao ⟨_,rfl,by show 2<=sizeLine;decide,λd nd=>?_⟩)
   dsimp only [aA,List.set_cons_zero,List.set_cons_succ]
   rcases hdue with⟨hv,hrd⟩ | ⟨pl,hv,hrd⟩
   ·rw [hv]at *
    obtain⟨gd,ed⟩:=laid (o:=.tup [V.non,V.non]) nd
    have g:=g.trans gd
    generalize upd Hc d _=Hd at g ed ⊢
    refine ae (aq ⟨_,rfl,_,rfl,?_⟩)
    refine b5 (ao ⟨_,rfl,by show 2<=sizeLine;decide,λd2 nd2=>?_⟩)
    obtain⟨gd2,ed2⟩:=laid (o:=.tup [V.str T,V.non]) nd2
    have g:=g.trans gd2
    generalize upd Hd d2 _=He at g ed2 ⊢
    dsimp only [aA,List.set_cons_zero,List.set_cons_succ]
    refine az ⟨_,rfl,_,rfl,hrd He _ λt Hf gf ef=>?_⟩
    exact⟨_,rfl,t,d2,_,rfl,rfl,ef,gf _ _ ed2,rfl,q Hf (g.trans gf)⟩
   ·rw [hv]at *
    obtain⟨gd,ed⟩:=laid (o:=.tup [V.non,V.int (pl:Int)]) nd
    have g:=g.trans gd
    generalize upd Hc d _=Hd at g ed ⊢
    refine ae (aq ⟨_,rfl,_,rfl,?_⟩)
    refine aF (ai ?_)
    dsimp only
    refine az ⟨_,rfl,_,rfl,hrd Hd _ λt Hf gf ef=>?_⟩
    exact⟨_,rfl,t,d,_,rfl,rfl,ef,gf _ _ ed,rfl,q Hf (g.trans gf)⟩
noncomputable abbrev pX:Stmt:=top 69
theorem qV {K:PySem.W.Frag}{H H':Hp}{a:Addr}{xs:List V} (h:SqL K H a xs) (g:aP H H'):SqL K H' a xs:=by
 rcases h with(e | ⟨u,e⟩) | e
 ·exact .inl (.inl (g _ _ e))
 ·exact .inl (.inr ⟨u,g _ _ e⟩)
 ·exact .inr e
theorem uk {K:PySem.W.Frag}{H H':Hp}{v:V}{t:Value} (h:TyOf K H v t) (g:aP H H'):TyOf K H' v t:=by
 cases h with
 | non=>exact .non
 | bl x=>exact .bl x
 | int i=>exact .int i
 | str x=>exact .str x
 | flt x=>exact .flt x
 | lst e=>exact .lst (g _ _ e)
 | frz e=>exact .frz (g _ _ e)
 | tup e=>exact .tup (g _ _ e)
 | dK e=>exact .dK (g _ _ e)
 | dT e=>exact .dT (g _ _ e)
 | ins e cl ha hn htk hm=>exact .ins (g _ _ e) cl ha hn htk hm
noncomputable def oE (K:PySem.W.Frag):Sp:=λvs H Q _=>∃(a:Addr) (ns:List Int),vs=[.ref a]/\SqL K H a (ns.map V.int)/\ns.length<=63/\∀H',Q (.bl true) H'
noncomputable def wF (K:PySem.W.Frag) (H:Hp) (v:V):Prop:=∃t,TyOf K H v t/\PySem.W.kitOne K t (.type "str")=some false
theorem uK {K:PySem.W.Frag}{B:Addr}{H:Hp}{Q:VK}{v:V} (h:wF K H v) (q:∀t H',aP H H'->H' t=some (.tup [.non,.int 0])->Q (.ref t) H'):RdI K B v H Q:=by
 obtain⟨t,ty,k⟩:=h
 exact .bad 0 (λQ E r=>⟨v,rfl,.inl ⟨t,ty,k,r⟩⟩) q
theorem gF {K:PySem.W.Frag}{B:Addr}{H:Hp}{Q:VK}{T:Str} (p:Nat) (hT:T.length<=400) (hv:ck (Txt.split T (Str.ofString " "))=.int (p:Int)) (q:∀t H',aP H H'->H' t=some (.tup [.non,.int (p:Int)])->Q (.ref t) H'):RdI K B (.str T) H Q:=by
 rcases due_of (K:=K) (B:=B) (qX hT) hT with⟨h1,_⟩ | ⟨p',h1,h2⟩
 ·rw [h1]at hv;cases hv
 ·rw [h1]at hv
  have:(p':Int)=p:=V.int.inj hv
  rw [this]at h2
  exact h2 H Q q
theorem fx1:ck (Txt.split (Str.ofString "number 1\n") (Str.ofString " "))=.int ((1:Nat):Int):=by decide +kernel
theorem fx2:ck (Txt.split (Str.ofString "number\t1") (Str.ofString " "))=.int ((0:Nat):Int):=by decide +kernel
theorem fx3:ck (Txt.split (Str.ofString "") (Str.ofString " "))=.int ((0:Nat):Int):=by decide +kernel
theorem fx4:ck (Txt.split (Str.ofString " number 1") (Str.ofString " "))=.int ((0:Nat):Int):=by decide +kernel
theorem fx5:ck (Txt.split (Str.ofString "number 1 ") (Str.ofString " "))=.int ((2:Nat):Int):=by decide +kernel
theorem rK:FnScope ["_law_script", "_law_k", "_law_thing"] ["_law_script"] (aw pX):=⟨rfl,rfl,rfl,by decide +kernel,rfl,by decide +kernel,by decide +kernel⟩
theorem y3 {f f1 f2 f3 B:Addr}{fd:FuncData} (F:Fun K "law" "law" pX f fd) (N:Free mg){fd1:FuncData} (CC:Cal P w K mg base "_law_cell" 1 ["_law_script", "_law_k"] (rB K) f1 fd1){fd2:FuncData} (CG:Cal P w K mg base "_law_good" 17 ["_law_cell_here", "_law_k"] vY f2 fd2){fd3:FuncData} (CR:Cal P w K mg base "_law_read" 16 ["_law_thing"] (rg K B) f3 fd3):FnOk P w K mg base CX0 18 f fd ["_law_script"] (oE K):=by
 refine F.ok (k:=17) rK (λvs H Q E h=>?_) (λcdv A outer s H vs Q E hr h=>?_)
 ·obtain⟨sa,ns,rfl,_⟩:=h
  rfl
 ·obtain⟨sa,ns,rfl,hS,h63,hq⟩:=h
  have hu:=aM hr
  refine⟨_,(ad (cS PassesOwn.never rfl (cI rfl N.range (aa (aI (qD rfl) (by rfl) N.max PyProof.Rows.Boot.«max» (aa ag (aa (aI (qB rfl) (by rfl) N.min PyProof.Rows.Boot.«min» (aa (aI aQ (by rfl) N.len PySem.boot_len (aa (pv 0) ac)) (aa ag ac))) ac))) ac)) (bO (i:=1) rK.nd rfl (Or.inl rfl))
   (af (aO (cz (cg (au CG.ok (hr.mono (by decide)) rfl CG.nm CG.kp CG.bd .nil ar (aa (au CC.ok (hr.mono (by decide)) rfl CC.nm CC.kp CC.bd .nil ar (aa (pv 0) (aa (pv 1) ac))) (aa (pv 1) ac))))) (af (av gK)) ay)))
   (@ad _ _ _ _ _ (@cS _ _ _ _ _ _ _ _ PassesOwn.never rfl (@cq _ _ _ _ (@aH _ _ _ _ (@aa _ _ _ _ _ cr (@aa _ _ _ _ _ ag (@aa _ _ _ _ _ gK (@aa _ _ _ _ _ (@aH _ _ _ _ (@aa _ _ _ _ _ ah (@aa _ _ _ _ _ ah ac rfl) rfl)) (@aa _ _ _ _ _ (@bQ _ _ _ _ _ (@aa _ _ _ _ _ ah (@aa _ _ _ _ _ ah ac rfl) rfl)) (@aa _ _ _ _ _ (@pb _ _ _ _ _ (@fe _ _ _ _ _ _ _ _ _ ah ag oY) rfl rfl (by decide) (by decide)) (@aa _ _ _ _ _ (@p8 _ _ _ _ _ _ kl ag) (@aa _ _ _ _ _ (@aH _ _ _ _ ac) ac rfl) rfl) rfl) rfl) rfl) rfl) rfl) rfl))) (bO (i:=2) rK.nd rfl (Or.inl rfl)) (af (aO (aC (i7 hr.units) (au CR.ok (hr.mono (by decide)) rfl CR.nm CR.kp CR.bd .nil ar (@aa _ _ _ _ _ (pv 2) ac rfl)) (@bQ _ _ _ _ _ (@aa _ _ _ _ _ cr (@aa _ _ _ _ _ ag ac rfl) rfl)) (aE _)) (af (@av _ _ _ _ gK)) ay)) (by intro _;rfl))
   (ad (aO (PW.pt (jJ (aC (i7 hr.units) (au CR.ok (hr.mono (by decide)) rfl CR.nm CR.kp CR.bd .nil ar (aa ah ac)) (bQ (aa cr (aa ag ac))) (aE _)) (i5 (aC (i7 hr.units) (au CR.ok (hr.mono (by decide)) rfl CR.nm CR.kp CR.bd .nil ar (aa ah ac)) (bQ (aa cr (aa ag ac))) (aE _))))) (af (av gK)) ay)
   (af (av (dD (ba (fz hr.units) (au CR.ok (hr.mono (by decide)) rfl CR.nm CR.kp CR.bd .nil ar (aa ah ac)) (bQ (aa cr (aa ag ac))) (aE _)) (dD (ba (fz hr.units) (au CR.ok (hr.mono (by decide)) rfl CR.nm CR.kp CR.bd .nil ar (aa ah ac)) (bQ (aa cr (aa ag ac))) (aE _)) (dh (ba (fz hr.units) (au CR.ok (hr.mono (by decide)) rfl CR.nm CR.kp CR.bd .nil ar (aa ah ac)) (bQ (aa cr (aa ag ac))) (aE _)))))))))),?_⟩
  refine ae ?_
  refine⟨_,rfl,sa,_,rfl,.inl hS,_,_,rfl,_,_,rfl,?_⟩
  rw [List.length_map]
  have hr1:∀x:Int,x<=16->(if x > 3 then x else 3)<=16:=λx h=>by split <;> omega
  have hr2:(if (16:Int) < (ns.length:Int) then 16 else (ns.length:Int))<=16:=by split <;> omega
  have hr3:=hr1 _ hr2
  have hr4:3<=(if (if (16:Int) < (ns.length:Int) then 16 else (ns.length:Int)) > 3 then (if (16:Int) < (ns.length:Int) then 16 else (ns.length:Int)) else 3):=by split <;> omega
  generalize (if (if (16:Int) < (ns.length:Int) then 16 else (ns.length:Int)) > 3 then (if (16:Int) < (ns.length:Int) then 16 else (ns.length:Int)) else 3)=m at hr3 hr4 ⊢
  refine⟨m,rfl,by omega,by omega,fH (lo:=0) (n:=m.toNat) (λi σ H2=>SqL K H2 sa (ns.map V.int)/\∃v1 v2,σ=[some (.ref sa),v1,v2]) ⟨hS,none,none,rfl⟩ (λk σ H2 hk hh=>?_) λσ H2 hh=>?_⟩
  ·obtain⟨hS2,v1,v2,rfl⟩:=hh
   dsimp only [aA,List.set_cons_zero,List.set_cons_succ]
   rw [Int.zero_add]
   refine aq ⟨_,rfl,_,rfl,sa,ns,_,rfl,hS2,by omega,by omega,λc1=>⟨_,rfl,c1,_,rfl,λH3 g3=>⟨_,rfl,aF (ai ?_)⟩⟩⟩
   exact⟨qV hS2 g3,_,_,rfl⟩
  obtain⟨hS2,v1,v2,rfl⟩:=hh
  dsimp only
  refine ae ⟨by show 2<=sizeLine;decide,λl1 n1=>⟨by show 2<=sizeLine;decide,λt1 nt1=>?_⟩⟩
  intro d1 nd1
  refine⟨aj,[(.inr (Str.ofString "number"),.int 1)],rfl,by show 1<=15;decide,_,rfl,by show 0<=sizeLine;decide,λl2 n2=>⟨by show 8<=sizeLine;decide,λla nla=>?_⟩⟩
  obtain⟨g1,e1⟩:=laid (o:=.lst [V.str (Str.ofString "number"),V.str (Str.ofString "1")]) n1
  obtain⟨g2,e2⟩:=laid (o:=.tup [V.str (Str.ofString "number"),V.str (Str.ofString "1")]) nt1
  obtain⟨g3a,e3a⟩:=laid (o:=.dK []) nd1
  have e1:=g3a _ _ (g2 _ _ e1)
  have e2:=g3a _ _ e2
  have g3b:∀b o,upd (upd (upd H2 l1 (.lst [V.str (Str.ofString "number"),V.str (Str.ofString "1")])) t1 (.tup [V.str (Str.ofString "number"),V.str (Str.ofString "1")])) d1 (.dK []) b=some o->b≠d1->upd (upd (upd (upd H2 l1 (.lst [V.str (Str.ofString "number"),V.str (Str.ofString "1")])) t1 (.tup [V.str (Str.ofString "number"),V.str (Str.ofString "1")])) d1 (.dK [])) d1 (.dK (dE [] [(.inr (Str.ofString "number"),.int 1)])) b=some o:=λb o e n=>by rw [al n];exact e
  have e1:=g3b _ _ e1 (eP e1 e3a (λz=>nomatch z))
  have e2:=g3b _ _ e2 (eP e2 e3a (λz=>nomatch z))
  have e3:upd (upd (upd (upd H2 l1 (.lst [V.str (Str.ofString "number"),V.str (Str.ofString "1")])) t1 (.tup [V.str (Str.ofString "number"),V.str (Str.ofString "1")])) d1 (.dK [])) d1 (.dK (dE [] [(.inr (Str.ofString "number"),.int 1)])) d1=some (.dK (dE [] [(.inr (Str.ofString "number"),.int 1)])):=aj
  clear g1 g2 g3a g3b e3a
  generalize upd (upd (upd (upd H2 l1 (.lst [V.str (Str.ofString "number"),V.str (Str.ofString "1")])) t1 (.tup [V.str (Str.ofString "number"),V.str (Str.ofString "1")])) d1 (.dK [])) d1 (.dK (dE [] [(.inr (Str.ofString "number"),.int 1)]))=H3 at n2 nla e1 e2 e3 ⊢
  obtain⟨g4,e4⟩:=laid (o:=.lst []) n2
  obtain⟨g5,e5⟩:=laid (o:=.lst [V.non,V.int 7,V.bl true,V.ref l1,V.ref t1,V.ref d1,V.int (-1),V.ref l2]) nla
  have g45:=g4.trans g5
  have e1:=g45 _ _ e1
  have e2:=g45 _ _ e2
  have e3:=g45 _ _ e3
  have e4:=g5 _ _ e4
  generalize upd (upd H3 l2 (.lst [])) la (.lst [V.non,V.int 7,V.bl true,V.ref l1,V.ref t1,V.ref d1,V.int (-1),V.ref l2])=H5 at e1 e2 e3 e4 e5 ⊢
  have all:∀v∈[V.non,V.int 7,V.bl true,V.ref l1,V.ref t1,V.ref d1,V.int (-1),V.ref l2],wF K H5 v:=by
   intro v hv
   rcases List.mem_cons.mp hv with rfl | hv
   ·exact⟨_,.non,by rfl⟩
   rcases List.mem_cons.mp hv with rfl | hv
   ·exact⟨_,.int 7,by rfl⟩
   rcases List.mem_cons.mp hv with rfl | hv
   ·exact⟨_,.bl true,by rfl⟩
   rcases List.mem_cons.mp hv with rfl | hv
   ·exact⟨_,.lst e1,by rfl⟩
   rcases List.mem_cons.mp hv with rfl | hv
   ·exact⟨_,.tup e2,by rfl⟩
   rcases List.mem_cons.mp hv with rfl | hv
   ·exact⟨_,.dK e3,by rfl⟩
   rcases List.mem_cons.mp hv with rfl | hv
   ·exact⟨_,.int (-1),by rfl⟩
   ·rw [List.mem_singleton.mp hv];exact⟨_,.lst e4,by rfl⟩
  generalize [V.non,V.int 7,V.bl true,V.ref l1,V.ref t1,V.ref d1,V.int (-1),V.ref l2]=vs at all e5 ⊢
  refine⟨la,rfl,⟨_,SqL.of e5⟩,dk (K:=K) (a:=la) (xs:=vs) (λi σ H6=>aP H5 H6/\∃v1 v2,σ=[some (.ref sa),v1,v2]) ⟨aP.refl,_,_,rfl⟩ (λi σ H6 _ hh=>?_) (λi v σ H6 hi hh=>?_) λσ H6 hh=>?_⟩
  ·exact SqL.of (hh.1 _ _ e5)
  ·obtain⟨g6,v1,v2,rfl⟩:=hh
   dsimp only [aA,List.set_cons_zero,List.set_cons_succ]
   obtain⟨t0,ty0,k0⟩:=all v (List.mem_of_getElem? hi)
   refine aq ⟨_,rfl,v,rfl,uK ⟨t0,uk ty0 g6,k0⟩ λt H7 g7 e7=>⟨by show 2<=sizeLine;decide,λt2 nt2=>?_⟩⟩
   exact⟨t,t2,_,rfl,rfl,(laid nt2).1 _ _ e7,aj,rfl,_,rfl,aF (ai ⟨(g6.trans g7).trans (laid nt2).1,_,_,rfl⟩)⟩
  obtain⟨g6,v1,v2,rfl⟩:=hh
  dsimp only
  refine ae (aq ⟨_,rfl,gF 1 (by decide +kernel) fx1 λt H7 g7 e7=>⟨by show 2<=sizeLine;decide,λt2 nt2=>⟨t,t2,_,rfl,rfl,(laid nt2).1 _ _ e7,aj,rfl,_,rfl,aF ?_⟩⟩⟩)
  refine⟨_,rfl,gF 0 (by decide +kernel) fx2 λt' H8 g8 e8=>⟨by show 2<=sizeLine;decide,λt3 nt3=>⟨t',t3,_,rfl,rfl,(laid nt3).1 _ _ e8,aj,rfl,_,rfl,aF (ai ?_)⟩⟩⟩
  dsimp only
  refine az ⟨_,rfl,gF 0 (by decide +kernel) fx3 λt4 H9 g9 e9=>⟨by show 2<=sizeLine;decide,λt5 nt5=>⟨t4,t5,_,rfl,rfl,(laid nt5).1 _ _ e9,aj,rfl,_,rfl,b5 ?_⟩⟩⟩
  refine⟨_,rfl,gF 0 (by decide +kernel) fx4 λt6 Ha ga ea=>⟨by show 2<=sizeLine;decide,λt7 nt7=>⟨t6,t7,_,rfl,rfl,(laid nt7).1 _ _ ea,aj,rfl,_,rfl,b5 ?_⟩⟩⟩
  exact⟨_,rfl,gF 2 (by decide +kernel) fx5 λt8 Hb gb eb=>⟨by show 2<=sizeLine;decide,λt9 nt9=>⟨t8,t9,_,rfl,rfl,(laid nt9).1 _ _ eb,aj,rfl,hq _⟩⟩⟩
theorem ar1 {P:List Value->Prop} (h:∀a,P [a]):∀us:List Value,us.length=1->P us:=λus e=>by
 obtain⟨a,rfl⟩:=List.length_eq_one_iff.mp e
 exact h a
theorem ar2 {P:List Value->Prop} (h:∀x1 x2,P [x1,x2]) (us:List Value) (e:us.length=2):P us:=by
 cases us with
 | nil=>cases e
 | cons a t=>exact ar1 (P:=λt=>P (a::t)) (λx1=>h a x1) t (Nat.succ.inj e)
theorem ar3 {P:List Value->Prop} (h:∀x1 x2 x3,P [x1,x2,x3]) (us:List Value) (e:us.length=3):P us:=by
 cases us with
 | nil=>cases e
 | cons a t=>exact ar2 (P:=λt=>P (a::t)) (λx1 x2=>h a x1 x2) t (Nat.succ.inj e)
theorem ar4 {P:List Value->Prop} (h:∀x1 x2 x3 x4,P [x1,x2,x3,x4]) (us:List Value) (e:us.length=4):P us:=by
 cases us with
 | nil=>cases e
 | cons a t=>exact ar3 (P:=λt=>P (a::t)) (λx1 x2 x3=>h a x1 x2 x3) t (Nat.succ.inj e)
theorem ar5 {P:List Value->Prop} (h:∀x1 x2 x3 x4 x5,P [x1,x2,x3,x4,x5]) (us:List Value) (e:us.length=5):P us:=by
 cases us with
 | nil=>cases e
 | cons a t=>exact ar4 (P:=λt=>P (a::t)) (λx1 x2 x3 x4=>h a x1 x2 x3 x4) t (Nat.succ.inj e)
theorem ar6 {P:List Value->Prop} (h:∀x1 x2 x3 x4 x5 x6,P [x1,x2,x3,x4,x5,x6]) (us:List Value) (e:us.length=6):P us:=by
 cases us with
 | nil=>cases e
 | cons a t=>exact ar5 (P:=λt=>P (a::t)) (λx1 x2 x3 x4 x5=>h a x1 x2 x3 x4 x5) t (Nat.succ.inj e)
noncomputable def lr (f:Addr):Option (Option Value)->Bool
 | some (some (.ref g))=>decide (g=f)
 | _=>false
noncomputable def nW (n:String):Option (Option Value)->Bool
 | some (some (.builtin m))=>decide (m=n)
 | _=>false
noncomputable def wx:Option (Option Value)->Bool
 | some none=>true
 | _=>false
noncomputable def wy:Option Bool->Bool
 | some false=>true
 | _=>false
theorem tK:∀{x:Option Bool},wy x=true->x=some false
 | some false,_=>rfl
noncomputable def mx:Option Bool->Bool
 | some true=>true
 | _=>false
theorem ig {f:Addr}:∀{x:Option (Option Value)},lr f x=true->x=some (some (.ref f))
 | some (some (.ref g)),h=>by rw [of_decide_eq_true (show decide (g=f)=true from h)]
theorem jV {n:String}:∀{x:Option (Option Value)},nW n x=true->x=some (some (.builtin n))
 | some (some (.builtin m)),h=>by rw [of_decide_eq_true (show decide (m=n)=true from h)]
theorem tJ:∀{x:Option (Option Value)},wx x=true->x=some none
 | some none,_=>rfl
theorem gQ:∀{x:Option Bool},mx x=true->x=some true
 | some true,_=>rfl
noncomputable def quB (K:PySem.W.Frag) (fT fA fD CQ C:Addr):Bool:=PySem.W.plainGet K C Str.empty && (PySem.W.hasDictIn K C && (PySem.W.plainOver K C && (nW "object.__setattr__" (PySem.W.findIn K (.ref C) "__setattr__") && (cR.all (λf=>wx (PySem.W.findIn K (.ref C) f)) && (lr fT (PySem.W.findIn K (.ref C) "text") && (lr fA (PySem.W.findIn K (.ref C) "asked_keys") && (lr fD (PySem.W.findIn K (.ref C) "depth") && (nW "object.__class__" (PySem.W.findIn K (.ref C) "__class__") && (mx (PySem.W.mroIn K C (.type "object")) && mx (PySem.W.kitOne K (.ref C) (.ref CQ)))))))))))
structure QuF (K:PySem.W.Frag) (fT fA fD CQ C:Addr):Prop where
 qu:QuC K C
 tx:PySem.W.findIn K (.ref C) "text" = some (some (.ref fT))
 ak:PySem.W.findIn K (.ref C) "asked_keys" = some (some (.ref fA))
 dp:PySem.W.findIn K (.ref C) "depth" = some (some (.ref fD))
 ha:PySem.W.findIn K (.ref C) "__class__" = some (some (.builtin "object.__class__"))
 hm:PySem.W.mroIn K C (.type "object")=some true
 kt:PySem.W.kitOne K (.ref C) (.ref CQ)=some true
theorem fc {K:PySem.W.Frag}{fT fA fD CQ C:Addr} (h:quB K fT fA fD CQ C=true):QuF K fT fA fD CQ C:=by
 unfold quB at h
 simp only [Bool.and_eq_true]at h
 obtain⟨h1,h2,h3,h4,h5,h6,h7,h8,h9,h10,h11⟩:=h
 exact⟨⟨⟨h1,h2,h3,jV h4⟩,λf hf=>tJ (List.all_eq_true.mp h5 f hf)⟩,ig h6,ig h7,ig h8,jV h9,gQ h10,gQ h11⟩
noncomputable def qT:Value->Option Str
 | .str x _=>some x
 | _=>none
noncomputable def yk:Value->Bool
 | .type n=>decide (n = "tuple")
 | _=>false
noncomputable def zW (ws:List Str):PySem.Data->Bool
 | .seq its _=>decide (its.toList.map qT=ws.map some)
 | _=>false
noncomputable def tupB (K:PySem.W.Frag) (a:Addr) (ws:List Str):Bool:=match K.lookup a with
 | some o=>yk o.cls && zW ws o.data
 | none=>false
theorem jz:∀{us:List Value}{ws:List Str},us.map qT=ws.map some->aX (ws.map V.str) us
 | [],[],_=>.nil
 | u::us,w::ws,h=>by
  obtain⟨h1,h2⟩:=List.cons.inj h
  refine .cons ?_ (jz h2)
  cases u with
  | str x t=>exact⟨t,by rw [Option.some.inj h1]⟩
  | _=>cases h1
 | [],w::ws,h=>by cases h
 | u::us,[],h=>by cases h
theorem kC {K:PySem.W.Frag}{a:Addr}{ws:List Str} (hl:ws.length<=100) (h:tupB K a ws=true) (H:Hp):SqT K H a (ws.map V.str):=by
 unfold tupB at h
 cases e:K.lookup a with
 | none=>rw [e]at h;cases h
 | some o=>
  rw [e]at h
  rw [Bool.and_eq_true]at h
  obtain⟨h1,h2⟩:=h
  have hc:o.cls=.type "tuple":=by
   cases z:o.cls with
   | type n=>rw [z]at h1;rw [of_decide_eq_true (show decide (n = "tuple")=true from h1)]
   | _=>rw [z]at h1;cases h1
  cases z:o.data with
  | seq its n=>
   rw [z]at h2
   have h3:=of_decide_eq_true (show decide (its.toList.map qT=ws.map some)=true from h2)
   have hz:=congrArg List.length h3
   rw [List.length_map,List.length_map,Array.length_toList]at hz
   exact .inr ⟨o,its,n,e,hc,z,Nat.le_trans (show its.size<=100 by omega) (by decide),jz h3⟩
  | _=>rw [z]at h2;cases h2
noncomputable abbrev xf:Stmt:=bi (top 3) 0
theorem yU:FnScope ["self", "place"] ["self", "place"] (aw xf):=⟨rfl,rfl,rfl,by decide +kernel,rfl,by decide +kernel,by decide +kernel⟩
theorem xK {f:Addr}{fd:FuncData} (F:Fun K "__init__" "BadQuestion.__init__" xf f fd):FnOk P w K mg base CX0 1 f fd ["self", "place"] (pV K "place"):=by
 refine F.ok (k:=0) yU (λvs H Q E h=>?_) (λcdv A outer s H vs Q E hr h=>?_)
 ·obtain⟨e,C,U,v,rfl,_⟩:=h
  rfl
 ·obtain⟨e,C,U,v,rfl,he,T,hn,hq⟩:=h
  exact⟨_,af (uO (pv 0) (pv 1) rfl),_,rfl,_,rfl,e,C,U,rfl,he,T,hn,hq⟩
theorem all_mk {l:PySem.W.OpenLaw}{w:World}{K:PySem.W.Frag}{h:Heap}{mg:Str->Option Value}{fa R CQ CB B U NK gB c1 c2 c3 c4 c5 c6 c7 c8 t1 t2 t3 t4 f1 f2 f3 f4 f5 f6 f7 f8 f9 f10 f11 f12 f13 f14 f15 f16 f17 f18 f19 f20 f21 f22 f23 f24 f25 f26 f27 f28 f29 f30 f31 f32 f33 f34 f35 f36 f37 f38 f39 f40 f41 f42 f43 f44 f45 f46 f47 f48 f49 f50 f51 f52 f53 f54 f55 f56 f57 f58:Addr}{d1 d2 d3 d4 d5 d6 d7 d8 d9 d10 d11 d12 d13 d14 d15 d16 d17 d18 d19 d20 d21 d22 d23 d24 d25 d26 d27 d28 d29 d30 d31 d32 d33 d34 d35 d36 d37 d38 d39 d40 d41 d42 d43 d44 d45 d46 d47 d48 d49 d50 d51 d52 d53 d54 d55 d56 d57 d58:FuncData}{yB:FuncData} (X:K.In h) (G:h.Ns mainGlobals mg) (hfa:mg "law" = some (.ref fa))
  (amR:PySem.W.nsIn K mainGlobals "Reader" = some (some (.ref R)))
  (amCQ:PySem.W.nsIn K mainGlobals "Question" = some (some (.ref CQ)))
  (amCB:PySem.W.nsIn K mainGlobals "Bracketed" = some (some (.ref CB)))
  (amc1:PySem.W.nsIn K mainGlobals "Number" = some (some (.ref c1)))
  (amc2:PySem.W.nsIn K mainGlobals "Value" = some (some (.ref c2)))
  (amc3:PySem.W.nsIn K mainGlobals "Gathering" = some (some (.ref c3)))
  (amc4:PySem.W.nsIn K mainGlobals "Since" = some (some (.ref c4)))
  (amc5:PySem.W.nsIn K mainGlobals "Part" = some (some (.ref c5)))
  (amc6:PySem.W.nsIn K mainGlobals "Change" = some (some (.ref c6)))
  (amc7:PySem.W.nsIn K mainGlobals "Reckoning" = some (some (.ref c7)))
  (amc8:PySem.W.nsIn K mainGlobals "Choice" = some (some (.ref c8)))
  (a1:PySem.W.nsIn K mainGlobals "law" = some (some (.ref f1))) (F1:Fun K "law" "law" pX f1 d1)
  (a2:PySem.W.nsIn K mainGlobals "_law_cell" = some (some (.ref f2))) (F2:Fun K "_law_cell" "_law_cell" sf f2 d2)
  (a3:PySem.W.nsIn K mainGlobals "_law_good" = some (some (.ref f3))) (F3:Fun K "_law_good" "_law_good" xo f3 d3)
  (a4:PySem.W.nsIn K mainGlobals "_law_pull" = some (some (.ref f4))) (F4:Fun K "_law_pull" "_law_pull" rR f4 d4)
  (a5:PySem.W.nsIn K mainGlobals "_law_mix" = some (some (.ref f5))) (F5:Fun K "_law_mix" "_law_mix" xg f5 d5)
  (a6:PySem.W.nsIn K mainGlobals "_law_begun" = some (some (.ref f6))) (F6:Fun K "_law_begun" "_law_begun" nB f6 d6)
  (a7:PySem.W.nsIn K mainGlobals "_law_names" = some (some (.ref f7))) (F7:Fun K "_law_names" "_law_names" nc f7 d7)
  (a8:PySem.W.nsIn K mainGlobals "_law_question" = some (some (.ref f8))) (F8:Fun K "_law_question" "_law_question" sLq f8 d8)
  (a9:PySem.W.nsIn K mainGlobals "_law_leaf" = some (some (.ref f9))) (F9:Fun K "_law_leaf" "_law_leaf" nh f9 d9)
  (a10:PySem.W.nsIn K mainGlobals "_law_some" = some (some (.ref f10))) (F10:Fun K "_law_some" "_law_some" rQ f10 d10)
  (a11:PySem.W.nsIn K mainGlobals "_law_days" = some (some (.ref f11))) (F11:Fun K "_law_days" "_law_days" se f11 d11)
  (a12:PySem.W.nsIn K mainGlobals "_law_amount" = some (some (.ref f12))) (F12:Fun K "_law_amount" "_law_amount" kX f12 d12)
  (a13:PySem.W.nsIn K mainGlobals "_law_window" = some (some (.ref f13))) (F13:Fun K "_law_window" "_law_window" kS f13 d13)
  (a14:PySem.W.nsIn K mainGlobals "_law_words" = some (some (.ref f14))) (F14:Fun K "_law_words" "_law_words" sLw f14 d14)
  (a15:PySem.W.nsIn K mainGlobals "_law_fitting" = some (some (.ref f15))) (F15:Fun K "_law_fitting" "_law_fitting" xp f15 d15)
  (a16:PySem.W.nsIn K mainGlobals "_law_spoilt" = some (some (.ref f16))) (F16:Fun K "_law_spoilt" "_law_spoilt" xj f16 d16)
  (a17:PySem.W.nsIn K mainGlobals "_law_word" = some (some (.ref f17))) (F17:Fun K "_law_word" "_law_word" xh f17 d17)
  (a18:PySem.W.nsIn K mainGlobals "_law_fault" = some (some (.ref f18))) (F18:Fun K "_law_fault" "_law_fault" xr f18 d18)
  (a19:PySem.W.nsIn K mainGlobals "_law_forms" = some (some (.ref f19))) (F19:Fun K "_law_forms" "_law_forms" xq f19 d19)
  (a20:PySem.W.nsIn K mainGlobals "_law_stands" = some (some (.ref f20))) (F20:Fun K "_law_stands" "_law_stands" xi f20 d20)
  (a21:PySem.W.nsIn K mainGlobals "_law_is_name" = some (some (.ref f21))) (F21:Fun K "_law_is_name" "_law_is_name" xm f21 d21)
  (a22:PySem.W.nsIn K mainGlobals "_law_are_names" = some (some (.ref f22))) (F22:Fun K "_law_are_names" "_law_are_names" xt f22 d22)
  (a23:PySem.W.nsIn K mainGlobals "_law_is_number" = some (some (.ref f23))) (F23:Fun K "_law_is_number" "_law_is_number" xl f23 d23)
  (a24:PySem.W.nsIn K mainGlobals "_law_read" = some (some (.ref f24))) (F24:Fun K "_law_read" "_law_read" xk f24 d24)
  (a25:PySem.W.findIn K (.ref CQ) "text" = some (some (.ref f25))) (i25:PySem.W.isFn K (.ref f25)=true) (F25:Fun K "text" "Question.text" rP f25 d25)
  (a26:PySem.W.nsIn K mainGlobals "question_of" = some (some (.ref f26))) (F26:Fun K "question_of" "question_of" uE f26 d26)
  (a27:PySem.W.findIn K (.ref R) "__init__" = some (some (.ref f27))) (i27:PySem.W.isFn K (.ref f27)=true) (F27:Fun K "__init__" "Reader.__init__" ni f27 d27)
  (a28:PySem.W.nsIn K mainGlobals "question_here" = some (some (.ref f28))) (F28:Fun K "question_here" "question_here" sQh f28 d28)
  (a29:PySem.W.nsIn K mainGlobals "questions_here" = some (some (.ref f29))) (F29:Fun K "questions_here" "questions_here" lZ f29 d29)
  (a30:PySem.W.findIn K (.ref R) "beginning_here" = some (some (.ref f30))) (i30:PySem.W.isFn K (.ref f30)=true) (F30:Fun K "beginning_here" "Reader.beginning_here" uH f30 d30)
  (a31:PySem.W.findIn K (.ref R) "here" = some (some (.ref f31))) (i31:PySem.W.isFn K (.ref f31)=true) (F31:Fun K "here" "Reader.here" oR f31 d31)
  (a32:PySem.W.findIn K (.ref R) "go_on" = some (some (.ref f32))) (i32:PySem.W.isFn K (.ref f32)=true) (F32:Fun K "go_on" "Reader.go_on" sGo f32 d32)
  (a33:PySem.W.findIn K (.ref R) "day_here" = some (some (.ref f33))) (i33:PySem.W.isFn K (.ref f33)=true) (F33:Fun K "day_here" "Reader.day_here" oS f33 d33)
  (a34:PySem.W.findIn K (.ref R) "number_here" = some (some (.ref f34))) (i34:PySem.W.isFn K (.ref f34)=true) (F34:Fun K "number_here" "Reader.number_here" oP f34 d34)
  (a35:PySem.W.nsIn K mainGlobals "number_of" = some (some (.ref f35))) (F35:Fun K "number_of" "number_of" kU f35 d35)
  (a36:PySem.W.nsIn K mainGlobals "has_only" = some (some (.ref f36))) (F36:Fun K "has_only" "has_only" xw f36 d36)
  (a37:PySem.W.findIn K (.ref R) "keys_here" = some (some (.ref f37))) (i37:PySem.W.isFn K (.ref f37)=true) (F37:Fun K "keys_here" "Reader.keys_here" kW f37 d37)
  (a38:PySem.W.nsIn K mainGlobals "are_keys" = some (some (.ref f38))) (F38:Fun K "are_keys" "are_keys" gE f38 d38)
  (a39:PySem.W.nsIn K mainGlobals "is_name" = some (some (.ref f39))) (F39:Fun K "is_name" "is_name" rT f39 d39)
  (a40:PySem.W.nsIn K mainGlobals "single_here" = some (some (.ref f40))) (F40:Fun K "single_here" "single_here" iH f40 d40)
  (a41:PySem.W.findIn K (.ref R) "value_here" = some (some (.ref f41))) (i41:PySem.W.isFn K (.ref f41)=true) (F41:Fun K "value_here" "Reader.value_here" oO f41 d41)
  (a42:PySem.W.findIn K (.ref R) "key_here" = some (some (.ref f42))) (i42:PySem.W.isFn K (.ref f42)=true) (F42:Fun K "key_here" "Reader.key_here" oQ f42 d42)
  (a43:PySem.W.findIn K (.ref c1) "__init__" = some (some (.ref f43))) (i43:PySem.W.isFn K (.ref f43)=true) (F43:Fun K "__init__" "Number.__init__" rY f43 d43)
  (a44:PySem.W.findIn K (.ref CQ) "__init__" = some (some (.ref f44))) (i44:PySem.W.isFn K (.ref f44)=true) (F44:Fun K "__init__" "Question.__init__" nk f44 d44)
  (a45:PySem.W.nsIn K mainGlobals "each_once" = some (some (.ref f45))) (F45:Fun K "each_once" "each_once" rS f45 d45)
  (a46:PySem.W.findIn K (.ref c2) "__init__" = some (some (.ref f46))) (i46:PySem.W.isFn K (.ref f46)=true) (F46:Fun K "__init__" "Value.__init__" rV f46 d46)
  (a47:PySem.W.findIn K (.ref c4) "__init__" = some (some (.ref f47))) (i47:PySem.W.isFn K (.ref f47)=true) (F47:Fun K "__init__" "Since.__init__" rW f47 d47)
  (a48:PySem.W.findIn K (.ref c5) "__init__" = some (some (.ref f48))) (i48:PySem.W.isFn K (.ref f48)=true) (F48:Fun K "__init__" "Part.__init__" rX f48 d48)
  (a49:PySem.W.findIn K (.ref c6) "__init__" = some (some (.ref f49))) (i49:PySem.W.isFn K (.ref f49)=true) (F49:Fun K "__init__" "Change.__init__" sd f49 d49)
  (a50:PySem.W.findIn K (.ref c3) "__init__" = some (some (.ref f50))) (i50:PySem.W.isFn K (.ref f50)=true) (F50:Fun K "__init__" "Gathering.__init__" rZ f50 d50)
  (a51:PySem.W.findIn K (.ref c7) "__init__" = some (some (.ref f51))) (i51:PySem.W.isFn K (.ref f51)=true) (F51:Fun K "__init__" "Reckoning.__init__" nn f51 d51)
  (a52:PySem.W.findIn K (.ref CB) "__init__" = some (some (.ref f52))) (i52:PySem.W.isFn K (.ref f52)=true) (F52:Fun K "__init__" "Bracketed.__init__" ny f52 d52)
  (a53:PySem.W.findIn K (.ref CQ) "asked_keys" = some (some (.ref f53))) (i53:PySem.W.isFn K (.ref f53)=true) (F53:Fun K "asked_keys" "Question.asked_keys" nE f53 d53)
  (a54:PySem.W.findIn K (.ref CQ) "depth" = some (some (.ref f54))) (i54:PySem.W.isFn K (.ref f54)=true) (F54:Fun K "depth" "Question.depth" nA f54 d54)
  (a55:PySem.W.findIn K (.ref c8) "__init__" = some (some (.ref f55))) (i55:PySem.W.isFn K (.ref f55)=true) (F55:Fun K "__init__" "Choice.__init__" nv f55 d55)
  (a56:PySem.W.findIn K (.ref R) "bracket_opens" = some (some (.ref f56))) (i56:PySem.W.isFn K (.ref f56)=true) (F56:Fun K "bracket_opens" "Reader.bracket_opens" kT f56 d56)
  (a57:PySem.W.findIn K (.ref R) "bracket_closes" = some (some (.ref f57))) (i57:PySem.W.isFn K (.ref f57)=true) (F57:Fun K "bracket_closes" "Reader.bracket_closes" iI f57 d57)
  (a58:PySem.W.findIn K (.ref R) "check_end" = some (some (.ref f58))) (i58:PySem.W.isFn K (.ref f58)=true) (F58:Fun K "check_end" "Reader.check_end" uG f58 d58)
  (mkR:PySem.W.makesIn K R=true) (kpR:PySem.W.keepIn K (.ref R)=true)
  (mkc1:PySem.W.makesIn K c1=true) (kpc1:PySem.W.keepIn K (.ref c1)=true)
  (mkc2:PySem.W.makesIn K c2=true) (kpc2:PySem.W.keepIn K (.ref c2)=true)
  (mkc3:PySem.W.makesIn K c3=true) (kpc3:PySem.W.keepIn K (.ref c3)=true)
  (mkc4:PySem.W.makesIn K c4=true) (kpc4:PySem.W.keepIn K (.ref c4)=true)
  (mkc5:PySem.W.makesIn K c5=true) (kpc5:PySem.W.keepIn K (.ref c5)=true)
  (mkc6:PySem.W.makesIn K c6=true) (kpc6:PySem.W.keepIn K (.ref c6)=true)
  (mkc7:PySem.W.makesIn K c7=true) (kpc7:PySem.W.keepIn K (.ref c7)=true)
  (mkc8:PySem.W.makesIn K c8=true) (kpc8:PySem.W.keepIn K (.ref c8)=true)
  (TR:RdC K R)
  (g1CQ:PySem.W.specialIn K (.ref CQ) "__getattribute__" = some (some (.builtin "type.__getattribute__"))) (g2CQ:PySem.W.readsIn K CQ (.type "type")=true) (g3CQ:PySem.W.findCls K (.ref CQ) (.type "type") "__init__" = some (.val (.ref f44)))
  (g1CB:PySem.W.specialIn K (.ref CB) "__getattribute__" = some (some (.builtin "type.__getattribute__"))) (g2CB:PySem.W.readsIn K CB (.type "type")=true) (g3CB:PySem.W.findCls K (.ref CB) (.type "type") "__init__" = some (.val (.ref f52)))
  (tyn:PySem.W.specialIn K (.builtin "object.__class__") "__get__" = some (some (.builtin "getset_descriptor.__get__"))) (tyk:PySem.W.takesIn K (.builtin "object.__class__")=some true)
  (qb1:quB K f25 f53 f54 CQ c1=true)
  (qb2:quB K f25 f53 f54 CQ c2=true)
  (qb3:quB K f25 f53 f54 CQ c3=true)
  (qb4:quB K f25 f53 f54 CQ c4=true)
  (qb5:quB K f25 f53 f54 CQ c5=true)
  (qb6:quB K f25 f53 f54 CQ c6=true)
  (qb7:quB K f25 f53 f54 CQ c7=true)
  (qb8:quB K f25 f53 f54 CQ c8=true)
  (tn1:PySem.W.nsIn K mainGlobals "SINGLE" = some (some (.ref t1))) (tb1:tupB K t1 cQ=true)
  (tn2:PySem.W.nsIn K mainGlobals "GATHERING" = some (some (.ref t2))) (tb2:tupB K t2 cm=true)
  (tn3:PySem.W.nsIn K mainGlobals "RECKONING" = some (some (.ref t3))) (tb3:tupB K t3 ce=true)
  (tn4:PySem.W.nsIn K mainGlobals "CHOICE" = some (some (.ref t4))) (tb4:tupB K t4 cp=true)
  (aU:PySem.W.nsIn K mainGlobals "UnsayError" = some (some (.ref U))) (aN:PySem.W.nsIn K mainGlobals "NoKey" = some (some (.ref NK))) (aB:PySem.W.nsIn K mainGlobals "BadQuestion" = some (some (.ref B))) (TB:XCls K B U)
  (iaB:PySem.W.findIn K (.ref B) "__init__" = some (some (.ref gB))) (iiB:PySem.W.isFn K (.ref gB)=true) (IB:Fun K "__init__" "BadQuestion.__init__" xf gB yB) (nfB:PySem.W.findIn K (.ref B) "place" = some none)
  (hU:hIn K U=true) (kB:mx (PySem.W.kitOne K (.ref B) (.ref B))=true) (kV_:mx (PySem.W.kitOne K (.ref B) (.type "ValueError"))=true) (kN:wy (PySem.W.kitOne K (.ref B) (.ref NK))=true) (zVE:PySem.W.nsIn K mainGlobals "ValueError" = some none)
  {tq1 tq2 tq3 tq4 tq5 tq6 tq7 tq8 tq9:Tok} (q1:PySem.W.nsIn K mainGlobals "LETTERS" = some (some (.str bX tq1))) (q2:PySem.W.nsIn K mainGlobals "FIGURES" = some (some (.str fm tq2))) (q3:PySem.W.nsIn K mainGlobals "MOST_LETTERS" = some (some (.int 8 tq3))) (q4:PySem.W.nsIn K mainGlobals "MOST_FIGURES" = some (some (.int 12 tq4))) (q5:PySem.W.nsIn K mainGlobals "LAST_DAY" = some (some (.int 399 tq5))) (q6:PySem.W.nsIn K mainGlobals "MOST_KEYS" = some (some (.int 8 tq6))) (q7:PySem.W.nsIn K mainGlobals "MOST_VALUE" = some (some (.int 1000000000 tq7))) (q8:PySem.W.nsIn K mainGlobals "MOST_OPEN" = some (some (.int 3 tq8))) (q9:PySem.W.nsIn K mainGlobals "MOST_RANK" = some (some (.int 400 tq9)))
  (z1:PySem.W.nsIn K mainGlobals "len" = some none) (z2:PySem.W.nsIn K mainGlobals "range" = some none) (z3:PySem.W.nsIn K mainGlobals "sorted" = some none) (z4:PySem.W.nsIn K mainGlobals "isinstance" = some none) (z5:PySem.W.nsIn K mainGlobals "int" = some none) (z6:PySem.W.nsIn K mainGlobals "bool" = some none) (z7:PySem.W.nsIn K mainGlobals "str" = some none) (z8:PySem.W.nsIn K mainGlobals "list" = some none) (z9:PySem.W.nsIn K mainGlobals "tuple" = some none) (z10:PySem.W.nsIn K mainGlobals "dict" = some none) (z11:PySem.W.nsIn K mainGlobals "set" = some none) (z12:PySem.W.nsIn K mainGlobals "max" = some none) (z13:PySem.W.nsIn K mainGlobals "min" = some none) (z14:PySem.W.nsIn K mainGlobals "all" = some none) (z15:PySem.W.nsIn K mainGlobals "enumerate" = some none) (z16:PySem.W.nsIn K mainGlobals "abs" = some none) (z17:PySem.W.nsIn K mainGlobals "reversed" = some none) :
  ∃fd:FuncData,(∀(s:Shared) (v:Value),BindsTo s fd ⟨[v],[]⟩ [("_law_script", v)])/\∀base:Heap,K.In base->base.Ns mainGlobals mg->FnOk l.prog w K mg base CX0 18 fa fd ["_law_script"] (oE K):=by
 have e:=hfa.symm.trans (PySem.W.mg_of X G a1)
 cases e
 have N:Free mg:=⟨PySem.W.mg_none_of X G z1,PySem.W.mg_none_of X G z2,PySem.W.mg_none_of X G z3,PySem.W.mg_none_of X G z4,PySem.W.mg_none_of X G z5,PySem.W.mg_none_of X G z6,PySem.W.mg_none_of X G z7,PySem.W.mg_none_of X G z8,PySem.W.mg_none_of X G z9,PySem.W.mg_none_of X G z10,PySem.W.mg_none_of X G z11,PySem.W.mg_none_of X G z12,PySem.W.mg_none_of X G z13,PySem.W.mg_none_of X G z14,PySem.W.mg_none_of X G z15,PySem.W.mg_none_of X G z16,PySem.W.mg_none_of X G z17⟩
 have Z:Con mg:=⟨⟨_,PySem.W.mg_of X G q1⟩,⟨_,PySem.W.mg_of X G q2⟩,⟨_,PySem.W.mg_of X G q3⟩,⟨_,PySem.W.mg_of X G q4⟩,⟨_,PySem.W.mg_of X G q5⟩,⟨_,PySem.W.mg_of X G q6⟩,⟨_,PySem.W.mg_of X G q7⟩,⟨_,PySem.W.mg_of X G q8⟩,⟨_,PySem.W.mg_of X G q9⟩⟩
 have ZT:ConT K mg:=⟨⟨t1,PySem.W.mg_of X G tn1,kC (by decide) tb1⟩,⟨t2,PySem.W.mg_of X G tn2,kC (by decide) tb2⟩,⟨t3,PySem.W.mg_of X G tn3,kC (by decide) tb3⟩,⟨t4,PySem.W.mg_of X G tn4,kC (by decide) tb4⟩⟩
 have QB:∀C∈Cs.all (⟨c1,c2,c3,c4,c5,c6,c7,c8⟩:Cs),QuF K f25 f53 f54 CQ C:=λC hC=>by
  simp only [Cs.all,List.mem_cons,List.not_mem_nil,or_false]at hC
  rcases hC with rfl | rfl | rfl | rfl | rfl | rfl | rfl | rfl
  ·exact fc qb1
  ·exact fc qb2
  ·exact fc qb3
  ·exact fc qb4
  ·exact fc qb5
  ·exact fc qb6
  ·exact fc qb7
  ·exact fc qb8
 obtain⟨oc,od,kV,doc,pm,an,cdv,ct,osl,rfl,lk,hcd⟩:=id F1.ex
 refine⟨PySem.W.fnOf "law" "law" (gY pX) (eG pX) (aw pX) .none kV doc pm an cdv ct,λs v=>.of_eq rfl,λbase hK hN=>?_⟩
 have ky:∀{x:Str}{k:Nat}{ps:List Str}{sp:Sp}{f:Addr}{fd:FuncData},FnOk l.prog w K mg base CX0 k f fd ps sp->PySem.W.nsIn K mainGlobals x=some (some (.ref f))->PySem.W.keepIn K (.ref f)=true->bA K fd ps []->Cal l.prog w K mg base x k ps sp f fd:=λa b c d=>⟨a,PySem.W.mg_of X G b,c,d⟩
 have km:∀{m:Str}{k:Nat}{ps:List Str}{sp:Sp}{f:Addr}{fd:FuncData},FnOk l.prog w K mg base CX0 k f fd ps sp->PySem.W.findIn K (.ref R) m=some (some (.ref f))->PySem.W.isFn K (.ref f)=true->PySem.W.keepIn K (.ref f)=true->bA K fd ps []->MC l.prog w K mg base R m k ps [] [] sp f fd:=λa b c d e=>⟨TR.cl,⟨b,c,d⟩,a,e,.nil⟩
 have kn:∀{m:Str}{k:Nat}{ps:List Str}{sp:Sp}{f:Addr}{fd:FuncData},FnOk l.prog w K mg base (CXR l.prog w) k f fd ps sp->PySem.W.findIn K (.ref R) m=some (some (.ref f))->PySem.W.isFn K (.ref f)=true->PySem.W.keepIn K (.ref f)=true->bA K fd ps []->MCX l.prog w K mg base R m k ps [] [] sp f fd:=λa b c d e=>⟨TR.cl,⟨b,c,d⟩,a,e,.nil⟩
 have kx:∀{x:Str}{k:Nat}{ps:List Str}{sp:Sp}{f:Addr}{fd:FuncData},FnOk l.prog w K mg base (CXR l.prog w) k f fd ps sp->PySem.W.nsIn K mainGlobals x=some (some (.ref f))->PySem.W.keepIn K (.ref f)=true->bA K fd ps []->CalX l.prog w K mg base x k ps sp f fd:=λa b c d=>⟨a,PySem.W.mg_of X G b,c,d⟩
 have RB:Rf1 l.prog w K mg base "BadQuestion" B U "place" gB _:=⟨xK IB,PySem.W.mg_of X G aB,iaB,iiB,IB.binds λ_ _ _ _ _ _=>ar2 λ_ _=>rfl,TB,nfB⟩
 have kc:∀{cn:Str}{k:Nat}{ps:List Str}{sp:Sp}{C f:Addr}{fd:FuncData},FnOk l.prog w K mg base CX0 k f fd ps sp->Mk K C f->PySem.W.nsIn K mainGlobals cn=some (some (.ref C))->bA K fd ps []->MkC l.prog w K mg base cn k ps sp C f fd:=λa b c d=>⟨b,a,PySem.W.mg_of X G c,d⟩
 have kg:∀{cn m:Str}{k:Nat}{ps:List Str}{sp:Sp}{C f:Addr}{fd:FuncData}{mc:Value},FnOk l.prog w K mg base CX0 k f fd ps sp->PySem.W.nsIn K mainGlobals cn=some (some (.ref C))->PySem.W.specialIn K (.ref C) "__getattribute__" = some (some (.builtin "type.__getattribute__"))->PySem.W.readsIn K C mc=true->PySem.W.findCls K (.ref C) mc m=some (.val (.ref f))->PySem.W.keepIn K (.ref f)=true->bA K fd ps []->CMc l.prog w K mg base cn m k ps sp C f fd mc:=λa b c d e g i=>⟨PySem.W.mg_of X G b,c,d,e,a,g,i⟩
 have K1:=ky (vj F2 N) a2 F2.kp (F2.binds λ_ _ _ _ _ _=>ar2 λ_ _=>rfl)
 have K2:=ky (xP F5) a5 F5.kp (F5.binds λ_ _ _ _ _ _=>ar2 λ_ _=>rfl)
 have K3:=ky (uZ F4 K2) a4 F4.kp (F4.binds λ_ _ _ _ _ _=>ar2 λ_ _=>rfl)
 have K4:=ky (sS F6) a6 F6.kp (F6.binds λ_ _ _ _ _ _=>ar1 λ_=>rfl)
 have K5:=ky (sH F7 N K4 K3) a7 F7.kp (F7.binds λ_ _ _ _ _ _=>ar1 λ_=>rfl)
 have K6:=ky (uV F10 N K3) a10 F10.kp (F10.binds λ_ _ _ _ _ _=>ar3 λ_ _ _=>rfl)
 have K7:=ky (vi F11 K3) a11 F11.kp (F11.binds λ_ _ _ _ _ _=>ar2 λ_ _=>rfl)
 have K8:=ky (qk F12 K3) a12 F12.kp (F12.binds λ_ _ _ _ _ _=>ar1 λ_=>rfl)
 have K9:=ky (sI F9 N K3 K6 K7 K8) a9 F9.kp (F9.binds λ_ _ _ _ _ _=>ar4 λ_ _ _ _=>rfl)
 have K10:=ky (xV F8 (PySem.W.mg_of X G a8) (F8.binds λ_ _ _ _ _ _=>ar4 λ_ _ _ _=>rfl) N K3 K9) a8 F8.kp (F8.binds λ_ _ _ _ _ _=>ar4 λ_ _ _ _=>rfl)
 have K11:=ky (qf F13 K3) a13 F13.kp (F13.binds λ_ _ _ _ _ _=>ar1 λ_=>rfl)
 have K12:=ky (xR F14 (PySem.W.mg_of X G a14) (F14.binds λ_ _ _ _ _ _=>ar1 λ_=>rfl) N) a14 F14.kp (F14.binds λ_ _ _ _ _ _=>ar1 λ_=>rfl)
 have K13:=ky (xZ F15 N K12) a15 F15.kp (F15.binds λ_ _ _ _ _ _=>ar1 λ_=>rfl)
 have K14:=ky (xQ F17 N K3) a17 F17.kp (F17.binds λ_ _ _ _ _ _=>ar3 λ_ _ _=>rfl)
 have K15:=ky (xT F16 N K3 K14) a16 F16.kp (F16.binds λ_ _ _ _ _ _=>ar3 λ_ _ _=>rfl)
 have K16:=ky (y0 F19 N) a19 F19.kp (F19.binds λ_ _ _ _ _ _=>ar1 λ_=>rfl)
 have K17:=ky (xX F21 N) a21 F21.kp (F21.binds λ_ _ _ _ _ _=>ar1 λ_=>rfl)
 have K18:=ky (y4 F22 N K17) a22 F22.kp (F22.binds λ_ _ _ _ _ _=>ar1 λ_=>rfl)
 have K19:=ky (xW F23 N) a23 F23.kp (F23.binds λ_ _ _ _ _ _=>ar3 λ_ _ _=>rfl)
 have K20:=ky (xS F20 N K16 K17 K18 K19) a20 F20.kp (F20.binds λ_ _ _ _ _ _=>ar4 λ_ _ _ _=>rfl)
 have K21:=ky (y2 F18 N K16 K20) a18 F18.kp (F18.binds λ_ _ _ _ _ _=>ar1 λ_=>rfl)
 have K22:∀C∈Cs.all (⟨c1,c2,c3,c4,c5,c6,c7,c8⟩:Cs),MV l.prog w K mg base CX0 "text" 1 ["self"] (kD K) C:=λC hC=>⟨(QB C hC).qu.cl,f25,d25,⟨(QB C hC).tx,i25,F25.kp⟩,(uU F25),(F25.binds λ_ _ _ _ _ _=>ar1 λ_=>rfl)⟩
 have K23:=kc (sK F27 N TR) ⟨mkR,a27,i27,kpR⟩ amR (F27.binds λ_ _ _ _ _ _=>ar2 λ_ _=>rfl)
 have K24:=km (pf F31 N TR) a31 i31 F31.kp (F31.binds λ_ _ _ _ _ _=>ar1 λ_=>rfl)
 have K25:=km (wt F32 N TR) a32 i32 F32.kp (F32.binds λ_ _ _ _ _ _=>ar2 λ_ _=>rfl)
 have K26:=km (sT F30 N ZT TR K24 K25) a30 i30 F30.kp (F30.binds λ_ _ _ _ _ _=>ar1 λ_=>rfl)
 have K27:=ky (y6 F36 N) a36 F36.kp (F36.binds λ_ _ _ _ _ _=>ar3 λ_ _ _=>rfl)
 have K28:=ky (qh F35 N Z K27) a35 F35.kp (F35.binds λ_ _ _ _ _ _=>ar3 λ_ _ _=>rfl)
 have K29:=km (pd F34 N TR K24 K25 K28) a34 i34 F34.kp (F34.binds λ_ _ _ _ _ _=>ar3 λ_ _ _=>rfl)
 have K30:=km (ph F33 N Z TR K29) a33 i33 F33.kp (F33.binds λ_ _ _ _ _ _=>ar2 λ_ _=>rfl)
 have K31:=ky (v9 F39 N Z K27) a39 F39.kp (F39.binds λ_ _ _ _ _ _=>ar1 λ_=>rfl)
 have K32:=ky (nQ F38 N Z K31) a38 F38.kp (F38.binds λ_ _ _ _ _ _=>ar1 λ_=>rfl)
 have K33:=km (me F37 N TR K24 K25 K32) a37 i37 F37.kp (F37.binds λ_ _ _ _ _ _=>ar1 λ_=>rfl)
 have K34:=km (pc F41 N Z TR K29) a41 i41 F41.kp (F41.binds λ_ _ _ _ _ _=>ar1 λ_=>rfl)
 have K35:=km (pe F42 N TR K24 K25 K31) a42 i42 F42.kp (F42.binds λ_ _ _ _ _ _=>ar1 λ_=>rfl)
 have K36:=ky (v3 F45) a45 F45.kp (F45.binds λ_ _ _ _ _ _=>ar1 λ_=>rfl)
 have K37:=kg (sL F44 N K36) amCQ g1CQ g2CQ g3CQ F44.kp (F44.binds λ_ _ _ _ _ _=>ar4 λ_ _ _ _=>rfl)
 have K38:=kc (ve F43 N K37) ⟨mkc1,a43,i43,kpc1⟩ amc1 (F43.binds λ_ _ _ _ _ _=>ar2 λ_ _=>rfl)
 have K39:=kc (va F46 N K37) ⟨mkc2,a46,i46,kpc2⟩ amc2 (F46.binds λ_ _ _ _ _ _=>ar3 λ_ _ _=>rfl)
 have K40:=kc (vb F47 N K37) ⟨mkc4,a47,i47,kpc4⟩ amc4 (F47.binds λ_ _ _ _ _ _=>ar5 λ_ _ _ _ _=>rfl)
 have K41:=kc (vd F48 N K37) ⟨mkc5,a48,i48,kpc5⟩ amc5 (F48.binds λ_ _ _ _ _ _=>ar5 λ_ _ _ _ _=>rfl)
 have K42:=kc (vg F49 N K37) ⟨mkc6,a49,i49,kpc6⟩ amc6 (F49.binds λ_ _ _ _ _ _=>ar5 λ_ _ _ _ _=>rfl)
 have K43:=ky (jL (c:=(⟨c1,c2,c3,c4,c5,c6,c7,c8⟩:Cs)) F40 N Z (λC hC=>(QB C hC).qu) K34 K30 K35 K29 K38 K39 K40 K41 K42) a40 F40.kp (F40.binds λ_ _ _ _ _ _=>ar2 λ_ _=>rfl)
 have K44:=kc (vf F50 N K37) ⟨mkc3,a50,i50,kpc3⟩ amc3 (F50.binds λ_ _ _ _ _ _=>ar5 λ_ _ _ _ _=>rfl)
 have K45:∀C∈Cs.all (⟨c1,c2,c3,c4,c5,c6,c7,c8⟩:Cs),MV l.prog w K mg base CX0 "asked_keys" 1 ["self"] (kK K) C:=λC hC=>⟨(QB C hC).qu.cl,f53,d53,⟨(QB C hC).ak,i53,F53.kp⟩,(sU F53 N),(F53.binds λ_ _ _ _ _ _=>ar1 λ_=>rfl)⟩
 have K46:∀C∈Cs.all (⟨c1,c2,c3,c4,c5,c6,c7,c8⟩:Cs),MV l.prog w K mg base CX0 "depth" 1 ["self"] (iX K) C:=λC hC=>⟨(QB C hC).qu.cl,f54,d54,⟨(QB C hC).dp,i54,F54.kp⟩,(qj F54),(F54.binds λ_ _ _ _ _ _=>ar1 λ_=>rfl)⟩
 have K47:=kg (sO (c:=(⟨c1,c2,c3,c4,c5,c6,c7,c8⟩:Cs)) F52 N K37 (λC hC=>(QB C hC).qu) K22 K45 K46) amCB g1CB g2CB g3CB F52.kp (F52.binds λ_ _ _ _ _ _=>ar3 λ_ _ _=>rfl)
 have K48:=kc (sM (c:=(⟨c1,c2,c3,c4,c5,c6,c7,c8⟩:Cs)) F51 N K47) ⟨mkc7,a51,i51,kpc7⟩ amc7 (F51.binds λ_ _ _ _ _ _=>ar4 λ_ _ _ _=>rfl)
 have K49:=kc (sN (c:=(⟨c1,c2,c3,c4,c5,c6,c7,c8⟩:Cs)) F55 N K47) ⟨mkc8,a55,i55,kpc8⟩ amc8 (F55.binds λ_ _ _ _ _ _=>ar6 λ_ _ _ _ _ _=>rfl)
 have K50:=km (md F56 N Z TR K24 K25) a56 i56 F56.kp (F56.binds λ_ _ _ _ _ _=>ar1 λ_=>rfl)
 have K51:=km (jM F57 N TR K24 K25) a57 i57 F57.kp (F57.binds λ_ _ _ _ _ _=>ar1 λ_=>rfl)
 have K52:=ky (xO (c:=(⟨c1,c2,c3,c4,c5,c6,c7,c8⟩:Cs)) F28 (PySem.W.mg_of X G a28) (F28.binds λ_ _ _ _ _ _=>ar1 λ_=>rfl) F29 (PySem.W.mg_of X G a29) (F29.binds λ_ _ _ _ _ _=>ar2 λ_ _=>rfl) N ZT (λC hC=>(QB C hC).qu) K26 K30 K33 K43 K44 K48 K49 K50 K51) a28 F28.kp (F28.binds λ_ _ _ _ _ _=>ar1 λ_=>rfl)
 have K53:=km (sQ F58 N TR) a58 i58 F58.kp (F58.binds λ_ _ _ _ _ _=>ar1 λ_=>rfl)
 have K54:=kn (show FnOk l.prog w K mg base (CXR l.prog w) 3 _ _ _ (dY B R) from FnOk.both (FnOk.mono (j:=1) (k:=3) (pf F31 N TR) (by decide)) (sP F31 N TR RB)) a31 i31 F31.kp (F31.binds λ_ _ _ _ _ _=>ar1 λ_=>rfl)
 have K55:=kn (show FnOk l.prog w K mg base (CXR l.prog w) 3 _ _ _ (iW B R) from FnOk.both (FnOk.mono (j:=1) (k:=3) (wt F32 N TR) (by decide)) (y8 F32 N TR RB)) a32 i32 F32.kp (F32.binds λ_ _ _ _ _ _=>ar2 λ_ _=>rfl)
 have K56:=kn (show FnOk l.prog w K mg base (CXR l.prog w) 4 _ _ _ (kJ B R) from FnOk.both (FnOk.mono (j:=2) (k:=4) (sT F30 N ZT TR K24 K25) (by decide)) (vk F30 N ZT TR K54 K55)) a30 i30 F30.kp (F30.binds λ_ _ _ _ _ _=>ar1 λ_=>rfl)
 have K57:=kn (show FnOk l.prog w K mg base (CXR l.prog w) 4 _ _ _ (iD B R) from FnOk.both (FnOk.mono (j:=3) (k:=4) (pd F34 N TR K24 K25 K28) (by decide)) (sG F34 N TR K54 K55 K28)) a34 i34 F34.kp (F34.binds λ_ _ _ _ _ _=>ar3 λ_ _ _=>rfl)
 have K58:=kn (show FnOk l.prog w K mg base (CXR l.prog w) 5 _ _ _ (gD B R) from FnOk.both (FnOk.mono (j:=4) (k:=5) (ph F33 N Z TR K29) (by decide)) (sR F33 N Z TR K57)) a33 i33 F33.kp (F33.binds λ_ _ _ _ _ _=>ar2 λ_ _=>rfl)
 have K59:=ky (mf F38 N Z K31) a38 F38.kp (F38.binds λ_ _ _ _ _ _=>ar1 λ_=>rfl)
 have K60:=kn (show FnOk l.prog w K mg base (CXR l.prog w) 4 _ _ _ (gA B R) from FnOk.both (me F37 N TR K24 K25 K32) (qi F37 N TR K54 K55 K59)) a37 i37 F37.kp (F37.binds λ_ _ _ _ _ _=>ar1 λ_=>rfl)
 have K61:=kn (show FnOk l.prog w K mg base (CXR l.prog w) 5 _ _ _ (oA B R) from FnOk.both (FnOk.mono (j:=4) (k:=5) (pc F41 N Z TR K29) (by decide)) (sF F41 N Z TR K57)) a41 i41 F41.kp (F41.binds λ_ _ _ _ _ _=>ar1 λ_=>rfl)
 have K62:=kn (show FnOk l.prog w K mg base (CXR l.prog w) 4 _ _ _ (oG B R) from FnOk.both (FnOk.mono (j:=3) (k:=4) (pe F42 N TR K24 K25 K31) (by decide)) (sJ F42 N TR K54 K55 K31)) a42 i42 F42.kp (F42.binds λ_ _ _ _ _ _=>ar1 λ_=>rfl)
 have K63:=kx (show FnOk l.prog w K mg base (CXR l.prog w) 6 _ _ _ (fo (⟨c1,c2,c3,c4,c5,c6,c7,c8⟩:Cs) B R) from FnOk.both (FnOk.mono (j:=5) (k:=6) (jL (c:=(⟨c1,c2,c3,c4,c5,c6,c7,c8⟩:Cs)) F40 N Z (λC hC=>(QB C hC).qu) K34 K30 K35 K29 K38 K39 K40 K41 K42) (by decide)) (nN (c:=(⟨c1,c2,c3,c4,c5,c6,c7,c8⟩:Cs)) F40 N Z K61 K58 K62 K57 K38 K39 K40 K41 K42)) a40 F40.kp (F40.binds λ_ _ _ _ _ _=>ar2 λ_ _=>rfl)
 have K64:=kn (show FnOk l.prog w K mg base (CXR l.prog w) 4 _ _ _ (gx B R) from FnOk.both (FnOk.mono (j:=2) (k:=4) (md F56 N Z TR K24 K25) (by decide)) (qg F56 N Z TR K54 K55)) a56 i56 F56.kp (F56.binds λ_ _ _ _ _ _=>ar1 λ_=>rfl)
 have K65:=kn (show FnOk l.prog w K mg base (CXR l.prog w) 4 _ _ _ (fq B R) from FnOk.both (FnOk.mono (j:=2) (k:=4) (jM F57 N TR K24 K25) (by decide)) (nP F57 N TR K54 K55)) a57 i57 F57.kp (F57.binds λ_ _ _ _ _ _=>ar1 λ_=>rfl)
 have K66:=kx (uY (c:=(⟨c1,c2,c3,c4,c5,c6,c7,c8⟩:Cs)) F28 F29 N ZT (nG (c:=(⟨c1,c2,c3,c4,c5,c6,c7,c8⟩:Cs)) F28 (PySem.W.mg_of X G a28) (F28.binds λ_ _ _ _ _ _=>ar1 λ_=>rfl) F29 (PySem.W.mg_of X G a29) (F29.binds λ_ _ _ _ _ _=>ar2 λ_ _=>rfl) N ZT (λC hC=>(QB C hC).qu) K26 K30 K33 K43 K44 K48 K49 K50 K51) K56 K58 K60 K63 K44 K48 K49 K64 K65) a28 F28.kp (F28.binds λ_ _ _ _ _ _=>ar1 λ_=>rfl)
 have K67:=kn (show FnOk l.prog w K mg base (CXR l.prog w) 3 _ _ _ (rp B R) from FnOk.both (FnOk.mono (j:=1) (k:=3) (sQ F58 N TR) (by decide)) (vh F58 N TR RB)) a58 i58 F58.kp (F58.binds λ_ _ _ _ _ _=>ar1 λ_=>rfl)
 have K68:=kx (show FnOk l.prog w K mg base (CXR l.prog w) 15 _ _ _ (r6 K (⟨c1,c2,c3,c4,c5,c6,c7,c8⟩:Cs) B) from FnOk.both (FnOk.mono (j:=13) (k:=15) (xM (c:=(⟨c1,c2,c3,c4,c5,c6,c7,c8⟩:Cs)) F26 N K23 K52 K53) (by decide)) (uX (c:=(⟨c1,c2,c3,c4,c5,c6,c7,c8⟩:Cs)) F26 N K23 K66 K67 RB)) a26 F26.kp (F26.binds λ_ _ _ _ _ _=>ar1 λ_=>rfl)
 have K69:=ky (xU (c:=(⟨c1,c2,c3,c4,c5,c6,c7,c8⟩:Cs)) F24 N (λC hC=>(QB C hC).qu) K22 RB (PySem.W.mg_of X G aU) hU (PySem.W.mg_of X G aN) (PySem.W.mg_none_of X G zVE) (gQ kB) (gQ kV_) (tK kN) K68) a24 F24.kp (F24.binds λ_ _ _ _ _ _=>ar1 λ_=>rfl)
 have K70:=ky (xY F3 N K3 K4 K5 K2 K10 K11 K12 K13 K15 K21 K69) a3 F3.kp (F3.binds λ_ _ _ _ _ _=>ar2 λ_ _=>rfl)
 exact y3 F1 N K1 K70 K69
theorem walk {l:PySem.W.OpenLaw}{q:Program}{loose:List Str}{XP:(Str->Option Value)->Heap->Prop}{YP:World->Heap->Prop}{d:DefRec}{K:Params->PySem.W.Frag} (hn:l.most=some 63) (hdf:d.params.defaults=[])
  (hY:∀(w:World) (h:Heap),YP w h->(K w.params).In h)
  (F:∀(w:World) (mg:Str->Option Value) (fa:Addr) (h:Heap),(K w.params).In h->h.Ns mainGlobals mg->mg d.name=some (.ref fa)->
   ∃fd:FuncData,(∀(s:Shared) (u:Value),BindsTo s fd ⟨[u],[]⟩ [("_law_script", u)])/\
    ∀base:Heap,(K w.params).In base->base.Ns mainGlobals mg->FnOk l.prog w (K w.params) mg base CX0 18 fa fd ["_law_script"] (oE (K w.params))) :
  PySem.W.WalkO q loose XP YP l.row.toRowW d [] (λf vs=>PySem.call f vs):=
 qK (n:=63) (k:=18) (x:="_law_script") (CX:=CX0) (sp:=λK=>oE K) hn (by decide) hdf ⟨rfl,by decide,by decide,rfl⟩ hY F (λK H a ns hl hO hS=>⟨a,ns,rfl,hS,hl,λ_=>rfl⟩) λ_ _ _ _ h=>h
end Mine
open PySem PySem.W PyProof.Rows
namespace PySem.W.Fast
theorem tw2585117085802884763:True:=⟨⟩
theorem tw17223667588679160860:True:=⟨⟩
theorem tw3680497999229112553:True:=⟨⟩
theorem tw12143626061201265081:True:=⟨⟩
theorem tw5491594668387639949:True:=⟨⟩
theorem tw512898225410427446:True:=⟨⟩
theorem tw13120146165367660191:True:=⟨⟩
theorem tw12276575540353500618:True:=⟨⟩
theorem tw12930846869503973170:True:=⟨⟩
theorem tw8606961534430204360:True:=⟨⟩
theorem tw6029172749347672753:True:=⟨⟩
theorem tw4767152840776366837:True:=⟨⟩
theorem tw8239640494157555776:True:=⟨⟩
theorem tw16946317384773087067:True:=⟨⟩
theorem tw15137796880938489983:True:=⟨⟩
theorem tw9102759015744558624:True:=⟨⟩
theorem tw17587992435392985815:True:=⟨⟩
theorem tw5033951503597815270:True:=⟨⟩
theorem tw14843197346974941659:True:=⟨⟩
theorem tw447707208082448200:True:=⟨⟩
theorem tw8773504519129983781:True:=⟨⟩
theorem tw18427979433738565950:True:=⟨⟩
theorem tw17775081753508469352:True:=⟨⟩
theorem tw10049231952634803700:True:=⟨⟩
theorem tw6610690685776158941:True:=⟨⟩
theorem tw11476824425146235465:True:=⟨⟩
theorem tw1421027563642780147:True:=⟨⟩
theorem tw4312654827573421654:True:=⟨⟩
theorem tw12013311681752545790:True:=⟨⟩
theorem tw10156199364987296867:True:=⟨⟩
theorem tw11164804698293421660:True:=⟨⟩
theorem tw17918592998851817432:True:=⟨⟩
theorem tw1821700595814183152:True:=⟨⟩
theorem tw1323608367486121065:True:=⟨⟩
theorem tw726194371608550970:True:=⟨⟩
theorem tw5723963040915622940:True:=⟨⟩
theorem tw11870099748239221175:True:=⟨⟩
theorem tw8308621477983420248:True:=⟨⟩
theorem tw11119784867293753447:True:=⟨⟩
theorem tw9380737765903797342:True:=⟨⟩
theorem tw3150049719427758376:True:=⟨⟩
theorem tw7516724948867438634:True:=⟨⟩
theorem tw1840605716603799463:True:=⟨⟩
theorem tw10932476773939560764:True:=⟨⟩
theorem tw7923479762210406953:True:=⟨⟩
theorem tw3753567590877425851:True:=⟨⟩
theorem tw3404879830503344817:True:=⟨⟩
theorem tw13876731529774035969:True:=⟨⟩
theorem tw6221555390642075784:True:=⟨⟩
theorem tw14749224399317961029:True:=⟨⟩
theorem tw17599519782433466492:True:=⟨⟩
theorem tw7916829057064665170:True:=⟨⟩
theorem tw10801012151653304902:True:=⟨⟩
theorem tw2240860411910042674:True:=⟨⟩
theorem tw17428722979909362599:True:=⟨⟩
theorem tw3400871775657051454:True:=⟨⟩
theorem tw16497378326540644786:True:=⟨⟩
theorem tw449953032523844164:True:=⟨⟩
theorem tw5818372769676062357:True:=⟨⟩
theorem tw7151106500229051599:True:=⟨⟩
theorem tw804359492385523070:True:=⟨⟩
theorem tw18093511303107699094:True:=⟨⟩
theorem tw4400929107513439817:True:=⟨⟩
theorem tw9239370320204128024:True:=⟨⟩
theorem tw13968063797966826426:True:=⟨⟩
theorem tw15625985328978488088:True:=⟨⟩
theorem tw13103503688403352806:True:=⟨⟩
theorem tw14188456150185434349:True:=⟨⟩
theorem tw6049954055926312825:True:=⟨⟩
theorem tw5567133503112067612:True:=⟨⟩
theorem tw13332385873480706881:True:=⟨⟩
theorem tw16082376564702386512:True:=⟨⟩
theorem tw7394632157221635991:True:=⟨⟩
theorem tw2605348386334093444:True:=⟨⟩
theorem tw1594209797099453513:True:=⟨⟩
theorem tw7534745255505390779:True:=⟨⟩
theorem tw9491863024571486913:True:=⟨⟩
theorem tw5785016490105483709:True:=⟨⟩
theorem tw12416532750246529523:True:=⟨⟩
theorem tw15573510429966502554:True:=⟨⟩
theorem tw867812873298989100:True:=⟨⟩
theorem tw12501273349919530280:True:=⟨⟩
theorem tw9887727493817521877:True:=⟨⟩
theorem tw10348271346014786085:True:=⟨⟩
theorem tw3539069865869293294:True:=⟨⟩
theorem tw14280239434545723412:True:=⟨⟩
theorem tw4035098356899302243:True:=⟨⟩
theorem tw15681249169033675186:True:=⟨⟩
theorem tw7959688748246391736:True:=⟨⟩
theorem tw3591762190503596933:True:=⟨⟩
theorem tw13432478504588111796:True:=⟨⟩
theorem tw3306136275302255803:True:=⟨⟩
theorem tw17703219482997021262:True:=⟨⟩
theorem tw6263654074552212061:True:=⟨⟩
theorem tw14377592718110767263:True:=⟨⟩
theorem tw13722130160156268673:True:=⟨⟩
theorem tw14923647044082794243:True:=⟨⟩
theorem tw8901361187844482173:True:=⟨⟩
theorem tw2428687558510199403:True:=⟨⟩
theorem tw8869607981379403186:True:=⟨⟩
theorem tw5860127448115546640:True:=⟨⟩
theorem tw11107919307934397232:True:=⟨⟩
theorem tw7305999043289693412:True:=⟨⟩
theorem tw9971028219374122299:True:=⟨⟩
theorem tw12227868383473205109:True:=⟨⟩
theorem tw16180512328170475363:True:=⟨⟩
theorem tw12773163150623904086:True:=⟨⟩
theorem tw16334541821735162883:True:=⟨⟩
theorem tw5570209183280520379:True:=⟨⟩
theorem tw3785675197156466751:True:=⟨⟩
theorem tw2589354429832999968:True:=⟨⟩
theorem tw13104414735471644831:True:=⟨⟩
theorem tw13289087272215166974:True:=⟨⟩
theorem tw16877208724653281348:True:=⟨⟩
theorem tw7923062831773054460:True:=⟨⟩
theorem tw15065787798087511323:True:=⟨⟩
theorem tw3307306270926687491:True:=⟨⟩
theorem tw6701085282730897261:True:=⟨⟩
theorem tw603909049145170172:True:=⟨⟩
theorem tw4537155706419236875:True:=⟨⟩
theorem tw1974678034126130440:True:=⟨⟩
theorem tw5698430320302471074:True:=⟨⟩
theorem tw3281239669197636523:True:=⟨⟩
theorem tw17980953288149325874:True:=⟨⟩
theorem tw12319107783661963297:True:=⟨⟩
theorem tw5462679747099881840:True:=⟨⟩
theorem tw7962152692482343420:True:=⟨⟩
theorem tw17523378547620598304:True:=⟨⟩
theorem tw14063942070526040538:True:=⟨⟩
theorem tw11953365974616255671:True:=⟨⟩
theorem tw5068460084505306144:True:=⟨⟩
theorem tw1822300105630828103:True:=⟨⟩
theorem tw8960007684599538139:True:=⟨⟩
theorem tw2047131815556012668:True:=⟨⟩
theorem tw8072623831379095462:True:=⟨⟩
theorem tw7961749129428225825:True:=⟨⟩
theorem tw5144656181738328152:True:=⟨⟩
theorem tw11279822934646452082:True:=⟨⟩
theorem tw7083849407671495026:True:=⟨⟩
theorem tw5703980690829552748:True:=⟨⟩
theorem tw3271521659308540033:True:=⟨⟩
theorem tw4084075223037757075:True:=⟨⟩
theorem tw605060833323910894:True:=⟨⟩
theorem tw4992015157824510860:True:=⟨⟩
theorem tw12320747111191099296:True:=⟨⟩
theorem tw15376482014345244034:True:=⟨⟩
theorem tw2341646223460213796:True:=⟨⟩
theorem tw3152572156389898961:True:=⟨⟩
theorem tw17549625855440276281:True:=⟨⟩
theorem tw8566271341658770905:True:=⟨⟩
theorem tw1518295450195863518:True:=⟨⟩
theorem tw15331561975371443897:True:=⟨⟩
theorem tw15886350945067813124:True:=⟨⟩
theorem tw7948112390049750046:True:=⟨⟩
theorem tw7196962132827929693:True:=⟨⟩
theorem tw12364558102928330445:True:=⟨⟩
theorem tw9904000916168714076:True:=⟨⟩
theorem tw9357076767512507411:True:=⟨⟩
theorem tw17988207510620465138:True:=⟨⟩
theorem tw8760407562840326356:True:=⟨⟩
theorem tw126285987326464791:True:=⟨⟩
theorem tw5740734012421041787:True:=⟨⟩
theorem tw4132187551186076856:True:=⟨⟩
theorem tw8671676699875915614:True:=⟨⟩
theorem tw8411071975479523363:True:=⟨⟩
theorem tw15792435466726630311:True:=⟨⟩
theorem tw2818992486059720203:True:=⟨⟩
theorem tw2996268839446220047:True:=⟨⟩
theorem tw9730107822729883288:True:=⟨⟩
theorem tw6156762699849017914:True:=⟨⟩
theorem tw6370676654760612827:True:=⟨⟩
theorem tw10671699920463467778:True:=⟨⟩
theorem tw16449977752391526694:True:=⟨⟩
theorem tw13870141625974264286:True:=⟨⟩
theorem tw14965098472451511543:True:=⟨⟩
theorem tw15071033742463932028:True:=⟨⟩
theorem tw547200116036336053:True:=⟨⟩
theorem tw7292392741754618379:True:=⟨⟩
theorem tw8633938483919328829:True:=⟨⟩
theorem tw17991477393203533872:True:=⟨⟩
theorem tw13875455077675463903:True:=⟨⟩
theorem tw1631977190188395083:True:=⟨⟩
theorem tw6853455727383104409:True:=⟨⟩
theorem tw9260582424755564352:True:=⟨⟩
theorem tw3375239379644327639:True:=⟨⟩
theorem tw11835435275107215200:True:=⟨⟩
theorem tw10255104265150266061:True:=⟨⟩
theorem tw6924624296218040905:True:=⟨⟩
theorem tw15456731304722578297:True:=⟨⟩
theorem tw17030365952521611314:True:=⟨⟩
theorem tw16050044660132646567:True:=⟨⟩
theorem tw16973017988930433776:True:=⟨⟩
theorem tw6316758424416659632:True:=⟨⟩
theorem tw525650220055184253:True:=⟨⟩
theorem tw6569869560016873398:True:=⟨⟩
theorem tw13704657743310344102:True:=⟨⟩
theorem tw9207623084183518882:True:=⟨⟩
theorem tw15077712323178964462:True:=⟨⟩
theorem tw5625802986316021569:True:=⟨⟩
theorem tw1929212831663146438:True:=⟨⟩
theorem tw1438396255311581081:True:=⟨⟩
theorem tw17808067470006791104:True:=⟨⟩
theorem tw3489526369089170950:True:=⟨⟩
theorem tw1919966477391695982:True:=⟨⟩
theorem tw10431046802524718630:True:=⟨⟩
theorem tw3292593206765407981:True:=⟨⟩
theorem tw3811851759600965300:True:=⟨⟩
theorem tw14214139819556376758:True:=⟨⟩
theorem tw16289438488011247045:True:=⟨⟩
theorem tw6762089432666161376:True:=⟨⟩
theorem tw7208936244294297392:True:=⟨⟩
theorem tw13168594538623762396:True:=⟨⟩
theorem tw10083397073245760427:True:=⟨⟩
theorem tw6404805686944794502:True:=⟨⟩
theorem tw10201786160216504771:True:=⟨⟩
theorem tw12804770016358046018:True:=⟨⟩
theorem tw14955426118179120578:True:=⟨⟩
theorem tw15779958285046565912:True:=⟨⟩
theorem tw16155922380870385737:True:=⟨⟩
theorem tw17714826220164502243:True:=⟨⟩
theorem tw10623789375764147801:True:=⟨⟩
theorem tw4553935547971895144:True:=⟨⟩
theorem tw1354997238145650520:True:=⟨⟩
theorem tw3838816086369057024:True:=⟨⟩
theorem tw11403971084733321563:True:=⟨⟩
theorem tw599809952345884372:True:=⟨⟩
theorem tw14360037598291378262:True:=⟨⟩
theorem tw13601742361649918528:True:=⟨⟩
theorem tw15957963107851331861:True:=⟨⟩
theorem tw14724390599649125033:True:=⟨⟩
theorem tw13619234381652811064:True:=⟨⟩
theorem tw13029848022467423092:True:=⟨⟩
theorem tw6695719146435096740:True:=⟨⟩
theorem tw15493769726972903749:True:=⟨⟩
theorem tw1701713364853457574:True:=⟨⟩
theorem tw12582539577302062889:True:=⟨⟩
theorem tw12138891788608686758:True:=⟨⟩
theorem tw8352304535874244673:True:=⟨⟩
theorem tw9416996412728021985:True:=⟨⟩
theorem tw556841090807290086:True:=⟨⟩
theorem tw9362976027408325153:True:=⟨⟩
theorem tw13533092190305801469:True:=⟨⟩
theorem tw9846859460130122757:True:=⟨⟩
theorem tw8519434543576190463:True:=⟨⟩
theorem tw13017218787718462192:True:=⟨⟩
theorem tw9374422900411678533:True:=⟨⟩
theorem tw866616082400432041:True:=⟨⟩
theorem tw12310198589800714802:True:=⟨⟩
theorem tw7506504152827851019:True:=⟨⟩
theorem tw4894044643948132594:True:=⟨⟩
theorem tw8790158179744125881:True:=⟨⟩
theorem tw11994744756261586233:True:=⟨⟩
theorem tw16281485284538604635:True:=⟨⟩
theorem tw10274568597228664702:True:=⟨⟩
theorem tw11034614913481386933:True:=⟨⟩
theorem tw3891655081282788255:True:=⟨⟩
theorem tw619232064866530763:True:=⟨⟩
theorem tw7427693827594564370:True:=⟨⟩
theorem tw4876078432196321915:True:=⟨⟩
theorem tw2366922522810889101:True:=⟨⟩
theorem tw14834483508093903351:True:=⟨⟩
theorem tw10072486398789606291:True:=⟨⟩
theorem tw1403854084920615624:True:=⟨⟩
theorem tw12319699782679154182:True:=⟨⟩
theorem tw3250459648098014477:True:=⟨⟩
theorem tw6973545404199843569:True:=⟨⟩
theorem tw6206430976854525341:True:=⟨⟩
theorem tw5654671996814411076:True:=⟨⟩
theorem tw6491628366546659217:True:=⟨⟩
theorem tw3976309641926641810:True:=⟨⟩
theorem tw10411474631156921701:True:=⟨⟩
theorem tw3291976289831951875:True:=⟨⟩
theorem tw10342022902712101919:True:=⟨⟩
theorem tw10334772224367455418:True:=⟨⟩
theorem tw5709941242019956623:True:=⟨⟩
theorem tw17488100585669033115:True:=⟨⟩
theorem tw14634925829468163297:True:=⟨⟩
theorem tw12959063510943998036:True:=⟨⟩
theorem tw14320781218842769855:True:=⟨⟩
theorem tw14315585018058484400:True:=⟨⟩
theorem tw6876961046630239620:True:=⟨⟩
theorem tw1131203529427823451:True:=⟨⟩
theorem tw1599689364136384708:True:=⟨⟩
theorem tw15998964440012553871:True:=⟨⟩
theorem tw5874083131678984854:True:=⟨⟩
theorem tw3586300834536944753:True:=⟨⟩
theorem tw10866102193996640136:True:=⟨⟩
theorem tw17631416037821956756:True:=⟨⟩
theorem tw437591163201691596:True:=⟨⟩
theorem tw4280669884999517799:True:=⟨⟩
theorem tw4535622315625459066:True:=⟨⟩
theorem tw17942825354367649724:True:=⟨⟩
theorem tw14474495723836247535:True:=⟨⟩
theorem tw1401223526714169572:True:=⟨⟩
theorem tw4989183472017975780:True:=⟨⟩
theorem tw15327675116007679498:True:=⟨⟩
theorem tw10582995845360511569:True:=⟨⟩
theorem tw16174493727241046181:True:=⟨⟩
theorem tw1799358595307715765:True:=⟨⟩
theorem tw17016671054097755261:True:=⟨⟩
theorem tw12707310324035617705:True:=⟨⟩
theorem tw11416812588787856400:True:=⟨⟩
theorem tw18023218508452549167:True:=⟨⟩
theorem tw5921161050781878769:True:=⟨⟩
theorem tw8220033604438552272:True:=⟨⟩
theorem tw753583605779948280:True:=⟨⟩
theorem tw12040470600877130819:True:=⟨⟩
theorem tw6294341651834916806:True:=⟨⟩
theorem tw13122333663274370926:True:=⟨⟩
theorem tw17742672474579901775:True:=⟨⟩
theorem tw7353694287932578036:True:=⟨⟩
theorem tw17976714831410915808:True:=⟨⟩
theorem tw3594467755098304584:True:=⟨⟩
theorem tw7123373409831443802:True:=⟨⟩
theorem tw8428012253692672285:True:=⟨⟩
theorem tw10011324468002709818:True:=⟨⟩
theorem tw10555247200553475789:True:=⟨⟩
theorem tw11653861131366337288:True:=⟨⟩
theorem tw3047104928043709421:True:=⟨⟩
theorem tw5303940572829429538:True:=⟨⟩
theorem tw8669794856559065754:True:=⟨⟩
theorem tw14899322488800270362:True:=⟨⟩
theorem tw8519839414075720326:True:=⟨⟩
theorem tw6699613998705256438:True:=⟨⟩
theorem tw14561591115295496034:True:=⟨⟩
theorem tw4804280670080020471:True:=⟨⟩
theorem tw8477913961152377351:True:=⟨⟩
theorem tw18441057326086082157:True:=⟨⟩
theorem tw4199681058834910402:True:=⟨⟩
theorem tw16185091071298734105:True:=⟨⟩
theorem tw2192553495930502809:True:=⟨⟩
theorem tw5462368788822524897:True:=⟨⟩
theorem tw5302538679872861447:True:=⟨⟩
theorem tw11132449623642097840:True:=⟨⟩
theorem tw357566529926520158:True:=⟨⟩
theorem tw16720339922965194562:True:=⟨⟩
theorem tw7026416736818399038:True:=⟨⟩
theorem tw1627309191450193215:True:=⟨⟩
theorem tw12120955149191842032:True:=⟨⟩
theorem tw10219854692949774226:True:=⟨⟩
theorem tw17364151542273333613:True:=⟨⟩
theorem tw552043676265584439:True:=⟨⟩
theorem tw14179892297789510645:True:=⟨⟩
theorem tw17230219237269199191:True:=⟨⟩
theorem tw17432204530183962905:True:=⟨⟩
theorem tw5351560476970060120:True:=⟨⟩
theorem tw13878927798523700205:True:=⟨⟩
theorem tw16091362937458302891:True:=⟨⟩
theorem tw14399012382313649659:True:=⟨⟩
theorem tw2795661681080219490:True:=⟨⟩
theorem tw8141305731227647882:True:=⟨⟩
theorem tw6762664814894005319:True:=⟨⟩
theorem tw6945417891387350214:True:=⟨⟩
theorem tw10358841632246234508:True:=⟨⟩
theorem tw14432424544464862546:True:=⟨⟩
theorem tw17136084603173896504:True:=⟨⟩
theorem tw15588774364527187424:True:=⟨⟩
theorem tw875313492601239295:True:=⟨⟩
theorem tw2288159929658421029:True:=⟨⟩
theorem tw49591904694874559:True:=⟨⟩
theorem tw18288445496495995457:True:=⟨⟩
theorem tw1110508655502724890:True:=⟨⟩
theorem tw1601987679269083191:True:=⟨⟩
theorem tw5073373387108921745:True:=⟨⟩
theorem tw497351558832731660:True:=⟨⟩
theorem tw12609280241907389912:True:=⟨⟩
theorem tw1305756630973974375:True:=⟨⟩
theorem tw511696552724363785:True:=⟨⟩
end PySem.W.Fast
set_option maxRecDepth 100000 in
set_option maxHeartbeats 0 in
theorem PySem.Challenge.cw_unsaybook_k32_whole_any_words_read_holds : PySem.Challenge.rw_unsaybook_k32_whole_any_words_read.Holds := by
 w_on;o_law;k_head;(case hw=>w_witness2)
 k_fill
 refine' Mine.walk (l:=PySem.Challenge.rw_unsaybook_k32_whole_any_words_read) rfl rfl (λw h Y=>PySem.W.kIn_of Y) ?F
 case F=>
  intro w mg fa h KX G hmg
  refine' Mine.all_mk KX G hmg ?amR ?amCQ ?amCB ?amc1 ?amc2 ?amc3 ?amc4 ?amc5 ?amc6 ?amc7 ?amc8 ?a1 (L2.fun_mk ?l1 ?e1 ?k1) ?a2 (L2.fun_mk ?l2 ?e2 ?k2) ?a3 (L2.fun_mk ?l3 ?e3 ?k3) ?a4 (L2.fun_mk ?l4 ?e4 ?k4) ?a5 (L2.fun_mk ?l5 ?e5 ?k5) ?a6 (L2.fun_mk ?l6 ?e6 ?k6) ?a7 (L2.fun_mk ?l7 ?e7 ?k7) ?a8 (L2.fun_mk ?l8 ?e8 ?k8) ?a9 (L2.fun_mk ?l9 ?e9 ?k9) ?a10 (L2.fun_mk ?l10 ?e10 ?k10) ?a11 (L2.fun_mk ?l11 ?e11 ?k11) ?a12 (L2.fun_mk ?l12 ?e12 ?k12) ?a13 (L2.fun_mk ?l13 ?e13 ?k13) ?a14 (L2.fun_mk ?l14 ?e14 ?k14) ?a15 (L2.fun_mk ?l15 ?e15 ?k15) ?a16 (L2.fun_mk ?l16 ?e16 ?k16) ?a17 (L2.fun_mk ?l17 ?e17 ?k17) ?a18 (L2.fun_mk ?l18 ?e18 ?k18) ?a19 (L2.fun_mk ?l19 ?e19 ?k19) ?a20 (L2.fun_mk ?l20 ?e20 ?k20) ?a21 (L2.fun_mk ?l21 ?e21 ?k21) ?a22 (L2.fun_mk ?l22 ?e22 ?k22) ?a23 (L2.fun_mk ?l23 ?e23 ?k23) ?a24 (L2.fun_mk ?l24 ?e24 ?k24) ?a25 ?i25 (L2.fun_mk ?l25 ?e25 ?k25) ?a26 (L2.fun_mk ?l26 ?e26 ?k26) ?a27 ?i27 (L2.fun_mk ?l27 ?e27 ?k27) ?a28 (L2.fun_mk ?l28 ?e28 ?k28) ?a29 (L2.fun_mk ?l29 ?e29 ?k29) ?a30 ?i30 (L2.fun_mk ?l30 ?e30 ?k30) ?a31 ?i31 (L2.fun_mk ?l31 ?e31 ?k31) ?a32 ?i32 (L2.fun_mk ?l32 ?e32 ?k32) ?a33 ?i33 (L2.fun_mk ?l33 ?e33 ?k33) ?a34 ?i34 (L2.fun_mk ?l34 ?e34 ?k34) ?a35 (L2.fun_mk ?l35 ?e35 ?k35) ?a36 (L2.fun_mk ?l36 ?e36 ?k36) ?a37 ?i37 (L2.fun_mk ?l37 ?e37 ?k37) ?a38 (L2.fun_mk ?l38 ?e38 ?k38) ?a39 (L2.fun_mk ?l39 ?e39 ?k39) ?a40 (L2.fun_mk ?l40 ?e40 ?k40) ?a41 ?i41 (L2.fun_mk ?l41 ?e41 ?k41) ?a42 ?i42 (L2.fun_mk ?l42 ?e42 ?k42) ?a43 ?i43 (L2.fun_mk ?l43 ?e43 ?k43) ?a44 ?i44 (L2.fun_mk ?l44 ?e44 ?k44) ?a45 (L2.fun_mk ?l45 ?e45 ?k45) ?a46 ?i46 (L2.fun_mk ?l46 ?e46 ?k46) ?a47 ?i47 (L2.fun_mk ?l47 ?e47 ?k47) ?a48 ?i48 (L2.fun_mk ?l48 ?e48 ?k48) ?a49 ?i49 (L2.fun_mk ?l49 ?e49 ?k49) ?a50 ?i50 (L2.fun_mk ?l50 ?e50 ?k50) ?a51 ?i51 (L2.fun_mk ?l51 ?e51 ?k51) ?a52 ?i52 (L2.fun_mk ?l52 ?e52 ?k52) ?a53 ?i53 (L2.fun_mk ?l53 ?e53 ?k53) ?a54 ?i54 (L2.fun_mk ?l54 ?e54 ?k54) ?a55 ?i55 (L2.fun_mk ?l55 ?e55 ?k55) ?a56 ?i56 (L2.fun_mk ?l56 ?e56 ?k56) ?a57 ?i57 (L2.fun_mk ?l57 ?e57 ?k57) ?a58 ?i58 (L2.fun_mk ?l58 ?e58 ?k58) ?mkR ?kpR ?mkc1 ?kpc1 ?mkc2 ?kpc2 ?mkc3 ?kpc3 ?mkc4 ?kpc4 ?mkc5 ?kpc5 ?mkc6 ?kpc6 ?mkc7 ?kpc7 ?mkc8 ?kpc8 ⟨⟨?pg,?hd,?po,?sa⟩,?nn1,?nn2,?nn3⟩ ?g1CQ ?g2CQ ?g3CQ ?g1CB ?g2CB ?g3CB ?tyn ?tyk ?qb1 ?qb2 ?qb3 ?qb4 ?qb5 ?qb6 ?qb7 ?qb8 ?tn1 ?tb1 ?tn2 ?tb2 ?tn3 ?tb3 ?tn4 ?tb4 ?aU ?aN ?aB ⟨?cxB,?xaB,?xbB,?xcB,?xdB,?xeB,?xfB,?xgB⟩ ?iaB ?iiB (L2.fun_mk ?ilB ?idB ?ikB) ?nfB ?hU ?kB ?kV_ ?kN ?zVE ?q1 ?q2 ?q3 ?q4 ?q5 ?q6 ?q7 ?q8 ?q9 ?z1 ?z2 ?z3 ?z4 ?z5 ?z6 ?z7 ?z8 ?z9 ?z10 ?z11 ?z12 ?z13 ?z14 ?z15 ?z16 ?z17
  case amR | amCQ | amCB | amc1 | amc2 | amc3 | amc4 | amc5 | amc6 | amc7 | amc8 | a1 | l1 | e1 | k1 | a2 | l2 | e2 | k2 | a3 | l3 | e3 | k3 | a4 | l4 | e4 | k4 | a5 | l5 | e5 | k5 | a6 | l6 | e6 | k6 | a7 | l7 | e7 | k7 | a8 | l8 | e8 | k8 | a9 | l9 | e9 | k9 | a10 | l10 | e10 | k10 | a11 | l11 | e11 | k11 | a12 | l12 | e12 | k12 | a13 | l13 | e13 | k13 | a14 | l14 | e14 | k14 | a15 | l15 | e15 | k15 | a16 | l16 | e16 | k16 | a17 | l17 | e17 | k17 | a18 | l18 | e18 | k18 | a19 | l19 | e19 | k19 | a20 | l20 | e20 | k20 | a21 | l21 | e21 | k21 | a22 | l22 | e22 | k22 | a23 | l23 | e23 | k23 | a24 | l24 | e24 | k24 | a25 | i25 | l25 | e25 | k25 | a26 | l26 | e26 | k26 | a27 | i27 | l27 | e27 | k27 | a28 | l28 | e28 | k28 | a29 | l29 | e29 | k29 | a30 | i30 | l30 | e30 | k30 | a31 | i31 | l31 | e31 | k31 | a32 | i32 | l32 | e32 | k32 | a33 | i33 | l33 | e33 | k33 | a34 | i34 | l34 | e34 | k34 | a35 | l35 | e35 | k35 | a36 | l36 | e36 | k36 | a37 | i37 | l37 | e37 | k37 | a38 | l38 | e38 | k38 | a39 | l39 | e39 | k39 | a40 | l40 | e40 | k40 | a41 | i41 | l41 | e41 | k41 | a42 | i42 | l42 | e42 | k42 | a43 | i43 | l43 | e43 | k43 | a44 | i44 | l44 | e44 | k44 | a45 | l45 | e45 | k45 | a46 | i46 | l46 | e46 | k46 | a47 | i47 | l47 | e47 | k47 | a48 | i48 | l48 | e48 | k48 | a49 | i49 | l49 | e49 | k49 | a50 | i50 | l50 | e50 | k50 | a51 | i51 | l51 | e51 | k51 | a52 | i52 | l52 | e52 | k52 | a53 | i53 | l53 | e53 | k53 | a54 | i54 | l54 | e54 | k54 | a55 | i55 | l55 | e55 | k55 | a56 | i56 | l56 | e56 | k56 | a57 | i57 | l57 | e57 | k57 | a58 | i58 | l58 | e58 | k58 | mkR | kpR | mkc1 | kpc1 | mkc2 | kpc2 | mkc3 | kpc3 | mkc4 | kpc4 | mkc5 | kpc5 | mkc6 | kpc6 | mkc7 | kpc7 | mkc8 | kpc8 | pg | hd | po | sa | nn1 | nn2 | nn3 | g1CQ | g2CQ | g3CQ | g1CB | g2CB | g3CB | tyn | tyk | tn1 | tn2 | tn3 | tn4 | q1 | q2 | q3 | q4 | q5 | q6 | q7 | q8 | q9 | z1 | z2 | z3 | z4 | z5 | z6 | z7 | z8 | z9 | z10 | z11 | z12 | z13 | z14 | z15 | z16 | z17 | aU | aN | aB | xaB | xbB | xcB | xdB | xeB | xfB | xgB | iaB | iiB | ilB | idB | ikB | nfB | zVE=>first | k_is | (unfold L2.NoAttr;k_is)
  case qb1 | qb2 | qb3 | qb4 | qb5 | qb6 | qb7 | qb8 | tb1 | tb2 | tb3 | tb4 | cxB | hU | kB | kV_ | kN=>first | kernel_rfl | k_is
