import PyProof.Rows.All
import Wide.All
import OpenK.AllK
import Wide.FinOn
import Lean
import PyProof.EqAt
import PyProof.EqKinds
import PyProof.TupleCall
import PySem.Challenge.RW_unsaybook_k12_deeds_refused
set_option Elab.async false
set_option linter.all false
set_option maxRecDepth 100000
namespace L2
open PySem PySem.Spec PyProof.Rows
abbrev Key:=Sum Int Str
noncomputable def kM:Key->Value->Bool
 | .inl k,v=>Value.isInt k v
 | .inr x,v=>Value.isStrOf x v
noncomputable def Ce (w:World):Key->Int
 | .inl k=>hashInt k
 | .inr x=>hashStr w x
theorem keyIs_shape:∀{k:Key}{v:Value},kM k v=true->(∃i t,k=Sum.inl i/\v=Value.int i t)\/(∃x t,k=Sum.inr x/\v=Value.str x t)
 | .inl i,v,h=>by
  obtain⟨t,e⟩:=Value.isInt_shape (k:=i) (v:=v) h
  exact .inl ⟨i,t,rfl,e⟩
 | .inr x,v,h=>by
  obtain⟨t,e⟩:=Value.isStrOf_shape (x:=x) (v:=v) h
  exact .inr ⟨x,t,rfl,e⟩
theorem ug (i:Int) (t:Tok):kM (.inl i) (.int i t)=true:=by simp [kM,Value.isInt]
theorem uf (x:Str) (t:Tok):kM (.inr x) (.str x t)=true:=by simp [kM,Value.isStrOf]
theorem Ax (a b:Int):decide ((Sum.inl a:Key)=Sum.inl b)=(a == b):=by
 by_cases e:a=b
 ·subst e;simp
 ·have h:¬(Sum.inl a:Key)=Sum.inl b:=λq=>e (Sum.inl.inj q)
  rw [decide_eq_false h]
  exact(beq_eq_false_iff_ne.mpr e).symm
theorem Au (a b:Str):decide ((Sum.inr a:Key)=Sum.inr b)=decide (a=b):=by
 by_cases e:a=b
 ·subst e;simp
 ·have h:¬(Sum.inr a:Key)=Sum.inr b:=λq=>e (Sum.inr.inj q)
  rw [decide_eq_false h,decide_eq_false e]
theorem Aw (a:Int) (b:Str):decide ((Sum.inl a:Key)=Sum.inr b)=false:=decide_eq_false (λq=>nomatch q)
theorem Av (a:Str) (b:Int):decide ((Sum.inr a:Key)=Sum.inl b)=false:=decide_eq_false (λq=>nomatch q)
noncomputable def bo (prog:Program) (w:World):PySem.KeyKind prog w Key where
 is:=kM
 hash:=Ce w
 inj:=λv a b ha hb=>by
  rcases keyIs_shape ha with⟨i,t,rfl,rfl⟩ | ⟨x,t,rfl,rfl⟩
  ·rcases keyIs_shape hb with⟨j,u,rfl,e⟩ | ⟨y,u,rfl,e⟩
   ·injection e with e1 _;rw [e1]
   ·exact nomatch e
  ·rcases keyIs_shape hb with⟨j,u,rfl,e⟩ | ⟨y,u,rfl,e⟩
   ·exact nomatch e
   ·injection e with e1 _;rw [e1]
 byValue:=λk v h=>by
  rcases keyIs_shape h with⟨i,t,rfl,rfl⟩ | ⟨x,t,rfl,rfl⟩ <;> rfl
 pyHash:=λhv h=>by
  rcases keyIs_shape hv with⟨i,t,rfl,rfl⟩ | ⟨x,t,rfl,rfl⟩
  ·exact wpAny_pyHash_int h
  ·exact wpAny_pyHash_str h
 eqBool:=λhu hv h=>by
  rcases keyIs_shape hu with⟨i,t,rfl,rfl⟩ | ⟨x,t,rfl,rfl⟩
  ·rcases keyIs_shape hv with⟨j,u,rfl,rfl⟩ | ⟨y,u,rfl,rfl⟩
   ·rw [Ax]at h;exact wpAny_eqBool_int h
   ·rw [Aw]at h;exact SeqAt.EqAt.int_str i t y u _ _ _ _ h
  ·rcases keyIs_shape hv with⟨j,u,rfl,rfl⟩ | ⟨y,u,rfl,rfl⟩
   ·rw [Av]at h;exact SeqAt.EqAt.str_int x t j u _ _ _ _ h
   ·rw [Au]at h;exact wpAny_eqBool_str h
 «strs»:=λk x t v h=>by
  rcases keyIs_shape h with⟨i,u,rfl,e⟩ | ⟨y,u,rfl,e⟩
  ·exact nomatch e
  ·injection e with e1 _
   subst e1
   cases v <;> rfl
theorem pC (prog:Program) (w:World) (i:Int) (t:Tok):(bo prog w).is (.inl i) (.int i t)=true:=ug i t
theorem pB (prog:Program) (w:World) (x:Str) (t:Tok):(bo prog w).is (.inr x) (.str x t)=true:=uf x t
end L2
namespace L2
open PySem PySem.Spec PyProof.Rows
inductive V where
 | non | bl (b:Bool) | int (i:Int) | str (x:Str) | byt (b:Array UInt8) | flt (b:UInt64) | ref (a:Addr) | ty (n:String)
 deriving DecidableEq
def bh:V->Value->Prop
 | .non,u=>u=Value.none
 | .bl b,u=>u=Value.bool b
 | .int i,u=>∃t,u=Value.int i t
 | .str x,u=>∃t,u=Value.str x t
 | .byt b,u=>∃t,u=Value.bytes b t
 | .flt b,u=>∃t,u=Value.float b t
 | .ref a,u=>u=Value.ref a
 | .ty n,u=>u=Value.type n
abbrev aP:List V->List Value->Prop:=Paired bh
theorem aP.length {xs:List V}{us:List Value} (r:aP xs us):xs.length=us.length:=Paired.length r
theorem aP.get:∀{xs:List V}{us:List Value}{i:Nat}{x:V},aP xs us->xs[i]?=some x->∃u,us[i]?=some u/\bh x u
 | _,_,_,_,.nil,e=>by simp at e
 | _,_,0,_,.cons r _,e=>by simp at e;subst e;exact⟨_,rfl,r⟩
 | _,_,i+1,x,.cons _ t,e=>by
  obtain⟨u,h1,h2⟩:=aP.get (i:=i) (x:=x) t (by simpa using e)
  exact⟨u,by simpa using h1,h2⟩
theorem aP.set {x:V}{u:Value} (r:bh x u):∀{xs:List V}{us:List Value} (i:Nat),aP xs us->aP (xs.set i x) (us.set i u)
 | _,_,_,.nil=>.nil
 | _,_,0,.cons _ t=>.cons r t
 | _,_,i+1,.cons q t=>.cons q (aP.set r i t)
theorem aP.append:∀{xs ys:List V}{us ws:List Value},aP xs us->aP ys ws->aP (xs++ys) (us++ws)
 | _,_,_,_,.nil,s=>s
 | _,_,_,_,.cons r t,s=>.cons r (aP.append t s)
theorem aP.take:∀{xs:List V}{us:List Value} (n:Nat),aP xs us->aP (xs.take n) (us.take n)
 | _,_,0,_=>.nil
 | _,_,_+1,.nil=>.nil
 | _,_,n+1,.cons r t=>.cons r (aP.take n t)
theorem aP.drop:∀{xs:List V}{us:List Value} (n:Nat),aP xs us->aP (xs.drop n) (us.drop n)
 | _,_,0,r=>r
 | _,_,_+1,.nil=>.nil
 | _,_,n+1,.cons _ t=>aP.drop n t
def eJ:Option V->Option Value->Prop
 | some v,some u=>bh v u
 | none,none=>True
 | _,_=>False
def KV {κ:Type}:List (κ × V)->List (κ × Value)->Prop:=Paired λ(p:κ × V) (q:κ × Value)=>p.1=q.1/\bh p.2 q.2
noncomputable def kV:Key->V
 | .inl i=>.int i
 | .inr x=>.str x
inductive HO where
 /-- a list -/
 | lst (xs:List V)
 /-- a tuple (never changes) -/
 | tup (xs:List V)
 /-- a dict whose keys are ints and texts;one whose keys are tuples of ints and texts (the empty one is both) -/
 | dK (kvs:List (Key × V)) | dT (kvs:List (List Key × V))
 /-- a set of ints: its members,its size -/
 | set (S:Int->Bool) (n:Nat)
 /-- an instance of the class at C,its dict at dx,its attributes -/
 | ins (C dx:Addr) (fs:List (Str × V))
 /-- the dict of the instance at x -/
 | own (x:Addr)
 /-- the dict of an exception -/
 | xd (fs:List (Str × V))
 /-- a bound method,f of x -/
 | met (f x:Addr)
 /-- a range object lo,lo+1,.. below hi -/
 | rng (lo hi:Int)
 /-- a thing that is known to the object (the script;a dict while a loop walks it): read,never written while it is so -/
 | frz (o:Obj) (u:HO)
 /-- a code object's table -/
 | tbl (ps:Array Value)
 /-- any other thing,by what is true of its one object (a def of one's own: SetO a S n:=HO.ext λh=>..) -/
 | ext (φ:Heap->Prop)
abbrev Hp:=Addr->Option HO
noncomputable def upd (H:Hp) (a:Addr) (o:HO):Hp:=λb=>if b=a then some o else H b
theorem ag {H:Hp}{a:Addr}{o:HO}:upd H a o a=some o:=by unfold upd;rw [if_pos rfl]
theorem aj {H:Hp}{a b:Addr}{o:HO} (h:b≠a):upd H a o b=H b:=by unfold upd;rw [if_neg h]
theorem ix {H:Hp}{a:Addr}{o u:HO}:upd (upd H a o) a u=upd H a u:=by
 funext b;unfold upd;split <;> rfl
theorem aS {H:Hp}{a b:Addr}{o u:HO} (h:H a=some o) (h':H b=some u) (d:o≠u):a≠b:=by
 intro e;subst e;rw [h]at h';exact d (Option.some.inj h')
theorem al {H:Hp}{a b:Addr}{o:HO} (h:H a=some o) (h':H b=none):a≠b:=by
 intro e;subst e;rw [h]at h';cases h'
section
variable (P:Program) (w:World)
def bw (H:Hp) (h:Heap) (a:Addr):HO->Prop
 | .lst xs=>xs.length<=sizeLine/\∃(its:List Value) (n:Nat),aP xs its/\h.get? a=some { cls:=.type "list", data:=.seq its.toArray n }
 | .tup xs=>xs.length<=sizeLine/\∃its:List Value,aP xs its/\IsTup h a its.toArray
 | .dK kvs=>kvs.length<=sizeLine/\(a == sysModules)=false/\∃vs,KV kvs vs/\h.DictOf (bo P w) a vs
 | .dT kvs=>kvs.length<=sizeLine/\(a == sysModules)=false/\∃xs:List (List Key × Addr × Value),
   Paired (λ(p:List Key × V) (q:List Key × Addr × Value)=>p.1=q.1/\H q.2.1=some (.tup (p.1.map kV))/\bh p.2 q.2.2) kvs xs/\
   ∃o es ep,h.get? a=some o/\o.ExactDict/\o.data=.dict es ep/\es.toList=xs.map (entryOfKey (tupleKind (bo P w)))/\(xs.map (·.1)).Nodup
 | .set S n=>h.SetOf (intKind P w) a S n
 | .ins C dx fs=>H dx=some (.own a)/\fs.length<=1000/\dx≠a/\h.get? a=some (PySem.W.instObj C dx)/\
   ∃mA,h.Ns1 dx mA/\(∀f,eJ (fs.lookup f) (mA f))/\PySem.Within mA (fs.map (·.1))
 | .own _=>∃o,h.get? a=some o
 | .xd fs=>∃mA,h.Ns1 a mA/\∀f,eJ (fs.lookup f) (mA f)
 | .rng lo hi=>∃t u v,h.get? a=some { cls:=.type "range", data:=.fields #[.int lo t,.int hi u,.int 1 v] }
 | .frz o u=>h.get? a=some o/\bw H h a u
 | .tbl ps=>h.get? a=some { cls:=.none,data:=.fields ps }
 | .met f x=>h.get? a=some (PySem.W.methodObj (.ref f) (.ref x))
 | .ext φ=>φ h/\(∃o,h.get? a=some o)/\∀h1 h2:Heap,φ h1->(∀o,h1.get? a=some o->h2.get? a=some o)->φ h2
def HOk (H:Hp) (h:Heap):Prop:=∀a o,H a=some o->bw P w H h a o
end
section
variable {P:Program}{w:World}{H H':Hp}{h h':Heap}{a:Addr}{o:HO}
theorem bw.lt (x:bw P w H h a o):a < h.objs.size:=by
 cases o with
 | lst xs=>obtain⟨_,_,_,_,e⟩:=x;exact Heap.lt_size e
 | tup xs=>obtain⟨_,_,_,p⟩:=x;exact p.lt
 | dK kvs=>obtain⟨_,_,_,_,o,_,_,e,_⟩:=x;exact Heap.lt_size e
 | dT kvs=>obtain⟨_,_,_,_,o,_,_,e,_⟩:=x;exact Heap.lt_size e
 | set S n=>obtain⟨o,_,_,_,e,_⟩:=x;exact Heap.lt_size e
 | ins C dx fs=>obtain⟨_,_,_,e,_⟩:=x;exact Heap.lt_size e
 | own y=>obtain⟨_,e⟩:=x;exact Heap.lt_size e
 | xd fs=>obtain⟨_,⟨_,_,_,e,_⟩,_⟩:=x;exact Heap.lt_size e
 | rng lo hi=>obtain⟨_,_,_,e⟩:=x;exact Heap.lt_size e
 | frz ob u=>obtain⟨e,_⟩:=x;exact Heap.lt_size e
 | tbl ps=>exact Heap.lt_size (show h.get? a=some _ from x)
 | met f y=>exact Heap.lt_size (show h.get? a=some _ from x)
 | ext φ=>obtain⟨_,⟨_,e⟩,_⟩:=x;exact Heap.lt_size e
theorem Paired.mapP {α β:Type}{F G:α->β->Prop}:∀{l₁:List α}{l₂:List β},Paired F l₁ l₂->(∀a b,F a b->G a b)->Paired G l₁ l₂
 | _,_,.nil,_=>.nil
 | _,_,.cons r t,f=>.cons (f _ _ r) (Paired.mapP t f)
theorem bw.stay (x:bw P w H h a o) (k:∀b u,(b=a\/H b=some (.own a))->h.get? b=some u->h'.get? b=some u)
  (ho:∀b,H b=some (.own a)->H' b=some (.own a)) (ht:∀b xs,H b=some (.tup xs)->H' b=some (.tup xs)):bw P w H' h' a o:=by
 induction o with
 | lst xs=>obtain⟨z,its,n,r,e⟩:=x;exact⟨z,its,n,r,k _ _ (.inl rfl) e⟩
 | tup xs=>obtain⟨z,its,r,ob,e,c⟩:=x;exact⟨z,its,r,ob,k _ _ (.inl rfl) e,c⟩
 | dK kvs=>obtain⟨z,y,vs,r,ob,es,ep,e,c⟩:=x;exact⟨z,y,vs,r,ob,es,ep,k _ _ (.inl rfl) e,c⟩
 | dT kvs=>
  obtain⟨z,y,xs,r,ob,es,ep,e,c⟩:=x
  exact⟨z,y,xs,Paired.mapP r λp q z=>⟨z.1,ht _ _ z.2.1,z.2.2⟩,ob,es,ep,k _ _ (.inl rfl) e,c⟩
 | set S n=>obtain⟨ob,es,ep,t,e,c⟩:=x;exact⟨ob,es,ep,t,k _ _ (.inl rfl) e,c⟩
 | ins C dx fs=>
  obtain⟨d,z,ne,e,mA,⟨od,es,ep,e2,c⟩,r⟩:=x
  exact⟨ho _ d,z,ne,k _ _ (.inl rfl) e,mA,⟨od,es,ep,k _ _ (.inr d) e2,c⟩,r⟩
 | own y=>obtain⟨ob,e⟩:=x;exact⟨ob,k _ _ (.inl rfl) e⟩
 | xd fs=>obtain⟨mA,⟨od,es,ep,e,c⟩,r⟩:=x;exact⟨mA,⟨od,es,ep,k _ _ (.inl rfl) e,c⟩,r⟩
 | rng lo hi=>obtain⟨t,u,v,e⟩:=x;exact⟨t,u,v,k _ _ (.inl rfl) e⟩
 | frz ob u ih=>obtain⟨e,q⟩:=x;exact⟨k _ _ (.inl rfl) e,ih q⟩
 | tbl ps=>
  have e:h.get? a=some { cls:=.none,data:=.fields ps }:=x
  show h'.get? a=some { cls:=.none,data:=.fields ps }
  exact k a _ (.inl rfl) e
 | met f y=>
  have e:h.get? a=some (PySem.W.methodObj (.ref f) (.ref y)):=x
  show h'.get? a=some (PySem.W.methodObj (.ref f) (.ref y))
  exact k a _ (.inl rfl) e
 | ext φ=>obtain⟨p,⟨o,e⟩,st⟩:=x;exact⟨st _ _ p λo q=>k _ _ (.inl rfl) q,⟨o,k _ _ (.inl rfl) e⟩,st⟩
theorem HOk.lt (x:HOk P w H h) (e:H a=some o):a < h.objs.size:=(x a o e).lt
theorem HOk.fresh (x:HOk P w H h) (e:h.objs.size<=a):H a=none:=by
 cases q:H a with
 | none=>rfl
 | some u=>exact absurd (Nat.lt_of_lt_of_le (x.lt q) e) (Nat.lt_irrefl _)
theorem HOk.kept (x:HOk P w H h) (k:∀b u,h.get? b=some u->h'.get? b=some u):HOk P w H h':=λa o e=>
 (x a o e).stay (λb u _ q=>k b u q) (λ_ q=>q) λ_ _ q=>q
theorem HOk.laid (x:HOk P w H h) (k:∀b u,h.get? b=some u->h'.get? b=some u) (hp:h.objs.size<=a) (new:bw P w (upd H a o) h' a o):HOk P w (upd H a o) h':=λb u e=>by
 have hn:=x.fresh hp
 by_cases hb:b=a
 ·subst hb;rw [ag]at e;cases e;exact new
 ·rw [aj hb]at e
  exact(x b u e).stay (λc v _ q=>k c v q) (λc q=>by rw [aj (al q hn)];exact q) λc xs q=>by rw [aj (al q hn)];exact q
end
def Rd (H:Hp) (a:Addr) (u:HO):Prop:=H a=some u\/∃o,H a=some (.frz o u)
theorem Rd.ok {P:Program}{w:World}{H:Hp}{h:Heap}{a:Addr}{u:HO} (r:Rd H a u) (x:HOk P w H h):bw P w H h a u:=by
 rcases r with r | ⟨o,r⟩
 ·exact x a u r
 ·obtain⟨_,q⟩:=x a _ r
  exact q
def Mut:Option HO->Prop
 | some (.lst _)=>True
 | some (.dK _)=>True
 | some (.dT _)=>True
 | some (.set _ _)=>True
 | some (.ins _ _ _)=>True
 | some (.ext _)=>True
 | _=>False
section
variable {P:Program}{w:World}{H:Hp}{h h':Heap}{x e:Addr}{o':HO}
theorem HOk.write (ok:HOk P w H h) (mu:Mut (H x)) (he:e=x\/H e=some (.own x)) (k:∀b u,b≠e->h.get? b=some u->h'.get? b=some u) (heo:∃u,h'.get? e=some u)
  (new:bw P w (upd H x o') h' x o'):HOk P w (upd H x o') h':=λb u q=>by
 have nown:∀c y,H c=some (.own y)->c≠x:=λc y r z=>by subst z;rw [r]at mu;exact mu
 have ntup:∀c xs,H c=some (.tup xs)->c≠x:=λc xs r z=>by subst z;rw [r]at mu;exact mu
 by_cases hb:b=x
 ·subst hb;rw [ag]at q;cases q;exact new
 ·rw [aj hb]at q
  by_cases hbe:b=e
  ·have q':H b=some (.own x):=by
    rcases he with z | z
    ·exact absurd (hbe.trans z) hb
    ·rw [hbe];exact z
   rw [q]at q';cases q'
   obtain⟨v,hv⟩:=heo
   exact⟨v,by rw [hbe];exact hv⟩
  ·refine(ok b u q).stay (λc v hc r=>k c v ?_ r) (λc r=>by rw [aj (nown c b r)];exact r) λc xs r=>by rw [aj (ntup c xs r)];exact r
   rcases hc with rfl | hc
   ·exact hbe
   ·rintro rfl
    rcases he with z | z
    ·exact nown c b hc z
    ·rw [hc]at z;cases z;exact hb rfl
end
structure Un (fs ex:List Addr) (H H':Hp) (h h':Heap):Prop where
 keep:∀b o,h.get? b=some o->H b=none->b∉fs->b∉ex->h'.get? b=some o
 slot:∀b o,h.get? b=some o->H b=none->b∈fs->b∉ex->∃sl,h'.get? b=some { o with slots:=sl }
 free:∀b o,h.get? b=some o->H b=none->b∉ex->H' b=none
 there:∀b o,h.get? b=some o->b∉ex->∃o',h'.get? b=some o'
 tups:∀b xs,H b=some (.tup xs)->H' b=some (.tup xs)
 frzs:∀b o u,H b=some (.frz o u)->H' b=some (.frz o u)
 tbls:∀b ps,H b=some (.tbl ps)->∃more,H' b=some (.tbl (ps++more))
section
variable {fs fs' ex ex':List Addr}{H H1 H2:Hp}{h h1 h2 h':Heap}{a x e:Addr}{o:HO}
theorem Un.any (u:Un fs ex H H1 h h1){b:Addr}{ob:Obj} (q:h.get? b=some ob) (n:H b=none) (hx:b∉ex):∃sl,h1.get? b=some { ob with slots:=sl }:=by
 by_cases hb:b∈fs
 ·exact u.slot b ob q n hb hx
 ·exact⟨ob.slots,u.keep b ob q n hb hx⟩
theorem Un.kept (k:∀b u,h.get? b=some u->h'.get? b=some u):Un fs ex H H h h':=
 ⟨λb ob q _ _ _=>k b ob q,λb ob q _ _ _=>⟨ob.slots,k b ob q⟩,λ_ _ _ n _=>n,λb ob q _=>⟨ob,k b ob q⟩,λ_ _ q=>q,λ_ _ _ q=>q,λ_ ps q=>⟨#[],by rw [q];simp⟩⟩
theorem Un.refl:Un fs ex H H h h:=Un.kept λ_ _ q=>q
theorem Un.laid (k:∀b u,h.get? b=some u->h'.get? b=some u) (hp:h.objs.size<=a) (hn:H a=none):Un fs ex H (upd H a o) h h' where
 keep:=λb u q _ _ _=>k b u q
 slot:=λb u q _ _ _=>⟨u.slots,k b u q⟩
 free:=λb u q n _=>by rw [aj (Nat.ne_of_lt (Nat.lt_of_lt_of_le (Heap.lt_size q) hp))];exact n
 there:=λb u q _=>⟨u,k b u q⟩
 tups:=λb xs q=>by rw [aj (al q hn)];exact q
 frzs:=λb u xs q=>by rw [aj (al q hn)];exact q
 tbls:=λb ps q=>⟨#[],by rw [aj (al q hn),q];simp⟩
theorem Un.write (mu:Mut (H x)) (he:e=x\/H e=some (.own x)) (k:∀b u,b≠e->h.get? b=some u->h'.get? b=some u) (heo:∃u,h'.get? e=some u):Un fs ex H (upd H x o) h h':=by
 have hx:∀b,H b=none->b≠x:=λb n z=>by subst z;rw [n]at mu;exact mu
 have hb:∀b,H b=none->b≠e:=λb n z=>by
  subst z
  rcases he with r | r
  ·exact hx b n r
  ·rw [n]at r;cases r
 have hm:∀b u,H b=some u->¬Mut (some u)->b≠x:=λb u q nm z=>by subst z;rw [q]at mu;exact nm mu
 refine⟨λb u q n _ _=>k b u (hb b n) q,λb u q n _ _=>⟨u.slots,k b u (hb b n) q⟩,λb u q n _=>by rw [aj (hx b n)];exact n,λb u q _=>?_,
  λb xs q=>by rw [aj (hm b _ q λz=>z)];exact q,λb u xs q=>by rw [aj (hm b _ q λz=>z)];exact q,λb ps q=>⟨#[],by rw [aj (hm b _ q λz=>z),q];simp⟩⟩
 by_cases hbe:b=e
 ·subst hbe;exact heo
 ·exact⟨u,k b u hbe q⟩
end
noncomputable def trk (h:Heap) (H:Hp):List Addr:=(List.range h.objs.size).filter λa=>(H a).isSome
noncomputable def kP (h:Heap) (H:Hp):Heap:=PySem.W.hideAll h (trk h H)
theorem uk (h:Heap) (H:Hp):(kP h H).objs.size=h.objs.size:=PySem.W.hideAll_size _ _
theorem x8 {h:Heap}{H:Hp}{b:Addr}{o:Obj} (e:h.get? b=some o) (n:H b=none):(kP h H).get? b=some o:=
 PySem.W.hideAll_get _ e λhm=>by
  have q:(H b).isSome=true:=(List.mem_filter.mp hm).2
  rw [n]at q;simp at q
theorem yv {h:Heap}{H:Hp}{b:Addr}{o:Obj} (e:(kP h H).get? b=some o):h.get? b=some o/\H b=none:=by
 have e':h.get? b=some o:=PySem.W.of_hideAll (trk h H) e
 refine⟨e',?_⟩
 cases q:H b with
 | none=>rfl
 | some x=>
  have hm:b∈trk h H:=List.mem_filter.mpr ⟨List.mem_range.mpr (Heap.lt_size e'),by simp [q]⟩
  have z:(kP h H).get? b=none:=PySem.W.hideAll_none (trk h H) hm
  rw [z]at e;cases e
end L2
namespace L2
open PySem PySem.Spec PyProof.Rows
structure Mod (K:PySem.W.Frag) (mg:Str->Option Value) (base:Heap):Prop where
 kin:K.In base
 glob:base.Ns mainGlobals mg
 blt:∃mb,base.Ns builtinsNs mb/\∀x:Str,x≠"__name__"->mb x=bootBuiltins x
 nolimit:base.NoLimit
structure Cx where
 prog:Program
 w:World
 K:PySem.W.Frag
 mg:Str->Option Value
 base:Heap
 A:Around
 N:List Str
 s₀:Shared
 Hz:Hp
 env:Env
 outer:List Env
 stack:List Env
 ex:List Addr
 fn:Str->Bool
 calm:Bool
 pn:List (Addr × Obj)
 xe:Value->Shared->Prop
noncomputable def frs (l:List Env):List Addr:=l.filterMap (·.frame)
noncomputable abbrev Cx.fs (X:Cx):List Addr:=frs X.outer
def Vis (sc:Scope) (x:Str):Prop:=sc.names.lookup x=some .local\/sc.names.lookup x=some .cell\/sc.names.lookup x=some .free
def Loc (sc:Scope) (x:Str):Prop:=sc.names.lookup x=some .local\/sc.names.lookup x=some .cell
def Co (env:Env) (h:Heap) (m:Str->Option Value) (x:Str) (u:Value):Prop:=
 (env.kindOf x=some .local/\m x=some u)\/((env.kindOf x=some .cell\/env.kindOf x=some .free)/\∃c,env.cells.lookup x=some c/\h.IsCell c (some u))
structure Cx.Ok (X:Cx):Prop where
 mod:Mod X.K X.mg X.base
 kind:X.env.scope.kind=.function
 glob:X.env.globals=mainGlobals
 blt:X.env.builtins=builtinsNs
 above:X.s₀.heap.objs.size<=X.env.locals
 inj:∀x y c,X.env.cells.lookup x=some c->X.env.cells.lookup y=some c->x=y
 has:∀x,(X.env.kindOf x=some .cell\/X.env.kindOf x=some .free)->∃c,X.env.cells.lookup x=some c
 cab:∀x c,X.fn x=true->X.env.cells.lookup x=some c->X.s₀.heap.objs.size<=c
 hd:X.calm=true->X.A.handled=none
 frames:X.A.frames=some X.stack
 stk:X.stack=X.outer\/(X.stack=X.env::X.outer/\X.env.frame=some X.env.locals)
 exf:∀b∈X.ex,b≠X.env.locals/\∀x c,X.env.cells.lookup x=some c->c≠b
 bs:∀b o,X.base.get? b=some o->X.s₀.heap.get? b=some o/\X.Hz b=none
 bsz:X.base.objs.size<=X.s₀.heap.objs.size
 noex:∀b o,X.base.get? b=some o->b∉X.ex
 exfs:∀b∈X.ex,b∉X.fs
 funs:X.s₀.heap.FunFrames X.base X.outer
 frf:∀b∈X.fs,X.Hz b=none
structure Inv (X:Cx) (pins:List (Addr × Obj)) (Y:List (Option V)) (H:Hp) (s:Shared):Prop where
 ok:X.Ok
 os:s.os=X.s₀.os
 bare:AllBare s.gens
 base:Un X.fs X.ex X.Hz H X.s₀.heap s.heap
 loc:∃m,s.heap.Ns X.env.locals m/\∀(i:Nat) (x:Str) (v:V),X.N[i]?=some x->Y[i]?=some (some v)->Vis X.env.scope x->∃u,bh v u/\Co X.env s.heap m x u
 cell:∀x c,X.env.cells.lookup x=some c->∃v,s.heap.IsCell c v
 free:H X.env.locals=none
 freeC:∀x c,X.env.cells.lookup x=some c->H c=none
 pin:∀p∈X.pn++pins,s.heap.get? p.1=some p.2/\H p.1=none/\p.1≠X.env.locals/\p.1∉X.fs/\∀v,p.2.data≠.cell v
 hok:HOk X.prog X.w H s.heap
 len:Y.length=X.N.length
section
variable {X:Cx}{pins:List (Addr × Obj)}{Y:List (Option V)}{H H':Hp}{s:Shared}{h':Heap}
theorem Cx.Ok.nofr (ok:X.Ok){b:Addr}{o:Obj} (e:X.base.get? b=some o):b∉X.fs:=λhb=>by
 have:=(ok.funs.mem hb).1
 rw [e]at this;cases this
theorem Inv.bs (I:Inv X pins Y H s):∀b o,X.base.get? b=some o->s.heap.get? b=some o/\H b=none:=λb o e=>
 ⟨I.base.keep b o (I.ok.bs b o e).1 (I.ok.bs b o e).2 (I.ok.nofr e) (I.ok.noex b o e),I.base.free b o (I.ok.bs b o e).1 (I.ok.bs b o e).2 (I.ok.noex b o e)⟩
theorem Inv.bk (I:Inv X pins Y H s):∀b o,X.base.get? b=some o->s.heap.get? b=some o:=λb o e=>(I.bs b o e).1
theorem Inv.mod (I:Inv X pins Y H s):Mod X.K X.mg X.base:=I.ok.mod
theorem Inv.kIn (I:Inv X pins Y H s):X.K.In s.heap:=I.ok.mod.kin.keeps I.bk
theorem Inv.lt (I:Inv X pins Y H s):X.env.locals < s.heap.objs.size:=let ⟨_,hn,_⟩:=I.loc;hn.lt
theorem Inv.sz (I:Inv X pins Y H s):X.s₀.heap.objs.size<=s.heap.objs.size:=Nat.le_trans I.ok.above (Nat.le_of_lt I.lt)
theorem Inv.nofs (I:Inv X pins Y H s){a:Addr} (h:s.heap.objs.size<=a):a∉X.fs:=λhb=>by
 obtain⟨_,o,ho,_⟩:=I.ok.funs.mem hb
 exact absurd (Nat.lt_of_lt_of_le (Heap.lt_size ho) (Nat.le_trans I.sz h)) (Nat.lt_irrefl _)
theorem Inv.cne (I:Inv X pins Y H s):∀x c,X.env.cells.lookup x=some c->c≠X.env.locals:=λx c e z=>by
 obtain⟨v,o,ho,hd⟩:=I.cell x c e
 obtain⟨m,⟨o',es,ep,ho',hd',_⟩,_⟩:=I.loc
 rw [z,ho']at ho;cases ho;rw [hd']at hd;cases hd
theorem Inv.funs (I:Inv X pins Y H s):s.heap.FunFrames X.base X.outer:=by
 have all:∀(l:List Env),(∀b∈frs l,b∈X.fs)->X.s₀.heap.FunFrames X.base l->s.heap.FunFrames X.base l:=by
  intro l
  induction l with
  | nil=>intro _ _;trivial
  | cons env r ih=>
   intro hs hl
   obtain⟨hk,⟨L,o,hf,hn,ho,hd⟩,hr⟩:=hl
   have hL:L∈X.fs:=hs L (by unfold frs;rw [List.filterMap_cons,hf];exact List.mem_cons_self)
   obtain⟨sl,e⟩:=I.base.slot L o ho (I.ok.frf L hL) hL λz=>I.ok.exfs L z hL
   exact⟨hk,⟨L,_,hf,hn,e,hd⟩,ih (λb hb=>hs b (by unfold frs;rw [List.filterMap_cons,hf];exact List.mem_cons_of_mem _ hb)) hr⟩
 exact all X.outer (λ_ hb=>hb) I.ok.funs
theorem Inv.stack (I:Inv X pins Y H s):s.heap.FunFrames X.base X.stack:=by
 rcases I.ok.stk with e | ⟨e,hf⟩
 ·rw [e];exact I.funs
 ·rw [e]
  obtain⟨m,hn,_⟩:=I.loc
  refine .cons (by rw [I.ok.kind];decide) hf hn ?_ I.funs
  exact Heap.get?_none_of_le (Nat.le_trans I.ok.bsz I.ok.above)
theorem Inv.stkSub (I:Inv X pins Y H s):∀b∈frs X.stack,b∈X.env.locals::X.fs:=λb hb=>by
 rcases I.ok.stk with e | ⟨e,hf⟩
 ·rw [e]at hb;exact List.mem_cons_of_mem _ hb
 ·rw [e]at hb
  unfold frs at hb
  rw [List.filterMap_cons,hf]at hb
  exact hb
theorem Inv.stkFree (I:Inv X pins Y H s):∀b∈frs X.stack,H b=none:=λb hb=>by
 rcases List.mem_cons.mp (I.stkSub b hb) with e | hb
 ·rw [e];exact I.free
 ·obtain⟨_,o,ho,_⟩:=I.ok.funs.mem hb
  exact I.base.free b o ho (I.ok.frf b hb) λz=>I.ok.exfs b z hb
theorem Inv.step {g':Array GenState}{t':Nat}{d':Drawn}{ch:List Addr} (I:Inv X pins Y H s)
  (hch:∀b∈ch,(b∈X.ex\/X.s₀.heap.objs.size<=b)/\b≠X.env.locals/\(∀x c,X.env.cells.lookup x=some c->c≠b)/\∀p∈X.pn++pins,p.1≠b)
  (keep:∀b o,b≠X.env.locals->b∉X.fs->b∉ch->s.heap.get? b=some o->H b=none->h'.get? b=some o)
  (slot:∀b o,b≠X.env.locals->b∈X.fs->b∉ch->s.heap.get? b=some o->H b=none->∃sl,h'.get? b=some { o with slots:=sl }) (free:∀b o,b∉ch->s.heap.get? b=some o->H b=none->H' b=none)
  (there:∀b o,b∉ch->s.heap.get? b=some o->∃o',h'.get? b=some o')
  (tups:∀b xs,H b=some (.tup xs)->H' b=some (.tup xs)) (frzs:∀b o u,H b=some (.frz o u)->H' b=some (.frz o u)) (tbls:∀b ps,H b=some (.tbl ps)->∃more,H' b=some (.tbl (ps++more)))
  (ns:∀m,s.heap.Ns X.env.locals m->h'.Ns X.env.locals m) (hok:HOk X.prog X.w H' h') (hg:AllBare g') :
  Inv X pins Y H' { s with heap:=h',gens:=g',drawn:=d',toks:=t' }:=by
 have neL:∀b o,X.s₀.heap.get? b=some o->b≠X.env.locals:=λb o e=>Nat.ne_of_lt (Nat.lt_of_lt_of_le (Heap.lt_size e) I.ok.above)
 have neC:∀b o,X.s₀.heap.get? b=some o->b∉X.ex->b∉ch:=λb o e hx hb=>by
  rcases (hch b hb).1 with z | z
  ·exact hx z
  ·exact absurd (Nat.lt_of_lt_of_le (Heap.lt_size e) z) (Nat.lt_irrefl _)
 have cellK:∀x c,X.env.cells.lookup x=some c->∀v,s.heap.IsCell c v->h'.IsCell c v:=λx c e v ⟨o,ho,hd⟩=>by
  have nch:c∉ch:=λz=>(hch c z).2.2.1 x c e rfl
  by_cases hc:c∈X.fs
  ·obtain⟨sl,q⟩:=slot c o (I.cne x c e) hc nch ho (I.freeC x c e)
   exact⟨_,q,hd⟩
  ·exact⟨o,keep c o (I.cne x c e) hc nch ho (I.freeC x c e),hd⟩
 refine⟨I.ok,I.os,hg,⟨λb o e n hb hx=>?_,λb o e n hb hx=>?_,λb o e n hx=>?_,λb o e hx=>?_,λb xs e=>tups b xs (I.base.tups b xs e),λb o xs e=>frzs b o xs (I.base.frzs b o xs e),λb ps e=>?_⟩,?_,λx c e=>?_,?_,λx c e=>?_,λp hp=>?_,hok,I.len⟩
 ·exact keep b o (neL b o e) hb (neC b o e hx) (I.base.keep b o e n hb hx) (I.base.free b o e n hx)
 ·obtain⟨sl,e1⟩:=I.base.slot b o e n hb hx
  obtain⟨sl',e2⟩:=slot b _ (neL b o e) hb (neC b o e hx) e1 (I.base.free b o e n hx)
  exact⟨sl',e2⟩
 ·obtain⟨o',e1⟩:=I.base.there b o e hx
  exact free b o' (neC b o e hx) e1 (I.base.free b o e n hx)
 ·obtain⟨o',e1⟩:=I.base.there b o e hx
  exact there b o' (neC b o e hx) e1
 ·obtain⟨m1,e1⟩:=I.base.tbls b ps e
  obtain⟨m2,e2⟩:=tbls b _ e1
  exact⟨m1++m2,by rw [e2,Array.append_assoc]⟩
 ·obtain⟨m,hn,hl⟩:=I.loc
  refine⟨m,ns m hn,λi x v e1 e2 e3=>?_⟩
  obtain⟨u,r,l⟩:=hl i x v e1 e2 e3
  refine⟨u,r,?_⟩
  rcases l with l | ⟨k,c,e,z⟩
  ·exact .inl l
  ·exact .inr ⟨k,c,e,cellK x c e _ z⟩
 ·obtain⟨v,z⟩:=I.cell x c e
  exact⟨v,cellK x c e v z⟩
 ·obtain⟨m,⟨o,_,_,ho,_⟩,_⟩:=I.loc
  exact free _ o (λz=>(hch _ z).2.1 rfl) ho I.free
 ·obtain⟨v,o,ho,hd⟩:=I.cell x c e
  exact free c o (λz=>(hch c z).2.2.1 x c e rfl) ho (I.freeC x c e)
 ·obtain⟨e,n,ne,nf,d⟩:=I.pin p hp
  have nch:p.1∉ch:=λz=>(hch p.1 z).2.2.2 p hp rfl
  exact⟨keep p.1 p.2 ne nf nch e n,free p.1 p.2 nch e n,ne,nf,d⟩
theorem Inv.un {t':Nat} (I:Inv X pins Y H s) (u:Un X.fs [] H H' s.heap h') (hok:HOk X.prog X.w H' h'):Inv X pins Y H' { s with heap:=h',toks:=t' }:=by
 obtain⟨m,⟨o,es,ep,ho,r⟩,_⟩:=id I.loc
 obtain⟨sl,hL⟩:=u.any ho I.free (by simp)
 exact I.step (g':=s.gens) (d':=s.drawn) (ch:=[]) (λ_ z=>nomatch z) (λb o _ hb _ e n=>u.keep b o e n hb (by simp)) (λb o _ hb _ e n=>u.slot b o e n hb (by simp)) (λb o _ e n=>u.free b o e n (by simp)) (λb o _ e=>u.there b o e (by simp)) u.tups u.frzs u.tbls (λm' hm=>by
  obtain⟨o',es',ep',ho',r'⟩:=hm
  rw [ho]at ho';cases ho'
  exact⟨_,es',ep',hL,r'⟩) hok I.bare
theorem Inv.call {g':Array GenState}{t':Nat}{d':Drawn}{ch:List Addr} (I:Inv X pins Y H s) (u:Un (frs X.stack) ch H H' s.heap h') (hok:HOk X.prog X.w H' h') (hg:AllBare g')
  (hch:∀b∈ch,(b∈X.ex\/X.s₀.heap.objs.size<=b)/\b≠X.env.locals/\(∀x c,X.env.cells.lookup x=some c->c≠b)/\∀p∈X.pn++pins,p.1≠b) :
  Inv X pins Y H' { s with heap:=h',gens:=g',drawn:=d',toks:=t' }:=by
 obtain⟨m,⟨o,es,ep,ho,r⟩,_⟩:=id I.loc
 obtain⟨sl,hL⟩:=u.any ho I.free λz=>(hch _ z).2.1 rfl
 exact I.step (ch:=ch) hch (λb o hL hb hc e n=>u.keep b o e n (λz=>(List.mem_cons.mp (I.stkSub b z)).elim hL hb) hc) (λb o _ _ hc e n=>u.any e n hc) (λb o hc e n=>u.free b o e n hc) (λb o hc e=>u.there b o e hc) u.tups u.frzs u.tbls (λm' hm=>by
  obtain⟨o',es',ep',ho',r'⟩:=hm
  rw [ho]at ho';cases ho'
  exact⟨_,es',ep',hL,r'⟩) hok hg
theorem Inv.turned {t':Nat}{it:Addr} (I:Inv X pins Y H s) (k:∀b o,b≠it->s.heap.get? b=some o->h'.get? b=some o) (hn:H it=none) (hL:it≠X.env.locals)
  (h1:it∈X.ex\/X.s₀.heap.objs.size<=it) (h2:∀x c,X.env.cells.lookup x=some c->c≠it) (h3:∀p∈X.pn++pins,p.1≠it):Inv X pins Y H { s with heap:=h',toks:=t' }:=by
 have nit:∀b u,H b=some u->b≠it:=λb u e z=>by rw [z,hn]at e;cases e
 refine I.step (g':=s.gens) (d':=s.drawn) (ch:=[it]) (λb hb=>?_) (λb o _ _ hc e _=>k b o (λz=>hc (by simp [z])) e) (λb o _ _ hc e _=>⟨o.slots,k b o (λz=>hc (by simp [z])) e⟩) (λ_ _ _ _ n=>n)
  (λb o hc e=>⟨o,k b o (λz=>hc (by simp [z])) e⟩) (λ_ _ e=>e) (λ_ _ _ e=>e) (λb ps e=>⟨#[],by rw [e];simp⟩) (λm hm=>?_) (λb u e=>?_) I.bare
 ·have e:b=it:=by simpa using hb
  subst e
  exact⟨h1,hL,h2,h3⟩
 ·obtain⟨o,es,ep,ho,r⟩:=hm
  exact⟨o,es,ep,k _ o (Ne.symm hL) ho,r⟩
 ·refine(I.hok b u e).stay (λc v hc q=>k c v ?_ q) (λ_ q=>q) λ_ _ q=>q
  rcases hc with z | z
  ·rw [z];exact nit b u e
  ·exact nit c _ z
theorem Inv.tok (I:Inv X pins Y H s) (t:Nat):Inv X pins Y H { s with toks:=t }:=I.un (h':=s.heap) (t':=t) Un.refl I.hok
theorem Inv.kept {t':Nat} (I:Inv X pins Y H s) (k:∀b u,s.heap.get? b=some u->h'.get? b=some u):Inv X pins Y H { s with heap:=h',toks:=t' }:=I.un (Un.kept k) (I.hok.kept k)
theorem Inv.laid {a:Addr}{o:HO}{t':Nat} (I:Inv X pins Y H s) (k:∀b u,s.heap.get? b=some u->h'.get? b=some u) (hp:s.heap.objs.size<=a) (new:bw X.prog X.w (upd H a o) h' a o) :
  Inv X pins Y (upd H a o) { s with heap:=h',toks:=t' }:=I.un (Un.laid k hp (I.hok.fresh hp)) (I.hok.laid k hp new)
theorem Inv.write {x e:Addr}{o:HO}{t':Nat} (I:Inv X pins Y H s) (mu:Mut (H x)) (he:e=x\/H e=some (.own x)) (k:∀b u,b≠e->s.heap.get? b=some u->h'.get? b=some u) (heo:∃u,h'.get? e=some u)
  (new:bw X.prog X.w (upd H x o) h' x o):Inv X pins Y (upd H x o) { s with heap:=h',toks:=t' }:=I.un (Un.write mu he k heo) (I.hok.write mu he k heo new)
theorem Inv.pins_of {pins':List (Addr × Obj)} (I:Inv X pins Y H s) (h:∀p∈pins',s.heap.get? p.1=some p.2/\H p.1=none/\p.1≠X.env.locals/\p.1∉X.fs/\∀v,p.2.data≠.cell v):Inv X pins' Y H s:=
 ⟨I.ok,I.os,I.bare,I.base,I.loc,I.cell,I.free,I.freeC,λp hp=>(List.mem_append.mp hp).elim (λz=>I.pin p (List.mem_append_left _ z)) (h p),I.hok,I.len⟩
theorem kE {N:List Str} (hN:N.Nodup){i j:Nat}{x:Str} (a:N[i]?=some x) (b:N[j]?=some x):i=j:=by
 obtain⟨h1,e1⟩:=List.getElem?_eq_some_iff.mp a
 obtain⟨h2,e2⟩:=List.getElem?_eq_some_iff.mp b
 exact(List.getElem_inj hN).mp (e1.trans e2.symm)
theorem lO {M:Model}{A:Around}{E:Value->Shared->Prop}{i:Nat}{x:Str}{v:V}{u:Value}{Q:Unit->Shared->Prop} (I:Inv X pins Y H s) (hN:X.N.Nodup) (hi:X.N[i]?=some x) (hx:Loc X.env.scope x) (r:bh v u)
  (h:∀s',Inv X pins (Y.set i (some v)) H s'->(∃a,Heap.SameBut a s.heap s'.heap/\(a=X.env.locals\/X.env.cells.lookup x=some a))->Q () s') (hf:X.fn x=true\/X.env.scope.names.lookup x=some .local:=by first | exact .inl rfl | exact .inr rfl | assumption):wpAny M A (storeName X.env x u) Q E s:=by
 obtain⟨m,hn,hl⟩:=id I.loc
 have hcls:(X.env.scope.kind == .class || (X.env.scope.kind == .module && X.env.locals != X.env.globals))=false:=by rw [I.ok.kind];rfl
 have hiY:i < Y.length:=by rw [I.len];exact(List.getElem?_eq_some_iff.mp hi).1
 have cne:=I.cne
 have tracked:∀{a:Addr}{h':Heap},(∃o,s.heap.get? a=some o/\H a=none)->Heap.SameBut a s.heap h'->HOk X.prog X.w H h':=λ{a h'} ha hs b ob e=>by
  obtain⟨_,_,hfree⟩:=ha
  refine(I.hok b ob e).stay (λc w' hc q=>(hs.2 c ?_).trans q) (λ_ q=>q) λ_ _ q=>q
  rintro rfl
  rcases hc with rfl | hc
  ·rw [hfree]at e;cases e
  ·rw [hfree]at hc;cases hc
 rcases hx with hk | hk
 ·refine wpAny_storeName_local hk hn (λh' hn' hs=>?_) hcls
  obtain⟨oL,_,_,hoL,_⟩:=id hn
  refine h _ ⟨I.ok,I.os,I.bare,⟨λb o e n hb hx=>?_,λb o e n hb hx=>?_,I.base.free,λb o e hx=>?_,I.base.tups,I.base.frzs,I.base.tbls⟩,⟨_,hn',λj y v' e1 e2 e3=>?_⟩,λy c e=>?_,I.free,I.freeC,λp hp=>?_,tracked ⟨oL,hoL,I.free⟩ hs,by simpa using I.len⟩ ⟨_,hs,.inl rfl⟩
  ·exact(hs.2 b (Nat.ne_of_lt (Nat.lt_of_lt_of_le (Heap.lt_size e) I.ok.above))).trans (I.base.keep b o e n hb hx)
  ·obtain⟨sl,e1⟩:=I.base.slot b o e n hb hx
   exact⟨sl,(hs.2 b (Nat.ne_of_lt (Nat.lt_of_lt_of_le (Heap.lt_size e) I.ok.above))).trans e1⟩
  ·obtain⟨o',e1⟩:=I.base.there b o e hx
   exact⟨o',(hs.2 b (Nat.ne_of_lt (Nat.lt_of_lt_of_le (Heap.lt_size e) I.ok.above))).trans e1⟩
  ·by_cases hj:j=i
   ·subst hj
    rw [hi]at e1;cases e1
    rw [List.getElem?_set_self hiY]at e2
    cases e2
    exact⟨u,r,.inl ⟨hk,by simp⟩⟩
   ·rw [List.getElem?_set_ne (Ne.symm hj)]at e2
    obtain⟨u',r',q⟩:=hl j y v' e1 e2 e3
    refine⟨u',r',?_⟩
    rcases q with⟨k,e⟩ | ⟨k,c,e,z⟩
    ·refine .inl ⟨k,?_⟩
     have:y≠x:=λe=>hj (kE hN e1 (e ▸ hi))
     simp [this,e]
    ·exact .inr ⟨k,c,e,z.sameBut hs (cne y c e)⟩
  ·obtain⟨w',z⟩:=I.cell y c e
   exact⟨w',z.sameBut hs (cne y c e)⟩
  ·obtain⟨e,n,ne,nf,d⟩:=I.pin p hp
   exact⟨(hs.2 p.1 ne).trans e,n,ne,nf,d⟩
 ·have hfn:X.fn x=true:=by
   rcases hf with z | z
   ·exact z
   ·rw [z]at hk;cases hk
  obtain⟨c,hc⟩:=I.ok.has x (.inl hk)
  obtain⟨w',z⟩:=I.cell x c hc
  refine wpAny_storeName_cell I.ok.kind hk hc z (λh' hc' hs=>?_)
  obtain⟨oc,hoc,hocd⟩:=id z
  refine h { s with heap:=h' } ⟨I.ok,I.os,I.bare,⟨λb o e n hb hx=>?_,λb o e n hb hx=>?_,I.base.free,λb o e hx=>?_,I.base.tups,I.base.frzs,I.base.tbls⟩,⟨m,hn.sameBut hs (Ne.symm (cne x c hc)),λj y v' e1 e2 e3=>?_⟩,λy c' e=>?_,I.free,I.freeC,λp hp=>?_,tracked ⟨oc,hoc,I.freeC x c hc⟩ hs,by simpa using I.len⟩ ⟨c,hs,.inr hc⟩
  ·exact(hs.2 b (Nat.ne_of_lt (Nat.lt_of_lt_of_le (Heap.lt_size e) (I.ok.cab x c hfn hc)))).trans (I.base.keep b o e n hb hx)
  ·obtain⟨sl,e1⟩:=I.base.slot b o e n hb hx
   exact⟨sl,(hs.2 b (Nat.ne_of_lt (Nat.lt_of_lt_of_le (Heap.lt_size e) (I.ok.cab x c hfn hc)))).trans e1⟩
  ·obtain⟨o',e1⟩:=I.base.there b o e hx
   exact⟨o',(hs.2 b (Nat.ne_of_lt (Nat.lt_of_lt_of_le (Heap.lt_size e) (I.ok.cab x c hfn hc)))).trans e1⟩
  ·by_cases hj:j=i
   ·subst hj
    rw [hi]at e1;cases e1
    rw [List.getElem?_set_self hiY]at e2
    cases e2
    exact⟨u,r,.inr ⟨.inl hk,c,hc,hc'⟩⟩
   ·rw [List.getElem?_set_ne (Ne.symm hj)]at e2
    obtain⟨u',r',q⟩:=hl j y v' e1 e2 e3
    refine⟨u',r',?_⟩
    rcases q with q | ⟨k,c',e,z'⟩
    ·exact .inl q
    ·refine .inr ⟨k,c',e,z'.sameBut hs ?_⟩
     rintro rfl
     exact hj (kE hN e1 (I.ok.inj _ _ _ e hc ▸ hi))
  ·by_cases hcc:c'=c
   ·subst hcc;exact⟨_,hc'⟩
   ·obtain⟨w2,z2⟩:=I.cell y c' e
    exact⟨w2,z2.sameBut hs hcc⟩
  ·obtain⟨e,n,ne,nf,d⟩:=I.pin p hp
   refine⟨(hs.2 p.1 ?_).trans e,n,ne,nf,d⟩
   intro q
   rw [q,hoc]at e
   have q':oc=p.2:=Option.some.inj e
   exact d w' (by rw [<- q'];exact hocd)
theorem iz {M:Model}{A:Around}{E:Value->Shared->Prop}{i:Nat}{x:Str}{v:V}{u:Value}{Q:Unit->Shared->Prop} (I:Inv X pins Y H s) (hN:X.N.Nodup) (hi:X.N[i]?=some x) (hx:Loc X.env.scope x) (r:bh v u)
  (h:∀s',Inv X pins (Y.set i (some v)) H s'->Q () s') (hf:X.fn x=true\/X.env.scope.names.lookup x=some .local:=by first | exact .inl rfl | exact .inr rfl | assumption):wpAny M A (storeName X.env x u) Q E s:=
 lO I hN hi hx r (λs' I' _=>h s' I') hf
theorem Inv.call' {s':Shared}{ch:List Addr} (I:Inv X pins Y H s) (ho:s'.os=s.os) (u:Un (frs X.stack) ch H H' s.heap s'.heap) (hok:HOk X.prog X.w H' s'.heap) (hg:AllBare s'.gens)
  (hch:∀b∈ch,(b∈X.ex\/X.s₀.heap.objs.size<=b)/\b≠X.env.locals/\(∀x c,X.env.cells.lookup x=some c->c≠b)/\∀p∈X.pn++pins,p.1≠b):Inv X pins Y H' s':=by
 obtain⟨h',g',d',t',o'⟩:=s'
 have e:o'=s.os:=ho
 subst e
 exact I.call (g':=g') (t':=t') (d':=d') u hok hg hch
end
abbrev XK:=Value->Option Addr->Hp->Prop
abbrev St:=List (Option V)
abbrev VK:=V->Hp->Prop
abbrev TE:=St->Hp->VK->Prop
abbrev TT:=St->Hp->(Bool->Hp->Prop)->Prop
abbrev TA:=St->Hp->(List V->Hp->Prop)->Prop
structure Ends where
 nx:St->Hp->Prop
 rt:VK
 bk:St->Hp->Prop:=λ_ _=>False
 ct:St->Hp->Prop:=λ_ _=>False
abbrev TS:=Ends->St->Hp->Prop
inductive EP (X:Cx) (pins:List (Addr × Obj)) (Y:St) (Q:VK) (u:Value) (s':Shared):Prop
 | mk (v H') (h1:Inv X pins Y H' s') (h2:bh v u) (h3:Q v H')
def TP (X:Cx) (pins:List (Addr × Obj)) (Y:St) (Q:Bool->Hp->Prop) (b:Bool) (s':Shared):Prop:=∃H',Inv X pins Y H' s'/\Q b H'
inductive AP (X:Cx) (pins:List (Addr × Obj)) (Y:St) (Q:List V->Hp->Prop) (us:List Value) (s':Shared):Prop
 | mk (vs H') (h1:Inv X pins Y H' s') (h2:aP vs us) (h3:Q vs H')
def SP (X:Cx) (pins:List (Addr × Obj)) (D:Ends) (f:Flow) (s':Shared):Prop:=
 match f with
 | .next=>∃Y' H',Inv X pins Y' H' s'/\D.nx Y' H'
 | .brk=>∃Y' H',Inv X pins Y' H' s'/\D.bk Y' H'
 | .cont=>∃Y' H',Inv X pins Y' H' s'/\D.ct Y' H'
 | .ret u=>∃v Y' H',Inv X pins Y' H' s'/\bh v u/\D.rt v H'
def PE (X:Cx) (e:Expr) (t:TE):Prop:=
 ∀(pins:List (Addr × Obj)) (s:Shared) (Y:St) (H:Hp) (Q:VK),Inv X pins Y H s->t Y H Q->wpAny (model X.prog X.w) X.A (eval e X.env) (EP X pins Y Q) X.xe s
def PT (X:Cx) (e:Expr) (t:TT):Prop:=
 ∀(pins:List (Addr × Obj)) (s:Shared) (Y:St) (H:Hp) (Q:Bool->Hp->Prop),Inv X pins Y H s->t Y H Q->wpAny (model X.prog X.w) X.A (isTrue e X.env (eval e X.env)) (TP X pins Y Q) X.xe s
def PW (X:Cx) (e:Expr) (t:TT):Prop:=
 ∀(whole:Sem Value) (pins:List (Addr × Obj)) (s:Shared) (Y:St) (H:Hp) (Q:Bool->Hp->Prop),Inv X pins Y H s->t Y H Q->wpAny (model X.prog X.w) X.A (isTrue e X.env whole) (TP X pins Y Q) X.xe s
theorem PW.pt {X:Cx}{e:Expr}{t:TT} (h:PW X e t):PT X e t:=h _
def PA (X:Cx) (es:List Expr) (t:TA):Prop:=
 ∀(pos:Pos) (pins:List (Addr × Obj)) (s:Shared) (Y:St) (H:Hp) (Q:List V->Hp->Prop),Inv X pins Y H s->t Y H Q->wpAny (model X.prog X.w) X.A (spliced (backTo pos (starEach es X.env))) (AP X pins Y Q) X.xe s
def PS (X:Cx) (st:Stmt) (t:TS):Prop:=
 ∀(pins:List (Addr × Obj)) (s:Shared) (Y:St) (H:Hp) (D:Ends),Inv X pins Y H s->t D Y H->wpAny (model X.prog X.w) X.A (exec st X.env) (SP X pins D) X.xe s
def PSs (X:Cx) (st:List Stmt) (t:TS):Prop:=
 ∀(pins:List (Addr × Obj)) (s:Shared) (Y:St) (H:Hp) (D:Ends),Inv X pins Y H s->t D Y H->wpAny (model X.prog X.w) X.A (execs st X.env) (SP X pins D) X.xe s
theorem thn {α:Type}{t:Sem α}{Q Q':α->Shared->Prop}{M:Model}{A:Around}{E:Value->Shared->Prop}{s:Shared} (h:wpAny M A t Q E s) (hQ:∀a s,Q a s->Q' a s):wpAny M A t Q' E s:=wpAny_mono h hQ λ_ _ x=>x
end L2
namespace L2
open PySem PySem.Spec PyProof.Rows
section
variable {X:Cx}
inductive cr (i:Nat) (Y:St) (H:Hp) (Q:VK):Prop
 | mk (v) (h1:Y[i]?=some (some v)) (h2:Q v H)
def tC (v:V):TE:=λ_ H Q=>Q v H
theorem Ac {i:Nat}{x:Str}{pos:Pos} (hN:X.N[i]?=some x) (hv:Vis X.env.scope x) (hd:(x == ("__debug__" : Str))=false:=by decide) (hcd:(x == ("__classdict__" : Str))=false:=by decide):PE X (.Name x pos) (cr i):=by
 intro pins s Y H Q I h
 obtain⟨v,e,h⟩:=h
 obtain⟨m,hn,hl⟩:=I.loc
 obtain⟨u,r,l⟩:=hl i x v hN e hv
 have fin:EP X pins Y Q u s:=⟨v,H,I,r,h⟩
 rcases l with⟨hk,hm⟩ | ⟨hk,c,hc,hcell⟩
 ·exact wpAny_Name (wpAny_loadName_local I.ok.kind hk hn hm fin) hd
 ·rcases hk with hk | hk
  ·exact wpAny_Name (wpAny_loadName_cell I.ok.kind hk hc hcell fin) hd
  ·exact wpAny_Name (wpAny_loadName_free I.ok.kind hk hc hcell fin hcd) hd
theorem ah {i j pos}:PE X (.Constant (.int i) j pos) (tC (.int i)):=λ_ _ _ H _ I h=>wpAny_Constant_int ⟨.int i,H,I.tok _,⟨_,rfl⟩,h⟩
theorem da {b j pos}:PE X (.Constant (.bool b) j pos) (tC (.bl b)):=λ_ _ _ H _ I h=>Constant_bool ⟨.bl b,H,I,rfl,h⟩
theorem dZ {j pos}:PE X (.Constant .none j pos) (tC .non):=λ_ _ _ H _ I h=>Constant_none ⟨.non,H,I,rfl,h⟩
theorem ay {x j pos}:PE X (.Constant (.str x) j pos) (tC (.str x)):=λ_ _ _ H _ I h=>Calls.Constant_str ⟨.str x,H,I.tok _,⟨_,rfl⟩,h⟩
def Gl (X:Cx) (x:Str):Prop:=X.env.kindOf x=some .globalImplicit
theorem fH {E:Value->Shared->Prop}{pins:List (Addr × Obj)}{s:Shared}{Y:St}{H:Hp}{x:Str}{u:Value}{pos:Pos}{Q:Value->Shared->Prop} (I:Inv X pins Y H s) (hg:Gl X x) (hm:X.mg x=some u) (h:Q u s)
  (hd:(x == ("__debug__" : Str))=false:=by decide):wpAny (model X.prog X.w) X.A (eval (.Name x pos) X.env) Q E s:=
 Calls.Name_function_global I.ok.kind hg (Calls.loadGlobal_global (by rw [I.ok.glob];exact I.mod.glob.keeps I.bk) hm h) hd
theorem io {E:Value->Shared->Prop}{pins:List (Addr × Obj)}{s:Shared}{Y:St}{H:Hp}{x:Str}{u:Value}{pos:Pos}{Q:Value->Shared->Prop} (I:Inv X pins Y H s) (hg:Gl X x) (hm:X.mg x=none) (hv:bootBuiltins x=some u) (h:Q u s)
  (hn:x≠"__name__":=by decide) (hd:(x == ("__debug__" : Str))=false:=by decide):wpAny (model X.prog X.w) X.A (eval (.Name x pos) X.env) Q E s:=by
 obtain⟨mb,h1,h2⟩:=I.mod.blt
 exact Calls.Name_function_global I.ok.kind hg (Calls.loadGlobal_builtin (by rw [I.ok.glob];exact I.mod.glob.keeps I.bk) hm (by rw [I.ok.blt];exact h1.keeps I.bk) ((h2 x hn).trans hv) h) hd
theorem bR {x:Str}{v:V}{u:Value}{pos:Pos} (hg:Gl X x) (hm:X.mg x=some u) (r:bh v u) (hd:(x == ("__debug__" : Str))=false:=by decide):PE X (.Name x pos) (tC v):=
 λ_ _ _ H _ I h=>fH I hg hm ⟨v,H,I,r,h⟩ hd
theorem cZ {x:Str}{v:V}{u:Value}{pos:Pos} (hg:Gl X x) (hm:X.mg x=none) (hv:bootBuiltins x=some u) (r:bh v u) (hn:x≠"__name__":=by decide) (hd:(x == ("__debug__" : Str))=false:=by decide):PE X (.Name x pos) (tC v):=
 λ_ _ _ H _ I h=>io I hg hm hv ⟨v,H,I,r,h⟩ hn hd
variable {a b:Expr}{ta tb:TE}{pos:Pos}
def PC (X:Cx) (op:CmpOp) (a b:Expr) (t:TE):Prop:=
 ∀(pins:List (Addr × Obj)) (s:Shared) (Y:St) (H:Hp) (Q:VK),Inv X pins Y H s->t Y H Q->
  wpAny (model X.prog X.w) X.A (eval a X.env) (λv s₁=>wpAny (model X.prog X.w) X.A (eval b X.env) (λu s₂=>wpAny (model X.prog X.w) X.A (compareOp op v u) (EP X pins Y Q) X.xe s₂) X.xe s₁) X.xe s
theorem pA (b:Expr){op:CmpOp} (h:op≠.In) (h2:op≠.NotIn):behindInMarks op b=false:=by
 have e1:(op == CmpOp.In)=false:=by cases op <;> first | rfl | exact absurd rfl h
 have e2:(op == CmpOp.NotIn)=false:=by cases op <;> first | rfl | exact absurd rfl h2
 cases b <;> simp [behindInMarks,e1,e2]
def C6 (ta:TE):TE:=λY H Q=>ta Y H λx H1=>Q (.bl (decide (x=.non))) H1
theorem bh.none_iff {x:V}{v:Value} (r:bh x v):(v == Value.none)=decide (x=.non):=by
 cases x with
 | non=>cases r;rfl
 | bl _=>cases r;rfl
 | int _=>obtain⟨t,rfl⟩:=r;rfl
 | str _=>obtain⟨t,rfl⟩:=r;rfl
 | byt _=>obtain⟨t,rfl⟩:=r;rfl
 | flt _=>obtain⟨t,rfl⟩:=r;rfl
 | ref _=>cases r;rfl
 | ty _=>cases r;rfl
theorem ku {j pos'} (ha:PE X a ta):PC X .Is a (.Constant .none j pos') (C6 ta):=by
 intro pins s Y H Q I h
 refine thn (ha pins s Y H _ I h) λv s1 ⟨x,H1,I1,r1,q1⟩=>?_
 exact Constant_none (is_none_gen ⟨.bl _,H1,I1,by rw [r1.none_iff];rfl,q1⟩)
inductive tbR (x:V) (H1:Hp) (Q:Bool->Hp->Prop):Prop
 | mk (c) (h1:x=.bl c) (h2:Q c H1)
def tB (t:TE):TT:=λY H Q=>t Y H λx H1=>tbR x H1 Q
theorem Ae {op:CmpOp}{t:TE} (h:PC X op a b t) (h1:behindInMarks op b=false:=by first | exact pA _ (by decide) (by decide) | rfl):PE X (.Compare a [op] [b] pos) t:=λpins s Y H Q I hw=>wpAny_Compare1 (h pins s Y H Q I hw) h1
theorem gp {op:CmpOp}{t:TE} (h:PC X op a b t) (h1:behindInMarks op b=false:=by first | exact pA _ (by decide) (by decide) | rfl):PT X (.Compare a [op] [b] pos) (tB t):=by
 intro pins s Y H Q I hw
 refine wpAny_isTrue_Compare1 (thn (h pins s Y H _ I hw) λv s1 h1=>thn h1 λu s2 h2=>thn h2 λc s3 ⟨x,H1,I1,r1,q1⟩=>?_) h1
 obtain⟨d,rfl,q⟩:=q1
 cases r1
 exact wpAny_truthy_bool ⟨H1,I1,q⟩
theorem bH {e:Expr}{t:TE} (h:PE X e t) (he:∀whole,isTrue e X.env whole=(do let v <- whole;standAt e.pos;holding [v] (truthy v)):=by intro _;rfl):PT X e (tB t):=by
 intro pins s Y H Q I hw
 refine isTrue_plain (thn (h pins s Y H _ I hw) λv s1 ⟨x,H1,I1,r1,q1⟩=>?_) (he _)
 obtain⟨d,rfl,q⟩:=q1
 cases r1
 exact wpAny_truthy_bool ⟨H1,I1,q⟩
variable {tA tB':TT}{rest:List Expr}
def Bb (t u:TT):TT:=λY H Q=>t Y H λc H1=>if c=true then u Y H1 Q else Q false H1
def tOr (t u:TT):TT:=λY H Q=>t Y H λc H1=>if c=true then Q true H1 else u Y H1 Q
def C4 (t:TT):TT:=λY H Q=>t Y H λc H1=>Q (!c) H1
theorem js (ha:PT X a tA):PW X (.BoolOp .And [a] pos) tA:=by
 intro wh pins s Y H Q I h
 refine isTrue_and (thn (ha pins s Y H Q I h) λc s1 e=>?_)
 cases c with
 | true=>exact isTrue_and_nil e
 | false=>exact e
theorem iY (ha:PT X a tA):PW X (.BoolOp .Or [a] pos) tA:=by
 intro wh pins s Y H Q I h
 refine isTrue_or (thn (ha pins s Y H Q I h) λc s1 e=>?_)
 cases c with
 | false=>exact isTrue_or_nil e
 | true=>exact e
theorem o7 (ha:PT X a tA) (hb:PW X (.BoolOp .And (b::rest) pos) tB'):PW X (.BoolOp .And (a::b::rest) pos) (Bb tA tB'):=by
 intro wh pins s Y H Q I h
 refine isTrue_and (thn (ha pins s Y H _ I h) λc s1 ⟨H1,I1,q1⟩=>?_)
 cases c with
 | true=>exact hb wh pins s1 Y H1 Q I1 q1
 | false=>exact⟨H1,I1,q1⟩
theorem mi (ha:PT X a tA) (hb:PW X (.BoolOp .Or (b::rest) pos) tB'):PW X (.BoolOp .Or (a::b::rest) pos) (tOr tA tB'):=by
 intro wh pins s Y H Q I h
 refine isTrue_or (thn (ha pins s Y H _ I h) λc s1 ⟨H1,I1,q1⟩=>?_)
 cases c with
 | true=>exact⟨H1,I1,q1⟩
 | false=>exact hb wh pins s1 Y H1 Q I1 q1
theorem bQ (ha:PT X a tA):PT X (.UnaryOp .Not a pos) (C4 tA):=by
 intro pins s Y H Q I h
 exact isTrue_not (ha pins s Y H (λc H1=>Q (!c) H1) I h)
def yY (ta tb:TE):TE:=λY H Q=>ta Y H λx H1=>∃c,x=.bl c/\if c=true then tb Y H1 Q else Q (.bl false) H1
def B5 (ta:TE):TE:=λY H Q=>ta Y H λx H1=>∃c,x=.bl c/\Q (.bl (!c)) H1
theorem eR {op}{t:TE} (h:PE X a t):PE X (.BoolOp op [a] pos) t:=λpins s Y H Q I hw=>BoolOp_one (h pins s Y H Q I hw)
theorem dL (ha:PE X a ta) (hb:PE X (.BoolOp .And (b::rest) pos) tb):PE X (.BoolOp .And (a::b::rest) pos) (yY ta tb):=by
 intro pins s Y H Q I h
 refine BoolOp_and (thn (ha pins s Y H _ I h) λv s1 ⟨x,H1,I1,r1,q1⟩=>?_)
 obtain⟨c,rfl,q1⟩:=q1
 cases r1
 refine wpAny_truthy_bool ?_
 cases c with
 | true=>exact hb pins s1 Y H1 Q I1 q1
 | false=>exact⟨.bl false,H1,I1,rfl,q1⟩
theorem qE (ha:PE X a ta):PE X (.UnaryOp .Not a pos) (B5 ta):=by
 intro pins s Y H Q I h
 refine UnaryOp_ (thn (ha pins s Y H _ I h) λv s1 ⟨x,H1,I1,r1,q1⟩=>?_)
 obtain⟨c,rfl,q1⟩:=q1
 cases r1
 exact not_of (wpAny_truthy_bool ⟨.bl (!c),H1,I1,rfl,q1⟩)
def tIf (t:TT) (ta tb:TE):TE:=λY H Q=>t Y H λc H1=>if c=true then ta Y H1 Q else tb Y H1 Q
theorem wk {c:Expr} (hc:PT X c tA) (ha:PE X a ta) (hb:PE X b tb):PE X (.IfExp c a b pos) (tIf tA ta tb):=by
 intro pins s Y H Q I h
 refine wpAny_IfExp (thn (hc pins s Y H _ I h) λd s1 ⟨H1,I1,q1⟩=>?_)
 cases d with
 | true=>exact ha pins s1 Y H1 Q I1 q1
 | false=>exact hb pins s1 Y H1 Q I1 q1
end
end L2
namespace L2
open PySem PySem.Spec PyProof.Rows
def SqL (K:PySem.W.Frag) (H:Hp) (a:Addr) (xs:List V):Prop:=
 Rd H a (.lst xs)\/
  ∃(o:Obj) (its:Array Value) (n:Nat),K.lookup a=some o/\o.cls=.type "list"/\o.dict=none/\o.data=.seq its n/\its.size<=sizeLine/\aP xs its.toList
def SqT (K:PySem.W.Frag) (H:Hp) (a:Addr) (xs:List V):Prop:=
 Rd H a (.tup xs)\/
  ∃(o:Obj) (its:Array Value) (n:Nat),K.lookup a=some o/\o.cls=.type "tuple"/\o.data=.seq its n/\its.size<=sizeLine/\aP xs its.toList
noncomputable def Cm:Value->Option V
 | .none=>some .non
 | .bool b=>some (.bl b)
 | .int i _=>some (.int i)
 | .str x _=>some (.str x)
 | .bytes b _=>some (.byt b)
 | .float b _=>some (.flt b)
 | .ref a=>some (.ref a)
 | .type n=>some (.ty n)
 | _=>none
theorem bh.abs {x:V}{u:Value} (r:bh x u):Cm u=some x:=by
 cases x with
 | non=>cases r;rfl
 | bl _=>cases r;rfl
 | int _=>obtain⟨t,rfl⟩:=r;rfl
 | str _=>obtain⟨t,rfl⟩:=r;rfl
 | byt _=>obtain⟨t,rfl⟩:=r;rfl
 | flt _=>obtain⟨t,rfl⟩:=r;rfl
 | ref _=>cases r;rfl
 | ty _=>cases r;rfl
theorem bh.inj {x y:V}{u:Value} (r:bh x u) (q:bh y u):x=y:=Option.some.inj (r.abs.symm.trans q.abs)
theorem aP.inj:∀{xs ys:List V}{us:List Value},aP xs us->aP ys us->xs=ys
 | _,_,_,.nil,.nil=>rfl
 | _,_,_,.cons r t,.cons r' t'=>by rw [r.inj r',aP.inj t t']
section
variable {X:Cx}{pins:List (Addr × Obj)}{Y:St}{H:Hp}{s:Shared}{a:Addr}{xs ys:List V}
theorem SqL.of {K:PySem.W.Frag} (h:H a=some (.lst xs)):SqL K H a xs:=.inl (.inl h)
theorem SqT.of {K:PySem.W.Frag} (h:H a=some (.tup xs)):SqT K H a xs:=.inl (.inl h)
theorem Inv.list (I:Inv X pins Y H s) (h:SqL X.K H a xs):∃its:List Value,aP xs its/\PlainL s.heap a its.toArray/\xs.length<=sizeLine:=by
 rcases h with h | ⟨o,its,n,hk,hc,hd,hs,hz,r⟩
 ·obtain⟨z,its,n,r,e⟩:=h.ok I.hok
  exact⟨its,r,⟨_,n,e,rfl,rfl,rfl⟩,z⟩
 ·refine⟨its.toList,r,⟨o,n,I.kIn a o hk,hc,hd,by simpa using hs⟩,?_⟩
  have e:=r.length
  simp only [Array.length_toList]at e
  omega
theorem Inv.tuple (I:Inv X pins Y H s) (h:SqT X.K H a xs):∃its:List Value,aP xs its/\IsTup s.heap a its.toArray/\xs.length<=sizeLine:=by
 rcases h with h | ⟨o,its,n,hk,hc,hs,hz,r⟩
 ·obtain⟨z,its,r,p⟩:=h.ok I.hok
  exact⟨its,r,p,z⟩
 ·refine⟨its.toList,r,⟨o,I.kIn a o hk,hc,n,by simpa using hs⟩,?_⟩
  have e:=r.length
  simp only [Array.length_toList]at e
  omega
theorem Inv.list_inj (I:Inv X pins Y H s) (h:SqL X.K H a xs) (h':SqL X.K H a ys):xs=ys:=by
 obtain⟨its,r,⟨o,n,e,_,_,d⟩,_⟩:=I.list h
 obtain⟨its',r',⟨o',n',e',_,_,d'⟩,_⟩:=I.list h'
 rw [e]at e';cases e'
 rw [d]at d'
 injection d' with d1 _
 have:its=its':=by simpa using congrArg Array.toList d1
 subst this
 exact r.inj r'
end
noncomputable abbrev Cx.wish (X:Cx) (E:Value->Shared->Prop):Cx:={ X with xe:=E }
noncomputable abbrev Cx.nox (X:Cx):Cx:=X.wish λ_ _=>False
theorem Cx.Ok.wish {X:Cx} (ok:X.Ok) (E:Value->Shared->Prop):(X.wish E).Ok:=
 ⟨ok.mod,ok.kind,ok.glob,ok.blt,ok.above,ok.inj,ok.has,ok.cab,ok.hd,ok.frames,ok.stk,ok.exf,ok.bs,ok.bsz,ok.noex,ok.exfs,ok.funs,ok.frf⟩
theorem Cx.Ok.unwish {X:Cx}{E:Value->Shared->Prop} (ok:(X.wish E).Ok):X.Ok:=
 ⟨ok.mod,ok.kind,ok.glob,ok.blt,ok.above,ok.inj,ok.has,ok.cab,ok.hd,ok.frames,ok.stk,ok.exf,ok.bs,ok.bsz,ok.noex,ok.exfs,ok.funs,ok.frf⟩
section
variable {X:Cx}{pins:List (Addr × Obj)}{Y:St}{H:Hp}{s:Shared}{E:Value->Shared->Prop}
theorem Inv.wish (I:Inv X pins Y H s) (E:Value->Shared->Prop):Inv (X.wish E) pins Y H s:=⟨I.ok.wish E,I.os,I.bare,I.base,I.loc,I.cell,I.free,I.freeC,I.pin,I.hok,I.len⟩
theorem Inv.unwish (I:Inv (X.wish E) pins Y H s):Inv X pins Y H s:=⟨I.ok.unwish,I.os,I.bare,I.base,I.loc,I.cell,I.free,I.freeC,I.pin,I.hok,I.len⟩
theorem SP.unwish {D:Ends}{f:Flow}{s':Shared} (h:SP (X.wish E) pins D f s'):SP X pins D f s':=by
 cases f with
 | next=>obtain⟨Y',H',I,q⟩:=h;exact⟨Y',H',I.unwish,q⟩
 | brk=>obtain⟨Y',H',I,q⟩:=h;exact⟨Y',H',I.unwish,q⟩
 | cont=>obtain⟨Y',H',I,q⟩:=h;exact⟨Y',H',I.unwish,q⟩
 | ret u=>obtain⟨v,Y',H',I,r,q⟩:=h;exact⟨v,Y',H',I.unwish,r,q⟩
theorem PSs.nox {st:List Stmt}{t:TS} (h:PSs X.nox st t):PSs X st t:=λpins s Y H D I hw=>
 wpAny_mono (h pins s Y H D (I.wish _) hw) (λ_ _ q=>q.unwish) λ_ _ z=>False.elim z
end
section
variable {X:Cx}{st:Stmt}{rest:List Stmt}{t u:TS}{e:Expr}{te:TE}{pos:Pos}
def oN:TS:=λD Y H=>D.nx Y H
def B2 (t u:TS):TS:=λD Y H=>t { D with nx:=u D } Y H
theorem aE:PSs X [] oN:=λ_ _ Y H _ I h=>wpAny_execs_nil ⟨Y,H,I,h⟩
theorem ai (h1:PS X st t) (h2:PSs X rest u):PSs X (st::rest) (B2 t u):=by
 intro pins s Y H D I h
 refine wpAny_execs_cons (thn (h1 pins s Y H { D with nx:=u D } I h) λf s1 q=>?_)
 cases f with
 | next=>
  obtain⟨Y',H',I',q⟩:=q
  exact h2 pins s1 Y' H' D I' q
 | ret v=>exact q
 | brk=>exact q
 | cont=>exact q
theorem am (h1:PS X st t):PSs X [st] t:=by
 intro pins s Y H D I h
 refine wpAny_execs_cons (thn (h1 pins s Y H D I h) λf s1 q=>?_)
 cases f with
 | next=>exact wpAny_execs_nil q
 | ret v=>exact q
 | brk=>exact q
 | cont=>exact q
theorem Inv.quiet {pins:List (Addr × Obj)}{Y:St}{H:Hp}{s:Shared} (I:Inv X pins Y H s):interactive X.env=false:=by simp [interactive,I.ok.kind]
def yW (te:TE):TS:=λD Y H=>te Y H λ_ H1=>D.nx Y H1
theorem aJ (he:PE X e te) (hs:swapsWith e none pos.line X.env=pure false:=by rfl):PS X (.Expr e pos) (yW te):=by
 intro pins s Y H D I h
 exact wpAny_Expr_any (thn (he pins s Y H _ I h) λv s1 ⟨x,H1,I1,r1,q1⟩=>⟨Y,H1,I1,q1⟩) I.quiet hs
def B3 (te:TE):TS:=λD Y H=>te Y H D.rt
theorem aB (he:PE X e te):PS X (.Return (some e) pos) (B3 te):=by
 intro pins s Y H D I h
 exact wpAny_Return_some (thn (he pins s Y H _ I h) λv s1 ⟨x,H1,I1,r1,q1⟩=>⟨x,Y,H1,I1,r1,q1⟩)
def qi (c:TT) (t u:TS):TS:=λD Y H=>c Y H λb H1=>if b=true then t D Y H1 else u D Y H1
theorem aO {c:Expr}{a b:List Stmt}{tc:TT} (hc:PT X c tc) (ha:PSs X a t) (hb:PSs X b u):PS X (.If c a b pos) (qi tc t u):=by
 intro pins s Y H D I h
 refine wpAny_If (thn (hc pins s Y H _ I h) λd s1 ⟨H1,I1,q1⟩=>?_)
 cases d with
 | true=>exact ha pins s1 Y H1 D I1 q1
 | false=>exact hb pins s1 Y H1 D I1 q1
def zA:TS:=λ_ _ _=>False
theorem cK:PS X st zA:=λ_ _ _ _ _ _ h=>h.elim
end
abbrev TG:=V->St->Hp->(St->Hp->Prop)->Prop
abbrev TGs:=List V->St->Hp->(St->Hp->Prop)->Prop
def PG (X:Cx) (target:Expr) (t:TG):Prop:=
 ∀(pins:List (Addr × Obj)) (s:Shared) (Y:St) (H:Hp) (v:V) (u:Value) (Q:St->Hp->Prop),Inv X pins Y H s->bh v u->t v Y H Q->
  wpAny (model X.prog X.w) X.A (assign target X.env u) (λ_ s'=>∃Y' H',Inv X pins Y' H' s'/\Q Y' H') X.xe s
def PGs (X:Cx) (ts:List Expr) (t:TGs):Prop:=
 ∀(pins:List (Addr × Obj)) (s:Shared) (Y:St) (H:Hp) (vs:List V) (us:List Value) (Q:St->Hp->Prop),Inv X pins Y H s->aP vs us->t vs Y H Q->
  wpAny (model X.prog X.w) X.A (assignInOrder ((assignEach ts X.env).map (·.2)) us) (λ_ s'=>∃Y' H',Inv X pins Y' H' s'/\Q Y' H') X.xe s
abbrev AO:=V->V->V->Hp->(Hp->Prop)->Prop
def BS (X:Cx) (t:AO):Prop:=
 ∀(pins:List (Addr × Obj)) (s:Shared) (Y:St) (H:Hp) (o i v:V) (ov iv u:Value) (Q:Hp->Prop),Inv X pins Y H s->bh o ov->bh i iv->bh v u->t o i v H Q->
  wpAny (model X.prog X.w) X.A (setItem ov iv u) (λ_ s'=>∃H',Inv X pins Y H' s'/\Q H') X.xe s
section
variable {X:Cx}{pos:Pos}
def aN (i:Nat):TG:=λv Y H Q=>Q (Y.set i (some v)) H
theorem bp {i:Nat}{x:Str} (hN:X.N.Nodup) (hi:X.N[i]?=some x) (hx:Loc X.env.scope x) (hf:X.fn x=true\/X.env.scope.names.lookup x=some .local:=by first | exact .inl rfl | exact .inr rfl | assumption):PG X (.Name x pos) (aN i):=by
 intro pins s Y H v u Q I r h
 exact wpAny_assign_Name (iz I hN hi hx r (λs' I'=>⟨_,H,I',h⟩) hf)
noncomputable def BM:TGs:=λvs Y H Q=>vs=[]/\Q Y H
inductive xg (t:TG) (u:TGs) (vs:List V) (Y:St) (H:Hp) (Q:St->Hp->Prop):Prop
 | mk (v r) (h1:vs=v::r) (h2:t v Y H λY' H'=>u r Y' H' Q)
theorem eN:PGs X [] BM:=by
 intro pins s Y H vs us Q I r h
 obtain⟨e,h⟩:=h
 subst e
 cases r
 exact assignInOrder_nil ⟨Y,H,I,h⟩
theorem bB {e:Expr}{es:List Expr}{t:TG}{u:TGs} (h1:PG X e t) (h2:PGs X es u)
  (hs:(assignEach (e::es) X.env).map (·.2)=assign e X.env::(assignEach es X.env).map (·.2):=by rfl):PGs X (e::es) (xg t u):=by
 intro pins s Y H vs us Q I r h
 obtain⟨v,vr,e1,h⟩:=h
 subst e1
 cases r with
 | cons r rr=>
  rw [hs]
  refine assignInOrder_cons (thn (h1 pins s Y H _ _ _ I r h) λ_ s1 ⟨Y1,H1,I1,q1⟩=>?_)
  exact h2 pins s1 Y1 H1 _ _ Q I1 rr q1
inductive BL (K:PySem.W.Frag) (n:Nat) (t:TGs) (v:V) (Y:St) (H:Hp) (Q:St->Hp->Prop):Prop
 | mk (a xs) (h1:v=.ref a) (h2:SqT K H a xs) (h3:xs.length=n) (h4:t xs Y H Q)
theorem gx {es:List Expr}{k:Nat}{t:TGs}{n:Nat} (hc:X.calm=true) (h:PGs X es t)
  (hn:(assignEach es X.env).length=n:=by rfl) (hst:(assignEach es X.env).findIdx? (·.1)=none:=by rfl):PG X (.Tuple es k pos) (BL X.K n t):=by
 intro pins s Y H v u Q I r hw
 obtain⟨a,xs,e1,hq,hl,hw⟩:=hw
 subst e1
 cases r
 obtain⟨its,rv,ht,hz⟩:=I.tuple hq
 refine assign_Tuple_tuple (I.ok.hd hc) ht (by simp [hn,<- hl,rv.length]) hst λh' hx=>?_
 have I1:Inv X pins Y H { s with heap:=h' }:=I.kept (t':=s.toks) λb o e=>hx b o (Nat.ne_of_lt (Heap.lt_size e)) e
 exact h pins _ Y H xs _ Q I1 (by simpa using rv) hw
def Ch (to ti:TE) (t:AO):TG:=λv Y H Q=>to Y H λo H1=>ti Y H1 λi H2=>t o i v H2 λH3=>Q Y H3
theorem Ab {o i:Expr}{to ti:TE}{t:AO} (ho:PE X o to) (hi:PE X i ti) (hs:BS X t)
  (ha:∀v,assign (.Subscript o i pos) X.env v=(do
   let ov <- holding [v] (eval o X.env)
   let iv <- holding [v,ov] (eval i X.env)
   standAt pos
   holding [v,ov,iv] (setItem ov iv v)
   release [v,ov,iv] []):=by intro _;rfl):PG X (.Subscript o i pos) (Ch to ti t):=by
 intro pins s Y H v u Q I r h
 rw [ha]
 refine wpAny_bind (wpAny_holding (thn (ho pins s Y H _ I h) λov s1 ⟨x,H1,I1,r1,q1⟩=>?_))
 refine wpAny_bind (wpAny_holding (thn (hi pins s1 Y H1 _ I1 q1) λiv s2 ⟨y,H2,I2,r2,q2⟩=>?_))
 refine wpAny_bind (wpAny_standAt (wpAny_bind (wpAny_holding (thn (hs pins s2 Y H2 x y v ov iv u _ I2 r1 r2 r q2) λ_ s3 ⟨H3,I3,q3⟩=>?_))))
 exact wpAny_release ⟨Y,H3,I3,q3⟩
def qk (te:TE) (g:TG):TS:=λD Y H=>te Y H λx H1=>g x Y H1 D.nx
theorem we {tg e:Expr}{te:TE}{g:TG} (he:PE X e te) (hg:PG X tg g) (hs:swapsWithSole [tg] e pos.line X.env=pure false:=by rfl) (hw:swappedStores [tg] e X.env=pure none:=by rfl)
  (h1:(assignEach [tg] X.env).map (·.2)=[assign tg X.env]:=by rfl):PS X (.Assign [tg] e pos) (qk te g):=by
 intro pins s Y H D I h
 refine wpAny_Assign_stores (thn (he pins s Y H _ I h) λv s1 ⟨x,H1,I1,r1,q1⟩=>?_) hs hw
 rw [h1]
 exact thn (hg pins s1 Y H1 x v _ I1 r1 q1) λ_ s2 q=>q
theorem aF {i:Nat}{x:Str}{e:Expr}{te:TE}{pos':Pos} (hN:X.N.Nodup) (hi:X.N[i]?=some x) (hx:Loc X.env.scope x) (he:PE X e te) (hs:swapsWith e (some (.Name x pos')) pos.line X.env=pure false:=by rfl) (hf:X.fn x=true\/X.env.scope.names.lookup x=some .local:=by first | exact .inl rfl | exact .inr rfl | assumption) :
  PS X (.Assign [.Name x pos'] e pos) (qk te (aN i)):=by
 intro pins s Y H D I h
 refine wpAny_Assign_Name (thn (he pins s Y H _ I h) λv s1 ⟨y,H1,I1,r1,q1⟩=>?_) hs
 exact iz I1 hN hi hx r1 (λs2 I2=>⟨_,H1,I2,q1⟩) hf
end
section
variable {X:Cx}{pos:Pos}
end
structure It where
 go:Nat->Hp->Prop
 yld:Nat->Hp->V->Hp->Prop
 stop:Nat->Hp->Prop
def iu (X:Cx) (pins:List (Addr × Obj)) (H:Hp) (b:Addr):Prop:=
 H b=none/\b≠X.env.locals/\b∉X.fs/\(b∈X.ex\/X.s₀.heap.objs.size<=b)/\(∀x c,X.env.cells.lookup x=some c->c≠b)/\∀p∈X.pn++pins,p.1≠b
theorem Inv.fpOk {X:Cx}{pins:List (Addr × Obj)}{Y:St}{H H':Hp}{s:Shared}{b:Addr} (I:Inv X pins Y H s) (hb:s.heap.objs.size<=b) (hn:H' b=none):iu X pins H' b:=by
 refine⟨hn,Nat.ne_of_gt (Nat.lt_of_lt_of_le I.lt hb),I.nofs hb,.inr (Nat.le_trans I.sz hb),λx c e z=>?_,λp hp z=>?_⟩
 ·obtain⟨v,q⟩:=I.cell x c e
  exact absurd (Nat.lt_of_lt_of_le q.lt (by rw [z];exact hb)) (Nat.lt_irrefl _)
 ·exact absurd (Nat.lt_of_lt_of_le (Heap.lt_size (I.pin p hp).1) (by rw [z];exact hb)) (Nat.lt_irrefl _)
structure Turn (P:Program) (w:World) (K:PySem.W.Frag) (tg:Expr) (J:It) (fp:List Addr) (it:Addr) (tn:Nat->Heap->Prop):Prop where
 mem:it∈fp
 obj:∀i h,tn i h->∀b∈fp,∃o,h.get? b=some o/\∀v,o.data≠.cell v
 keep:∀i h h',tn i h->(∀b∈fp,∀o,h.get? b=some o->h'.get? b=some o)->tn i h'
 item:∀(X:Cx),X.prog=P->X.w=w->X.K=K->X.calm=true->∀(i:Nat) (pins:List (Addr × Obj)) (s:Shared) (Y:St) (H:Hp) (E:Value->Shared->Prop),Inv X pins Y H s->(∀b∈fp,iu X pins H b)->tn i s.heap->J.go i H->
  wpAny (model P w) X.A (pyNext (.ref it)) (λr s1=>∃u,r=some u/\
   wpAny (model P w) X.A (letOwnedTupleGo tg (.ref it) u) (λ_ s2=>∃x H',Inv X pins Y H' s2/\bh x u/\J.yld i H x H'/\tn (i+1) s2.heap/\∀b∈fp,H' b=none) E s1) E s
 done:∀(X:Cx),X.prog=P->X.w=w->X.K=K->X.calm=true->∀(i:Nat) (pins:List (Addr × Obj)) (s:Shared) (Y:St) (H:Hp) (E:Value->Shared->Prop),Inv X pins Y H s->(∀b∈fp,iu X pins H b)->tn i s.heap->J.stop i H->
  wpAny (model P w) X.A (pyNext (.ref it)) (λr s1=>r=none/\Inv X pins Y H s1) E s
 self:∀(A:Around) (i:Nat) (s:Shared) (Q:Value->Shared->Prop) (E:Value->Shared->Prop),tn i s.heap->Q (.ref it) s->wpAny (model P w) A (pyIter (.ref it)) Q E s
abbrev TI:=St->Hp->(It->Hp->Prop)->Prop
def PIE (X:Cx) (pins:List (Addr × Obj)) (Y:St) (tg:Expr) (R:It->Hp->Prop) (itv:Value) (s2:Shared):Prop:=
 ∃(it:Addr) (fp:List Addr) (tn:Nat->Heap->Prop) (J:It) (H':Hp),itv=.ref it/\Inv X pins Y H' s2/\Turn X.prog X.w X.K tg J fp it tn/\tn 0 s2.heap/\(∀b∈fp,iu X pins H' b)/\R J H'
def PI (X:Cx) (tg iter:Expr) (wi:TI):Prop:=
 ∀(pins:List (Addr × Obj)) (s:Shared) (Y:St) (H:Hp) (R:It->Hp->Prop),Inv X pins Y H s->wi Y H R->
  wpAny (model X.prog X.w) X.A (eval iter X.env) (λv s1=>wpAny (model X.prog X.w) X.A (pyIter v) (PIE X pins Y tg R) X.xe s1) X.xe s
theorem sS {M : Model} {A : Around} {E : Value → Shared → Prop} {s : Shared} {tg : Expr} {it : Addr} {u : Value} {o : Obj} {n : String} {vs : Array Value} {Q : Unit → Shared → Prop} (ho : s.heap.get? it = some o) (hc : o.cls = .type n) (hd : o.data = .fields vs)
    (hn : ["enumerate", "zip", "dict_itemiterator", "dict_reverseitemiterator", "odict_iterator", "itertools.zip_longest", "itertools.pairwise"].contains n = false) (hQ : Q () s) : wpAny M A (letOwnedTupleGo tg (.ref it) u) Q E s := by
  unfold letOwnedTupleGo
  cases tg <;> first
    | exact wpAny_pure hQ
    | (cases u <;> first
        | exact wpAny_pure hQ
        | (refine wpAny_bind (wpAny_load ho ?_)
           rw [hc, hd]
           show wpAny M A (if (["enumerate", "zip", "dict_itemiterator", "dict_reverseitemiterator", "odict_iterator", "itertools.zip_longest", "itertools.pairwise"].contains n && vs[0]? == some (rawInt _)) = true then _ else _) Q E s
           rw [if_neg (by intro h; rw [hn, Bool.false_and] at h; cases h)]
           exact wpAny_pure hQ))
noncomputable def Itl (K:PySem.W.Frag) (a:Addr):It:=
 ⟨λi H=>∃xs x,SqL K H a xs/\xs[i]?=some x,λi H x H'=>H'=H/\∀xs,SqL K H a xs->xs[i]?=some x,λi H=>∃xs,SqL K H a xs/\xs.length<=i⟩
noncomputable def Itr (lo:Int) (n:Nat):It:=⟨λi _=>i < n,λi H x H'=>H'=H/\x=.int (lo+i),λi _=>n<=i⟩
theorem tz {P:Program}{w:World}{K:PySem.W.Frag}{tg:Expr} (a it:Addr):Turn P w K tg (Itl K a) [it] it (λi h=>h.IsListIter it a i) where
 mem:=by simp
 obj:=λi h st b hb=>by
  have e:b=it:=by simpa using hb
  subst e
  obtain⟨o,e,c,d⟩:=st
  exact⟨o,e,λv z=>by rw [d]at z;cases z⟩
 keep:=λi h h' st k=>st.at λo e=>k it (by simp) o e
 item:=by
  intro X hP hw hK hc i pins s Y H E I hf st hg
  subst hP hw hK
  obtain⟨xs,x,hq,hx⟩:=hg
  obtain⟨its,rv,p,hz⟩:=I.list hq
  obtain⟨u,hu,ru⟩:=rv.get hx
  obtain⟨f0,f1,f2,f3,f4,f5⟩:=hf it (by simp)
  refine wpAny_pyNext_list_item st p.isList (x:=u) (by simpa using hu) λh' st' sb=>?_
  have I1:Inv X pins Y H { s with heap:=h' }:=I.turned (t':=s.toks) (λb o hb e=>(sb.2 b hb).trans e) f0 f1 f3 f4 f5
  obtain⟨o,e,c,d⟩:=id st'
  exact⟨u,rfl,sS (s:={ s with heap:=h' }) e c d (by decide) ⟨x,H,I1,ru,⟨rfl,λys hy=>by rw [I.list_inj hy hq];exact hx⟩,st',λb hb=>(hf b hb).1⟩⟩
 done:=by
  intro X hP hw hK hc i pins s Y H E I hf st hg
  subst hP hw hK
  obtain⟨xs,hq,hx⟩:=hg
  obtain⟨its,rv,p,hz⟩:=I.list hq
  obtain⟨f0,f1,f2,f3,f4,f5⟩:=hf it (by simp)
  have hl:=rv.length
  exact wpAny_pyNext_list_end (I.ok.hd hc) st p.isList (by simp;omega) λh' eb=>⟨rfl,I.turned (t':=s.toks) (λb o hb e=>eb b o hb e) f0 f1 f3 f4 f5⟩
 self:=λ_ _ _ _ _ st h=>wpAny_pyIter_listiter st h
theorem qe {P:Program}{w:World}{K:PySem.W.Frag}{tg:Expr} (it:Addr) (lo:Int) (n:Nat):Turn P w K tg (Itr lo n) [it] it (λi h=>IsRangeIter h it (lo+(i:Nat) * 1) ((n:Int) - (i:Nat)) 1) where
 mem:=by simp
 obj:=λi h st b hb=>by
  have e:b=it:=by simpa using hb
  subst e
  exact⟨_,st,λv z=>by
   have z':Data.fields _=Data.cell v:=z
   cases z'⟩
 keep:=λi h h' st k=>k it (by simp) _ st
 item:=by
  intro X hP hw hK hc i pins s Y H E I hf st hg
  subst hP hw hK
  obtain⟨f0,f1,f2,f3,f4,f5⟩:=hf it (by simp)
  have W:=Walks.range (prog:=X.prog) (w:=X.w) (I.ok.hd hc) it lo 1 n
  refine W.item i s _ _ hg st λv h' tk hv st' kk=>?_
  obtain⟨t,rfl⟩:=hv
  have I1:Inv X pins Y H { s with heap:=h',toks:=tk }:=I.turned (λb o hb e=>kk b o (by simpa using hb) e) f0 f1 f3 f4 f5
  refine⟨_,rfl,sS (s:={ s with heap:=h',toks:=tk }) (n:="range_iterator") st' rfl rfl (by decide) ⟨.int (lo+i),H,I1,⟨t,?_⟩,⟨rfl,rfl⟩,st',λb hb=>(hf b hb).1⟩⟩
  rw [Int.mul_one]
 done:=by
  intro X hP hw hK hc i pins s Y H E I hf st hg
  subst hP hw hK
  obtain⟨f0,f1,f2,f3,f4,f5⟩:=hf it (by simp)
  exact wpAny_pyNext_range_end (I.ok.hd hc) st (by have:n<=i:=hg;omega) λh' eb=>⟨rfl,I.turned (t':=s.toks) (λb o hb e=>eb b o hb e) f0 f1 f3 f4 f5⟩
 self:=λ_ _ _ _ _ st h=>wpAny_pyIter_rangeiter st h
end L2
namespace L2
open PySem PySem.Spec PyProof.Rows
section
variable {X:Cx}{tg:Expr}
def sR (K:PySem.W.Frag) (tl:TE):TI:=λY H R=>tl Y H λx H1=>∃a,x=.ref a/\(∃xs,SqL K H1 a xs)/\R (Itl K a) H1
theorem cc {l:Expr}{tl:TE} (hl:PE X l tl):PI X tg l (sR X.K tl):=by
 intro pins s Y H R I h
 refine thn (hl pins s Y H _ I h) λv s1 ⟨x,H1,I1,r1,q1⟩=>?_
 obtain⟨a,e,⟨xs,hq⟩,q⟩:=q1
 subst e
 cases r1
 obtain⟨its,rv,p,hz⟩:=I1.list hq
 refine wpAny_pyIter_list p.isList ?_
 refine⟨s1.heap.objs.size,[s1.heap.objs.size],_,_,H1,rfl,I1.kept (t':=s1.toks) λb o e=>Heap.get?_push_of_some _ e,tz a _,⟨_,Heap.get?_push_size _ rfl,rfl,rfl⟩,λb hb=>?_,q⟩
 have e:b=s1.heap.objs.size:=by simpa using hb
 subst e
 exact I1.fpOk (Nat.le_refl _) (I1.hok.fresh (Nat.le_refl _))
theorem p8 {pins:List (Addr × Obj)}{Y:St}{H:Hp}{s:Shared}{R:It->Hp->Prop}{E:Value->Shared->Prop}{lo hi:Int}{t u v:Tok}{tk:Nat} (I:Inv X pins Y H s) (h1 : -(2 ^ 62)<=lo) (h2:lo < 2 ^ 62) (h3 : -(2 ^ 62)<=hi) (h4:hi < 2 ^ 62)
  (q:R (Itr lo (hi - lo).toNat) H):wpAny (model X.prog X.w) X.A (pyIter (.ref s.heap.objs.size)) (PIE X pins Y tg R) E { s with heap:=s.heap.push { cls:=.type "range", data:=.fields #[.int lo t,.int hi u,.int 1 v] },toks:=tk }:=by
 refine wpAny_pyIter_range (IsRange.new ..) (small_one h1 h2 h3 h4) ?_
 have I1:Inv X pins Y H { s with heap:=s.heap.push { cls:=.type "range", data:=.fields #[.int lo t,.int hi u,.int 1 v] },toks:=tk }:=I.kept λb o e=>Heap.get?_push_of_some _ e
 refine⟨(s.heap.push { cls:=.type "range", data:=.fields #[.int lo t,.int hi u,.int 1 v] }).objs.size,[(s.heap.push { cls:=.type "range", data:=.fields #[.int lo t,.int hi u,.int 1 v] }).objs.size],_,_,H,rfl,
  I1.kept (t':=tk) λb o e=>Heap.get?_push_of_some _ e,qe _ lo (hi - lo).toNat,?_,λb hb=>?_,q⟩
 ·have e1:lo+((0:Nat):Int) * 1=lo:=by simp
  have e2:(((hi - lo).toNat:Nat):Int) - ((0:Nat):Int)=Builtin.Range.rangeSize lo hi 1:=by rw [rangeSize_one];split <;> omega
  show IsRangeIter _ _ (lo+((0:Nat):Int) * 1) ((((hi - lo).toNat:Nat):Int) - ((0:Nat):Int)) 1
  rw [e1,e2]
  exact Heap.get?_push_size _ rfl
 ·have e:b=(s.heap.push { cls:=.type "range", data:=.fields #[.int lo t,.int hi u,.int 1 v] }).objs.size:=by simpa using hb
  subst e
  exact I1.fpOk (Nat.le_refl _) (I1.hok.fresh (Nat.le_refl _))
def BI (ta:TA):TI:=λY H R=>ta Y H λvs H1=>∃j:Int,vs=[.int j]/\-(2 ^ 62)<=j/\j < 2 ^ 62/\R (Itr 0 j.toNat) H1
def BH (ta:TA):TI:=λY H R=>ta Y H λvs H1=>∃i j:Int,vs=[.int i,.int j]/\(-(2 ^ 62)<=i/\i < 2 ^ 62/\-(2 ^ 62)<=j/\j < 2 ^ 62)/\R (Itr i (j - i).toNat) H1
theorem eY {a:Expr}{ta:TA}{p pos:Pos} (hg:Gl X "range") (hm:X.mg "range" = none) (ha:PA X [a] ta) (hs:starEach [a] X.env=[(false,eval a X.env)]:=by rfl):PI X tg (.Call (.Name "range" p) [a] [] pos) (BI ta):=by
 intro pins s Y H R I h
 refine Call_ (io I hg hm boot_range (PyProof.Rows.callWith_type1 (thn (ha pos pins s Y H _ I h) λus s1 ⟨vs,H1,I1,r1,q1⟩=>?_) hs rfl))
 obtain⟨j,e,q1,q2,q⟩:=q1
 subst e
 cases r1 with
 | cons r rr=>
  cases rr
  obtain⟨t,rfl⟩:=r
  exact call_range_1 (p8 I1 (by omega) (by omega) q1 q2 (by simpa using q))
theorem tK {a b:Expr}{ta:TA}{p pos:Pos} (hg:Gl X "range") (hm:X.mg "range" = none) (ha:PA X [a,b] ta) (hs:starEach [a,b] X.env=[(false,eval a X.env),(false,eval b X.env)]:=by rfl) (hs2:starEach [b] X.env=[(false,eval b X.env)]:=by rfl) :
  PI X tg (.Call (.Name "range" p) [a,b] [] pos) (BH ta):=by
 intro pins s Y H R I h
 refine Call_ (io I hg hm boot_range (PyProof.Rows.callWith_type1 (thn (ha pos pins s Y H _ I h) λus s1 ⟨vs,H1,I1,r1,q1⟩=>?_) (by rw [hs,hs2]) (by rw [hs2];rfl)))
 obtain⟨i,j,e,⟨q1,q2,q3,q4⟩,q⟩:=q1
 subst e
 cases r1 with
 | cons r rr=>
  cases rr with
  | cons r' rr=>
   cases rr
   obtain⟨t,rfl⟩:=r
   obtain⟨t',rfl⟩:=r'
   exact call_range_2 (p8 I1 q1 q2 q3 q4 q)
def C7 (wi:TI) (g:TG) (tb:TS):TS:=λD Y H=>wi Y H λJ H1=>∃W:Nat->Nat->St->Hp->Prop,(∃m,W 0 m Y H1)/\∀i m Y H,W i m Y H->
 (J.stop i H/\D.nx Y H)\/(J.go i H/\∃N:St->Hp->Prop,(∀Y' H',N Y' H'->∃m',m' < m/\W (i+1) m' Y' H')/\∀x H',J.yld i H x H'->g x Y H' λY2 H2=>tb { D with nx:=N,ct:=N,bk:=D.nx } Y2 H2)
noncomputable def kh (fp:List Addr) (h:Heap):List (Addr × Obj):=fp.filterMap λb=>(h.get? b).map λo=>(b,o)
theorem fE {fp:List Addr}{h:Heap}{b:Addr}{o:Obj} (hb:b∈fp) (e:h.get? b=some o):(b,o)∈kh fp h:=List.mem_filterMap.mpr ⟨b,hb,by rw [e];rfl⟩
theorem ub {fp:List Addr}{h:Heap}{p:Addr × Obj} (hp:p∈kh fp h):p.1∈fp/\h.get? p.1=some p.2:=by
 obtain⟨b,hb,e⟩:=List.mem_filterMap.mp hp
 cases q:h.get? b with
 | none=>rw [q]at e;cases e
 | some o=>
  rw [q]at e
  have e':(b,o)=p:=Option.some.inj e
  subst e'
  exact⟨hb,q⟩
theorem Inv.pinned {pins:List (Addr × Obj)}{Y:St}{H:Hp}{s:Shared}{fp:List Addr} (I:Inv X pins Y H s) (hf:∀b∈fp,iu X pins H b) (ho:∀b∈fp,∃o,s.heap.get? b=some o/\∀v,o.data≠.cell v):Inv X (pins++kh fp s.heap) Y H s:=
 I.pins_of λp hp=>(List.mem_append.mp hp).elim (λz=>I.pin p (List.mem_append_right _ z)) λz=>by
  obtain⟨hb,e⟩:=ub z
  obtain⟨f0,f1,f2,_⟩:=hf p.1 hb
  obtain⟨o,e',d⟩:=ho p.1 hb
  rw [e]at e';cases e'
  exact⟨e,f0,f1,f2,d⟩
theorem Inv.unpinned {pins pl:List (Addr × Obj)}{Y:St}{H:Hp}{s:Shared} (I:Inv X (pins++pl) Y H s):Inv X pins Y H s:=I.pins_of λp hp=>I.pin p (List.mem_append_right _ (List.mem_append_left _ hp))
theorem dX {iter:Expr}{body:List Stmt}{wi:TI}{g:TG}{tb:TS}{pos:Pos} (hp:PassesOwn (model X.prog X.w) X.A X.env X.xe) (hc:X.calm=true) (hi:PI X tg iter wi) (hg:PG X tg g) (hb:PSs X body tb)
  (hs:∀x,foldedSetIterable iter X.env x=pure x:=by intro _;rfl):PS X (.For tg iter body [] pos) (C7 wi g tb):=by
 intro pins s Y H D I h
 refine wpAny_For (thn (hi pins s Y H _ I h) λv s1 h1=>thn h1 λitv s2 h2=>?_) hs
 obtain⟨it,fp,tn,J,H2,e,I2,T,st2,f2,W,⟨m0,w0⟩,turn⟩:=h2
 subst e
 have stat:∀{H':Hp},(∀b∈fp,H' b=none)->∀b∈fp,iu X pins H' b:=λhn b hb=>⟨hn b hb,(f2 b hb).2⟩
 refine codeAny_forLoop_any (λn s'=>∃i Y' H',Inv X pins Y' H' s'/\tn i s'.heap/\(∀b∈fp,H' b=none)/\W i n Y' H') ?_ m0 ⟨0,Y,H2,I2,st2,λb hb=>(f2 b hb).1,w0⟩
 rintro n s3 ⟨i,Y3,H3,I3,st3,fr3,w3⟩
 rcases turn i n Y3 H3 w3 with⟨stop,qn⟩ | ⟨go,N,hN,step⟩
 ·refine wpAny_passesOwn hp (thn (T.done X rfl rfl rfl hc i pins s3 Y3 H3 X.xe I3 (stat fr3) st3 stop) λr s4 ⟨hr,I4⟩=>?_)
  subst hr
  exact wpAny_execs_nil ⟨Y3,H3,I4,qn⟩
 ·refine wpAny_passesOwn hp (thn (T.item X rfl rfl rfl hc i pins s3 Y3 H3 X.xe I3 (stat fr3) st3 go) λr s4 ⟨u,hr,h4⟩=>?_)
  subst hr
  refine wpAny_passesOwn hp (thn h4 λ_ s5 ⟨x,H5,I5,r5,y5,st5,fr5⟩=>?_)
  have I5':=I5.pinned (stat fr5) (T.obj _ _ st5)
  refine wpAny_passesOwn hp (thn (hg _ s5 Y3 H5 x u _ I5' r5 (step x H5 y5)) λ_ s6 ⟨Y6,H6,I6,q6⟩=>?_)
  refine wpAny_passesOwn hp (thn (hb _ s6 Y6 H6 _ I6 q6) λf s7 q7=>?_)
  have again:∀{Y7:St}{H7:Hp},Inv X (pins++kh fp s5.heap) Y7 H7 s7->N Y7 H7->∃m,m < n/\∃i Y' H',Inv X pins Y' H' s7/\tn i s7.heap/\(∀b∈fp,H' b=none)/\W i m Y' H':=λ{Y7 H7} I7 n7=>by
   obtain⟨m',hm,w7⟩:=hN Y7 H7 n7
   refine⟨m',hm,i+1,Y7,H7,I7.unpinned,T.keep _ _ _ st5 λb hb o e=>(I7.pin (b,o) (List.mem_append_right _ (List.mem_append_right _ (fE hb e)))).1,λb hb=>?_,w7⟩
   obtain⟨o,e,d⟩:=T.obj _ _ st5 b hb
   exact(I7.pin (b,o) (List.mem_append_right _ (List.mem_append_right _ (fE hb e)))).2.1
  cases f with
  | next=>obtain⟨Y7,H7,I7,n7⟩:=q7;exact again I7 n7
  | cont=>obtain⟨Y7,H7,I7,n7⟩:=q7;exact again I7 n7
  | brk=>obtain⟨Y7,H7,I7,q7⟩:=q7;exact⟨Y7,H7,I7.unpinned,q7⟩
  | ret v=>obtain⟨x7,Y7,H7,I7,r7,q7⟩:=q7;exact⟨x7,Y7,H7,I7.unpinned,r7,q7⟩
end
theorem dc {K:PySem.W.Frag}{a:Addr}{xs:List V}{g:TG}{tb:TS}{D:Ends}{Y:St}{H:Hp} (Pv:Nat->St->Hp->Prop) (h0:Pv 0 Y H) (hl:∀i Y H,i<=xs.length->Pv i Y H->SqL K H a xs)
  (hs:∀i x Y H,xs[i]?=some x->Pv i Y H->g x Y H λY2 H2=>tb { D with nx:=Pv (i+1),ct:=Pv (i+1),bk:=D.nx } Y2 H2) (hd:∀Y H,Pv xs.length Y H->D.nx Y H) :
  ∃W:Nat->Nat->St->Hp->Prop,(∃m,W 0 m Y H)/\∀i m Y H,W i m Y H->
   ((Itl K a).stop i H/\D.nx Y H)\/((Itl K a).go i H/\∃N:St->Hp->Prop,(∀Y' H',N Y' H'->∃m',m' < m/\W (i+1) m' Y' H')/\∀x H',(Itl K a).yld i H x H'->g x Y H' λY2 H2=>tb { D with nx:=N,ct:=N,bk:=D.nx } Y2 H2):=by
 refine⟨λi m Y H=>m=xs.length - i/\i<=xs.length/\Pv i Y H,⟨xs.length,by simp,Nat.zero_le _,h0⟩,?_⟩
 rintro i m Y H ⟨rfl,hi,p⟩
 have q:=hl i Y H hi p
 by_cases hlt:i < xs.length
 ·refine .inr ⟨⟨xs,xs[i],q,by simp [hlt]⟩,Pv (i+1),λY' H' p'=>⟨xs.length - (i+1),by omega,rfl,hlt,p'⟩,λx H' y=>?_⟩
  obtain⟨e,y⟩:=y
  subst e
  exact hs i x Y _ (y xs q) p
 ·have e:i=xs.length:=by omega
  subst e
  exact .inl ⟨⟨xs,q,Nat.le_refl _⟩,hd Y H p⟩
theorem uo {lo:Int}{n:Nat}{g:TG}{tb:TS}{D:Ends}{Y:St}{H:Hp} (Pv:Nat->St->Hp->Prop) (h0:Pv 0 Y H)
  (hs:∀i Y H,i < n->Pv i Y H->g (.int (lo+i)) Y H λY2 H2=>tb { D with nx:=Pv (i+1),ct:=Pv (i+1),bk:=D.nx } Y2 H2) (hd:∀Y H,Pv n Y H->D.nx Y H) :
  ∃W:Nat->Nat->St->Hp->Prop,(∃m,W 0 m Y H)/\∀i m Y H,W i m Y H->
   ((Itr lo n).stop i H/\D.nx Y H)\/((Itr lo n).go i H/\∃N:St->Hp->Prop,(∀Y' H',N Y' H'->∃m',m' < m/\W (i+1) m' Y' H')/\∀x H',(Itr lo n).yld i H x H'->g x Y H' λY2 H2=>tb { D with nx:=N,ct:=N,bk:=D.nx } Y2 H2):=by
 refine⟨λi m Y H=>m=n - i/\i<=n/\Pv i Y H,⟨n,by simp,Nat.zero_le _,h0⟩,?_⟩
 rintro i m Y H ⟨rfl,hi,p⟩
 by_cases hlt:i < n
 ·refine .inr ⟨hlt,Pv (i+1),λY' H' p'=>⟨n - (i+1),by omega,rfl,hlt,p'⟩,λx H' y=>?_⟩
  obtain⟨e,y⟩:=y
  subst e y
  exact hs i Y _ hlt p
 ·have e:i=n:=by omega
  subst e
  exact .inl ⟨Nat.le_refl _,hd Y H p⟩
end L2
namespace L2
open PySem PySem.Spec PyProof.Rows
abbrev R2:=V->V->Hp->VK->Prop
def OpR (X:Cx) (f:Value->Value->Sem Value) (r:R2):Prop:=
 ∀(pins:List (Addr × Obj)) (s:Shared) (Y:St) (H:Hp) (x y:V) (v u:Value) (Q:VK),Inv X pins Y H s->bh x v->bh y u->r x y H Q->
  wpAny (model X.prog X.w) X.A (f v u) (EP X pins Y Q) X.xe s
def UnR (X:Cx) (f:Value->Sem Value) (r:V->Hp->VK->Prop):Prop:=
 ∀(pins:List (Addr × Obj)) (s:Shared) (Y:St) (H:Hp) (x:V) (v:Value) (Q:VK),Inv X pins Y H s->bh x v->r x H Q->
  wpAny (model X.prog X.w) X.A (f v) (EP X pins Y Q) X.xe s
def dq (X:Cx) (f:Value) (r:List V->Hp->VK->Prop):Prop:=
 ∀(pins:List (Addr × Obj)) (s:Shared) (Y:St) (H:Hp) (xs:List V) (us:List Value) (Q:VK),Inv X pins Y H s->aP xs us->r xs H Q->
  wpAny (model X.prog X.w) X.A (call f us) (EP X pins Y Q) X.xe s
def Cn (X:Cx) (r:V->Hp->(Bool->Hp->Prop)->Prop):Prop:=
 ∀(pins:List (Addr × Obj)) (s:Shared) (Y:St) (H:Hp) (x:V) (v:Value) (Q:Bool->Hp->Prop),Inv X pins Y H s->bh x v->r x H Q->
  wpAny (model X.prog X.w) X.A (truthy v) (TP X pins Y Q) X.xe s
def tOp (r:R2) (ta tb:TE):TE:=λY H Q=>ta Y H λx H1=>tb Y H1 λy H2=>r x y H2 Q
def tUn (r:V->Hp->VK->Prop) (ta:TE):TE:=λY H Q=>ta Y H λx H1=>r x H1 Q
inductive rI (C:Int->Int->Prop) (g:Int->Int->V) (x:V) (y:V) (H:Hp) (Q:VK):Prop
 | mk (i j) (h1:x=.int i) (h2:y=.int j) (h3:C i j) (h4:Q (g i j) H)
inductive rI0 (g:Int->Int->V) (x:V) (y:V) (H:Hp) (Q:VK):Prop
 | mk (i j) (h1:x=.int i) (h2:y=.int j) (h3:Q (g i j) H)
def rU (g:Int->V):V->Hp->VK->Prop:=λx H Q=>∃i,x=.int i/\Q (g i) H
section
variable {X:Cx}{a b c:Expr}{ta tb tc:TE}{pos:Pos}
theorem AJ (ha:PE X a ta) (hb:PE X b tb){pins:List (Addr × Obj)}{s:Shared}{Y:St}{H:Hp}{R:V->V->Hp->Prop} (I:Inv X pins Y H s)
  (h:ta Y H λx H1=>tb Y H1 λy H2=>R x y H2){Q:Value->Shared->Prop}{f:Value->Value->Sem Value}
  (hf:∀v u s2 x y H2,Inv X pins Y H2 s2->bh x v->bh y u->R x y H2->wpAny (model X.prog X.w) X.A (f v u) Q X.xe s2) :
  wpAny (model X.prog X.w) X.A (eval a X.env) (λv s₁=>wpAny (model X.prog X.w) X.A (eval b X.env) (λu s₂=>wpAny (model X.prog X.w) X.A (f v u) Q X.xe s₂) X.xe s₁) X.xe s:=by
 refine thn (ha pins s Y H _ I h) λv s1 ⟨x,H1,I1,r1,q1⟩=>?_
 refine thn (hb pins s1 Y H1 _ I1 q1) λu s2 ⟨y,H2,I2,r2,q2⟩=>?_
 exact hf v u s2 x y H2 I2 r1 r2 q2
theorem aD {op:Operator}{r:R2} (ho:OpR X (binaryOp op) r) (ha:PE X a ta) (hb:PE X b tb):PE X (.BinOp a op b pos) (tOp r ta tb):=by
 intro pins s Y H Q I h
 exact wpAny_BinOp (AJ ha hb I h λv u s2 x y H2 I2 rx ry q=>ho pins s2 Y H2 x y v u Q I2 rx ry q)
theorem hV {op:UnaryOp}{r:V->Hp->VK->Prop} (ho:UnR X (unaryOp op) r) (ha:PE X a ta):PE X (.UnaryOp op a pos) (tUn r ta):=by
 intro pins s Y H Q I h
 exact UnaryOp_ (thn (ha pins s Y H _ I h) λv s1 ⟨x,H1,I1,r1,q1⟩=>ho pins s1 Y H1 x v Q I1 r1 q1)
theorem opI {f:Value->Value->Sem Value}{C:Int->Int->Prop}{g:Int->Int->Int}
  (rule:∀(i j:Int) (t u:Tok) (s:Shared) (Q:Value->Shared->Prop) (E:Value->Shared->Prop),C i j->Q (.int (g i j) s.toks) { s with toks:=s.toks+1 }->wpAny (model X.prog X.w) X.A (f (.int i t) (.int j u)) Q E s) :
  OpR X f (rI C λi j=>.int (g i j)):=by
 intro pins s Y H x y v u Q I rx ry h
 obtain⟨i,j,rfl,rfl,hc,q⟩:=h
 obtain⟨t,rfl⟩:=rx
 obtain⟨t',rfl⟩:=ry
 exact rule i j t t' s _ _ hc ⟨.int (g i j),H,I.tok _,⟨_,rfl⟩,q⟩
theorem BB {f:Value->Value->Sem Value}{g:Int->Int->Int}
  (rule:∀(i j:Int) (t u:Tok) (s:Shared) (Q:Value->Shared->Prop) (E:Value->Shared->Prop),Q (.int (g i j) s.toks) { s with toks:=s.toks+1 }->wpAny (model X.prog X.w) X.A (f (.int i t) (.int j u)) Q E s) :
  OpR X f (rI0 λi j=>.int (g i j)):=by
 intro pins s Y H x y v u Q I rx ry h
 obtain⟨i,j,rfl,rfl,q⟩:=h
 obtain⟨t,rfl⟩:=rx
 obtain⟨t',rfl⟩:=ry
 exact rule i j t t' s _ _ ⟨.int (g i j),H,I.tok _,⟨_,rfl⟩,q⟩
theorem ye {f:Value->Value->Sem Value}{g:Int->Int->Bool}
  (rule:∀(i j:Int) (t u:Tok) (s:Shared) (Q:Value->Shared->Prop) (E:Value->Shared->Prop),Q (.bool (g i j)) s->wpAny (model X.prog X.w) X.A (f (.int i t) (.int j u)) Q E s) :
  OpR X f (rI0 λi j=>.bl (g i j)):=by
 intro pins s Y H x y v u Q I rx ry h
 obtain⟨i,j,rfl,rfl,q⟩:=h
 obtain⟨t,rfl⟩:=rx
 obtain⟨t',rfl⟩:=ry
 exact rule i j t t' s _ _ ⟨.bl (g i j),H,I,rfl,q⟩
def q8 (i j:Int):Prop:=0<=j/\j<=1000000/\i.natAbs < 2 ^ 64
def AR (i j:Int):Prop:=(-(2 ^ 64) < i/\i < 2 ^ 64)\/(-(2 ^ 64) < j/\j < 2 ^ 64)
theorem AR.ok {i j:Int} (h:AR i j):IntMulOk i j:=by
 rcases h with⟨h1,h2⟩ | ⟨h1,h2⟩
 ·exact .of_left (intBits_le_64 h1 h2)
 ·exact .of_right (intBits_le_64 h1 h2)
theorem qc (k:Nat):(0:Int)<=2 ^ k:=by
 rw [two_pow_cast]
 exact Int.natCast_nonneg _
theorem bL:OpR X (binaryOp .Add) (rI0 λi j=>.int (i+j)):=BB λ_ _ _ _ _ _ _ q=>add_int q
theorem cJ:OpR X (binaryOp .Sub) (rI0 λi j=>.int (i - j)):=BB λ_ _ _ _ _ _ _ q=>sub_int q
theorem eS:OpR X (binaryOp .Mult) (rI AR λi j=>.int (i * j)):=opI λ_ _ _ _ _ _ _ hc q=>mul_int q hc.ok
theorem eT:OpR X (binaryOp .Mod) (rI (λ_ j=>0 < j) λi j=>.int (i % j)):=opI λi j _ _ _ _ _ hc q=>by
 have h1:(0:Int) < j:=hc
 exact mod_int' (by omega) (by rw [Int.fmod_eq_emod_of_nonneg i (by omega)];exact q)
theorem cR:OpR X (binaryOp .Pow) (rI q8 λi j=>.int (i ^ j.toNat)):=opI λ_ _ _ _ _ _ _ hc q=>pow_int_small hc.1 hc.2.1 hc.2.2 q
theorem wq:OpR X (binaryOp .RShift) (rI (λ_ j=>0<=j) λi j=>.int (i / 2 ^ j.toNat)):=opI λi j _ _ _ _ _ hc q=>
 rshift_int hc (by rw [Int.fdiv_eq_ediv_of_nonneg i (qc _)];exact q)
theorem unI {f:Value->Sem Value}{g:Int->Int}
  (rule:∀(i:Int) (t:Tok) (s:Shared) (Q:Value->Shared->Prop) (E:Value->Shared->Prop),Q (.int (g i) s.toks) { s with toks:=s.toks+1 }->wpAny (model X.prog X.w) X.A (f (.int i t)) Q E s) :
  UnR X f (rU λi=>.int (g i)):=by
 intro pins s Y H x v Q I rx h
 obtain⟨i,rfl,q⟩:=h
 obtain⟨t,rfl⟩:=rx
 exact rule i t s _ _ ⟨.int (g i),H,I.tok _,⟨_,rfl⟩,q⟩
theorem eO:UnR X (unaryOp .USub) (rU λi=>.int (-i)):=unI λ_ _ _ _ _ q=>neg_int q
end
noncomputable def zG:V->V->Bool
 | .non,.non=>true | .non,.int _=>true | .int _,.non=>true | .non,.bl _=>true | .bl _,.non=>true | .non,.str _=>true | .str _,.non=>true
 | .int _,.int _=>true | .bl _,.bl _=>true | .str _,.str _=>true | .byt _,.byt _=>true
 | .int _,.str _=>true | .str _,.int _=>true | .bl _,.str _=>true | .str _,.bl _=>true
 | _,_=>false
def rEq:R2:=λx y H Q=>zG x y=true/\Q (.bl (decide (x=y))) H
def rNe:R2:=λx y H Q=>zG x y=true/\Q (.bl (!decide (x=y))) H
theorem sZ {i j:Int}:decide (V.int i=V.int j)=(i == j):=by
 rw [Bool.eq_iff_iff]
 simp
theorem xo {i j:Bool}:decide (V.bl i=V.bl j)=(i == j):=by
 rw [Bool.eq_iff_iff]
 simp
theorem sY {i j:Str}:decide (V.str i=V.str j)=(i == j):=by
 rw [Bool.eq_iff_iff]
 simp
theorem t4 {i j:Array UInt8}:decide (V.byt i=V.byt j)=(i.toList == j.toList):=by
 rw [Bool.eq_iff_iff]
 cases i
 cases j
 simp
section
variable {X:Cx}{a b c:Expr}{ta tb tc:TE}{pos:Pos}
theorem bA {pins:List (Addr × Obj)}{Y:St}{H:Hp}{s:Shared}{Q:VK}{k k':Bool} (I:Inv X pins Y H s) (q:Q (.bl k) H) (e:k=k'):EP X pins Y Q (.bool k') s:=by
 subst e
 exact⟨.bl k,H,I,rfl,q⟩
theorem dk:OpR X (compareOp .Eq) rEq:=by
 intro pins s Y H x y v u Q I rx ry h
 obtain⟨hs,q⟩:=h
 cases x with
 | non=>
  cases rx
  cases y with
  | non=>cases ry;exact PySem.EqNone.eq_none_none (bA I q (by simp))
  | bl j=>cases ry;exact PySem.EqNone.eq_none_bool (bA I q (by simp))
  | int j=>obtain⟨t',rfl⟩:=ry;exact PySem.EqNone.eq_none_int (bA I q (by simp))
  | str j=>obtain⟨t',rfl⟩:=ry;exact PySem.EqNone.eq_none_str (bA I q (by simp))
  | _=>exact absurd (show false=true from hs) Bool.false_ne_true
 | bl i=>
  cases rx
  cases y with
  | non=>cases ry;exact PySem.EqNone.eq_bool_none (bA I q (by simp))
  | bl j=>cases ry;exact eq_bool (bA I q xo)
  | str j=>obtain⟨t',rfl⟩:=ry;exact PySem.EqMixed.eq_bool_str (bA I q (by simp))
  | _=>exact absurd (show false=true from hs) Bool.false_ne_true
 | int i=>
  obtain⟨t,rfl⟩:=rx
  cases y with
  | non=>cases ry;exact PySem.EqNone.eq_int_none (bA I q (by simp))
  | int j=>obtain⟨t',rfl⟩:=ry;exact eq_int (bA I q sZ)
  | str j=>obtain⟨t',rfl⟩:=ry;exact PySem.EqMixed.eq_int_str (bA I q (by simp))
  | _=>exact absurd (show false=true from hs) Bool.false_ne_true
 | str i=>
  obtain⟨t,rfl⟩:=rx
  cases y with
  | non=>cases ry;exact PySem.EqNone.eq_str_none (bA I q (by simp))
  | bl j=>cases ry;exact PySem.EqMixed.eq_str_bool (bA I q (by simp))
  | int j=>obtain⟨t',rfl⟩:=ry;exact PySem.EqMixed.eq_str_int (bA I q (by simp))
  | str j=>obtain⟨t',rfl⟩:=ry;exact eq_str (bA I q sY)
  | _=>exact absurd (show false=true from hs) Bool.false_ne_true
 | byt i=>
  obtain⟨t,rfl⟩:=rx
  cases y with
  | byt j=>obtain⟨t',rfl⟩:=ry;exact PySem.W.eq_bytes (bA I q t4)
  | _=>exact absurd (show false=true from hs) Bool.false_ne_true
 | _=>cases y <;> exact absurd (show false=true from hs) Bool.false_ne_true
theorem zg:OpR X (compareOp .NotEq) rNe:=by
 intro pins s Y H x y v u Q I rx ry h
 obtain⟨hs,q⟩:=h
 cases x with
 | non=>
  cases rx
  cases y with
  | non=>cases ry;exact PySem.EqNone.ne_none_none (bA I q (by simp))
  | bl j=>cases ry;exact PySem.EqNone.ne_none_bool (bA I q (by simp))
  | int j=>obtain⟨t',rfl⟩:=ry;exact PySem.EqNone.ne_none_int (bA I q (by simp))
  | str j=>obtain⟨t',rfl⟩:=ry;exact PySem.EqNone.ne_none_str (bA I q (by simp))
  | _=>exact absurd (show false=true from hs) Bool.false_ne_true
 | bl i=>
  cases rx
  cases y with
  | non=>cases ry;exact PySem.EqNone.ne_bool_none (bA I q (by simp))
  | bl j=>cases ry;exact ne_bool (bA I q (congrArg not xo))
  | str j=>obtain⟨t',rfl⟩:=ry;exact PySem.EqMixed.ne_bool_str (bA I q (by simp))
  | _=>exact absurd (show false=true from hs) Bool.false_ne_true
 | int i=>
  obtain⟨t,rfl⟩:=rx
  cases y with
  | non=>cases ry;exact PySem.EqNone.ne_int_none (bA I q (by simp))
  | int j=>obtain⟨t',rfl⟩:=ry;exact ne_int (bA I q (congrArg not sZ))
  | str j=>obtain⟨t',rfl⟩:=ry;exact PySem.EqMixed.ne_int_str (bA I q (by simp))
  | _=>exact absurd (show false=true from hs) Bool.false_ne_true
 | str i=>
  obtain⟨t,rfl⟩:=rx
  cases y with
  | non=>cases ry;exact PySem.EqNone.ne_str_none (bA I q (by simp))
  | bl j=>cases ry;exact PySem.EqMixed.ne_str_bool (bA I q (by simp))
  | int j=>obtain⟨t',rfl⟩:=ry;exact PySem.EqMixed.ne_str_int (bA I q (by simp))
  | str j=>obtain⟨t',rfl⟩:=ry;exact ne_str (bA I q (congrArg not sY))
  | _=>exact absurd (show false=true from hs) Bool.false_ne_true
 | byt i=>
  obtain⟨t,rfl⟩:=rx
  cases y with
  | byt j=>obtain⟨t',rfl⟩:=ry;exact PySem.W.ne_bytes (bA I q (congrArg not t4))
  | _=>exact absurd (show false=true from hs) Bool.false_ne_true
 | _=>cases y <;> exact absurd (show false=true from hs) Bool.false_ne_true
theorem sE:OpR X (compareOp .Lt) (rI0 λi j=>.bl (decide (i < j))):=ye λ_ _ _ _ _ _ _ q=>lt_int q
theorem fO:OpR X (compareOp .LtE) (rI0 λi j=>.bl (decide (i<=j))):=ye λ_ _ _ _ _ _ _ q=>le_int q
theorem wu:OpR X (compareOp .Gt) (rI0 λi j=>.bl (decide (j < i))):=ye λ_ _ _ _ _ _ _ q=>gt_int q
theorem wv:OpR X (compareOp .GtE) (rI0 λi j=>.bl (decide (j<=i))):=ye λ_ _ _ _ _ _ _ q=>ge_int q
theorem tQ:OpR X (compareOp .In) (λx y H Q=>∃i j,x=.str i/\y=.str j/\Q (.bl (!(Builtin.Str.occurrences j i 0 j.length 1).isEmpty)) H):=by
 intro pins s Y H x y v u Q I rx ry h
 obtain⟨i,j,rfl,rfl,q⟩:=h
 obtain⟨t,rfl⟩:=rx
 obtain⟨t',rfl⟩:=ry
 exact in_str (bA I q rfl)
theorem b9 (b:Expr){op:CmpOp} (h:op≠.In:=by decide) (h2:op≠.NotIn:=by decide):behindInMarks op b=false:=by
 have e1:(op == CmpOp.In)=false:=by cases op <;> first | rfl | exact absurd rfl h
 have e2:(op == CmpOp.NotIn)=false:=by cases op <;> first | rfl | exact absurd rfl h2
 cases b <;> simp [behindInMarks,e1,e2]
theorem fA {op:CmpOp}{r:R2} (ho:OpR X (compareOp op) r) (ha:PE X a ta) (hb:PE X b tb) (hm:behindInMarks op b=false):PE X (.Compare a [op] [b] pos) (tOp r ta tb):=by
 intro pins s Y H Q I h
 exact wpAny_Compare1 (AJ ha hb I h λv u s2 x y H2 I2 rx ry q=>ho pins s2 Y H2 x y v u Q I2 rx ry q) hm
inductive ttR (x:V) (H':Hp) (Q:Bool->Hp->Prop):Prop
 | mk (k) (h1:x=.bl k) (h2:Q k H')
def fT (t:TE):TT:=λY H Q=>t Y H λx H'=>ttR x H' Q
theorem aY {op:CmpOp}{r:R2} (ho:OpR X (compareOp op) r) (ha:PE X a ta) (hb:PE X b tb) (hm:behindInMarks op b=false):PT X (.Compare a [op] [b] pos) (fT (tOp r ta tb)):=by
 intro pins s Y H Q I h
 refine wpAny_isTrue_Compare1 (thn (ha pins s Y H _ I h) λv s1 ⟨x,H1,I1,r1,q1⟩=>thn (hb pins s1 Y H1 _ I1 q1) λu s2 ⟨y,H2,I2,r2,q2⟩=>
  thn (ho pins s2 Y H2 x y v u _ I2 r1 r2 q2) λc s3 ⟨z,H3,I3,r3,k,e,q3⟩=>?_) hm
 subst e
 cases r3
 exact wpAny_truthy_bool ⟨H3,I3,q3⟩
def uU (r r':R2) (ta tb tc:TE):TE:=λY H Q=>ta Y H λx H1=>tb Y H1 λy H2=>r x y H2 λz H3=>∃k,z=.bl k/\
 (if k=true then tc Y H3 λw' H4=>r' y w' H4 Q else Q (.bl false) H3)
theorem kr {op op':CmpOp}{r r':R2} (ho:OpR X (compareOp op) r) (ho':OpR X (compareOp op') r') (ha:PE X a ta) (hb:PE X b tb) (hc:PE X c tc)
  (hm:lastMarks [op,op'] [b,c]=false:=by with_unfolding_all rfl):PE X (.Compare a [op,op'] [b,c] pos) (uU r r' ta tb tc):=by
 intro pins s Y H Q I h
 refine Compare_chain (thn (ha pins s Y H _ I h) λv s1 ⟨x,H1,I1,r1,q1⟩=>chain_link (thn (hb pins s1 Y H1 _ I1 q1) λu s2 ⟨y,H2,I2,r2,q2⟩=>
  thn (ho pins s2 Y H2 x y v u _ I2 r1 r2 q2) λd s3 ⟨z,H3,I3,r3,k,e,q3⟩=>?_)) hm
 subst e
 cases r3
 refine wpAny_truthy_bool ?_
 cases k with
 | false=>exact ite_ff ⟨.bl false,H3,I3,rfl,q3⟩
 | true=>exact ite_tt (chain_last (thn (hc pins s3 Y H3 _ I3 q3) λw' s4 ⟨z',H4,I4,r4,q4⟩=>ho' pins s4 Y H4 y z' u w' Q I4 r2 r4 q4))
theorem kg {op op':CmpOp}{r r':R2} (ho:OpR X (compareOp op) r) (ho':OpR X (compareOp op') r') (ha:PE X a ta) (hb:PE X b tb) (hc:PE X c tc)
  (hm:lastMarks [op,op'] [b,c]=false:=by with_unfolding_all rfl):PT X (.Compare a [op,op'] [b,c] pos) (fT (uU r r' ta tb tc)):=by
 intro pins s Y H Q I h
 refine isTrue_chain (thn (ha pins s Y H _ I h) λv s1 ⟨x,H1,I1,r1,q1⟩=>test_link (thn (hb pins s1 Y H1 _ I1 q1) λu s2 ⟨y,H2,I2,r2,q2⟩=>
  thn (ho pins s2 Y H2 x y v u _ I2 r1 r2 q2) λd s3 ⟨z,H3,I3,r3,k,e,q3⟩=>?_)) hm
 subst e
 cases r3
 refine wpAny_truthy_bool ?_
 cases k with
 | false=>
  obtain⟨k',e',q'⟩:=q3
  cases e'
  exact ite_ff ⟨H3,I3,q'⟩
 | true=>
  refine ite_tt (test_last (thn (hc pins s3 Y H3 _ I3 q3) λw' s4 ⟨z',H4,I4,r4,q4⟩=>thn (ho' pins s4 Y H4 y z' u w' _ I4 r2 r4 q4) λd' s5 ⟨z2,H5,I5,r5,k2,e2,q5⟩=>?_))
  subst e2
  cases r5
  exact wpAny_truthy_bool ⟨H5,I5,q5⟩
def BR (K:PySem.W.Frag) (x:V) (H:Hp) (k:Bool):Prop:=
 match x with
 | .non=>k=false
 | .bl b=>k=b
 | .int i=>k=(i != 0)
 | .str y=>y.length<=sizeLine/\k=((y.length:Int) != 0)
 | .byt y=>y.size<=sizeLine/\k=((y.size:Int) != 0)
 | .ref p=>(∃xs,SqL K H p xs/\k = !xs.isEmpty)\/(∃xs,SqT K H p xs/\k = !xs.isEmpty)\/∃kvs,H p=some (.dK kvs)/\k = !kvs.isEmpty
 | _=>False
theorem qW {κ:Type}{kvs:List (κ × V)}{vs:List (κ × Value)} (r:KV kvs vs):(!vs.isEmpty) = !kvs.isEmpty:=by
 cases r <;> rfl
theorem kN {xs:List V}{its:List Value} (r:aP xs its):(!its.toArray.isEmpty) = !xs.isEmpty:=by
 cases r <;> simp
theorem im:(sizeLine:Nat) < 2 ^ 63:=by rw [sizeLine_eq];decide
theorem zw:Cn X (λx H Q=>∃k,BR X.K x H k/\Q k H):=by
 intro pins s Y H x v Q I rx h
 obtain⟨k,e,q⟩:=h
 have hl:=im
 have hs:sizeLine=16777216:=sizeLine_eq
 cases x with
 | non=>
  cases rx
  have e':k=false:=e
  subst e'
  exact truthy_none ⟨H,I,q⟩
 | bl b=>
  cases rx
  have e':k=b:=e
  subst e'
  exact wpAny_truthy_bool ⟨H,I,q⟩
 | int i=>
  obtain⟨t,rfl⟩:=rx
  have e':k=(i != 0):=e
  subst e'
  exact PySem.P.truthy_int ⟨H,I,q⟩
 | str y=>
  obtain⟨t,rfl⟩:=rx
  obtain⟨hy,e'⟩:y.length<=sizeLine/\k=((y.length:Int) != 0):=e
  subst e'
  exact PySem.P.truthy_str (by omega) ⟨H,I.tok _,q⟩
 | byt y=>
  obtain⟨t,rfl⟩:=rx
  obtain⟨hy,e'⟩:y.size<=sizeLine/\k=((y.size:Int) != 0):=e
  subst e'
  exact PySem.W.truthy_bytes (by omega) ⟨H,I.tok _,q⟩
 | ref p=>
  cases rx
  have e':(∃xs,SqL X.K H p xs/\k = !xs.isEmpty)\/(∃xs,SqT X.K H p xs/\k = !xs.isEmpty)\/∃kvs,H p=some (.dK kvs)/\k = !kvs.isEmpty:=e
  rcases e' with⟨xs,hx,e'⟩ | ⟨xs,hx,e'⟩ | ⟨kvs,hx,e'⟩
  ·subst e'
   obtain⟨its,r,pl,hz⟩:=I.list hx
   have hlen:=r.length
   exact wpAny_truthy_list pl.isList (by simp only [List.size_toArray];omega) ⟨H,I.tok _,by rw [kN r];exact q⟩
  ·subst e'
   obtain⟨its,r,pl,hz⟩:=I.tuple hx
   have hlen:=r.length
   exact truthy_tuple pl (by simp only [List.size_toArray];omega) ⟨H,I.tok _,by rw [kN r];exact q⟩
  ·subst e'
   obtain⟨hz,hS,vs,r,m⟩:kvs.length<=sizeLine/\(p == sysModules)=false/\∃vs,KV kvs vs/\s.heap.DictOf (bo X.prog X.w) p vs:=I.hok p _ hx
   have hlen:kvs.length=vs.length:=Paired.length r
   exact wpAny_truthy_dict hS m (by omega) ⟨H,I.tok _,by rw [qW r];exact q⟩
 | _=>exact(show False from e).elim
theorem wb (ha:PE X a ta) (he:∀whole,isTrue a X.env whole=(do let v <- whole;standAt a.pos;holding [v] (truthy v))) :
  PT X a (λY H Q=>ta Y H λx H'=>∃k,BR X.K x H' k/\Q k H'):=by
 intro pins s Y H Q I h
 exact isTrue_plain (thn (ha pins s Y H _ I h) λv s1 ⟨x,H1,I1,r1,q1⟩=>zw pins s1 Y H1 x v Q I1 r1 q1) (he _)
theorem ig:OpR X (binaryOp .Add) (λx y H Q=>∃i j,x=.str i/\y=.str j/\i.length+j.length<=sizeLine/\Q (.str (i++j)) H):=by
 intro pins s Y H x y v u Q I rx ry h
 obtain⟨i,j,rfl,rfl,hz,q⟩:=h
 obtain⟨t,rfl⟩:=rx
 obtain⟨t',rfl⟩:=ry
 exact add_str (λt' tk=>⟨.str (i++j),H,I.tok _,⟨_,rfl⟩,q⟩) hz
theorem fR {x:V}{us:List Value} (r:aP [x] us):∃u,us=[u]/\bh x u:=by
 cases r with
 | cons r1 r2=>cases r2;exact⟨_,rfl,r1⟩
theorem lM {x y:V}{us:List Value} (r:aP [x,y] us):∃u w',us=[u,w']/\bh x u/\bh y w':=by
 cases r with
 | cons r1 r2=>
  cases r2 with
  | cons r3 r4=>cases r4;exact⟨_,_,rfl,r1,r3⟩
theorem uC (hc:X.calm=true):dq X (.builtin "max") (λxs H Q=>∃i j,xs=[.int i,.int j]/\Q (.int (if j > i then j else i)) H):=by
 intro pins s Y H xs us Q I r h
 obtain⟨i,j,rfl,q⟩:=h
 obtain⟨u,w',rfl,⟨t,rfl⟩,⟨t',rfl⟩⟩:=lM r
 refine max_two_ints (I.ok.hd hc) λh' tk k=>⟨_,H,I.kept k,?_,q⟩
 by_cases hj:j > i
 ·rw [if_pos hj,if_pos hj];exact⟨_,rfl⟩
 ·rw [if_neg hj,if_neg hj];exact⟨_,rfl⟩
theorem mK (hc:X.calm=true):dq X (.builtin "min") (λxs H Q=>∃i j,xs=[.int i,.int j]/\Q (.int (if j < i then j else i)) H):=by
 intro pins s Y H xs us Q I r h
 obtain⟨i,j,rfl,q⟩:=h
 obtain⟨u,w',rfl,⟨t,rfl⟩,⟨t',rfl⟩⟩:=lM r
 refine min_two_ints (I.ok.hd hc) λh' tk k=>⟨_,H,I.kept k,?_,q⟩
 by_cases hj:j < i
 ·rw [if_pos hj,if_pos hj];exact⟨_,rfl⟩
 ·rw [if_neg hj,if_neg hj];exact⟨_,rfl⟩
theorem uD:dq X (.type "int") (λxs H Q=>(∃i,xs=[.int i]/\Q (.int i) H)\/∃k,xs=[.bl k]/\Q (.int (if k then 1 else 0)) H):=by
 intro pins s Y H xs us Q I r h
 rcases h with⟨i,rfl,q⟩ | ⟨k,rfl,q⟩
 ·obtain⟨u,rfl,t,rfl⟩:=fR r
  exact call_int_int ⟨.int i,H,I,⟨_,rfl⟩,q⟩
 ·obtain⟨u,rfl,r1⟩:=fR r
  cases r1
  exact call_int_bool ⟨.int (if k then 1 else 0),H,I.tok _,⟨_,rfl⟩,q⟩
end
end L2
namespace L2
open PySem PySem.Spec PyProof.Rows
structure ObjM (h:Heap) (x dx C:Addr) (mA:Str->Option Value):Prop where
 obj:h.get? x=some (PySem.W.instObj C dx)
 ns:h.Ns1 dx mA
 ne:dx≠x
theorem my {h:Heap}{dx:Addr}{mA:Str->Option Value} (n:h.Ns1 dx mA):∃od,h.get? dx=some od/\∀name,PySem.W.lookIn name od=some (mA name):=by
 obtain⟨o,es,ep,ho,hd,hk,_,hm⟩:=n
 refine⟨o,ho,λname=>?_⟩
 have e:=hm name
 unfold nsFind findBy at e
 rw [<- Array.find?_toList]at e
 unfold PySem.W.lookIn
 rw [hd]
 dsimp only
 split
 ·rename_i y q
  rw [q]at e
  exact congrArg some e
 ·rename_i q
  rw [q]at e
  have a:es.toList.any (·.refKey)=false:=by
   rw [List.any_eq_false]
   intro y hy
   obtain⟨z,t,hkey⟩:=hk y (Array.mem_toList_iff.mp hy)
   simp [DictEntry.refKey,hkey]
  have a':¬es.toList.any (·.refKey)=true:=by rw [a];exact Bool.false_ne_true
  rw [if_neg a']
  exact congrArg some e
theorem ObjM.look {h:Heap}{x dx C:Addr}{mA:Str->Option Value} (I:ObjM h x dx C mA):∃od,PySem.W.InstAt h x (PySem.W.instObj C dx) C (some od)/\∀name,PySem.W.lookIn name od=some (mA name):=
 let ⟨od,ho,hl⟩:=my I.ns
 ⟨od,⟨I.obj,rfl,rfl,ho⟩,hl⟩
section
variable {prog:Program}{w:World}{A:Around}{E:Value->Shared->Prop}{s:Shared}{K:PySem.W.Frag}{x dx C f:Addr}{mA:Str->Option Value}{name:Str}{v:Value}
theorem yI {expr:Bool}{Q:Value->Shared->Prop} (X:K.In s.heap) (I:ObjM s.heap x dx C mA) (hg:PySem.W.plainGet K C name=true) (hh:PySem.W.hasDictIn K C=true)
  (ha:PySem.W.findIn K (.ref C) name=some none) (hv:mA name=some v) (hv':PySem.W.handedIn v=true) (h:Q v { s with toks:=s.toks+1 }) :
  wpAny (model prog w) A (getAttr (.ref x) name expr) Q E s:=by
 obtain⟨od,J,hl⟩:=I.look
 exact PySem.W.get_value X J (PySem.W.plainGet_of hg).1 (PySem.W.findObj_own hh ha rfl (by rw [hl,hv])) hv' h
theorem xb {pl:Sem Bool}{Q:Value × List Value->Shared->Prop} (X:K.In s.heap) (I:ObjM s.heap x dx C mA) (hg:PySem.W.plainGet K C name=true)
  (hf:PySem.W.findIn K (.ref C) name=some (some (.ref f))) (ht:PySem.W.isFn K (.ref f)=true) (hv:mA name=none) (h:Q (.ref f,[.ref x]) s) :
  wpAny (model prog w) A (getMethod (.ref x) name pl) Q E s:=by
 obtain⟨od,J,hl⟩:=I.look
 exact PySem.W.method_fn X J (PySem.W.plainGet_of hg).1 (PySem.W.plainGet_of hg).2 hf (beq_iff_eq.mp ht) (by show (PySem.W.lookIn name od).map (·.isSome)=some false;rw [hl,hv];rfl) h
theorem xU {ns:List Str}{Q:Unit->Shared->Prop} (X:K.In s.heap) (I:ObjM s.heap x dx C mA)
  (hs:PySem.W.findIn K (.ref C) "__setattr__" = some (some (.builtin "object.__setattr__"))) (hp:PySem.W.plainOver K C=true) (ht:PySem.W.takerIn K C name=some none) (hh:PySem.W.hasDictIn K C=true)
  (hw:PySem.Within mA ns) (hsz:ns.length<=sizeLine)
  (h:∀h',ObjM h' x dx C (λy=>if y=name then some v else mA y)->Heap.SameBut dx s.heap h'->Q () { s with heap:=h',toks:=s.toks+2 }) :
  wpAny (model prog w) A (setAttr (.ref x) name v) Q E s:=by
 obtain⟨od,J,hl⟩:=I.look
 refine PySem.W.set_plain X J hs (PySem.W.osa_open (s:={ s with toks:=s.toks+1 }) (r:=none) X J hp ht λb=>?_)
 obtain⟨cd,hc,hd'⟩:=PySem.W.any_some hh
 have hx:s.heap.get? x=some ⟨.ref C,some dx,.plain,#[]⟩:=I.obj
 refine wpAny_bind (wpAny_pure (wpAny_bind (wpAny_bind (wpAny_loadPart hx (wpAny_bind (PySem.W.Looks.here (s:={ s with toks:=s.toks+1 }) (PySem.W.looks_clsIn X hc) ?_))))))
 rw [hd']
 refine wpAny_pure (a:=some dx) (wpAny_bind (wpAny_pure (wpAny_bind ?_)))
 refine wpAny_nsSet1 (s:={ s with toks:=s.toks+1 }) I.ns λh' hn2 hs2=>?_
 obtain⟨oD,esD,epD,hoD,hdD,hcD⟩:=hn2.count (PySem.Within.cons name v hw)
 refine wpAny_bind (wpAny_lookBehind hoD (by rw [hdD];exact pastItsLine_dict (Nat.le_trans hcD (by rw [List.length_cons];omega))) ?_)
 exact wpAny_pure (h _ ⟨(hs2.2 _ (Ne.symm I.ne)).trans I.obj,hn2,I.ne⟩ hs2)
theorem wN {R:Result->Shared->Prop}{vs:List Value}{kw:List (Str × Value)} (X:K.In s.heap) (hm:PySem.W.makesIn K C=true)
  (hi:PySem.W.findIn K (.ref C) "__init__" = some (some (.ref f))) (hf:PySem.W.typeIn K (.ref f)=some (.type "function"))
  (h:codeAny (model prog w) (A.under (.builtin "type.__call__" ⟨.ref C::vs,kw⟩)) (.call (.ref f) ⟨.ref (s.heap.objs.size+1)::vs,kw⟩) (PySem.W.InitBack (s.heap.objs.size+1) R)
   { s with heap:=(s.heap.push PySem.W.emptyDict).push (PySem.W.instObj C s.heap.objs.size) }) :
  codeAny (model prog w) A (.call (.ref C) ⟨vs,kw⟩) R s:=by
 obtain⟨hh,g,d,t,os⟩:=s
 exact PySem.W.make_core (PySem.W.makes_of X hm) (PySem.W.looks_findIn X hi) (λself=>PySem.W.bind_fn X self hf) (.inl rfl) h
end
noncomputable def bf (f:Str) (v:V):List (Str × V)->List (Str × V)
 | []=>[(f,v)]
 | (g,x)::r=>if g=f then (g,v)::r else (g,x)::bf f v r
theorem jc (f g:Str) (v:V):∀fs:List (Str × V),(bf f v fs).lookup g=if g=f then some v else fs.lookup g
 | []=>by
  show List.lookup g [(f,v)]=_
  by_cases h:g=f
  ·have hb:(g == f)=true:=beq_iff_eq.mpr h
   simp only [List.lookup,hb,if_pos h]
  ·have hb:(g == f)=false:=beq_eq_false_iff_ne.mpr h
   simp only [List.lookup,hb,if_neg h]
 | (k,x)::r=>by
  have ih:=jc f g v r
  rw [show bf f v ((k,x)::r)=(if k=f then (k,v)::r else (k,x)::bf f v r) from rfl]
  by_cases hk:k=f
  ·rw [if_pos hk]
   by_cases h:g=k
   ·have hb:(g == k)=true:=beq_iff_eq.mpr h
    simp only [List.lookup,hb,if_pos (h.trans hk)]
   ·have hb:(g == k)=false:=beq_eq_false_iff_ne.mpr h
    simp only [List.lookup,hb,if_neg (λe:g=f=>h (e.trans hk.symm))]
  ·rw [if_neg hk]
   by_cases h:g=k
   ·have hb:(g == k)=true:=beq_iff_eq.mpr h
    simp only [List.lookup,hb,if_neg (λe:g=f=>hk (h.symm.trans e))]
   ·have hb:(g == k)=false:=beq_eq_false_iff_ne.mpr h
    simp only [List.lookup,hb]
    exact ih
theorem j5 (f:Str) (v:V):∀fs:List (Str × V),f∈(bf f v fs).map (·.1)/\∀g,g∈fs.map (·.1)->g∈(bf f v fs).map (·.1)
 | []=>⟨by simp [bf],λg h=>by simp at h⟩
 | (k,x)::r=>by
  obtain⟨i1,i2⟩:=j5 f v r
  rw [show bf f v ((k,x)::r)=(if k=f then (k,v)::r else (k,x)::bf f v r) from rfl]
  by_cases hk:k=f
  ·rw [if_pos hk]
   subst hk
   exact⟨by simp,λg h=>by simpa using h⟩
  ·rw [if_neg hk]
   refine⟨?_,λg h=>?_⟩
   ·rw [List.map_cons]
    exact List.mem_cons_of_mem _ i1
   ·rw [List.map_cons]at h ⊢
    rcases List.mem_cons.mp h with e | e
    ·exact List.mem_cons.mpr (.inl e)
    ·exact List.mem_cons_of_mem _ (i2 g e)
theorem bM (f:Str) (v:V):∀fs:List (Str × V),(bf f v fs).length<=fs.length+1
 | []=>by simp [bf]
 | (k,x)::r=>by
  have ih:=bM f v r
  rw [show bf f v ((k,x)::r)=(if k=f then (k,v)::r else (k,x)::bf f v r) from rfl]
  by_cases hk:k=f
  ·rw [if_pos hk,List.length_cons,List.length_cons];omega
  ·rw [if_neg hk,List.length_cons,List.length_cons];omega
theorem eJ.some_of {v:V}{o:Option Value} (r:eJ (some v) o):∃u,o=some u/\bh v u:=by
 cases o with
 | none=>exact(show False from r).elim
 | some u=>exact⟨u,rfl,r⟩
theorem eJ.none_of {o:Option Value} (r:eJ none o):o=none:=by
 cases o with
 | none=>rfl
 | some u=>exact(show False from r).elim
theorem mD {v:V}{u:Value} (r:bh v u):PySem.W.handedIn u=true:=by
 cases v with
 | non=>cases (show u=Value.none from r);rfl
 | bl b=>cases (show u=Value.bool b from r);rfl
 | int i=>obtain⟨t,e⟩:=(show ∃t,u=Value.int i t from r);cases e;rfl
 | str x=>obtain⟨t,e⟩:=(show ∃t,u=Value.str x t from r);cases e;rfl
 | byt b=>obtain⟨t,e⟩:=(show ∃t,u=Value.bytes b t from r);cases e;rfl
 | flt b=>obtain⟨t,e⟩:=(show ∃t,u=Value.float b t from r);cases e;rfl
 | ref a=>cases (show u=Value.ref a from r);rfl
 | ty n=>cases (show u=Value.type n from r);rfl
section
variable {P:Program}{w:World}{H H':Hp}{h h':Heap}{a C dx:Addr}{fs fs':List (Str × V)}
theorem jv (hok:HOk P w H h) (e:H a=some (.ins C dx fs)):∃mA,ObjM h a dx C mA/\(∀f,eJ (fs.lookup f) (mA f))/\PySem.Within mA (fs.map (·.1))/\fs.length<=1000/\H dx=some (.own a):=by
 obtain⟨d,z,ne,ob,mA,n,r,q⟩:=(show bw P w H h a (.ins C dx fs) from hok a _ e)
 exact⟨mA,⟨ob,n,ne⟩,r,q,z,d⟩
end
structure Cls (K:PySem.W.Frag) (C:Addr):Prop where
 pg:PySem.W.plainGet K C Str.empty=true
 hd:PySem.W.hasDictIn K C=true
 po:PySem.W.plainOver K C=true
 sa:PySem.W.findIn K (.ref C) "__setattr__" = some (some (.builtin "object.__setattr__"))
theorem Cls.get {K:PySem.W.Frag}{C:Addr} (c:Cls K C) (f:Str):PySem.W.plainGet K C f=true:=c.pg
def NoAttr (K:PySem.W.Frag) (C:Addr) (f:Str):Prop:=PySem.W.findIn K (.ref C) f=some none
theorem NoAttr.taker {K:PySem.W.Frag}{C:Addr}{f:Str} (n:NoAttr K C f):PySem.W.takerIn K C f=some none:=by
 unfold PySem.W.takerIn
 rw [show PySem.W.findIn K (.ref C) f=some none from n]
 rfl
structure Meth (K:PySem.W.Frag) (C:Addr) (m:Str) (f:Addr):Prop where
 at_:PySem.W.findIn K (.ref C) m=some (some (.ref f))
 fn:PySem.W.isFn K (.ref f)=true
 kp:PySem.W.keepIn K (.ref f)=true
section
variable {X:Cx}{pins:List (Addr × Obj)}{Y:St}{H:Hp}{s:Shared}{a C dx:Addr}{fs:List (Str × V)}{f:Str}{v:V}{A:Around}{E:Value->Shared->Prop}
theorem qY {b:Bool}{Q:Value->Shared->Prop} (I:Inv X pins Y H s) (e:H a=some (.ins C dx fs)) (c:Cls X.K C) (n:NoAttr X.K C f) (l:fs.lookup f=some v)
  (h:∀u s',Inv X pins Y H s'->bh v u->Q u s'):wpAny (model X.prog X.w) A (getAttr (.ref a) f b) Q E s:=by
 obtain⟨mA,O,r,_,_,_⟩:=jv I.hok e
 obtain⟨u,hu,ru⟩:=eJ.some_of (v:=v) (o:=mA f) (by rw [<- l];exact r f)
 exact yI I.kIn O (c.get f) c.hd n hu (mD ru) (h u _ (I.tok _) ru)
theorem kQ {m:Str}{g:Addr}{pl:Sem Bool}{Q:Value × List Value->Shared->Prop} (I:Inv X pins Y H s) (e:H a=some (.ins C dx fs)) (c:Cls X.K C) (k:Meth X.K C m g) (l:fs.lookup m=none)
  (h:Q (.ref g,[.ref a]) s):wpAny (model X.prog X.w) A (getMethod (.ref a) m pl) Q E s:=by
 obtain⟨mA,O,r,_,_,_⟩:=jv I.hok e
 have hn:mA m=none:=eJ.none_of (by rw [<- l];exact r m)
 exact xb I.kIn O (c.get m) k.at_ k.fn hn h
theorem qq {y:V}{u:Value}{Q:Unit->Shared->Prop} (I:Inv X pins Y H s) (e:H a=some (.ins C dx fs)) (c:Cls X.K C) (n:NoAttr X.K C f) (hl:fs.length < 1000) (ry:bh y u)
  (h:∀s',Inv X pins Y (upd H a (.ins C dx (bf f y fs))) s'->Q () s'):wpAny (model X.prog X.w) A (setAttr (.ref a) f u) Q E s:=by
 obtain⟨mA,O,r,wi,_,ho⟩:=jv I.hok e
 have hz:(fs.map (·.1)).length<=sizeLine:=by rw [List.length_map,sizeLine_eq];omega
 refine xU I.kIn O c.sa c.po n.taker c.hd wi hz λh' O' sb=>h _ ?_
 have hd:∃o,h'.get? dx=some o:=let ⟨o,_,_,e',_⟩:=O'.ns;⟨o,e'⟩
 refine I.write (x:=a) (e:=dx) (by rw [e];exact True.intro) (.inr ho) (λb q hb z=>(sb.2 b hb).trans z) hd ?_
 refine⟨by rw [aj O.ne];exact ho,?_,O.ne,O'.obj,_,O'.ns,λg=>?_,λg hg=>?_⟩
 ·have:=bM f y fs;omega
 ·show eJ ((bf f y fs).lookup g) (if g=f then some u else mA g)
  rw [jc]
  by_cases q:g=f
  ·rw [if_pos q,if_pos q];exact ry
  ·rw [if_neg q,if_neg q];exact r g
 ·by_cases q:g=f
  ·rw [q];exact(j5 f y fs).1
  ·refine(j5 f y fs).2 g (wi g λz=>hg ?_)
   show (if g=f then some u else mA g)=none
   rw [if_neg q];exact z
theorem Inv.made (I:Inv X pins Y H s):Inv X pins Y (upd (upd H s.heap.objs.size (.own (s.heap.objs.size+1))) (s.heap.objs.size+1) (.ins C s.heap.objs.size []))
  { s with heap:=(s.heap.push PySem.W.emptyDict).push (PySem.W.instObj C s.heap.objs.size) }:=by
 have e1:(s.heap.push PySem.W.emptyDict).get? s.heap.objs.size=some PySem.W.emptyDict:=Heap.get?_push_size s.heap rfl
 have e2:((s.heap.push PySem.W.emptyDict).push (PySem.W.instObj C s.heap.objs.size)).get? (s.heap.objs.size+1)=some (PySem.W.instObj C s.heap.objs.size):=by
  have:=Heap.get?_push_size (s.heap.push PySem.W.emptyDict) (o:=PySem.W.instObj C s.heap.objs.size) rfl
  rwa [Heap.size_push]at this
 have e3:(s.heap.push PySem.W.emptyDict).Ns s.heap.objs.size (λ_=>none):=⟨PySem.W.emptyDict,#[],_,e1,rfl,(λe he=>absurd he (by simp)),λ_=>rfl⟩
 have I1:=I.laid (a:=s.heap.objs.size) (o:=.own (s.heap.objs.size+1)) (h':=s.heap.push PySem.W.emptyDict) (t':=s.toks) (λb u q=>Heap.get?_push_of_some _ q) (Nat.le_refl _) ⟨_,e1⟩
 refine I1.laid (a:=s.heap.objs.size+1) (o:=.ins C s.heap.objs.size []) (t':=s.toks) (λb u q=>Heap.get?_push_of_some _ q) (Nat.le_of_eq (Heap.size_push _ _)) ?_
 have ne:s.heap.objs.size≠s.heap.objs.size+1:=Nat.ne_of_lt (Nat.lt_succ_self _)
 refine⟨by rw [aj ne,ag],Nat.zero_le _,ne,e2,λ_=>none,(Heap.Ns1.of_empty e3).at λo q=>Heap.get?_push_of_some _ q,λ_=>True.intro,λy hy=>absurd rfl hy⟩
theorem t8 {prog:Program}{w:World}{env:Env}{e:Expr}{f:Str}{pos:Pos}{s:Shared}{Q:Value->Shared->Prop} (hb:attributeBase e f env (eval e env)=eval e env)
  (h:wpAny (model prog w) A (eval e env) (λo s₁=>wpAny (model prog w) A (getAttr o f true) Q E s₁) E s):wpAny (model prog w) A (eval (.Attribute e f pos) env) Q E s:=
 Attribute_any_ h (by rw [arm_eval_Attribute,hb])
end
inductive Cj (K:PySem.W.Frag) (f:Str) (x:V) (H1:Hp) (Q:VK):Prop
 | mk (a C dx fs v) (h1:x=.ref a) (h2:H1 a=some (.ins C dx fs)) (h3:Cls K C) (h4:NoAttr K C f) (h5:fs.lookup f=some v) (h6:Q v H1)
def C8 (K:PySem.W.Frag) (ta:TE) (f:Str):TE:=λY H Q=>ta Y H λx H1=>Cj K f x H1 Q
def Bp (K:PySem.W.Frag) (ta tv:TE) (f:Str):TS:=λD Y H=>tv Y H λy H1=>ta Y H1 λx H2=>∃a C dx fs,x=.ref a/\H2 a=some (.ins C dx fs)/\Cls K C/\NoAttr K C f/\fs.length < 1000/\
 D.nx Y (upd H2 a (.ins C dx (bf f y fs)))
section
variable {X:Cx}{o e value:Expr}{f:Str}{pos pos' tpos:Pos}{ta tv:TE}
theorem br (he:PE X e ta) (hb:attributeBase e f X.env (eval e X.env)=eval e X.env):PE X (.Attribute e f pos) (C8 X.K ta f):=by
 intro pins s Y H Q I h
 refine t8 hb (thn (he pins s Y H _ I h) λu s1 ⟨x,H1,I1,rx,a,C,dx,fs,v,ex,ea,c,n,l,q⟩=>?_)
 subst ex
 obtain rfl:u=Value.ref a:=rx
 exact qY I1 ea c n l λu' s2 I2 ru=>⟨v,H1,I2,ru,q⟩
theorem eQ (ha:PE X o ta) (hv:PE X value tv) (hs:swapsWith value (some (.Attribute o f pos')) pos.line X.env=pure false):PS X (.Assign [.Attribute o f pos'] value pos) (Bp X.K ta tv f):=by
 intro pins s Y H D I h
 refine plainObj_wpAny_Assign_Attribute (thn (hv pins s Y H _ I h) λu s1 ⟨y,H1,I1,ry,q⟩=>thn (ha pins s1 Y H1 _ I1 q) λov s2 ⟨x,H2,I2,rx,a,C,dx,fs,ex,ea,c,n,l,q2⟩=>?_) hs
 subst ex
 obtain rfl:ov=Value.ref a:=rx
 exact qq I2 ea c n l ry λs3 I3=>⟨Y,_,I3,q2⟩
end
section
variable {X:Cx}{pins:List (Addr × Obj)}{Y:St}{H:Hp}{s:Shared}{A:Around}{E:Value->Shared->Prop}{Q:Value->Shared->Prop}{c:Value}{b:Bool}
inductive TyOf (K:PySem.W.Frag) (H:Hp):V->Value->Prop where
 | non:TyOf K H .non (.type "NoneType")
 | bl (x:Bool):TyOf K H (.bl x) (.type "bool")
 | int (i:Int):TyOf K H (.int i) (.type "int")
 | str (x:Str):TyOf K H (.str x) (.type "str")
 | flt (x:UInt64):TyOf K H (.flt x) (.type "float")
 | lst {a:Addr}{xs:List V} (e:H a=some (.lst xs)):TyOf K H (.ref a) (.type "list")
 | frz {a:Addr}{o:Obj}{xs:List V} (e:H a=some (.frz o (.lst xs))):TyOf K H (.ref a) (.type "list")
 | tup {a:Addr}{xs:List V} (e:H a=some (.tup xs)):TyOf K H (.ref a) (.type "tuple")
 | dK {a:Addr}{kvs:List (Key × V)} (e:H a=some (.dK kvs)):TyOf K H (.ref a) (.type "dict")
 | dT {a:Addr}{kvs:List (List Key × V)} (e:H a=some (.dT kvs)):TyOf K H (.ref a) (.type "dict")
 | ins {a C dx:Addr}{fs:List (Str × V)} (e:H a=some (.ins C dx fs)) (cl:Cls K C) (ha:PySem.W.findIn K (.ref C) "__class__" = some (some (.builtin "object.__class__")))
   (hn:PySem.W.specialIn K (.builtin "object.__class__") "__get__" = some (some (.builtin "getset_descriptor.__get__"))) (htk:PySem.W.takesIn K (.builtin "object.__class__")=some true)
   (hm:PySem.W.mroIn K C (.type "object")=some true):TyOf K H (.ref a) (.ref C)
theorem ui {x:V}{u t:Value} (I:Inv X pins Y H s) (rx:bh x u) (ty:TyOf X.K H x t) (e:PySem.W.kitOne X.K t c=some b) (h:∀tk,Q (.bool b) { s with toks:=tk }) :
  wpAny (model X.prog X.w) A (call (.builtin "isinstance") [u,c]) Q E s:=by
 cases ty with
 | non=>cases (show u=Value.none from rx);exact PySem.W.kia_one PySem.W.kitx_none I.kIn True.intro e (λz=>nomatch z) h
 | bl y=>cases (show u=Value.bool y from rx);exact PySem.W.kia_one PySem.W.kitx_bool I.kIn True.intro e (λz=>nomatch z) h
 | int i=>obtain⟨t,q⟩:=(show ∃t,u=Value.int i t from rx);cases q;exact PySem.W.kia_one PySem.W.kitx_int I.kIn True.intro e (λz=>nomatch z) h
 | str y=>obtain⟨t,q⟩:=(show ∃t,u=Value.str y t from rx);cases q;exact PySem.W.kia_one PySem.W.kitx_str I.kIn True.intro e (λz=>nomatch z) h
 | flt y=>obtain⟨t,q⟩:=(show ∃t,u=Value.float y t from rx);cases q;exact PySem.W.kia_one PySem.W.kitx_float I.kIn True.intro e (λz=>nomatch z) h
 | @lst a xs ea=>
  cases (show u=Value.ref a from rx)
  obtain⟨_,_,n,_,h1⟩:=(show bw X.prog X.w H s.heap a (.lst xs) from I.hok a _ ea)
  exact PySem.W.kia_one PySem.W.kitx_list I.kIn ⟨_,h1,rfl⟩ e (λz=>nomatch z) h
 | @frz a ob xs ea=>
  cases (show u=Value.ref a from rx)
  obtain⟨_,_,_,n,_,h1⟩:=(show bw X.prog X.w H s.heap a (.frz ob (.lst xs)) from I.hok a _ ea)
  exact PySem.W.kia_one PySem.W.kitx_list I.kIn ⟨_,h1,rfl⟩ e (λz=>nomatch z) h
 | @tup a xs ea=>
  cases (show u=Value.ref a from rx)
  obtain⟨_,_,_,p⟩:=(show bw X.prog X.w H s.heap a (.tup xs) from I.hok a _ ea)
  obtain⟨o,h1,h2,_⟩:=p
  exact PySem.W.kia_one PySem.W.kitx_tuple I.kIn ⟨o,h1,h2⟩ e (λz=>nomatch z) h
 | @dK a kvs ea=>
  cases (show u=Value.ref a from rx)
  obtain⟨_,_,vs,_,p⟩:=(show bw X.prog X.w H s.heap a (.dK kvs) from I.hok a _ ea)
  obtain⟨o,es,ep,h1,h2,_⟩:=p
  exact PySem.W.kia_one PySem.W.kitx_dict I.kIn ⟨o,h1,h2.1⟩ e (λz=>nomatch z) h
 | @dT a kvs ea=>
  cases (show u=Value.ref a from rx)
  obtain⟨_,_,xs,_,o,es,ep,h1,h2,_⟩:=(show bw X.prog X.w H s.heap a (.dT kvs) from I.hok a _ ea)
  exact PySem.W.kia_one PySem.W.kitx_dict I.kIn ⟨o,h1,h2.1⟩ e (λz=>nomatch z) h
 | @ins a C dx fs ea cl ha hn htk hm=>
  cases (show u=Value.ref a from rx)
  obtain⟨mA,O,_⟩:=jv I.hok ea
  obtain⟨od,J,_⟩:=O.look
  exact PySem.W.kia_one (PySem.W.kitx_own (cl.get _) cl.hd ha hn htk hm) I.kIn J e (λz=>nomatch z) h
end
end L2
namespace L2
open PySem PySem.Spec PyProof.Rows
structure Room (k:Nat) (A:Around):Prop where
 hd:A.handled=none
 dp:A.depth+3 * k+5 < recursionLimit
 un:A.units+16 * k+200 < cLine
 gd:A.guards=some []
theorem Room.mono {j k:Nat}{A:Around} (r:Room k A) (h:j<=k):Room j A:=⟨r.hd,by have:=r.dp;omega,by have:=r.un;omega,r.gd⟩
theorem Room.deeper {k:Nat}{A:Around} (r:Room (k+1) A) (env:Env):Room k (A.deeper env):=
 ⟨r.hd,by have:=r.dp;show A.depth+1+3 * k+5 < _;omega,by have:=r.un;show A.units+3+16 * k+200 < _;omega,r.gd⟩
theorem qS {A:Around}{C:Addr}{us:List Value}{kw:List (Str × Value)}:(A.under (.builtin "type.__call__" ⟨.ref C::us,kw⟩)).depth=A.depth+1:=by
 first | rfl | simp [Around.under,Code.weight,Code.isCreation,Code.isGuard,Code.isCaller,Code.frames,Code.isFrame,guardIds]
theorem qR {A:Around}{C:Addr}{us:List Value}{kw:List (Str × Value)}:(A.under (.builtin "type.__call__" ⟨.ref C::us,kw⟩)).units=A.units+1:=by
 first | rfl | simp [Around.under,Code.cUnits,Code.frames,Code.isFrame]
theorem Room.make {k:Nat}{A:Around} (r:Room (k+1) A) (C:Addr) (us:List Value) (kw:List (Str × Value)):Room k (A.under (.builtin "type.__call__" ⟨.ref C::us,kw⟩)):=
 ⟨r.hd,by have:=r.dp;rw [qS];omega,by have:=r.un;rw [qR];omega,by have h:=r.gd;first | (unfold Around.under;simp [h,pushGuards,Code.guards,Code.isGuard,guardIds]) | (simp [Around.under,h,pushGuards,Code.guards,Code.isGuard,guardIds])⟩
theorem Room.depth {k:Nat}{A:Around} (r:Room k A):A.depth < recursionLimit:=by have:=r.dp;omega
theorem Room.units {k:Nat}{A:Around} (r:Room k A):A.units+64 < cLine:=by have:=r.un;omega
def bT:TA:=λ_ H Q=>Q [] H
def aV (ta:TE) (tr:TA):TA:=λY H Q=>ta Y H λx H1=>tr Y H1 λxs H2=>Q (x::xs) H2
section
variable {X:Cx}{e:Expr}{es:List Expr}{te:TE}{t:TA}{pos:Pos}
theorem af:PA X [] bT:=λ_ _ _ _ H Q I h=>Calls.spliced_nil ⟨[],H,I,.nil,h⟩
theorem ae (ha:PE X e te) (hr:PA X es t) (hs:starEach (e::es) X.env=(false,eval e X.env)::starEach es X.env:=by rfl):PA X (e::es) (aV te t):=by
 intro pos pins s Y H Q I h
 rw [hs]
 show wpAny _ _ (spliced ((false,eval e X.env)::backTo pos (starEach es X.env))) _ _ s
 refine Calls.spliced_cons (thn (ha pins s Y H _ I h) λu s1 ⟨x,H1,I1,r1,q1⟩=>?_)
 exact thn (hr pos pins s1 Y H1 _ I1 q1) λus s2 ⟨xs,H2,I2,r2,q2⟩=>⟨x::xs,H2,I2,.cons r1 r2,q2⟩
def hZ (t:TA):TE:=λY H Q=>t Y H λxs H1=>xs.length<=sizeLine/\∀p,H1 p=none->Q (.ref p) (upd H1 p (.tup xs))
def gY (t:TA):TE:=λY H Q=>t Y H λxs H1=>xs.length<=sizeLine/\∀p,H1 p=none->Q (.ref p) (upd H1 p (.lst xs))
theorem az {x1} (h:PA X es t):PE X (.Tuple es x1 pos) (hZ t):=by
 intro pins s Y H Q I hq
 refine wpAny_Tuple_spliced (thn (h pos pins s Y H _ I hq) λus s1 ⟨xs,H1,I1,r,z,q⟩=>⟨by rw [<- r.length];exact z,?_⟩)
 have hf:H1 s1.heap.objs.size=none:=I1.hok.fresh (Nat.le_refl _)
 refine⟨.ref s1.heap.objs.size,upd H1 s1.heap.objs.size (.tup xs),I1.laid (t':=s1.toks) (λb u e=>Heap.get?_push_of_some _ e) (Nat.le_refl _) ?_,rfl,q _ hf⟩
 exact⟨z,us,r,⟨_,Heap.get?_push_size _ rfl,rfl,_,rfl⟩⟩
theorem aM (h:PA X es t):PE X (.List es pos) (gY t):=by
 intro pins s Y H Q I hq
 refine wpAny_List_spliced (thn (h pos pins s Y H _ I hq) λus s1 ⟨xs,H1,I1,r,z,q⟩=>⟨by rw [<- r.length];exact z,?_⟩)
 have hf:H1 s1.heap.objs.size=none:=I1.hok.fresh (Nat.le_refl _)
 refine⟨.ref s1.heap.objs.size,upd H1 s1.heap.objs.size (.lst xs),I1.laid (t':=s1.toks) (λb u e=>Heap.get?_push_of_some _ e) (Nat.le_refl _) ?_,rfl,q _ hf⟩
 exact⟨z,us,0,r,Heap.get?_push_size _ rfl⟩
end
abbrev Sp:=List V->Hp->VK->XK->Prop
abbrev CXT:=List Env->Hp->Shared->XK->Value->Shared->Prop
structure Env0 (P:Program) (w:World) (K:PySem.W.Frag) (mg:Str->Option Value) (base:Heap) (A:Around) (outer:List Env) (s:Shared) (H:Hp):Prop where
 frames:A.frames=some outer
 mod:Mod K mg base
 bs:∀b o,base.get? b=some o->s.heap.get? b=some o/\H b=none
 bsz:base.objs.size<=s.heap.objs.size
 funs:s.heap.FunFrames base outer
 frf:∀b∈frs outer,H b=none
 hok:HOk P w H s.heap
 bare:AllBare s.gens
def CE (outer:List Env) (P:Program) (w:World) (H:Hp) (s:Shared) (Q:VK) (u:Value) (s':Shared):Prop:=
 ∃v H',s'.os=s.os/\AllBare s'.gens/\Un (frs outer) [] H H' s.heap s'.heap/\HOk P w H' s'.heap/\bh v u/\Q v H'
def CR (CX:CXT) (outer:List Env) (P:Program) (w:World) (H:Hp) (s:Shared) (Q:VK) (E:XK) (r:Result) (s':Shared):Prop:=
 match r with
 | .ok (.ret u)=>CE outer P w H s Q u s'
 | .ok _=>False
 | .error e=>CX outer H s E e s'
structure FnOk (P:Program) (w:World) (K:PySem.W.Frag) (mg:Str->Option Value) (base:Heap) (CX:CXT) (k:Nat) (f:Addr) (fd:FuncData) (ps:List Str) (sp:Sp):Prop where
 len:∀vs H Q E,sp vs H Q E->vs.length=ps.length
 run:∀(A:Around) (outer:List Env) (s:Shared) (H:Hp) (args:Args) (us:List Value) (vs:List V) (Q:VK) (E:XK),Room k A->Env0 P w K mg base A outer s H->BindsTo s fd args (ps.zip us)->aP vs us->sp vs H Q E->
  codeAny (model P w) A (.call (.ref f) args) (CR CX outer P w H s Q E) s
theorem FnOk.mono {P:Program}{w:World}{K:PySem.W.Frag}{mg:Str->Option Value}{base:Heap}{CX:CXT}{j k:Nat}{f:Addr}{fd:FuncData}{ps:List Str}{sp:Sp} (F:FnOk P w K mg base CX j f fd ps sp) (h:j<=k) :
  FnOk P w K mg base CX k f fd ps sp:=⟨F.len,λA outer s H args us vs Q E hr=>F.run A outer s H args us vs Q E (hr.mono h)⟩
theorem FnOk.imp {P:Program}{w:World}{K:PySem.W.Frag}{mg:Str->Option Value}{base:Heap}{CX:CXT}{k:Nat}{f:Addr}{fd:FuncData}{ps:List Str}{sp sp':Sp} (F:FnOk P w K mg base CX k f fd ps sp)
  (h:∀vs H Q E,sp' vs H Q E->sp vs H Q E):FnOk P w K mg base CX k f fd ps sp':=
 ⟨λvs H Q E q=>F.len vs H Q E (h _ _ _ _ q),λA outer s H args us vs Q E hr he hb hv hs=>F.run A outer s H args us vs Q E hr he hb hv (h _ _ _ _ hs)⟩
theorem Env0.make {P:Program}{w:World}{K:PySem.W.Frag}{mg:Str->Option Value}{base:Heap}{A:Around}{outer:List Env}{s:Shared}{H:Hp} (e:Env0 P w K mg base A outer s H) (C:Addr) (us:List Value) (kw:List (Str × Value)) :
  Env0 P w K mg base (A.under (.builtin "type.__call__" ⟨.ref C::us,kw⟩)) outer s H:=⟨by first | exact e.frames | (simpa [Around.under,Code.envs,Code.isFrame,pushEnvs] using e.frames),e.mod,e.bs,e.bsz,e.funs,e.frf,e.hok,e.bare⟩
section
variable {X:Cx}{pins:List (Addr × Obj)}{Y:St}{H:Hp}{s s':Shared}
theorem Inv.env0 (I:Inv X pins Y H s):Env0 X.prog X.w X.K X.mg X.base X.A X.stack s H:=
 ⟨I.ok.frames,I.ok.mod,I.bs,Nat.le_trans I.ok.bsz I.sz,I.stack,I.stkFree,I.hok,I.bare⟩
theorem Inv.after {Q:VK}{u:Value} (I:Inv X pins Y H s) (h:CE X.stack X.prog X.w H s Q u s'):EP X pins Y Q u s':=by
 obtain⟨v,H',os,bare,un,hok,r,q⟩:=h
 obtain⟨hh,g,d,t,os'⟩:=s'
 obtain rfl:os'=s.os:=os
 exact⟨v,H',I.call (h':=hh) (g':=g) (d':=d) (t':=t) (ch:=[]) un hok bare (λb z=>absurd z (by simp)),r,q⟩
end
def fU (sp:Sp) (dvs:List V) (E:XK) (t:TA):TE:=λY H Q=>t Y H λvs H1=>sp (vs++dvs) H1 Q E
def rC (C:Addr) (m:Str) (sp:Sp) (dvs:List V) (E:XK) (ta:TE) (t:TA):TE:=λY H Q=>ta Y H λx H1=>∃a dx fs,x=.ref a/\H1 a=some (.ins C dx fs)/\fs.lookup m=none/\
 t Y H1 λvs H2=>sp (x::(vs++dvs)) H2 Q E
def B7 (C:Addr) (sp:Sp) (dvs:List V) (E:XK) (t:TA):TE:=λY H Q=>t Y H λvs H1=>∀x dx,H1 x=none->H1 dx=none->dx≠x->
 sp (.ref x::(vs++dvs)) (upd (upd H1 dx (.own x)) x (.ins C dx [])) (λv H2=>v=.non/\Q (.ref x) H2) E
def cu (K:PySem.W.Frag) (fd:FuncData) (ps:List Str) (ds:List Value):Prop:=
 ∀(s:Shared) (us:List Value),K.In s.heap->(us++ds).length=ps.length->BindsTo s fd ⟨us,[]⟩ (ps.zip (us++ds))
theorem cu.all {K:PySem.W.Frag}{fd:FuncData}{ps:List Str} (h:∀us:List Value,us.length=ps.length->bindArgs fd ⟨us,[]⟩=pure (ps.zip us)):cu K fd ps []:=λs us _ hl=>by
 rw [List.append_nil]at hl ⊢
 exact .of_eq (h us hl)
def dC (CX:CXT) (X:Cx) (E:XK):Prop:=∀(pins:List (Addr × Obj)) (Y:St) (H:Hp) (s:Shared) (e:Value) (s':Shared),Inv X pins Y H s->CX X.stack H s E e s'->X.xe e s'
section
variable {X:Cx}{CX:CXT}{k:Nat}{f C:Addr}{fd:FuncData}{ps:List Str}{sp:Sp}{dvs:List V}{ds:List Value}{E:XK}{x m:Str}{p pos apos:Pos}{e o:Expr}{es:List Expr}{ta:TE}{t:TA}
theorem nZ {pins:List (Addr × Obj)}{Y:St}{H:Hp}{s:Shared}{Q:VK}{us:List Value}{vs:List V} (F:FnOk X.prog X.w X.K X.mg X.base CX k f fd ps sp) (hr:Room k X.A) (hb:cu X.K fd ps ds) (hd:aP dvs ds) (hx:dC CX X E)
  (I:Inv X pins Y H s) (r:aP vs us) (h:sp (vs++dvs) H Q E):wpAny (model X.prog X.w) X.A (call (.ref f) us) (EP X pins Y Q) X.xe s:=by
 have r2:aP (vs++dvs) (us++ds):=r.append hd
 have hl:(us++ds).length=ps.length:=by rw [<- r2.length];exact F.len _ _ _ _ h
 refine wpAny_call (codeAny_mono (F.run X.A X.stack s H ⟨us,[]⟩ (us++ds) (vs++dvs) Q E hr I.env0 (hb s us I.kIn hl) r2 h) λr s' hq=>?_)
 cases r with
 | error e=>exact hx pins Y H s e s' I hq
 | ok fl=>
  cases fl with
  | ret u=>exact I.after hq
  | next=>exact False.elim hq
  | brk=>exact False.elim hq
  | cont=>exact False.elim hq
theorem gS (F:FnOk X.prog X.w X.K X.mg X.base CX k f fd ps sp) (hr:Room k X.A) (hg:Gl X x) (hm:X.mg x=some (.ref f)) (hk:PySem.W.keepIn X.K (.ref f)=true) (hb:cu X.K fd ps ds) (hd:aP dvs ds) (hx:dC CX X E)
  (ha:PA X (e::es) t) (hdb:(x == ("__debug__" : Str))=false:=by decide) (he:starEach (e::es) X.env=(false,eval e X.env)::starEach es X.env:=by rfl) (hpl:(backTo pos (starEach es X.env)).any (·.1)=false:=by rfl) :
  PE X (.Call (.Name x p) (e::es) [] pos) (fU sp dvs E t):=by
 intro pins s Y H Q I h
 refine wpAny_Call_Name_kw (fH I hg hm ?_ hdb)
 refine PySem.W.callWith_K (h₀:=X.base) I.ok.mod.kin hk (thn (ha pos pins s Y H _ I h) λus s1 ⟨vs,H1,I1,r,q⟩=>⟨I1.kIn,?_⟩) he hpl
 exact nZ F hr hb hd hx I1 r q
theorem wm (F:FnOk X.prog X.w X.K X.mg X.base CX k f fd ps sp) (hr:Room k X.A) (hg:Gl X x) (hm:X.mg x=some (.ref f)) (hk:PySem.W.keepIn X.K (.ref f)=true) (hb:cu X.K fd ps ds) (hd:aP dvs ds) (hx:dC CX X E)
  (hdb:(x == ("__debug__" : Str))=false:=by decide):PE X (.Call (.Name x p) [] [] pos) (fU sp dvs E bT):=by
 intro pins s Y H Q I h
 refine wpAny_Call_Name_kw (fH I hg hm ?_ hdb)
 exact PySem.W.callWith_K0 I.kIn hk (nZ (us:=[]) F hr hb hd hx I .nil h)
theorem ce {pl:Sem Bool} (he:PE X o ta) (c:Cls X.K C) (hm:Meth X.K C m f) (F:FnOk X.prog X.w X.K X.mg X.base CX k f fd ps sp) (hr:Room k X.A) (hb:cu X.K fd ps ds) (hd:aP dvs ds) (hx:dC CX X E) (ha:PA X (e::es) t)
  (hst:starEach (e::es) X.env=(false,eval e X.env)::starEach es X.env:=by rfl) (hpl:(backTo pos (starEach es X.env)).any (·.1)=false:=by rfl)
  (ht:eval (.Call (.Attribute o m apos) (e::es) [] pos) X.env=(do
   let ov <- eval o X.env
   standAt apos.atName
   let (f,first) <- holding [ov] (getMethod ov m pl)
   callWith pos f first (backTo pos (starEach (e::es) X.env)) (backToKw pos (keywordEach [] X.env))):=by rfl) :
  PE X (.Call (.Attribute o m apos) (e::es) [] pos) (rC C m sp dvs E ta t):=by
 intro pins s Y H Q I h
 refine PySem.W.methodCall_KW (pl:=pl) (thn (he pins s Y H _ I h) λu s1 ⟨x,H1,I1,rx,a,dx,fs,ex,ea,l,q⟩=>?_) ht
 subst ex
 obtain rfl:u=Value.ref a:=rx
 refine kQ I1 ea c hm l ?_
 refine PySem.W.callWith_K (first:=[.ref a]) (h₀:=X.base) I.ok.mod.kin hm.kp (thn (ha pos pins s1 Y H1 _ I1 q) λus s2 ⟨vs,H2,I2,r,q2⟩=>⟨I2.kIn,?_⟩) hst hpl
 exact nZ (us:=.ref a::us) (vs:=.ref a::vs) F hr hb hd hx I2 (.cons rfl r) q2
theorem ki {pl:Sem Bool} (he:PE X o ta) (c:Cls X.K C) (hm:Meth X.K C m f) (F:FnOk X.prog X.w X.K X.mg X.base CX k f fd ps sp) (hr:Room k X.A) (hb:cu X.K fd ps ds) (hd:aP dvs ds) (hx:dC CX X E)
  (ht:eval (.Call (.Attribute o m apos) [] [] pos) X.env=(do
   let ov <- eval o X.env
   standAt apos.atName
   let (f,first) <- holding [ov] (getMethod ov m pl)
   callWith pos f first (backTo pos (starEach [] X.env)) (backToKw pos (keywordEach [] X.env))):=by rfl) :
  PE X (.Call (.Attribute o m apos) [] [] pos) (rC C m sp dvs E ta bT):=by
 intro pins s Y H Q I h
 refine PySem.W.methodCall_KW (pl:=pl) (thn (he pins s Y H _ I h) λu s1 ⟨x,H1,I1,rx,a,dx,fs,ex,ea,l,q⟩=>?_) ht
 subst ex
 obtain rfl:u=Value.ref a:=rx
 refine kQ I1 ea c hm l ?_
 exact PySem.W.callWith_K0 (first:=[.ref a]) I1.kIn hm.kp (nZ (us:=[.ref a]) (vs:=[.ref a]) F hr hb hd hx I1 (.cons rfl .nil) q)
structure Mk (K:PySem.W.Frag) (C f:Addr):Prop where
 makes:PySem.W.makesIn K C=true
 init:PySem.W.findIn K (.ref C) "__init__" = some (some (.ref f))
 fn:PySem.W.isFn K (.ref f)=true
 kp:PySem.W.keepIn K (.ref C)=true
theorem vU {pins:List (Addr × Obj)}{Y:St}{H:Hp}{s:Shared}{Q:VK}{us:List Value}{vs:List V} (M:Mk X.K C f) (F:FnOk X.prog X.w X.K X.mg X.base CX k f fd ps sp) (hr:Room (k+1) X.A) (hb:cu X.K fd ps ds) (hd:aP dvs ds)
  (hx:dC CX X E) (I:Inv X pins Y H s) (r:aP vs us)
  (h:∀x dx,H x=none->H dx=none->dx≠x->sp (.ref x::(vs++dvs)) (upd (upd H dx (.own x)) x (.ins C dx [])) (λv H2=>v=.non/\Q (.ref x) H2) E) :
  wpAny (model X.prog X.w) X.A (call (.ref C) us) (EP X pins Y Q) X.xe s:=by
 have hq:=h (s.heap.objs.size+1) s.heap.objs.size (I.hok.fresh (Nat.le_succ _)) (I.hok.fresh (Nat.le_refl _)) (Nat.ne_of_lt (Nat.lt_succ_self _))
 have I2:=Inv.made (C:=C) I
 have r2:aP (V.ref (s.heap.objs.size+1)::(vs++dvs)) (Value.ref (s.heap.objs.size+1)::(us++ds)):=.cons rfl (r.append hd)
 have hl:(Value.ref (s.heap.objs.size+1)::us++ds).length=ps.length:=by
  have e:=r2.length
  rw [F.len _ _ _ _ hq]at e
  exact e.symm
 refine wpAny_call (wN (f:=f) I.kIn M.makes M.init (beq_iff_eq.mp M.fn) (codeAny_mono (F.run _ X.stack _ _ ⟨Value.ref (s.heap.objs.size+1)::us,[]⟩ (Value.ref (s.heap.objs.size+1)::(us++ds)) _ _ E (hr.make C us [])
  (I2.env0.make C us []) (hb _ (Value.ref (s.heap.objs.size+1)::us) I2.kIn hl) r2 hq) λr s' hq'=>?_))
 cases r with
 | error e=>exact hx pins Y _ _ e s' I2 hq'
 | ok fl=>
  cases fl with
  | ret u=>
   obtain⟨v,H',I3,rv,ev,q3⟩:=I2.after hq'
   subst ev
   exact⟨rv,⟨V.ref (s.heap.objs.size+1),H',I3,rfl,q3⟩⟩
  | next=>exact False.elim hq'
  | brk=>exact False.elim hq'
  | cont=>exact False.elim hq'
theorem sB (M:Mk X.K C f) (F:FnOk X.prog X.w X.K X.mg X.base CX k f fd ps sp) (hr:Room (k+1) X.A) (hg:Gl X x) (hm:X.mg x=some (.ref C)) (hb:cu X.K fd ps ds) (hd:aP dvs ds) (hx:dC CX X E)
  (ha:PA X (e::es) t) (hdb:(x == ("__debug__" : Str))=false:=by decide) (he:starEach (e::es) X.env=(false,eval e X.env)::starEach es X.env:=by rfl) (hpl:(backTo pos (starEach es X.env)).any (·.1)=false:=by rfl) :
  PE X (.Call (.Name x p) (e::es) [] pos) (B7 C sp dvs E t):=by
 intro pins s Y H Q I h
 refine wpAny_Call_Name_kw (fH I hg hm ?_ hdb)
 refine PySem.W.callWith_K (h₀:=X.base) I.ok.mod.kin M.kp (thn (ha pos pins s Y H _ I h) λus s1 ⟨vs,H1,I1,r,q⟩=>⟨I1.kIn,?_⟩) he hpl
 exact vU M F hr hb hd hx I1 r q
end
def PK (X:Cx) (kws:List Keyword) (t:TA):Prop:=
 ∀(pos:Pos) (pins:List (Addr × Obj)) (s:Shared) (Y:St) (H:Hp) (Q:List V->Hp->Prop),Inv X pins Y H s->t Y H Q->wpAny (model X.prog X.w) X.A (evalAll ((backToKw pos (keywordEach kws X.env)).map (·.2))) (AP X pins Y Q) X.xe s
section
variable {X:Cx}{CX:CXT}{k:Nat}{f C:Addr}{fd:FuncData}{ps ks:List Str}{sp:Sp}{E:XK}{x m:Str}{p pos apos kpos:Pos}{e o:Expr}{es:List Expr}{kws:List Keyword}{te ta:TE}{t tk:TA}{nm:Option Str}
theorem A8:PK X [] bT:=λ_ _ _ _ H Q I h=>wpAny_evalAll_nil ⟨[],H,I,.nil,h⟩
theorem yb (ha:PE X e te) (hr:PK X kws t):PK X (⟨nm,e,kpos⟩::kws) (aV te t):=by
 intro pos pins s Y H Q I h
 show wpAny _ _ (evalAll ((do let v <- eval e X.env;standAt pos;pure v)::(backToKw pos (keywordEach kws X.env)).map (·.2))) _ _ s
 refine wpAny_evalAll_cons (wpAny_bind (thn (ha pins s Y H _ I h) λu s1 ⟨x,H1,I1,r1,q1⟩=>wpAny_bind (wpAny_standAt (wpAny_pure ?_))))
 exact thn (hr pos pins s1 Y H1 _ I1 q1) λus s2 ⟨xs,H2,I2,r2,q2⟩=>⟨x::xs,H2,I2,.cons r1 r2,q2⟩
variable {g:List Value->List Value->List Value}{gV:List V->List V->List V}
end
structure FnScope (N P:List Str) (sc:Scope):Prop where
 kind:sc.kind=.function
 co:sc.isCoroutine=false
 gen:sc.isGenerator=false
 nd:N.Nodup
 pre:N.take P.length=P
 par:∀x∈P,sc.names.lookup x=some .local\/sc.names.lookup x=some .cell
 nofree:∀y∈sc.names,y.2≠.free
theorem aZ {N P:List Str}{sc:Scope} (a:sc.kind=.function:=by rfl) (b:sc.isCoroutine=false:=by rfl) (c:sc.isGenerator=false:=by rfl) (d:N.Nodup:=by decide +kernel) (e:N.take P.length=P:=by rfl) (f:∀x∈P,sc.names.lookup x=some .local\/sc.names.lookup x=some .cell:=by decide +kernel) (g:∀y∈sc.names,y.2≠.free:=by decide +kernel):FnScope N P sc:=⟨a,b,c,d,e,f,g⟩
theorem mM {kindOf:Str->Option NameKind}{x:Str}:∀{binds:List (Str × Value)}{m:Str->Option Value},(∀v,(x,v)∉binds)->bindL kindOf binds m x=m x
 | [],_,_=>rfl
 | (n,v)::r,m,h=>by
  unfold bindL
  rw [mM λw hw=>h w (List.mem_cons_of_mem _ hw)]
  split
  ·have:x≠n:=by rintro rfl;exact h v List.mem_cons_self
   simp [this]
  ·rfl
theorem mO {kindOf:Str->Option NameKind}{x:Str}:∀{binds:List (Str × Value)}{m:Str->Option Value},(∀v,(x,v)∉binds)->bindC kindOf binds m x=m x
 | [],_,_=>rfl
 | (n,v)::r,m,h=>by
  unfold bindC
  rw [mO λw hw=>h w (List.mem_cons_of_mem _ hw)]
  split
  ·rfl
  ·have:x≠n:=by rintro rfl;exact h v List.mem_cons_self
   simp [this]
theorem mN {kindOf:Str->Option NameKind}{x:Str}{v:Value}:∀{P:List Str}{vs:List Value}{i:Nat}{m:Str->Option Value},P.Nodup->P[i]?=some x->vs[i]?=some v->kindOf x=some .local->
  bindL kindOf (P.zip vs) m x=some v
 | [],_,_,_,_,h,_,_=>by simp at h
 | _::_,[],_,_,_,_,h,_=>by simp at h
 | p::P,w::vs,0,m,nd,h1,h2,hk=>by
  simp at h1 h2;subst h1;subst h2
  show bindL kindOf ((p,w)::P.zip vs) m p=_
  unfold bindL
  rw [mM λv hv=>(List.nodup_cons.mp nd).1 (List.of_mem_zip hv).1,if_pos hk]
  simp
 | p::P,w::vs,i+1,m,nd,h1,h2,hk=>by
  show bindL kindOf ((p,w)::P.zip vs) m x=_
  unfold bindL
  exact mN (i:=i) (List.nodup_cons.mp nd).2 (by simpa using h1) (by simpa using h2) hk
theorem mP {kindOf:Str->Option NameKind}{x:Str}{v:Value}:∀{P:List Str}{vs:List Value}{i:Nat}{m:Str->Option Value},P.Nodup->P[i]?=some x->vs[i]?=some v->kindOf x≠some .local->
  bindC kindOf (P.zip vs) m x=some v
 | [],_,_,_,_,h,_,_=>by simp at h
 | _::_,[],_,_,_,_,h,_=>by simp at h
 | p::P,w::vs,0,m,nd,h1,h2,hk=>by
  simp at h1 h2;subst h1;subst h2
  show bindC kindOf ((p,w)::P.zip vs) m p=_
  unfold bindC
  rw [mO λv hv=>(List.nodup_cons.mp nd).1 (List.of_mem_zip hv).1,if_neg hk]
  simp
 | p::P,w::vs,i+1,m,nd,h1,h2,hk=>by
  show bindC kindOf ((p,w)::P.zip vs) m x=_
  unfold bindC
  exact mP (i:=i) (List.nodup_cons.mp nd).2 (by simpa using h1) (by simpa using h2) hk
noncomputable def eX (N:List Str) (vs:List V):St:=vs.map some++List.replicate (N.length - vs.length) none
noncomputable def eU (CX:CXT) (P:Program) (w:World) (K:PySem.W.Frag) (mg:Str->Option Value) (base:Heap) (N:List Str) (qual:Str) (scope:Scope) (f:Addr) (cd:Value) (A:Around) (outer:List Env) (s:Shared) (H:Hp) (E:XK):Cx where
 prog:=P
 w:=w
 K:=K
 mg:=mg
 base:=base
 A:=A.deeper (envOfC qual scope s.heap.objs.size f cd)
 N:=N
 s₀:=s
 Hz:=H
 env:=envOfC qual scope s.heap.objs.size f cd
 outer:=outer
 stack:=envOfC qual scope s.heap.objs.size f cd::outer
 ex:=[]
 calm:=true
 fn:=λ_=>true
 pn:=[]
 xe:=λe s'=>wpAny (model P w) (A.deeper (envOfC qual scope s.heap.objs.size f cd)) (leaving (envOfC qual scope s.heap.objs.size f cd) e) (λ_ s''=>CX outer H s E e s'') (λe' s''=>CX outer H s E e' s'') s'
theorem pV {sc:Scope}{n:Nat}{x:Str} (h:sc.names.lookup x=some .cell):∃c,(cellsFrom n sc.names []).lookup x=some c:=by
 have q:=PySem.W.cellsFrom_some sc.names n [] (.inl h)
 exact Option.isSome_iff_exists.mp q
theorem uj {CX:CXT}{P:Program}{w:World}{K:PySem.W.Frag}{mg:Str->Option Value}{base:Heap}{N ps:List Str}{qual:Str}{scope:Scope}{f:Addr}{cd:Value}{A:Around}{outer:List Env}{s s1:Shared}{H:Hp}{E:XK}{us:List Value}{vs:List V}
  (S:FnScope N ps scope) (hd:A.handled=none) (e0:Env0 P w K mg base A outer s H) (hl:vs.length=ps.length) (r:aP vs us)
  (x:InCallC s s.heap.objs.size (bindL (envOfC qual scope s.heap.objs.size f cd).kindOf (ps.zip us) λ_=>none) (cellsFrom (s.heap.objs.size+1) scope.names []) (bindC (envOfC qual scope s.heap.objs.size f cd).kindOf (ps.zip us) λ_=>none) s1) :
  Inv (eU CX P w K mg base N qual scope f cd A outer s H E) [] (eX N vs) H s1:=by
 have hpl:ps.length<=N.length:=by have:=congrArg List.length S.pre;rw [List.length_take]at this;omega
 obtain⟨h1,tk,rfl,hk⟩:=x.done
 have noA:∀b:Addr,b∉(eU CX P w K mg base N qual scope f cd A outer s H E).ex:=λb z=>absurd (show b∈([]:List Addr) from z) (by simp)
 refine⟨⟨e0.mod,S.kind,rfl,rfl,Nat.le_refl _,λy z c h1 h2=>?_,λy hy=>?_,λy c _ h=>?_,λ_=>hd,Around.frames_deeper e0.frames,.inr ⟨rfl,rfl⟩,λb z=>absurd z (noA b),e0.bs,e0.bsz,λb _ _=>noA b,λb z=>absurd z (noA b),e0.funs,e0.frf⟩,
  rfl,e0.bare,Un.kept hk,⟨_,x.toInCall.ns,λi y v h1 h2 h3=>?_⟩,λy c h=>⟨_,x.cell y c h⟩,e0.hok.fresh (Nat.le_refl _),λy c h=>?_,λp hp=>absurd (show p∈([]:List (Addr × Obj)) from hp) (by simp),e0.hok.kept hk,?_⟩
 ·exact name_of_addr x.apart (PySem.mem_of_lookup h1) (PySem.mem_of_lookup h2)
 ·have hy:scope.names.lookup y=some .cell\/scope.names.lookup y=some .free:=hy
  rcases hy with hy | hy
  ·exact pV hy
  ·exact absurd rfl (S.nofree _ (PySem.mem_of_lookup hy))
 ·exact Nat.le_of_lt (x.above y c (PySem.mem_of_lookup h))
 ·have hi:i < vs.length:=by
   unfold eX at h2
   by_cases hi:i < vs.length
   ·exact hi
   ·rw [List.getElem?_append_right (by simpa using hi)]at h2
    rw [List.getElem?_replicate]at h2
    split at h2 <;> cases h2
  have ha:vs[i]?=some v:=by
   unfold eX at h2
   rw [List.getElem?_append_left (by simpa using hi),List.getElem?_map]at h2
   cases e:vs[i]? with
   | none=>rw [e]at h2;cases h2
   | some a=>rw [e]at h2;cases h2;rfl
  obtain⟨u,hu,rv⟩:=r.get ha
  have hp:ps[i]?=some y:=by
   rw [<- S.pre,List.getElem?_take_of_lt (by omega)];exact h1
  have ndP:ps.Nodup:=by rw [<- S.pre];exact S.nd.sublist (List.take_sublist _ _)
  refine⟨u,rv,?_⟩
  rcases S.par y (List.mem_of_getElem? hp) with k | k
  ·exact .inl ⟨k,mN ndP hp hu k⟩
  ·obtain⟨c,e⟩:=pV (n:=s.heap.objs.size+1) k
   refine .inr ⟨.inl k,c,e,?_⟩
   have q:=x.cell y c e
   rw [mP ndP hp hu (by show scope.names.lookup y≠_;rw [k];decide)]at q
   exact q
 ·exact e0.hok.fresh (Nat.le_of_lt (x.above y c (PySem.mem_of_lookup h)))
 ·unfold eX
  show _=N.length
  rw [List.length_append,List.length_map,List.length_replicate]
  omega
theorem pK {CX:CXT}{P:Program}{w:World}{K:PySem.W.Frag}{mg:Str->Option Value}{base:Heap}{k:Nat}{f:Addr}{name qual:Str}{params:Arguments}{body:List Stmt}{scope:Scope}{dV kV doc pm cdv ct oc:Value}{an od:Option Addr}
  {osl:Array (Option Value)}{N ps:List Str}{sp:Sp} (lk:K.lookup f=some ⟨oc,od,.func (PySem.W.fnOf name qual params body scope dV kV doc pm an cdv ct),osl⟩) (hcd:PySem.W.codeIn K cdv qual=true) (S:FnScope N ps scope)
  (len:∀vs H Q E,sp vs H Q E->vs.length=ps.length)
  (hbody:∀(A:Around) (outer:List Env) (s:Shared) (H:Hp) (vs:List V) (Q:VK) (E:XK),Room k (A.deeper (envOfC qual scope s.heap.objs.size f cdv))->sp vs H Q E->
   ∃t,PSs (eU CX P w K mg base N qual scope f cdv A outer s H E) body t/\t { nx:=λ_ H'=>Q .non H',rt:=Q } (eX N vs) H) :
  FnOk P w K mg base CX (k+1) f (PySem.W.fnOf name qual params body scope dV kV doc pm an cdv ct) ps sp:=by
 refine⟨len,λA outer s H args us vs Q E hr e0 hb r hsp=>?_⟩
 have hl:=len _ _ _ _ hsp
 have KX:K.In s.heap:=e0.mod.kin.keeps λb o e=>(e0.bs b o e).1
 have lim:s.heap.NoLimit:=e0.mod.nolimit.keeps λb o e=>(e0.bs b o e).1
 have hkind:∀y∈ps.zip us,scope.names.lookup y.1=some .local\/(scope.names.lookup y.1=some .cell/\((cellsFrom (s.heap.objs.size+1) scope.names []).lookup y.1).isSome=true):=λ⟨n,v⟩ hy=>by
  rcases S.par n (List.of_mem_zip hy).1 with q | q
  ·exact .inl q
  ·exact .inr ⟨q,PySem.W.cellsFrom_some _ _ _ (.inl q)⟩
 refine codeAny_call_function hr.depth (KX _ _ lk) rfl S.co S.gen rfl (PySem.W.codeRec_of KX hcd) (hb _ _ _ _ ?_)
 refine wpAny_newFunctionEnv_cells S.kind hkind λenv he s1 x=>?_
 subst he
 refine⟨lim.keeps x.toInCall.keep,codeAny_func ?_⟩
 obtain⟨t,ht,hq⟩:=hbody A outer s H vs Q E (hr.deeper _) hsp
 have I:Inv (eU CX P w K mg base N qual scope f cdv A outer s H E) [] (eX N vs) H s1:=uj S hr.hd e0 hl r x
 refine wpAny_mono (ht [] s1 (eX N vs) H _ I hq) (λfl s' hs=>?_) λe s' hs=>hs
 have fin:∀{Y':St}{H':Hp}{v:V}{u:Value},Inv (eU CX P w K mg base N qual scope f cdv A outer s H E) [] Y' H' s'->bh v u->Q v H'->CE outer P w H s Q u s':=
  λ{Y' H' v u} J rv q=>⟨v,H',J.os,J.bare,J.base,J.hok,rv,q⟩
 cases fl with
 | ret u=>
  obtain⟨v,Y',H',J,rv,q⟩:=hs
  exact fin J rv q
 | next=>
  obtain⟨Y',H',J,q⟩:=hs
  exact fin (v:=V.non) (u:=Value.none) J rfl q
 | brk=>
  obtain⟨_,_,_,q⟩:=hs
  exact False.elim q
 | cont=>
  obtain⟨_,_,_,q⟩:=hs
  exact False.elim q
end L2
namespace L2
open PySem PySem.Spec PyProof.Rows
section
variable {X:Cx}{x:Str}{p pos:Pos}{e:Expr}{es:List Expr}{t:TA}{id T:String}{r:List V->Hp->VK->Prop}
def tCB (r:List V->Hp->VK->Prop) (t:TA):TE:=λY H Q=>t Y H λvs H1=>r vs H1 Q
theorem aA (hc:dq X (.builtin id) r) (hg:Gl X x) (hm:X.mg x=none) (hv:bootBuiltins x=some (.builtin id)) (ha:PA X (e::es) t) (hn:x≠"__name__":=by decide) (hdb:(x == ("__debug__" : Str))=false:=by decide)
  (he:starEach (e::es) X.env=(false,eval e X.env)::starEach es X.env:=by rfl) (hpl:(backTo pos (starEach es X.env)).any (·.1)=false:=by rfl):PE X (.Call (.Name x p) (e::es) [] pos) (tCB r t):=by
 intro pins s Y H Q I h
 refine wpAny_Call_Name_kw (io I hg hm hv ?_ hn hdb)
 exact PyProof.Rows.callWith_builtin1 (thn (ha pos pins s Y H _ I h) λus s1 ⟨vs,H1,I1,r1,q1⟩=>hc pins s1 Y H1 vs us Q I1 r1 q1) he hpl
theorem bU (hc:dq X (.type T) r) (hg:Gl X x) (hm:X.mg x=none) (hv:bootBuiltins x=some (.type T)) (ha:PA X (e::es) t) (hn:x≠"__name__":=by decide) (hdb:(x == ("__debug__" : Str))=false:=by decide)
  (he:starEach (e::es) X.env=(false,eval e X.env)::starEach es X.env:=by rfl) (hpl:(backTo pos (starEach es X.env)).any (·.1)=false:=by rfl):PE X (.Call (.Name x p) (e::es) [] pos) (tCB r t):=by
 intro pins s Y H Q I h
 refine wpAny_Call_Name_kw (io I hg hm hv ?_ hn hdb)
 exact PyProof.Rows.callWith_type1 (thn (ha pos pins s Y H _ I h) λus s1 ⟨vs,H1,I1,r1,q1⟩=>hc pins s1 Y H1 vs us Q I1 r1 q1) he hpl
end
end L2
namespace HT
open PySem PyProof.Rows
section
open PySem.SeqAt
open PySem.AutoSeq1 (wpAny_loadPart')
open PySem.MeetsSeq PySem.MeetsSeq2 PySem.MeetsSeq3
end
section
variable {prog:Program}{w:World}{A:Around}{E:Value->Shared->Prop}{s:Shared}
theorem cat_tup {t b:Addr}{vs ws:List Value}{Q:Value->Shared->Prop} (ht:IsTup s.heap t vs.toArray) (hb:IsTup s.heap b ws.toArray) (hv:vs≠[])
  (h1:ws=[]->Q (.ref t) s) (h2:ws≠[]->Q (.ref s.heap.objs.size) { s with heap:=s.heap.push { cls:=.type "tuple", data:=.seq (vs++ws).toArray } })
  (hsz:vs.length+ws.length<=sizeLine):wpAny (model prog w) A (binaryOp .Add (.ref t) (.ref b)) Q E s:=by
 obtain⟨⟨cls,dd,data,sl⟩,ho,hc,n,hd⟩:=id ht
 obtain⟨⟨cls2,dd2,data2,sl2⟩,ho2,hc2,n2,hd2⟩:=id hb
 simp only at hc hd hc2 hd2
 subst hc hd hc2 hd2
 have e:vs.toArray++ws.toArray=(vs++ws).toArray:=by simp
 by_cases hw:ws=[]
 ·exact concat_meets ⟨_,ho,rfl⟩ ⟨_,ho2,rfl⟩ noFill_tuple_add seq_tuple_add PySem.F.slot_tuple_add PySem.F.entry_tuple_add (PySem.F.args_tuple_add_2 _ _)
   (tuple_addW1 t b vs.toArray ws.toArray n n2 dd dd2 sl sl2 (by simpa using hv) (by simp [hw])) ⟨ho,ho2,h1 hw⟩
 ·refine concat_meets ⟨_,ho,rfl⟩ ⟨_,ho2,rfl⟩ noFill_tuple_add seq_tuple_add PySem.F.slot_tuple_add PySem.F.entry_tuple_add (PySem.F.args_tuple_add_2 _ _)
   (tuple_addW2 t b vs.toArray ws.toArray n n2 dd dd2 sl sl2 (by simpa using hv) (by simpa using hw) (by rw [List.size_toArray,List.size_toArray];exact hsz)) ⟨ho,ho2,?_⟩
  rw [e]
  exact h2 hw
noncomputable def sIx (n d:Nat):Option Int->Nat
 | none=>d
 | some v=>if v < 0 then (v+(n:Int)).toNat else min v.toNat n
end
end HT
namespace L2
open PySem PySem.Spec PyProof.Rows
abbrev TO:=St->Hp->(Option Int->Hp->Prop)->Prop
def PO (X:Cx) (e:Option Expr) (t:TO):Prop:=
 ∀(pins:List (Addr × Obj)) (s:Shared) (Y:St) (H:Hp) (Q:Option Int->Hp->Prop),Inv X pins Y H s->t Y H Q->
  wpAny (model X.prog X.w) X.A (evalPart e X.env) (λu s'=>∃o H',Inv X pins Y H' s'/\IsPart u o/\Q o H') X.xe s
def xM:TO:=λ_ H Q=>Q none H
def B4 (t:TE):TO:=λY H Q=>t Y H λx H1=>∃i,x=.int i/\Q (some i) H1
section
variable {X:Cx}{e:Expr}{te:TE}{lo hi:Option Expr}{tl th:TO}{pos p2:Pos}
theorem gQ:PO X none xM:=by
 intro pins s Y H Q I h
 rw [evalPart_none]
 exact wpAny_pure ⟨none,H,I,.none,h⟩
theorem eM (h:PE X e te):PO X (some e) (B4 te):=by
 intro pins s Y H Q I hw
 rw [evalPart_some]
 refine thn (h pins s Y H _ I hw) λu s1 ⟨x,H1,I1,r1,q1⟩=>?_
 obtain⟨i,rfl,q⟩:=q1
 obtain⟨t,rfl⟩:=r1
 exact⟨some i,H1,I1,.int i t,q⟩
def SlR (X:Cx) (r:V->Option Int->Option Int->Hp->VK->Prop):Prop:=
 ∀(pins:List (Addr × Obj)) (s:Shared) (Y:St) (H:Hp) (x:V) (v vl vu:Value) (lo hi:Option Int) (sl:Addr) (Q:VK),Inv X pins Y H s->bh x v->s.heap.IsSliceOf sl vl vu .none->IsPart vl lo->IsPart vu hi->r x lo hi H Q->
  ∃T id,typeLookup (.type T) "__getitem__" = pure (some (.builtin id))/\s.TypeIs v T/\wpAny (model X.prog X.w) X.A (getItem v (.ref sl)) (EP X pins Y Q) X.xe s
def tSl (r:V->Option Int->Option Int->Hp->VK->Prop) (te:TE) (tl th:TO):TE:=λY H Q=>te Y H λx H1=>tl Y H1 λl H2=>th Y H2 λu H3=>r x l u H3 Q
theorem dY {r:V->Option Int->Option Int->Hp->VK->Prop} (hr:SlR X r) (he:PE X e te) (hl:PO X lo tl) (hu:PO X hi th):PE X (.Subscript e (.Slice lo hi none p2) pos) (tSl r te tl th):=by
 intro pins s Y H Q I h
 refine Subscript_ (thn (he pins s Y H _ I h) λv s1 ⟨x,H1,I1,r1,q1⟩=>?_)
 refine wpAny_Slice (thn (hl pins s1 Y H1 _ I1 q1) λvl s2 ⟨l,H2,I2,pl,q2⟩=>thn (hu pins s2 Y H2 _ I2 q2) λvu s3 ⟨u,H3,I3,pu,q3⟩=>?_)
 rw [evalPart_none]
 refine wpAny_pure ?_
 have I4:Inv X pins Y H3 { s3 with heap:=s3.heap.push { cls:=.type "slice", data:=.fields #[vl,vu,.none] } }:=I3.kept (t':=s3.toks) λb ob q=>Heap.get?_push_of_some _ q
 obtain⟨T,id,hT,ht,hg⟩:=hr pins { s3 with heap:=s3.heap.push { cls:=.type "slice", data:=.fields #[vl,vu,.none] } } Y H3 x v vl vu l u s3.heap.objs.size Q I4 r1 (Heap.IsSliceOf.new ..) pl pu q3
 show wpAny (model X.prog X.w) X.A (subscriptTail e (.Slice lo hi none p2) v (.ref s3.heap.objs.size)) (EP X pins Y Q) X.xe { s3 with heap:=s3.heap.push { cls:=.type "slice", data:=.fields #[vl,vu,.none] } }
 exact tail_any (ops:=[.ref s3.heap.objs.size,v]) ht hT hg (by with_unfolding_all rfl)
noncomputable def cutV (xs:List V) (lo hi:Option Int):List V:=(xs.drop (HT.sIx xs.length 0 lo)).take (HT.sIx xs.length xs.length hi - HT.sIx xs.length 0 lo)
theorem gF (xs:List V) (lo hi:Option Int):(cutV xs lo hi).length<=xs.length:=by
 unfold cutV
 rw [List.length_take,List.length_drop]
 omega
def Bx (K:PySem.W.Frag):R2:=λx y H Q=>∃a b xs ys,x=.ref a/\y=.ref b/\SqT K H a xs/\SqT K H b ys/\xs≠[]/\xs.length+ys.length<=sizeLine/\
 (ys=[]->Q (.ref a) H)/\(ys≠[]->∀p,H p=none->Q (.ref p) (upd H p (.tup (xs++ys))))
theorem aP.nil_iff {xs:List V}{us:List Value} (r:aP xs us):us=[]↔xs=[]:=by
 cases r with
 | nil=>simp
 | cons _ _=>simp
theorem sF:OpR X (binaryOp .Add) (Bx X.K):=by
 intro pins s Y H x y v u Q I rx ry h
 obtain⟨a,b,xs,ys,rfl,rfl,ha,hb,hx,hz,q1,q2⟩:=h
 cases rx
 cases ry
 obtain⟨its,r1,p1,_⟩:=I.tuple ha
 obtain⟨its2,r2,p2,_⟩:=I.tuple hb
 refine HT.cat_tup p1 p2 (λz=>hx (r1.nil_iff.mp z)) (λz=>⟨.ref a,H,I,rfl,q1 (r2.nil_iff.mp z)⟩) (λz=>?_) (by rw [<- r1.length,<- r2.length];exact hz)
 refine⟨.ref s.heap.objs.size,_,I.laid (t':=s.toks) (o:=.tup (xs++ys)) (λb ob q=>Heap.get?_push_of_some _ q) (Nat.le_refl _) ?_,rfl,q2 (λw=>z (r2.nil_iff.mpr w)) _ (I.hok.fresh (Nat.le_refl _))⟩
 exact⟨by rw [List.length_append];exact hz,_,r1.append r2,IsTup.new _ _⟩
end
end L2
namespace L2
open PySem PySem.Spec PyProof.Rows
noncomputable def ixN (n:Nat) (i:Int):Option Nat:=if 0<=i then (if i < n then some i.toNat else none) else if -(n:Int)<=i then some (i+n).toNat else none
noncomputable def atI {α:Type} (xs:List α) (i:Int):Option α:=(ixN xs.length i).bind λj=>xs[j]?
theorem sQ {n:Nat}{i:Int}{j:Nat} (h:ixN n i=some j):seqIndex? i n=some j/\j < n/\-(n:Int)<=i/\i < n:=by
 unfold ixN at h
 by_cases h0:0<=i
 ·rw [if_pos h0]at h
  by_cases h1:i < n
  ·rw [if_pos h1]at h
   have e:i.toNat=j:=Option.some.inj h
   exact⟨by rw [seqIndex_of h0 h1,e],by omega,by omega,h1⟩
  ·rw [if_neg h1]at h;cases h
 ·rw [if_neg h0]at h
  by_cases h1 : -(n:Int)<=i
  ·rw [if_pos h1]at h
   have e:(i+n).toNat=j:=Option.some.inj h
   exact⟨by rw [seqIndex_neg (by omega) h1,e],by omega,h1,by omega⟩
  ·rw [if_neg h1]at h;cases h
theorem oy {α:Type}{xs:List α}{i:Int}{v:α} (h:atI xs i=some v):∃j,seqIndex? i xs.length=some j/\xs[j]?=some v/\j < xs.length/\-(xs.length:Int)<=i/\i < xs.length:=by
 unfold atI at h
 cases e:ixN xs.length i with
 | none=>rw [e]at h;cases h
 | some j=>
  rw [e]at h
  obtain⟨h1,h2,h3,h4⟩:=sQ e
  exact⟨j,h1,h,h2,h3,h4⟩
theorem cq {α:Type}{xs:List α}{j:Nat}{v:α} (h:xs[j]?=some v):atI xs (j:Int)=some v:=by
 have hj:j < xs.length:=(List.getElem?_eq_some_iff.mp h).1
 have e:ixN xs.length (j:Int)=some j:=by
  unfold ixN
  rw [if_pos (by omega),if_pos (by omega)];simp
 unfold atI;rw [e];exact h
theorem li {α:Type} (xs:List α) (v:α):atI (xs++[v]) (-1)=some v:=by
 have hl:(xs++[v]).length=xs.length+1:=by simp
 have e:ixN (xs++[v]).length (-1)=some xs.length:=by
  unfold ixN
  rw [hl,if_neg (by decide),if_pos (by omega)]
  congr 1
  omega
 unfold atI
 rw [e]
 show (xs++[v])[xs.length]?=some v
 simp
def yT (b:Expr):Prop:=∀o i,subscripted b false o i=operate [o,i] (getItem o i)
def IxR (X:Cx) (r:R2):Prop:=
 ∀(value slice:Expr) (pins:List (Addr × Obj)) (s:Shared) (Y:St) (H:Hp) (x y:V) (v u:Value) (Q:VK),Inv X pins Y H s->bh x v->bh y u->r x y H Q->
  subscripted slice false v u=operate [v,u] (getItem v u)->wpAny (model X.prog X.w) X.A (subscriptTail value slice v u) (EP X pins Y Q) X.xe s
def MtR (X:Cx) (id:String) (r:V->List V->Hp->VK->Prop):Prop:=
 ∀(pins:List (Addr × Obj)) (s:Shared) (Y:St) (H:Hp) (x:V) (xs:List V) (v:Value) (us:List Value) (Q:VK),Inv X pins Y H s->bh x v->aP xs us->r x xs H Q->
  wpAny (model X.prog X.w) X.A (call (.builtin id) (v::us)) (EP X pins Y Q) X.xe s
section
variable {X:Cx}{a b:Expr}{ta tb:TE}{pos:Pos}
theorem aH {r:R2} (hr:IxR X r) (ha:PE X a ta) (hb:PE X b tb) (hs:yT b):PE X (.Subscript a b pos) (tOp r ta tb):=by
 intro pins s Y H Q I h
 exact Subscript_ (AJ ha hb I h λv u s2 x y H2 I2 rx ry q=>hr a b pins s2 Y H2 x y v u Q I2 rx ry q (hs _ _))
inductive Bw (K:PySem.W.Frag) (x:V) (y:V) (H:Hp) (Q:VK):Prop
 | mk (p xs i v) (h1:x=.ref p) (h2:y=.int i) (h3:SqL K H p xs) (h4:atI xs i=some v) (h5:Q v H)
inductive vZ (K:PySem.W.Frag) (x:V) (y:V) (H:Hp) (Q:VK):Prop
 | mk (p xs i v) (h1:x=.ref p) (h2:y=.int i) (h3:SqT K H p xs) (h4:atI xs i=some v) (h5:Q v H)
inductive Cc (x:V) (y:V) (H:Hp) (Q:VK):Prop
 | mk (z i c) (h1:x=.str z) (h2:y=.int i) (h3:z.length<=sizeLine) (h4:atI z.cps.toList i=some c) (h5:Q (.str ⟨#[c]⟩) H)
theorem aR:IxR X (Bw X.K):=by
 intro value slice pins s Y H x y v u Q I rx ry h hs
 obtain⟨p,xs,i,z,rfl,rfl,hq,he,q⟩:=h
 cases rx
 obtain⟨t,rfl⟩:=ry
 obtain⟨its,r,pl,hz⟩:=I.list hq
 obtain⟨j,h1,h2,h3,h4,h5⟩:=oy he
 obtain⟨w,ew,rw'⟩:=r.get h2
 have hl:=r.length
 have hn:=im
 have fin:EP X pins Y Q w s:=⟨z,H,I,rw',q⟩
 by_cases h0:0<=i
 ·have hj:i.toNat=j:=by
   rw [seqIndex_of h0 h5]at h1
   exact Option.some.inj h1
  exact item_listR pl.isList h0 (by omega) (by rw [hj];simpa using ew) fin hs
 ·have hj:(i+(its.toArray.size:Int)).toNat=j:=by
   rw [seqIndex_neg (by omega) h4]at h1
   rw [List.size_toArray,<- hl]
   exact Option.some.inj h1
  exact subscriptTail_builtinR (x:=w) pl.isList.typeIs slot_list_getitem.lookup
   (wpAny_getItem_list_neg (Q:=λr s'=>r=w/\EP X pins Y Q r s') pl.isList (by omega) (by rw [List.size_toArray] <;> omega) (by omega) (by rw [hj];simpa using ew) ⟨rfl,fin⟩) hs
theorem be:IxR X (vZ X.K):=by
 intro value slice pins s Y H x y v u Q I rx ry h hs
 obtain⟨p,xs,i,z,rfl,rfl,hq,he,q⟩:=h
 cases rx
 obtain⟨t,rfl⟩:=ry
 obtain⟨its,r,pl,hz⟩:=I.tuple hq
 obtain⟨j,h1,h2,h3,h4,h5⟩:=oy he
 obtain⟨w,ew,rw'⟩:=r.get h2
 have hl:=r.length
 have hn:=im
 have fin:EP X pins Y Q w s:=⟨z,H,I,rw',q⟩
 exact subscriptTail_builtinR (x:=w) pl.typeIs slot_tuple_getitem.lookup
  (getItem_tuple (j:=j) (Q:=λr s'=>r=w/\EP X pins Y Q r s') pl (by omega) (by omega) (by rw [List.size_toArray,<- hl];exact h1) (by simpa using ew) ⟨rfl,fin⟩) hs
theorem wZ:IxR X Cc:=by
 intro value slice pins s Y H x y v u Q I rx ry h hs
 obtain⟨z,i,c,rfl,rfl,hz,he,q⟩:=h
 obtain⟨t,rfl⟩:=rx
 obtain⟨t',rfl⟩:=ry
 obtain⟨j,h1,h2,h3,h4,h5⟩:=oy he
 have hl:z.cps.toList.length=z.length:=by simp [Str.length]
 rw [hl]at h1 h4 h5
 have hn:=im
 exact tail_any (typeIs_str s z t) slot_str_getitem.lookup (getItem_str (c:=c) (by
  have e1:decide (i < -(2 ^ 63:Int))=false:=decide_eq_false (by omega)
  have e2:decide (i>=2 ^ 63)=false:=decide_eq_false (by omega)
  rw [e1,e2,Bool.or_false]) (by rw [h1];simpa using h2) ⟨.str ⟨#[c]⟩,H,I.tok _,⟨_,rfl⟩,q⟩) hs
theorem qQ (its:List Value) (n j:Nat) (u:Value):Obj.mapSeq (·.setIfInBounds j u) { cls:=.type "list", data:=.seq its.toArray n }={ cls:=.type "list", data:=.seq (its.set j u).toArray n }:=by
 simp [Obj.mapSeq]
theorem Inv.lst {pins:List (Addr × Obj)}{Y:St}{H:Hp}{s:Shared}{p:Addr}{xs:List V} (I:Inv X pins Y H s) (h:H p=some (.lst xs)) :
  ∃(its:List Value) (n:Nat),aP xs its/\s.heap.get? p=some { cls:=.type "list", data:=.seq its.toArray n }/\xs.length<=sizeLine:=by
 obtain⟨z,its,n,r,e⟩:=I.hok p _ h
 exact⟨its,n,r,e,z⟩
theorem Inv.lstUpd {pins:List (Addr × Obj)}{Y:St}{H:Hp}{s:Shared}{p:Addr}{xs ys:List V}{its its':List Value}{n n':Nat}{f:Obj->Obj} (I:Inv X pins Y H s) (h:H p=some (.lst xs))
  (ho:s.heap.get? p=some { cls:=.type "list", data:=.seq its.toArray n }) (hf:f { cls:=.type "list", data:=.seq its.toArray n }={ cls:=.type "list", data:=.seq its'.toArray n' }) (r:aP ys its') (hz:ys.length<=sizeLine) (t:Nat) :
  Inv X pins Y (upd H p (.lst ys)) { s with heap:=s.heap.update p f,toks:=t }:=by
 have e:(s.heap.update p f).get? p=some { cls:=.type "list", data:=.seq its'.toArray n' }:=by
  rw [Heap.get?_update_self f ho (by rw [hf] <;> rfl),hf]
 refine I.write (x:=p) (e:=p) (by rw [h];trivial) (.inl rfl) (λb u hb q=>(Heap.get?_update_other _ _ (Ne.symm hb)).trans q) ⟨_,e⟩ ?_
 exact⟨hz,its',n',r,e⟩
def Bv:V->V->V->Hp->(Hp->Prop)->Prop:=λo i v H Q=>∃p xs k j,o=.ref p/\i=.int k/\H p=some (.lst xs)/\ixN xs.length k=some j/\Q (upd H p (.lst (xs.set j v)))
theorem vq:BS X Bv:=by
 intro pins s Y H o i v ov iv u Q I ro ri rv h
 obtain⟨p,xs,k,j,rfl,rfl,hp,hj,q⟩:=h
 cases ro
 obtain⟨t,rfl⟩:=ri
 obtain⟨its,n,r,ho,hz⟩:=I.lst hp
 obtain⟨h1,h2,h3,h4⟩:=sQ hj
 have hl:=r.length
 have hn:=im
 have I':Inv X pins Y (upd H p (.lst (xs.set j v))) { s with heap:=s.heap.update p (Obj.mapSeq (·.setIfInBounds j u)) }:=
  I.lstUpd hp ho (qQ its n j u) (r.set rv j) (by rw [List.length_set];exact hz) s.toks
 by_cases h0:0<=k
 ·have hk:k.toNat=j:=by
   rw [seqIndex_of h0 h4]at h1
   exact Option.some.inj h1
  exact PySem.W.ki_setAt ho h0 (by omega) (by rw [List.size_toArray,<- hl];exact h4) (by rw [hk];exact⟨_,I',q⟩)
 ·have hk:(k+(its.toArray.size:Int)).toNat=j:=by
   rw [seqIndex_neg (by omega) h3]at h1
   rw [List.size_toArray,<- hl]
   exact Option.some.inj h1
  exact PySem.W.ki_setBack ho (by omega) (by rw [List.size_toArray,<- hl];exact h3) (by omega) (by rw [hk];exact⟨_,I',q⟩)
theorem nF (lo hi:Option Int) (n:Nat):(sliceBounds lo hi none n).1=((HT.sIx n 0 lo:Nat):Int)/\(sliceBounds lo hi none n).2.1=((HT.sIx n n hi:Nat):Int)/\(sliceBounds lo hi none n).2.2=1:=by
 refine⟨?_,?_,rfl⟩
 ·cases lo with
  | none=>simp [sliceBounds,HT.sIx]
  | some i=>
   simp only [sliceBounds,HT.sIx,Option.getD_none,show (1:Int) > 0 by decide,if_true]
   by_cases h:i < 0
   ·simp only [h,if_true] <;> omega
   ·simp only [h,if_false] <;> omega
 ·cases hi with
  | none=>simp [sliceBounds,HT.sIx]
  | some i=>
   simp only [sliceBounds,HT.sIx,Option.getD_none,show (1:Int) > 0 by decide,if_true]
   by_cases h:i < 0
   ·simp only [h,if_true] <;> omega
   ·simp only [h,if_false] <;> omega
theorem lG (its:List Value) (lo hi:Option Int):slicePick its.toArray lo hi none=((its.drop (HT.sIx its.length 0 lo)).take (HT.sIx its.length its.length hi - HT.sIx its.length 0 lo)).toArray:=by
 obtain⟨h1,h2,h3⟩:=nF lo hi its.toArray.size
 unfold slicePick
 rw [h1,h2,h3]
 simp only [sliceRange_one,pick_run,List.size_toArray] <;> rfl
inductive Cb (K:PySem.W.Frag) (x:V) (lo:Option Int) (hi:Option Int) (H:Hp) (Q:VK):Prop
 | mk (a xs) (h1:x=.ref a) (h2:SqL K H a xs) (h3:∀p,H p=none->Q (.ref p) (upd H p (.lst (cutV xs lo hi))))
theorem jn:SlR X (Cb X.K):=by
 intro pins s Y H x v vl vu lo hi sl Q I rx hs pl pu h
 obtain⟨a,xs,rfl,hx,q⟩:=h
 cases rx
 obtain⟨its,r,ht,hz⟩:=I.list hx
 have hlen:=r.length
 refine⟨"list", _,slot_list_getitem.lookup,ht.isList.typeIs,?_⟩
 refine wpAny_getItem_list_slice ht.isList hs pl pu .none (by simp) ?_ (by rw [List.size_toArray] <;> omega)
 rw [lG,<- hlen]
 refine⟨.ref s.heap.objs.size,_,I.laid (t':=s.toks) (o:=.lst (cutV xs lo hi)) (λb ob q=>Heap.get?_push_of_some _ q) (Nat.le_refl _) ?_,rfl,q _ (I.hok.fresh (Nat.le_refl _))⟩
 exact⟨Nat.le_trans (gF xs lo hi) hz,_,0,(r.drop (HT.sIx xs.length 0 lo)).take (HT.sIx xs.length xs.length hi - HT.sIx xs.length 0 lo),Heap.get?_push_size _ rfl⟩
noncomputable def dl:V->Bool
 | .non=>true
 | .bl _=>true
 | .int _=>true
 | .str _=>true
 | _=>false
noncomputable def eqV:V->V->Bool
 | .non,.non=>true
 | .bl a,.bl b=>a == b
 | .bl a,.int b=>(if a then 1 else 0) == b
 | .int a,.bl b=>a == (if b then 1 else 0)
 | .int a,.int b=>a == b
 | .str a,.str b=>a == b
 | _,_=>false
theorem AF {A:Around}{s:Shared}{y x:V}{u v:Value} (ry:bh y u) (rx:bh x v) (fy:dl y=true) (fx:dl x=true):SeqAt.EqAt A s u v (eqV y x):=by
 cases y with
 | non=>
  cases ry
  cases x with
  | non=>cases rx;exact SeqAt.EqAt.same _
  | bl b=>cases rx;exact SeqAt.EqAt.none_bool b
  | int b=>obtain⟨t,rfl⟩:=rx;exact SeqAt.EqAt.none_int b t
  | str b=>obtain⟨t,rfl⟩:=rx;exact SeqAt.EqAt.none_str b t
  | _=>exact absurd (show false=true from fx) Bool.false_ne_true
 | bl a=>
  cases ry
  cases x with
  | non=>cases rx;exact SeqAt.EqAt.bool_none a
  | bl b=>cases rx;exact SeqAt.EqAt.bool_bool a b
  | int b=>obtain⟨t,rfl⟩:=rx;exact SeqAt.EqAt.bool_int a b t
  | str b=>obtain⟨t,rfl⟩:=rx;exact SeqAt.EqAt.bool_str a b t
  | _=>exact absurd (show false=true from fx) Bool.false_ne_true
 | int a=>
  obtain⟨t',rfl⟩:=ry
  cases x with
  | non=>cases rx;exact SeqAt.EqAt.int_none a t'
  | bl b=>cases rx;exact SeqAt.EqAt.int_bool a t' b
  | int b=>obtain⟨t,rfl⟩:=rx;exact SeqAt.EqAt.int_int a t' b t
  | str b=>obtain⟨t,rfl⟩:=rx;exact SeqAt.EqAt.int_str a t' b t
  | _=>exact absurd (show false=true from fx) Bool.false_ne_true
 | str a=>
  obtain⟨t',rfl⟩:=ry
  cases x with
  | non=>cases rx;exact SeqAt.EqAt.str_none a t'
  | bl b=>cases rx;exact SeqAt.EqAt.str_bool a t' b
  | int b=>obtain⟨t,rfl⟩:=rx;exact SeqAt.EqAt.str_int a t' b t
  | str b=>obtain⟨t,rfl⟩:=rx;exact SeqAt.EqAt.str_str a t' b t
  | _=>exact absurd (show false=true from fx) Bool.false_ne_true
 | _=>exact absurd (show false=true from fy) Bool.false_ne_true
noncomputable def eqU (x:V) (u:Value):Bool:=match u with
 | .none=>eqV .non x
 | .bool b=>eqV (.bl b) x
 | .int i _=>eqV (.int i) x
 | .str z _=>eqV (.str z) x
 | _=>false
theorem oh {x y:V}{u:Value} (r:bh y u) (f:dl y=true):eqU x u=eqV y x:=by
 cases y with
 | non=>cases r;rfl
 | bl b=>cases r;rfl
 | int i=>obtain⟨t,rfl⟩:=r;rfl
 | str z=>obtain⟨t,rfl⟩:=r;rfl
 | _=>exact absurd (show false=true from f) Bool.false_ne_true
theorem oz {x:V}:∀{xs:List V}{us:List Value},aP xs us->xs.all dl=true->us.any (eqU x)=xs.any λy=>eqV y x
 | _,_,.nil,_=>rfl
 | y::xs,u::us,.cons r t,f=>by
  rw [List.all_cons,Bool.and_eq_true]at f
  rw [List.any_cons,List.any_cons,oh r f.1,oz t f.2]
theorem gC {A:Around}{s:Shared}{x:V}{v:Value} (rx:bh x v) (fx:dl x=true):∀{xs:List V}{us:List Value},aP xs us->xs.all dl=true->∀u∈us,SeqAt.EqAt A s u v (eqU x u)
 | _,_,.nil,_=>λu hu=>by cases hu
 | y::xs,u::us,.cons r t,f=>λu' hu=>by
  rw [List.all_cons,Bool.and_eq_true]at f
  rcases List.mem_cons.mp hu with rfl | hu
  ·rw [oh r f.1];exact AF r rx f.1 fx
  ·exact gC rx fx t f.2 u' hu
noncomputable def inV (x:V) (xs:List V):Bool:=xs.any λy=>eqV y x
inductive rIn (K:PySem.W.Frag) (neg:Bool) (x:V) (y:V) (H:Hp) (Q:VK):Prop
 | mk (p xs) (h1:y=.ref p) (h2:(SqL K H p xs\/SqT K H p xs)) (h3:dl x=true) (h4:xs.all dl=true) (h5:Q (.bl (if neg then !inV x xs else inV x xs)) H)
theorem fB:OpR X (compareOp .NotIn) (rIn X.K true):=by
 intro pins s Y H x y v u Q I rx ry h
 obtain⟨p,xs,rfl,hq,fx,fs,q⟩:=h
 cases ry
 rcases hq with hq | hq
 ·obtain⟨its,r,pl,hz⟩:=I.list hq
  refine SeqAt.notIn_listAt (eqU x) pl.isList (λw hw=>gC rx fx r fs w (by simpa using hw)) ⟨.bl _,H,I,rfl,?_⟩
  rw [show its.toArray.any (eqU x)=its.any (eqU x) by simp,oz r fs]
  exact q
 ·obtain⟨its,r,pl,hz⟩:=I.tuple hq
  refine SeqAt.notIn_tupleAt (eqU x) pl (λw hw=>gC rx fx r fs w (by simpa using hw)) ⟨.bl _,H,I,rfl,?_⟩
  rw [show its.toArray.any (eqU x)=its.any (eqU x) by simp,oz r fs]
  exact q
theorem aG:dq X (.builtin "len") (λxs H Q=>∃p ys,xs=[.ref p]/\(SqL X.K H p ys\/SqT X.K H p ys)/\Q (.int ys.length) H):=by
 intro pins s Y H xs us Q I r h
 obtain⟨p,ys,rfl,hq,q⟩:=h
 obtain⟨u,rfl,rx⟩:=fR r
 cases rx
 have hn:=im
 rcases hq with hq | hq
 ·obtain⟨its,r',pl,hz⟩:=I.list hq
  have hlen:=r'.length
  exact Calls.call_len_list pl.isList (by simp only [List.size_toArray] <;> omega) ⟨.int ys.length,H,I.tok _,⟨s.toks+1,by rw [List.size_toArray,hlen]⟩,q⟩
 ·obtain⟨its,r',pl,hz⟩:=I.tuple hq
  have hlen:=r'.length
  exact len_tuple pl (by simp only [List.size_toArray] <;> omega) ⟨.int ys.length,H,I.tok _,⟨s.toks+1,by rw [List.size_toArray,hlen]⟩,q⟩
theorem iQ:dq X (.builtin "len") (λxs H Q=>∃z,xs=[.str z]/\z.length<=sizeLine/\Q (.int z.length) H):=by
 intro pins s Y H xs us Q I r h
 obtain⟨z,rfl,hz,q⟩:=h
 obtain⟨u,rfl,t,rfl⟩:=fR r
 have hn:=im
 exact len_str (by omega) ⟨.int z.length,H,I.tok _,⟨_,rfl⟩,q⟩
theorem cG:dq X (.type "list") (λxs H Q=>∃p ys,xs=[.ref p]/\(SqL X.K H p ys\/SqT X.K H p ys)/\∀l,H l=none->Q (.ref l) (upd H l (.lst ys))):=by
 intro pins s Y H xs us Q I r h
 obtain⟨p,ys,rfl,hq,q⟩:=h
 obtain⟨u,rfl,rx⟩:=fR r
 cases rx
 have fin:∀(its:List Value),aP ys its->ys.length<=sizeLine->∀(h':Heap) (c':Nat),(∀b o',s.heap.get? b=some o'->h'.get? b=some o')->
   h'.get? s.heap.objs.size=some { cls:=.type "list", dict:=none,data:=.seq its.toArray c',slots:=#[] }->EP X pins Y Q (.ref s.heap.objs.size) { s with heap:=h' }:=λits r' hz h' c' kp e=>
  ⟨.ref s.heap.objs.size,_,I.laid (t':=s.toks) kp (Nat.le_refl _) (show bw X.prog X.w _ h' _ (.lst ys) from ⟨hz,its,c',r',e⟩),rfl,q _ (I.hok.fresh (Nat.le_refl _))⟩
 rcases hq with hq | hq
 ·obtain⟨its,r',pl,hz⟩:=I.list hq
  have hlen:=r'.length
  obtain⟨o,ho,hc,n,hd⟩:=pl.isList
  exact call_list_seq p (.inl rfl) ho hc hd (λh' c' kp e=>fin its r' hz h' c' kp e) (by simp only [List.size_toArray] <;> omega)
 ·obtain⟨its,r',pl,hz⟩:=I.tuple hq
  have hlen:=r'.length
  obtain⟨o,ho,hc,n,hd⟩:=pl
  exact call_list_seq p (.inr rfl) ho hc hd (λh' c' kp e=>fin its r' hz h' c' kp e) (by simp only [List.size_toArray] <;> omega)
def tyV (K:PySem.W.Frag) (T:String) (x:V) (H:Hp):Prop:=match x with
 | .str _=>T = "str"
 | .int _=>T = "int"
 | .ref p=>(T = "list"/\∃xs,SqL K H p xs)\/(T = "tuple"/\∃o,K.lookup p=some o/\o.cls=.type "tuple"/\o.dict=none)\/
   (T = "dict"/\((∃kvs,H p=some (.dK kvs))\/∃kvs,H p=some (.dT kvs)))\/(T = "set"/\∃S n,H p=some (.set S n))
 | _=>False
theorem zu {pins:List (Addr × Obj)}{Y:St}{H:Hp}{s:Shared}{T:String}{x:V}{v:Value} (I:Inv X pins Y H s) (r:bh x v) (ty:tyV X.K T x H) :
  s.TypeIs v T/\∀a,v=.ref a->∃ob,s.heap.get? a=some ob/\ob.dict=none:=by
 cases x with
 | str z=>
  obtain⟨t,rfl⟩:=r
  cases (show T = "str" from ty)
  exact⟨typeIs_str s z t,λ_ e=>nomatch e⟩
 | int i=>
  obtain⟨t,rfl⟩:=r
  cases (show T = "int" from ty)
  exact⟨typeIs_int s i t,λ_ e=>nomatch e⟩
 | ref p=>
  cases r
  rcases ty with⟨rfl,xs,hq⟩ | ⟨rfl,o,hk,hc,hd⟩ | ⟨rfl,hk⟩ | ⟨rfl,S,n,hk⟩
  ·obtain⟨its,_,pl,_⟩:=I.list hq
   refine⟨pl.isList.typeIs,λa e=>?_⟩
   cases e
   obtain⟨o,n,e,c,hd,_⟩:=pl
   exact⟨o,e,hd⟩
  ·refine⟨⟨o,I.kIn p o hk,hc⟩,λa e=>?_⟩
   cases e
   exact⟨o,I.kIn _ o hk,hd⟩
  ·have z:∃o,s.heap.get? p=some o/\o.ExactDict:=by
    rcases hk with⟨kvs,hk⟩ | ⟨kvs,hk⟩
    ·obtain⟨_,_,_,_,o,_,_,e,ex,_⟩:=I.hok p _ hk
     exact⟨o,e,ex⟩
    ·obtain⟨_,_,_,_,o,_,_,e,ex,_⟩:=I.hok p _ hk
     exact⟨o,e,ex⟩
   obtain⟨o,e,ex⟩:=z
   refine⟨⟨o,e,ex.1⟩,λa e2=>?_⟩
   cases e2
   exact⟨o,e,ex.2.1⟩
  ·obtain⟨o,_,_,_,e,ex,_⟩:=I.hok p _ hk
   refine⟨⟨o,e,ex.1⟩,λa e2=>?_⟩
   cases e2
   exact⟨o,e,ex.2.1⟩
 | _=>exact False.elim ty
def tBM (K:PySem.W.Frag) (T:String) (r:V->List V->Hp->VK->Prop) (to:TE) (t:TA):TE:=λY H Q=>to Y H λx H1=>tyV K T x H1/\t Y H1 λxs H2=>r x xs H2 Q
variable {o e:Expr}{es:List Expr}{to:TE}{t:TA}{name:Str}{apos cpos:Pos}{T id:String}{r:V->List V->Hp->VK->Prop}
theorem dO (pa:PlainAttrs T) (slot:Slot T name id) (hty:typeOf (.builtin id)=pure (.type "method_descriptor")) (hm:MtR X id r) (ho:PE X o to) (ha:PA X (e::es) t)
  (hbase:attributeBase o name X.env (eval o X.env)=eval o X.env:=by rfl)
  (hfew:((backTo cpos (starEach (e::es) X.env)).all (λx=>!x.1) && (backToKw cpos (keywordEach [] X.env)).all (λx=>x.1.isSome)
   && decide ((e::es).length+([]:List Keyword).length+(if ([]:List Keyword).isEmpty then 0 else 1) < 30))=true:=by rfl)
  (hline:(apos.endLine == cpos.line)=true:=by rfl) (hs:starEach (e::es) X.env=(false,eval e X.env)::starEach es X.env:=by rfl) (hplain:(backTo cpos (starEach es X.env)).any (·.1)=false:=by rfl) :
  PE X (.Call (.Attribute o name apos) (e::es) [] cpos) (tBM X.K T r to t):=by
 intro pins s Y H Q I h
 refine wpAny_Call_method_late hbase hfew hline rfl (thn (ho pins s Y H _ I h) λv s1 ⟨x,H1,I1,r1,ty,q1⟩=>?_)
 obtain⟨h1,h2⟩:=zu I1 r1 ty
 refine⟨T,id,pa,slot,hty,h1,h2,?_⟩
 have hA:=ha cpos pins s1 Y H1 _ I1 q1
 rw [hs]at hA ⊢
 refine Calls.callWith_builtin (by show (false || (backTo cpos (starEach es X.env)).any (·.1))=false;rw [hplain] <;> rfl) (Calls.evalArgs_plain ?_)
 exact thn hA λus s2 ⟨vs,H2,I2,r2,q2⟩=>hm pins s2 Y H2 x vs v us Q I2 r1 r2 q2
end
end L2
namespace L2
open PySem PySem.Spec PyProof.Rows
def MtM (X:Cx) (id:String) (r:V->List V->Hp->VK->Prop):Prop:=
 ∀(pins:List (Addr × Obj)) (s:Shared) (Y:St) (H:Hp) (x:V) (xs:List V) (v:Value) (us:List Value) (Q:VK),Inv X pins Y H s->bh x v->aP xs us->r x xs H Q->
  wpAny (model X.prog X.w) X.A (call (.builtin id) (v::us)) (EP X pins Y Q) X.xe s
theorem aP.one:∀{x:V}{us:List Value},aP [x] us->∃u,us=[u]/\bh x u
 | _,_,.cons r .nil=>⟨_,rfl,r⟩
section
variable {X:Cx}{pins:List (Addr × Obj)}{Y:St}{H:Hp}{s:Shared}{l b:Addr}{xs ys zs:List V}
theorem Inv.lset {its its':List Value}{n:Nat}{f:Array Value->Array Value}{t':Nat} (I:Inv X pins Y H s) (hH:H l=some (.lst xs))
  (e:s.heap.get? l=some { cls:=.type "list", data:=.seq its.toArray n }) (hf:f its.toArray=its'.toArray) (hv:aP ys its') (hz:ys.length<=sizeLine) :
  Inv X pins Y (upd H l (.lst ys)) { s with heap:=s.heap.update l (Obj.mapSeq f),toks:=t' }:=by
 have q:=PySem.IsL.update e f
 rw [hf]at q
 refine I.write (x:=l) (e:=l) (by rw [hH];exact trivial) (.inl rfl) (λb' u hb hu=>(Heap.get?_update_other s.heap (Obj.mapSeq f) (Ne.symm hb)).trans hu) ⟨_,q⟩ ?_
 exact⟨hz,its',_,hv,q⟩
theorem Inv.lnew {its:List Value}{t':Nat} (I:Inv X pins Y H s) (hv:aP ys its) (hz:ys.length<=sizeLine) :
  Inv X pins Y (upd H s.heap.objs.size (.lst ys)) { s with heap:=s.heap.push { cls:=.type "list", data:=.seq its.toArray },toks:=t' }:=
 I.laid (λ_ _ q=>Heap.get?_push_of_some _ q) (Nat.le_refl _) ⟨hz,its,0,hv,Heap.get?_push_size _ rfl⟩
theorem Inv.fresh (I:Inv X pins Y H s):H s.heap.objs.size=none:=I.hok.fresh (Nat.le_refl _)
theorem Inv.lstM (I:Inv X pins Y H s) (hH:H l=some (.lst xs)):xs.length<=sizeLine/\∃(its:List Value) (n:Nat),aP xs its/\xs.length=its.length/\s.heap.get? l=some { cls:=.type "list", data:=.seq its.toArray n }:=by
 obtain⟨z,its,n,r,e⟩:=I.hok l _ hH
 exact⟨z,its,n,r,r.length,e⟩
end
section
variable {X:Cx}
inductive sw (x:V) (vs:List V) (H:Hp) (Q:VK):Prop
 | mk (l xs y) (h1:x=.ref l) (h2:vs=[y]) (h3:H l=some (.lst xs)) (h4:xs.length < sizeLine) (h5:Q .non (upd H l (.lst (xs++[y]))))
theorem bN:MtM X "list.append" sw:=by
 intro pins s Y H x vs v us Q I rx rv h
 obtain⟨l,xs,y,rfl,rfl,hH,hz,q⟩:=h
 cases rx
 obtain⟨u,rfl,ru⟩:=rv.one
 obtain⟨z,its,n,r,hl,e⟩:=I.lstM hH
 refine call_meets F.slot_list_append ⟨_,e,rfl⟩ F.entry_list_append (F.args_list_append_2 _ _) (PySem.list_append l its.toArray n u (by rw [List.size_toArray];omega)) ⟨e,?_⟩
 refine⟨.non,_,I.lset (its':=its++[u]) hH e (by simp) (r.append (.cons ru .nil)) ?_,rfl,q⟩
 rw [List.length_append,List.length_singleton]
 omega
inductive A6 (x:V) (y:V) (H:Hp) (Q:VK):Prop
 | mk (l b xs zs) (h1:x=.ref l) (h2:y=.ref b) (h3:H l=some (.lst xs)) (h4:H b=some (.lst zs)) (h5:xs.length+zs.length<=sizeLine) (h6:∀p,H p=none->Q (.ref p) (upd H p (.lst (xs++zs))))
theorem dM:OpR X (binaryOp .Add) A6:=by
 intro pins s Y H x y v u Q I rx ry h
 obtain⟨l,b,xs,zs,rfl,rfl,hH,hB,hz,q⟩:=h
 cases rx
 cases ry
 obtain⟨z,its,n,r,hl,e⟩:=I.lstM hH
 obtain⟨z2,its2,n2,r2,hl2,e2⟩:=I.lstM hB
 refine PySem.P.add_list e e2 ?_ (by rw [List.size_toArray,List.size_toArray];omega)
 have ea:its.toArray++its2.toArray=(its++its2).toArray:=by simp
 rw [ea]
 exact⟨.ref _,_,I.lnew (t':=s.toks) (r.append r2) (by rw [List.length_append];omega),rfl,q _ I.fresh⟩
end
section
variable {prog:Program}{w:World}{A:Around}{E:Value->Shared->Prop}{s:Shared}
end
section
variable {X:Cx}
end
end L2
namespace L2
open PySem PySem.Spec PyProof.Rows
section
variable {κ:Type} [DecidableEq κ]
noncomputable def valV (kvs:List (κ × V)) (k:κ):Option V:=(kvs.find? λkv=>decide (kv.1=k)).map (·.2)
noncomputable def cQ (kvs:List (κ × V)) (k:κ) (v:V):List (κ × V):=
 if (kvs.any λkv=>decide (kv.1=k))=true then kvs.map (λkv=>if kv.1=k then (kv.1,v) else kv) else kvs++[(k,v)]
theorem cB {p:κ × V}{r:List (κ × V)}{k:κ} (e:p.1=k):valV (p::r) k=some p.2:=by simp [valV,List.find?_cons,e]
theorem cC {p:κ × V}{r:List (κ × V)}{k:κ} (e:¬p.1=k):valV (p::r) k=valV r k:=by simp [valV,List.find?_cons,e]
theorem eW (k:κ):∀kvs:List (κ × V),(kvs.any λkv=>decide (kv.1=k))=(valV kvs k).isSome
 | []=>rfl
 | p::r=>by
  rw [List.any_cons]
  by_cases e:p.1=k
  ·simp only [cB e,decide_eq_true e,Bool.true_or,Option.isSome_some]
  ·rw [cC e,decide_eq_false e,Bool.false_or];exact eW k r
theorem oH (k j:κ) (y:V):∀kvs:List (κ × V),valV (kvs.map λkv=>if kv.1=k then (kv.1,y) else kv) j=(valV kvs j).map λx=>if j=k then y else x
 | []=>rfl
 | p::r=>by
  have ih:=oH k j y r
  rw [List.map_cons]
  by_cases h:p.1=k
  ·rw [if_pos h]
   by_cases e:p.1=j
   ·rw [cB (p:=(p.1,y)) e,cB e,Option.map_some,if_pos (e.symm.trans h)]
   ·rw [cC (p:=(p.1,y)) e,cC e,ih]
  ·rw [if_neg h]
   by_cases e:p.1=j
   ·rw [cB (p:=p) e,cB e,Option.map_some,if_neg (λz=>h (e.trans z))]
   ·rw [cC (p:=p) e,cC e,ih]
theorem lN (k j:κ) (y:V):∀kvs:List (κ × V),valV kvs k=none->valV (kvs++[(k,y)]) j=if j=k then some y else valV kvs j
 | [],_=>by
  by_cases e:k=j
  ·rw [if_pos e.symm];exact cB (p:=(k,y)) e
  ·rw [if_neg (λz=>e z.symm)];exact cC (p:=(k,y)) e
 | p::r,hn=>by
  rw [List.cons_append]
  have hk:¬p.1=k:=λz=>by rw [cB z]at hn;cases hn
  rw [cC hk]at hn
  have ih:=lN k j y r hn
  by_cases e:p.1=j
  ·rw [cB e,cB e,if_neg (λz=>hk (e.trans z))]
  ·rw [cC e,cC e,ih]
theorem fS (kvs:List (κ × V)) (k j:κ) (y:V):valV (cQ kvs k y) j=if j=k then some y else valV kvs j:=by
 unfold cQ
 by_cases a:(kvs.any λkv=>decide (kv.1=k))=true
 ·rw [if_pos a,oH]
  rw [eW]at a
  by_cases e:j=k
  ·obtain⟨x,hx⟩:=Option.isSome_iff_exists.mp a
   rw [if_pos e,e,hx,Option.map_some,if_pos rfl]
  ·rw [if_neg e]
   cases valV kvs j with
   | none=>rfl
   | some x=>rw [Option.map_some,if_neg e]
 ·rw [if_neg a]
  refine lN k j y kvs ?_
  rw [eW]at a
  cases q:valV kvs k with
  | none=>rfl
  | some x=>rw [q]at a;exact(a rfl).elim
theorem dI (kvs:List (κ × V)) (k:κ) (v:V):(cQ kvs k v).length<=kvs.length+1:=by
 unfold cQ
 split
 ·rw [List.length_map];omega
 ·rw [List.length_append,List.length_cons,List.length_nil];omega
theorem eJ.isSome_eq {o:Option V}{u:Option Value} (r:eJ o u):o.isSome=u.isSome:=by
 cases o with
 | none=>cases u with
  | none=>rfl
  | some _=>exact(show False from r).elim
 | some _=>cases u with
  | none=>exact(show False from r).elim
  | some _=>rfl
theorem eJ.getD {o:Option V}{u:Option Value}{d:V}{d':Value} (r:eJ o u) (rd:bh d d'):bh (o.getD d) (u.getD d'):=by
 cases o with
 | none=>cases u with
  | none=>exact rd
  | some _=>exact(show False from r).elim
 | some _=>cases u with
  | none=>exact(show False from r).elim
  | some _=>exact r
theorem KV.val {kvs:List (κ × V)}{vs:List (κ × Value)} (r:KV kvs vs) (k:κ):eJ (valV kvs k) (valueAt vs k):=by
 unfold KV at r
 induction r with
 | nil=>exact True.intro
 | @cons p q ps qs h t ih=>
  obtain⟨h1,h2⟩:=h
  by_cases e:p.1=k
  ·have e':q.1=k:=h1.symm.trans e
   have b:valueAt (q::qs) k=some q.2:=by simp [valueAt,List.find?_cons,e']
   rw [cB e,b];exact h2
  ·have e':¬q.1=k:=λz=>e (h1.trans z)
   have b:valueAt (q::qs) k=valueAt qs k:=by simp [valueAt,List.find?_cons,e']
   rw [cC e,b];exact ih
theorem KV.any {kvs:List (κ × V)}{vs:List (κ × Value)} (r:KV kvs vs) (k:κ):(kvs.any λkv=>decide (kv.1=k))=vs.any λkv=>decide (kv.1=k):=by
 unfold KV at r
 induction r with
 | nil=>rfl
 | cons h t ih=>rw [List.any_cons,List.any_cons,ih,h.1]
theorem KV.repl {kvs:List (κ × V)}{vs:List (κ × Value)} (r:KV kvs vs) (k:κ){y:V}{u:Value} (ry:bh y u) :
  KV (kvs.map λkv=>if kv.1=k then (kv.1,y) else kv) (vs.map λkv=>if kv.1=k then (kv.1,u) else kv):=by
 unfold KV at r ⊢
 induction r with
 | nil=>exact .nil
 | @cons p q ps qs h t ih=>
  rw [List.map_cons,List.map_cons]
  refine .cons ?_ ih
  obtain⟨h1,h2⟩:=h
  by_cases e:p.1=k
  ·rw [if_pos e,if_pos (h1.symm.trans e)];exact⟨h1,ry⟩
  ·rw [if_neg e,if_neg (λz=>e (h1.trans z))];exact⟨h1,h2⟩
theorem KV.put {kvs:List (κ × V)}{vs:List (κ × Value)} (r:KV kvs vs) (k:κ){y:V}{u:Value} (ry:bh y u):KV (cQ kvs k y) (stored vs k u):=by
 unfold cQ stored
 rw [r.any k]
 by_cases e:(vs.any λkv=>decide (kv.1=k))=true
 ·rw [if_pos e,if_pos e];exact r.repl k ry
 ·rw [if_neg e,if_neg e];exact Paired.snoc r ⟨rfl,ry⟩
theorem KV.keys {kvs:List (κ × V)}{vs:List (κ × Value)} (r:KV kvs vs):kvs.map (·.1)=vs.map (·.1):=by
 unfold KV at r
 induction r with
 | nil=>rfl
 | cons h t ih=>rw [List.map_cons,List.map_cons,ih,h.1]
theorem KV.length {kvs:List (κ × V)}{vs:List (κ × Value)} (r:KV kvs vs):kvs.length=vs.length:=Paired.length r
end
theorem jd {P:Program}{w:World}{k:Key}{u:Value} (r:bh (kV k) u):(bo P w).is k u=true:=by
 cases k with
 | inl i=>obtain⟨t,e⟩:=(show ∃t,u=Value.int i t from r);subst e;exact pC P w i t
 | inr x=>obtain⟨t,e⟩:=(show ∃t,u=Value.str x t from r);subst e;exact pB P w x t
theorem mB {P:Program}{w:World}:∀{ks:List Key}{us:List Value},aP (ks.map kV) us->ItemsAre (bo P w) ks us
 | [],_,r=>by rw [List.map_nil]at r;cases r;exact .nil
 | k::ks,_,r=>by
  rw [List.map_cons]at r
  cases r with
  | cons h t=>exact .cons (jd h) (mB t)
abbrev KT (H:Hp):List (List Key × V)->List (List Key × Addr × Value)->Prop:=Paired λp q=>p.1=q.1/\H q.2.1=some (.tup (p.1.map kV))/\bh p.2 q.2.2
theorem KT.val {H:Hp}{kvs:List (List Key × V)}{xs:List (List Key × Addr × Value)} (r:KT H kvs xs) (k:List Key):eJ (valV kvs k) ((atKey xs k).map (·.2)):=by
 induction r with
 | nil=>exact True.intro
 | @cons p q ps qs h t ih=>
  obtain⟨h1,_,h2⟩:=h
  by_cases e:p.1=k
  ·have e':q.1=k:=h1.symm.trans e
   have b:atKey (q::qs) k=some q.2:=by simp [atKey,List.find?_cons,e']
   rw [cB e,b];exact h2
  ·have e':¬q.1=k:=λz=>e (h1.trans z)
   have b:atKey (q::qs) k=atKey qs k:=by simp [atKey,List.find?_cons,e']
   rw [cC e,b];exact ih
theorem KT.repl {H:Hp}{kvs:List (List Key × V)}{xs:List (List Key × Addr × Value)} (r:KT H kvs xs) (k:List Key){y:V}{u:Value} (ry:bh y u) :
  KT H (kvs.map λkv=>if kv.1=k then (kv.1,y) else kv) (xs.map (putAt k u)):=by
 induction r with
 | nil=>exact .nil
 | @cons p q ps qs h t ih=>
  rw [List.map_cons,List.map_cons]
  refine .cons ?_ ih
  obtain⟨h1,h2,h3⟩:=h
  unfold putAt
  by_cases e:p.1=k
  ·rw [if_pos e,if_pos (h1.symm.trans e)];exact⟨h1,h2,ry⟩
  ·rw [if_neg e,if_neg (λz=>e (h1.trans z))];exact⟨h1,h2,h3⟩
theorem KT.put {H:Hp}{kvs:List (List Key × V)}{xs:List (List Key × Addr × Value)} (r:KT H kvs xs) (k:List Key){b:Addr}{y:V}{u:Value} (hb:H b=some (.tup (k.map kV))) (ry:bh y u) :
  KT H (cQ kvs k y) (storedH xs k b u):=by
 have e:(kvs.any λkv=>decide (kv.1=k))=(atKey xs k).isSome:=by
  rw [eW,(r.val k).isSome_eq,Option.isSome_map]
 unfold cQ storedH
 rw [e]
 by_cases q:(atKey xs k).isSome=true
 ·rw [if_pos q,if_pos q];exact r.repl k ry
 ·rw [if_neg q,if_neg q];exact Paired.snoc r ⟨rfl,hb,ry⟩
theorem KT.keeps {H H':Hp}{kvs:List (List Key × V)}{xs:List (List Key × Addr × Value)} (r:KT H kvs xs) (ht:∀b ys,H b=some (.tup ys)->H' b=some (.tup ys)):KT H' kvs xs:=
 Paired.mapP r λ_ _ z=>⟨z.1,ht _ _ z.2.1,z.2.2⟩
section
variable {P:Program}{w:World}{H:Hp}{h:Heap}{a:Addr}
theorem zf {u:HO} (ok:HOk P w H h) (e:Rd H a u):bw P w H h a u:=e.ok ok
theorem kU {kvs:List (Key × V)} (ok:HOk P w H h) (e:Rd H a (.dK kvs)):kvs.length<=sizeLine/\(a == sysModules)=false/\∃vs,KV kvs vs/\h.DictOf (bo P w) a vs:=
 show bw P w H h a (.dK kvs) from zf ok e
theorem sW {kvs:List (Key × V)} (ok:HOk P w H h) (e:H a=some (.dK kvs)):kvs.length<=sizeLine/\(a == sysModules)=false/\∃vs,KV kvs vs/\h.DictOf (bo P w) a vs:=kU ok (.inl e)
theorem j6 {ks:List Key} (ok:HOk P w H h) (e:H a=some (.tup (ks.map kV))):(tupleKind (bo P w)).is h ks a:=by
 obtain⟨_,its,r,o,h1,h2,n,h3⟩:=(show bw P w H h a (.tup (ks.map kV)) from ok a _ e)
 exact⟨o,its.toArray,n,h1,h2,h3,by simpa using mB r⟩
theorem kT {kvs:List (List Key × V)} (ok:HOk P w H h) (e:Rd H a (.dT kvs)):kvs.length<=sizeLine/\(a == sysModules)=false/\
  ∃xs,KT H kvs xs/\h.DictOfH (tupleKind (bo P w)) a xs:=by
 obtain⟨z,y,xs,r,o,es,ep,h1,h2,h3,h4,h5⟩:=(show bw P w H h a (.dT kvs) from zf ok e)
 refine⟨z,y,xs,r,o,es,ep,h1,h2,h3,h4,λx hx=>?_,h5⟩
 have all:∀{l:List (List Key × V)}{m:List (List Key × Addr × Value)},KT H l m->∀x∈m,(tupleKind (bo P w)).is h x.1 x.2.1:=by
  intro l m q
  induction q with
  | nil=>intro x hx;exact nomatch hx
  | @cons p q ps qs hq t ih=>
   intro x hx
   rcases List.mem_cons.mp hx with e | hx
   ·subst e
    exact j6 ok (by rw [<- hq.1];exact hq.2.1)
   ·exact ih x hx
 exact all r x hx
theorem BN {kvs:List (List Key × V)} (ok:HOk P w H h) (e:H a=some (.dT kvs)):kvs.length<=sizeLine/\(a == sysModules)=false/\
  ∃xs,KT H kvs xs/\h.DictOfH (tupleKind (bo P w)) a xs:=kT ok (.inl e)
end
def cL (H:Hp) (a:Addr) (y:V) (r:Option V):Prop:=
 (∃kvs k,Rd H a (.dK kvs)/\y=kV k/\r=valV kvs k)\/∃kvs k b,Rd H a (.dT kvs)/\y=.ref b/\H b=some (.tup (k.map kV))/\r=valV kvs k
def rh (H:Hp) (a:Addr) (y v:V) (H':Hp):Prop:=
 (∃kvs k,H a=some (.dK kvs)/\y=kV k/\kvs.length < sizeLine/\H'=upd H a (.dK (cQ kvs k v)))\/
 ∃kvs k b,H a=some (.dT kvs)/\y=.ref b/\H b=some (.tup (k.map kV))/\kvs.length < sizeLine/\H'=upd H a (.dT (cQ kvs k v))
theorem cL.k {H:Hp}{a:Addr}{kvs:List (Key × V)}{k:Key} (e:H a=some (.dK kvs)):cL H a (kV k) (valV kvs k):=.inl ⟨kvs,k,.inl e,rfl,rfl⟩
theorem rh.k {H:Hp}{a:Addr}{kvs:List (Key × V)}{k:Key}{v:V} (e:H a=some (.dK kvs)) (hl:kvs.length < sizeLine):rh H a (kV k) v (upd H a (.dK (cQ kvs k v))):=.inl ⟨kvs,k,e,rfl,hl,rfl⟩
section
variable {X:Cx}{pins:List (Addr × Obj)}{Y:St}{H:Hp}{s:Shared}{a:Addr}{y v:V}{u r:Value}{o:Option V}{A:Around}{E:Value->Shared->Prop}
theorem Inv.big (I:Inv X pins Y H s):sysModules < s.heap.objs.size:=by
 have h:mainGlobals < s.heap.objs.size:=(I.mod.glob.keeps I.bk).lt
 exact Nat.lt_trans (by decide) h
theorem ux {Q:Value->Shared->Prop} (hu:A.units+1 < cLine) (I:Inv X pins Y H s) (g:cL H a y (some v)) (ry:bh y u) (h:∀w' s',Inv X pins Y H s'->bh v w'->Q w' s') :
  wpAny (model X.prog X.w) A (getItem (.ref a) u) Q E s:=by
 rcases g with⟨kvs,k,e,ey,l⟩ | ⟨kvs,k,b,e,ey,eb,l⟩
 ·subst ey
  obtain⟨z,hd,vs,rel,dd⟩:=kU I.hok e
  obtain⟨w',hw,rw'⟩:=eJ.some_of (v:=v) (o:=valueAt vs k) (by rw [l];exact rel.val k)
  exact wpAny_getItem_of (jd ry) dd.mapOf hw (h w' _ (I.tok _) rw')
 ·subst ey
  cases (show u=Value.ref b from ry)
  obtain⟨z,hd,xs,rel,dd⟩:=kT I.hok e
  obtain⟨w',hw,rw'⟩:=eJ.some_of (v:=v) (o:=(atKey xs k).map (·.2)) (by rw [l];exact rel.val k)
  obtain⟨p,hp,hp2⟩:=Option.map_eq_some_iff.mp hw
  refine wpAny_getItem_heap (tupleKind_room_in1 hu) (j6 I.hok eb) dd hp ?_
  rw [hp2]
  exact h w' _ (I.tok _) rw'
theorem Cl {Q:Value->Shared->Prop} (hu:A.units+1 < cLine) (I:Inv X pins Y H s) (g:cL H a y o) (ry:bh y u) (h:∀s',Inv X pins Y H s'->Q (.bool o.isSome) s') :
  wpAny (model X.prog X.w) A (compareOp .In u (.ref a)) Q E s:=by
 rcases g with⟨kvs,k,e,ey,l⟩ | ⟨kvs,k,b,e,ey,eb,l⟩
 ·subst ey
  obtain⟨z,hd,vs,rel,dd⟩:=kU I.hok e
  refine wpAny_in_of (jd ry) hd dd.mapOf ?_
  rw [<- (rel.val k).isSome_eq,<- l]
  exact h _ (I.tok _)
 ·subst ey
  cases (show u=Value.ref b from ry)
  obtain⟨z,hd,xs,rel,dd⟩:=kT I.hok e
  refine wpAny_in_heap (tupleKind_room_in1 hu) (j6 I.hok eb) hd dd ?_
  have q:=(rel.val k).isSome_eq
  rw [Option.isSome_map]at q
  rw [<- q,<- l]
  exact h _ (I.tok _)
theorem yP {Q:Value->Shared->Prop} (hu:A.units+1 < cLine) (I:Inv X pins Y H s) (g:cL H a y o) (ry:bh y u) (h:∀s',Inv X pins Y H s'->Q (.bool (!o.isSome)) s') :
  wpAny (model X.prog X.w) A (compareOp .NotIn u (.ref a)) Q E s:=by
 rcases g with⟨kvs,k,e,ey,l⟩ | ⟨kvs,k,b,e,ey,eb,l⟩
 ·subst ey
  obtain⟨z,hd,vs,rel,dd⟩:=kU I.hok e
  refine wpAny_notIn_of (jd ry) hd dd.mapOf ?_
  rw [<- (rel.val k).isSome_eq,<- l]
  exact h _ (I.tok _)
 ·subst ey
  cases (show u=Value.ref b from ry)
  obtain⟨z,hd,xs,rel,dd⟩:=kT I.hok e
  refine wpAny_notIn_heap (tupleKind_room_in1 hu) (j6 I.hok eb) hd dd ?_
  have q:=(rel.val k).isSome_eq
  rw [Option.isSome_map]at q
  rw [<- q,<- l]
  exact h _ (I.tok _)
theorem on {h':Heap}{t':Nat}{ob:HO} (I:Inv X pins Y H s) (mu:Mut (H a)) (hs:Heap.SameBut a s.heap h') (he:∃q,h'.get? a=some q) (new:bw X.prog X.w (upd H a ob) h' a ob) :
  Inv X pins Y (upd H a ob) { s with heap:=h',toks:=t' }:=
 I.write (x:=a) (e:=a) mu (.inl rfl) (λb q hb z=>(hs.2 b hb).trans z) he new
theorem oi {P:Program}{w:World}{H':Hp}{h':Heap}{kvs:List (Key × V)}{vs:List (Key × Value)} (z:kvs.length<=sizeLine) (hd:(a == sysModules)=false) (rel:KV kvs vs) (dd:h'.DictOf (bo P w) a vs) :
  bw P w H' h' a (.dK kvs):=⟨z,hd,vs,rel,dd⟩
theorem uw {H':Hp}{Q:Unit->Shared->Prop} (hu:A.units+1 < cLine) (I:Inv X pins Y H s) (g:rh H a y v H') (ry:bh y u) (rv:bh v r) (h:∀s',Inv X pins Y H' s'->Q () s') :
  wpAny (model X.prog X.w) A (setItem (.ref a) u r) Q E s:=by
 rcases g with⟨kvs,k,e,ey,l,eH⟩ | ⟨kvs,k,b,e,ey,eb,l,eH⟩
 ·subst ey eH
  obtain⟨z,hd,vs,rel,dd⟩:=sW I.hok e
  have hz:vs.length<=sizeLine:=by rw [<- rel.length];exact z
  have hl:(cQ kvs k v).length<=sizeLine:=by have:=dI kvs k v;omega
  refine wpAny_setItem_pairs (hsz:=hz) (jd ry) dd λh' dd' hs=>h _ ?_
  have he:∃q,h'.get? a=some q:=let ⟨q,_,_,hq,_⟩:=dd';⟨q,hq⟩
  exact on I (by rw [e];exact True.intro) hs he (oi hl hd (rel.put k rv) dd')
 ·subst ey eH
  cases (show u=Value.ref b from ry)
  obtain⟨z,hd,xs,rel,dd⟩:=BN I.hok e
  have hz:xs.length<=sizeLine:=by rw [<- Paired.length rel];exact z
  have hl:(cQ kvs k v).length<=sizeLine:=by have:=dI kvs k v;omega
  refine wpAny_setItem_heap (hsz:=hz) (tupleKind_room_in1 hu) (j6 I.hok eb) dd λh' dd' hs=>h _ ?_
  obtain⟨q,es,ep,hq,h2,h3,h4,_,h5⟩:=dd'
  refine on I (by rw [e];exact True.intro) hs ⟨q,hq⟩ ⟨hl,hd,_,(rel.put k eb rv).keeps λc ys ec=>?_,q,es,ep,hq,h2,h3,h4,h5⟩
  rw [aj (aS ec e (λz=>nomatch z))]
  exact ec
end
section
variable {X:Cx}{pins:List (Addr × Obj)}{Y:St}{H:Hp}{s:Shared}{a:Addr}{kvs:List (Key × V)}{k:Key}{u:Value}{A:Around}{E:Value->Shared->Prop}
end
def BT (i:Expr):Prop:=∀ov iv,subscripted i false ov iv=operate [ov,iv] (getItem ov iv)
theorem xO {prog:Program}{w:World}{A:Around}{E:Value->Shared->Prop}{s:Shared}{env:Env}{value slice:Expr}{pos:Pos}{T id:String}{Q:Value->Shared->Prop}
  (hl:typeLookup (.type T) "__getitem__" = pure (some (.builtin id))) (hs:BT slice)
  (h:wpAny (model prog w) A (eval value env) (λo s₁=>wpAny (model prog w) A (eval slice env) (λi s₂=>s₂.TypeIs o T/\wpAny (model prog w) A (getItem o i) Q E s₂) E s₁) E s) :
  wpAny (model prog w) A (eval (.Subscript value slice pos) env) Q E s:=by
 refine Subscript_ (wpAny_mono h (λo s₁ h₁=>wpAny_mono h₁ (λi s₂ h₂=>?_) λ_ _ x=>x) λ_ _ x=>x)
 obtain⟨hT,h₂⟩:=h₂
 unfold subscriptTail
 refine wpAny_bind ?_
 rw [getitemInPython_of_ne hT.not_modules]
 refine wpAny_bind (wpAny_specialOf hT hl ?_)
 have fin:wpAny (model prog w) A (subscripted slice false o i) (λr s₃=>wpAny (model prog w) A (letTemporaryGo value o r >>= λ_=>pure r) Q E s₃) E s₂:=by
  rw [hs o i]
  exact wpAny_operating (wpAny_mono h₂ (λr s₃ h₃=>wpAny_bind (wpAny_letTemporaryGo (wpAny_pure h₃))) λ_ _ x=>x)
 first
  | exact wpAny_pure (wpAny_bind fin)
  | exact wpAny_bind (wpAny_pure (wpAny_bind fin))
  | exact wpAny_bind fin
theorem pO {X:Cx}{pins:List (Addr × Obj)}{Y:St}{H:Hp}{s:Shared}{a:Addr}{y:V}{o:Option V} (I:Inv X pins Y H s) (g:cL H a y o):s.TypeIs (.ref a) "dict":=by
 rcases g with⟨kvs,k,e,_,_⟩ | ⟨kvs,k,b,e,_,_,_⟩
 ·obtain⟨_,_,vs,_,dd⟩:=kU I.hok e
  exact dd.typeIs
 ·obtain⟨_,_,xs,_,dd⟩:=kT I.hok e
  exact dd.typeIs
inductive BP (x y:V) (H2:Hp) (Q:VK):Prop
 | mk (a v) (h1:x=.ref a) (h2:cL H2 a y (some v)) (h3:Q v H2)
def B8 (td ty:TE):TE:=λY H Q=>td Y H λx H1=>ty Y H1 λy H2=>BP x y H2 Q
inductive Ck (x y:V) (H2:Hp) (Q:VK):Prop
 | mk (a o) (h1:x=.ref a) (h2:cL H2 a y o) (h3:Q (.bl o.isSome) H2)
def C9 (ty td:TE):TE:=λY H Q=>ty Y H λy H1=>td Y H1 λx H2=>Ck x y H2 Q
inductive BO (x y:V) (H2:Hp) (Q:VK):Prop
 | mk (a o) (h1:x=.ref a) (h2:cL H2 a y o) (h3:Q (.bl (!o.isSome)) H2)
def xN (ty td:TE):TE:=λY H Q=>ty Y H λy H1=>td Y H1 λx H2=>BO x y H2 Q
def Br (td ty tv:TE):TS:=λD Y H=>tv Y H λv H1=>td Y H1 λx H2=>ty Y H2 λy H3=>∃a H4,x=.ref a/\rh H3 a y v H4/\D.nx Y H4
section
variable {X:Cx}{o i e value:Expr}{pos pos' tpos:Pos}{td ty tv:TE}
theorem bJ (hu:X.A.units+1 < cLine) (ho:PE X o td) (hi:PE X i ty) (hs:BT i):PE X (.Subscript o i pos) (B8 td ty):=by
 intro pins s Y H Q I h
 refine xO PySem.F.slot_dict_getitem.lookup hs (thn (ho pins s Y H _ I h) λu s1 ⟨x,H1,I1,rx,q1⟩=>thn (hi pins s1 Y H1 _ I1 q1) λiv s2 ⟨y,H2,I2,ry,a,v,ex,g,q2⟩=>?_)
 subst ex
 obtain rfl:u=Value.ref a:=rx
 exact⟨pO I2 g,ux hu I2 g ry λw' s3 I3 rw'=>⟨v,H2,I3,rw',q2⟩⟩
theorem wo (hu:X.A.units+1 < cLine) (hi:PE X i ty) (ho:PE X o td):PC X .In i o (C9 ty td):=by
 intro pins s Y H Q I h
 refine thn (hi pins s Y H _ I h) λiv s1 ⟨y,H1,I1,ry,q1⟩=>thn (ho pins s1 Y H1 _ I1 q1) λu s2 ⟨x,H2,I2,rx,a,ov,ex,g,q2⟩=>?_
 subst ex
 obtain rfl:u=Value.ref a:=rx
 exact Cl hu I2 g ry λs3 I3=>⟨.bl ov.isSome,H2,I3,rfl,q2⟩
theorem mn (hu:X.A.units+1 < cLine) (hi:PE X i ty) (ho:PE X o td):PC X .NotIn i o (xN ty td):=by
 intro pins s Y H Q I h
 refine thn (hi pins s Y H _ I h) λiv s1 ⟨y,H1,I1,ry,q1⟩=>thn (ho pins s1 Y H1 _ I1 q1) λu s2 ⟨x,H2,I2,rx,a,ov,ex,g,q2⟩=>?_
 subst ex
 obtain rfl:u=Value.ref a:=rx
 exact yP hu I2 g ry λs3 I3=>⟨.bl (!ov.isSome),H2,I3,rfl,q2⟩
theorem jt (hu:X.A.units+1 < cLine) (ho:PE X o td) (hi:PE X i ty) (hv:PE X value tv) (hs:swapsWith value (some (.Subscript o i pos')) pos.line X.env=pure false) :
  PS X (.Assign [.Subscript o i pos'] value pos) (Br td ty tv):=by
 intro pins s Y H D I h
 refine wpAny_Assign_Subscript (thn (hv pins s Y H _ I h) λr s1 ⟨v,H1,I1,rv,q1⟩=>thn (ho pins s1 Y H1 _ I1 q1) λu s2 ⟨x,H2,I2,rx,q2⟩=>thn (hi pins s2 Y H2 _ I2 q2) λiv s3 ⟨y,H3,I3,ry,a,H4,ex,g,q3⟩=>?_) hs
 subst ex
 obtain rfl:u=Value.ref a:=rx
 exact uw hu I3 g ry rv λs4 I4=>⟨Y,H4,I4,q3⟩
end
theorem kW {P:Program}{w:World}{H:Hp} (h:Heap) (hb:sysModules < h.objs.size):bw P w H (h.push { cls:=.type "dict", data:=.dict #[] }) h.objs.size (.dK []):=
 ⟨Nat.zero_le _,beq_eq_false_iff_ne.mpr (Ne.symm (Nat.ne_of_lt hb)),[],.nil,Heap.DictOf.new h⟩
def zB:TE:=λ_ H Q=>∀p,H p=none->Q (.ref p) (upd H p (.dK []))
section
variable {X:Cx}{pos:Pos}
theorem kj:PE X (.Dict [] [] pos) zB:=λpins s Y H Q I h=>
 wpAny_Dict_empty ⟨.ref s.heap.objs.size,_,I.laid (a:=s.heap.objs.size) (o:=.dK []) (t':=s.toks) (λ_ _ q=>Heap.get?_push_of_some _ q) (Nat.le_refl _) (kW s.heap I.big),rfl,h _ (I.hok.fresh (Nat.le_refl _))⟩
end
def qh:List (TE × TE)->St->Hp->(List (V × V)->Hp->Prop)->Prop
 | [],_,H,Q=>Q [] H
 | (tk,tv)::r,Y,H,Q=>tk Y H λx H1=>tv Y H1 λy H2=>qh r Y H2 λps H3=>Q ((x,y)::ps) H3
abbrev VV:List (V × V)->List (Value × Value)->Prop:=Paired λp q=>bh p.1 q.1/\bh p.2 q.2
def PPs (X:Cx) (pos:Pos) (keys:List (Option Expr)) (values:List Expr) (trs:List (TE × TE)):Prop:=
 ∀(pins:List (Addr × Obj)) (s:Shared) (Y:St) (H:Hp) (Q:List (V × V)->Hp->Prop),Inv X pins Y H s->qh trs Y H Q->
  wpAny (model X.prog X.w) X.A (evalPairs (pairTrees keys values X.env pos)) (λvs s'=>∃ps H',Inv X pins Y H' s'/\VV ps vs/\Q ps H') X.xe s
theorem sy {X:Cx}{pos:Pos}:PPs X pos [] [] []:=λpins s Y H Q I h=>pairTrees_nil_walk ⟨[],H,I,.nil,h⟩
theorem gt {X:Cx}{pos:Pos}{k v:Expr}{ks:List (Option Expr)}{vs:List Expr}{tk tv:TE}{trs:List (TE × TE)} (hk:PE X k tk) (hv:PE X v tv) (hr:PPs X pos ks vs trs) :
  PPs X pos (some k::ks) (v::vs) ((tk,tv)::trs):=λpins s Y H Q I h=>
 pairTrees_cons_walk (thn (hk pins s Y H _ I h) λu s1 ⟨x,H1,I1,rx,q1⟩=>thn (hv pins s1 Y H1 _ I1 q1) λw2 s2 ⟨y,H2,I2,ry,q2⟩=>
  thn (hr pins s2 Y H2 _ I2 q2) λws s3 ⟨ps,H3,I3,rel,q3⟩=>⟨(x,y)::ps,H3,I3,.cons ⟨rx,ry⟩ rel,q3⟩)
noncomputable def j4 (kvs more:List (Key × V)):List (Key × V):=more.foldl (λacc kv=>cQ acc kv.1 kv.2) kvs
theorem KV.merge:∀{more:List (Key × V)}{rs:List (Key × Value)}{kvs:List (Key × V)}{vs:List (Key × Value)},KV more rs->KV kvs vs->KV (j4 kvs more) (merged vs rs):=by
 intro more rs kvs vs r
 unfold KV at r
 induction r generalizing kvs vs with
 | nil=>intro q;exact q
 | @cons p q ps qs h t ih=>
  intro r0
  have e:KV (cQ kvs p.1 p.2) (stored vs q.1 q.2):=by
   have:=r0.put p.1 h.2
   rw [<- h.1];exact this
  exact ih e
theorem hW:∀(more kvs:List (Key × V)),(j4 kvs more).length<=kvs.length+more.length
 | [],kvs=>by show kvs.length<=kvs.length+0;omega
 | p::r,kvs=>by
  have h1:=hW r (cQ kvs p.1 p.2)
  have h2:=dI kvs p.1 p.2
  show (j4 (cQ kvs p.1 p.2) r).length<=_
  rw [List.length_cons];omega
theorem lg {P:Program}{w:World}:∀{kvs:List (Key × V)}{ws:List (Value × Value)},VV (kvs.map λkv=>(kV kv.1,kv.2)) ws->∃rs,Carries (bo P w) ws rs/\KV kvs rs
 | [],_,r=>by rw [List.map_nil]at r;cases r;exact⟨[],True.intro,.nil⟩
 | p::kvs,_,r=>by
  rw [List.map_cons]at r
  cases r with
  | @cons a b as bs h t=>
   obtain⟨rs,c,q⟩:=lg (P:=P) (w:=w) t
   obtain⟨b1,b2⟩:=b
   exact⟨(p.1,b2)::rs,⟨jd h.1,rfl,c⟩,.cons ⟨rfl,h.2⟩ q⟩
def yX (trs:List (TE × TE)):TE:=λY H Q=>∀p,H p=none->qh trs Y (upd H p (.dK [])) λps H2=>H2 p=some (.dK [])/\∃kvs:List (Key × V),ps=kvs.map (λkv=>(kV kv.1,kv.2))/\kvs.length<=15/\Q (.ref p) (upd H2 p (.dK (j4 [] kvs)))
theorem sC {X:Cx}{pos:Pos}{keys:List (Option Expr)}{values:List Expr}{trs:List (TE × TE)} (h:PPs X pos keys values trs) (hall:keys.all (·.isSome)=true) (hl:keys.length=values.length) (h0:keys≠[])
  (h15:keys.length<=15):PE X (.Dict keys values pos) (yX trs):=by
 intro pins s Y H Q I q
 have hn:=I.hok.fresh (Nat.le_refl s.heap.objs.size)
 have I1:=I.laid (a:=s.heap.objs.size) (o:=.dK []) (h':=s.heap.push { cls:=.type "dict", data:=.dict #[] }) (t':=s.toks) (λ_ _ q=>Heap.get?_push_of_some _ q) (Nat.le_refl _) (kW s.heap I.big)
 refine wpAny_Dict_walk (knd:=bo X.prog X.w) hall hl h0 h15 (thn (h pins _ Y _ _ I1 (q _ hn)) λws s2 ⟨ps,H2,I2,rel,e,kvs,ep,lk,q2⟩=>?_)
 subst ep
 obtain⟨rs,c,rk⟩:=lg (P:=X.prog) (w:=X.w) rel
 obtain⟨z,hd,vs0,r0,dd⟩:=sW I2.hok e
 cases r0
 refine⟨rs,c,dd,λh' dd' hs=>⟨.ref s.heap.objs.size,_,?_,rfl,q2⟩⟩
 have hz:(j4 [] kvs).length<=sizeLine:=by
  have h1:=hW kvs []
  rw [List.length_nil]at h1
  rw [sizeLine_eq];omega
 have he:∃q,h'.get? s.heap.objs.size=some q:=let ⟨q,_,_,hq,_⟩:=dd';⟨q,hq⟩
 exact on I2 (by rw [e];exact True.intro) hs he (oi hz hd (rk.merge .nil) dd')
structure M1 (X:Cx) (o:Expr) (m:Str) (apos:Pos) (e:Expr) (cpos:Pos):Prop where
 base:attributeBase o m X.env (eval o X.env)=eval o X.env
 few:((backTo cpos (starEach [e] X.env)).all (λx=>!x.1) && (backToKw cpos (keywordEach [] X.env)).all (λx=>x.1.isSome)
  && decide (([e]:List Expr).length+([]:List Keyword).length+(if ([]:List Keyword).isEmpty then 0 else 1) < 30))=true
 line:(apos.endLine == cpos.line)=true
 trees:backTo cpos (starEach [e] X.env)=[(false,eval e X.env)]
def IsD (H:Hp) (a:Addr):Prop:=(∃kvs,Rd H a (.dK kvs))\/∃kvs,Rd H a (.dT kvs)
theorem Ay {X:Cx}{pins:List (Addr × Obj)}{Y:St}{H:Hp}{s:Shared}{a:Addr} (I:Inv X pins Y H s) (d:IsD H a) :
  s.TypeIs (.ref a) "dict"/\(∀b,Value.ref a=.ref b->∃ob,s.heap.get? b=some ob/\ob.dict=none)/\(a == sysModules)=false:=by
 rcases d with⟨kvs,e⟩ | ⟨kvs,e⟩
 ·obtain⟨_,hd,vs,_,dd⟩:=kU I.hok e
  refine⟨dd.typeIs,λb q=>?_,hd⟩
  cases q
  obtain⟨ob,_,_,h1,h2,_⟩:=dd
  exact⟨ob,h1,h2.2.1⟩
 ·obtain⟨_,hd,xs,_,dd⟩:=kT I.hok e
  refine⟨dd.typeIs,λb q=>?_,hd⟩
  cases q
  obtain⟨ob,_,_,h1,h2,_⟩:=dd
  exact⟨ob,h1,h2.2.1⟩
section
variable {X:Cx}{pins:List (Addr × Obj)}{Y:St}{H:Hp}{s:Shared}{a:Addr}{y d:V}{u r:Value}{o:Option V}{A:Around}{E:Value->Shared->Prop}
theorem AI {Q:Value->Shared->Prop} (hu:A.units+1 < cLine) (I:Inv X pins Y H s) (g:cL H a y o) (ry:bh y u) (h:∀w' s',Inv X pins Y H s'->bh (o.getD .non) w'->Q w' s') :
  wpAny (model X.prog X.w) A (call (.builtin "dict.get") [.ref a,u]) Q E s:=by
 rcases g with⟨kvs,k,e,ey,l⟩ | ⟨kvs,k,b,e,ey,eb,l⟩
 ·subst ey
  obtain⟨z,hd,vs,rel,dd⟩:=kU I.hok e
  refine call_meetsIn PySem.F.slot_dict_get dd.typeIs PySem.F.entry_dict_get (PySem.F.args_dict_get_2 _ _) (meets_dict_get (bo X.prog X.w) a (jd ry) hd) ⟨_,dd.mapOf,h _ _ (I.tok _) ?_⟩
  rw [l]
  exact(rel.val k).getD rfl
 ·subst ey
  cases (show u=Value.ref b from ry)
  obtain⟨z,hd,xs,rel,dd⟩:=kT I.hok e
  refine call_meetsIn PySem.F.slot_dict_get dd.typeIs PySem.F.entry_dict_get (PySem.F.args_dict_get_2 _ _) (meetsH_dict_get (tupleKind (bo X.prog X.w)) a b hd) ⟨tupleKind_room_in1 hu,k,xs,j6 I.hok eb,dd,h _ _ (I.tok _) ?_⟩
  rw [l]
  exact(rel.val k).getD rfl
end
def zC (td ty:TE):TE:=λY H Q=>td Y H λx H1=>∃a,x=.ref a/\IsD H1 a/\ty Y H1 λy H2=>∃o,cL H2 a y o/\Q (o.getD .non) H2
section
variable {X:Cx}{o e f:Expr}{apos cpos:Pos}{td ty tx:TE}
theorem pe (hu:X.A.units+1 < cLine) (ho:PE X o td) (he:PE X e ty) (m:M1 X o "get" apos e cpos):PE X (.Call (.Attribute o "get" apos) [e] [] cpos) (zC td ty):=by
 intro pins s Y H Q I h
 refine wpAny_Call_method m.base m.few m.line PySem.F.plainAttrs_dict PySem.F.slot_dict_get PySem.F.type_dict_get (thn (ho pins s Y H _ I h) λu s1 ⟨x,H1,I1,rx,a,ex,d,q1⟩=>?_)
 subst ex
 obtain rfl:u=Value.ref a:=rx
 obtain⟨t1,t2,_⟩:=Ay I1 d
 refine⟨t1,t2,?_⟩
 rw [m.trees]
 refine Calls.callWith_builtin rfl (Calls.evalArgs_plain (Calls.spliced_cons (thn (he pins s1 Y H1 _ I1 q1) λiv s2 ⟨y,H2,I2,ry,ov,g,q2⟩=>Calls.spliced_nil ?_)))
 exact AI hu I2 g ry λw' s3 I3 rw'=>⟨_,H2,I3,rw',q2⟩
end
section
variable {X:Cx}{pins:List (Addr × Obj)}{Y:St}{H:Hp}{s:Shared}{a:Addr}{kvs:List (Key × V)}{A:Around}{E:Value->Shared->Prop}
end
section
variable {X:Cx}{pins:List (Addr × Obj)}{Y:St}{H:Hp}{s:Shared}{a:Addr}{y:V}{u:Value}{A:Around}{E:Value->Shared->Prop}
end
end L2
namespace Att
open PySem PySem.W PySem.Calls PyProof.Rows
theorem jg {P:Params}{h:Heap}:∀(ns:List Int) (vs:List Value),WellAll P h vs (ns.map WData.int)->IntsAre vs ns:=by
 intro ns
 induction ns with
 | nil=>
  intro vs w
  rw [List.map_nil]at w
  cases w
  exact .nil
 | cons n ns ih=>
  intro vs w
  rw [List.map_cons]at w
  cases w with
  | cons a b=>
   cases a
   exact .cons _ _ (ih _ b)
theorem tF {l:OpenLaw}{n:Nat} (hn:l.most=some n){P:Params}{h:Heap}{args:List WData}{vals:List Value}
  (hpre:l.row.toRowW.claim.pre args=true) (hwl:WellAll P h vals args) :
  ∃a vs ns,vals=[Value.ref a]/\args=[WData.list (ns.map WData.int)]/\h.get? a=some { cls:=.type "list", data:=.seq vs.toArray }/\IntsAre vs ns/\ns.length<=n:=by
 have hsh:WShape.hasAll [] args [.list .int]=true:=(pre_splitW hpre).1
 have hc:l.pre.holds [] { args:=args }=true:=(pre_splitW hpre).2
 obtain⟨d,r,rfl,h1,h2⟩:=hasAllW_cons hsh
 obtain rfl:=hasAllW_nil h2
 obtain⟨xs,rfl,h3⟩:=hasW_list h1
 obtain⟨ns,rfl⟩:=items_int h3
 have hlen:ns.length<=n:=by
  unfold OpenLaw.pre at hc
  have h4:(WTm.not (.lt (.lit (.int (n:Int))) (.len (.arg 0)))).holds [] { args:=[.list (ns.map .int)] }=true:=by
   have h4:=(holds_andW hc).1
   rw [hn]at h4
   exact h4
  have h5:=condW_of h4 (w_not (w_lt w_lit (w_len_list (w_arg rfl))))
  rw [List.length_map]at h5
  refine Nat.le_of_not_lt λq=>?_
  have q':(n:Int) < ((ns.length:Nat):Int):=by omega
  first
   | (rw [decide_eq_true q']at h5;exact absurd h5 (by decide))
   | (simp at h5;omega)
 cases hwl with
 | cons w1 w2=>
  cases w2
  cases w1 with
  | list ho hall=>exact⟨_,_,ns,rfl,rfl,ho,jg ns _ hall,hlen⟩
theorem tJ (l:OpenLaw) (args:List WData):l.row.toRowW.claim.post args (.bool true) args=true:=
 postW_of (r:=l.row.toRowW) (X:=(true == true))
  (show WShape.has [] (.bool true) .bool=true by first | rfl | decide | simp [WShape.has,WShape.arms,WShape.armsAll])
  (show (WTm.eq .res (.lit (.bool true))).value [] { args:=args,res:=some (.bool true),after:=args }=some (.bool (true == true)) from w_eq_bool (w_res rfl) w_lit) rfl
theorem attach_call {l:OpenLaw}{n:Nat}{q:Program}{loose:List Str}{XP:(Str->Option Value)->Heap->Prop}{YP:World->Heap->Prop}{d:DefRec}
  (hn:l.most=some n) (hdf:d.params.defaults=[])
  (call:∀(w:World) (s₀ s₁:Shared) (mg mb:Str->Option Value) (fa:Addr) (o:Obj) (pm cd doc:Value) (a:Addr) (vs:List Value) (ns:List Int),
   Ground q loose [] XP w s₀ mg mb s₁.heap->YP w s₁.heap->
   s₁.heap.get? fa=some o->o.data=.func (docDef d.name d.params d.body d.scope pm cd doc)->s₁.heap.CodeRec cd d.name->mg d.name=some (.ref fa)->
   s₁.heap.get? a=some { cls:=.type "list", data:=.seq vs.toArray }->IntsAre vs ns->ns.length<=n->s₁.gens = #[]->
   codeAny (model l.prog w) callerA (.call (.ref fa) ⟨[.ref a],[]⟩) (λr s'=>r=.ok (.ret (.bool true))/\OldK s₁.heap s'.heap/\s'.os=s₁.os/\AllBare s'.gens) s₁) :
  WalkO q loose XP YP l.row.toRowW d [] (λf vs=>PySem.call f vs):=by
 intro w s₀ s₁ mg mb G Y fa o pm cd doc dV kV ho hd hcd hD hmg hg args vals as hpre hlay hrd hwl hlo
 obtain rfl:dV=.none:=Dflts.none hD hdf
 obtain rfl:kV=.none:=Dflts.noKw hD
 obtain⟨a,vs,ns,rfl,rfl,hobj,hints,hlen⟩:=tF hn hpre hwl
 refine enter_call (codeAny_mono (call w s₀ s₁ mg mb fa o pm cd doc a vs ns G Y ho (fd_plain hd) hcd hmg hobj hints hlen hg) λr s' hq=>?_)
 obtain⟨rfl,h2,h3,h4⟩:=hq
 exact⟨.inl ⟨.bool true,.bool true,[],rfl,λ_=>rfl,.bool true,tJ l _,λ_=>⟨List.Pairwise.nil,λ_ hm=>(nomatch hm)⟩⟩,h2,h3,h4⟩
section
variable {prog:Program}{w:World}{A:Around}{E:Value->Shared->Prop}{s:Shared}{K:Frag}
noncomputable def noObjs (h:Heap):Heap:={ h with objs:=#[] }
theorem noObjs_get (h:Heap) (b:Addr):(noObjs h).get? b=none:=by
 cases e:(noObjs h).get? b with
 | none=>rfl
 | some o=>exact absurd (Heap.lt_size e) (Nat.not_lt_zero _)
noncomputable def ledger (h:Heap) (L d:Addr):List (Addr × Obj):=(List.range h.objs.size).filterMap λa=>if a=L\/a=d then none else (h.get? a).map λo=>(a,o)
theorem mem_ledger {h:Heap}{L d a:Addr}{o:Obj}:(a,o)∈ledger h L d↔a≠L/\a≠d/\h.get? a=some o:=by
 unfold ledger
 rw [List.mem_filterMap]
 constructor
 ·rintro⟨b,_,e⟩
  split at e
  ·cases e
  ·rename_i hb
   obtain⟨o',ho,e'⟩:=Option.map_eq_some_iff.mp e
   cases e'
   exact⟨λq=>hb (.inl q),λq=>hb (.inr q),ho⟩
 ·rintro⟨n1,n2,ho⟩
  refine⟨a,List.mem_range.mpr (Heap.lt_size ho),?_⟩
  rw [if_neg (show ¬(a=L\/a=d) from λq=>q.elim n1 n2),ho] <;> rfl
theorem fr_all {h:Heap}{L:Addr}{m:Str->Option Value} (n:h.Ns L m):Fr (noObjs h) L h m:=
 ⟨n,λb o e=>(by rw [noObjs_get]at e;cases e),Nat.zero_le _⟩
end
end Att
namespace L2
open PySem PySem.Spec PyProof.Rows
theorem lL:∀{vs:List Value}{ns:List Int},IntsAre vs ns->aP (ns.map V.int) vs
 | _,_,.nil=>.nil
 | _,_,.cons n t h=>.cons ⟨t,rfl⟩ (lL h)
end L2
namespace L2
open PySem PySem.Spec PyProof.Rows
end L2
namespace L2
open PySem PySem.Spec PyProof.Rows
noncomputable def bK (s:Stmt) (j:Nat):Stmt:=match s with
 | .ClassDef _ _ _ body _ _ _ _ _ _ _=>body.getD j (.Pass ⟨0,0,0,0⟩)
 | _=>.Pass ⟨0,0,0,0⟩
noncomputable def cN (s:Stmt):Arguments:=match s with
 | .FunctionDef _ a _ _ _ _ _ _ _ _=>a
 | _=>{ posonlyargs:=[],args:=[],vararg:=none,kwonlyargs:=[],kw_defaults:=[],kwarg:=none,defaults:=[] }
noncomputable def bX (s:Stmt):List Stmt:=match s with
 | .FunctionDef _ _ b _ _ _ _ _ _ _=>b
 | _=>[]
noncomputable def ao (s:Stmt):Scope:=match s with
 | .FunctionDef _ _ _ _ _ _ sc _ _ _=>sc
 | _=>{ kind:=.function,names:=[],isGenerator:=false,isCoroutine:=false }
abbrev CX0:CXT:=λ_ _ _ _ _ _=>False
abbrev E0:XK:=λ_ _ _=>False
theorem iL {X:Cx}:dC CX0 X E0:=λ_ _ _ _ _ _ _ h=>h.elim
structure Fun (K:PySem.W.Frag) (x qual:Str) (st:Stmt) (f:Addr) (fd:FuncData):Prop where
 ex:∃(oc:Value) (od:Option Addr) (kV doc pm:Value) (an:Option Addr) (cdv ct:Value) (osl:Array (Option Value)),
  fd=PySem.W.fnOf x qual (cN st) (bX st) (ao st) .none kV doc pm an cdv ct/\K.lookup f=some ⟨oc,od,.func fd,osl⟩/\PySem.W.codeIn K cdv qual=true
 kp:PySem.W.keepIn K (.ref f)=true
section
variable {P:Program}{w:World}{K:PySem.W.Frag}{mg:Str->Option Value}{base:Heap}
theorem Fun.ok {x qual:Str}{st:Stmt}{f:Addr}{fd:FuncData}{N ps:List Str}{k:Nat}{sp:Sp} (F:Fun K x qual st f fd) (S:FnScope N ps (ao st)) (len:∀vs H Q E,sp vs H Q E->vs.length=ps.length)
  (hbody:∀(cdv:Value) (A:Around) (outer:List Env) (s:Shared) (H:Hp) (vs:List V) (Q:VK) (E:XK),Room k (A.deeper (envOfC qual (ao st) s.heap.objs.size f cdv))->sp vs H Q E->
   ∃t,PSs (eU CX0 P w K mg base N qual (ao st) f cdv A outer s H E).nox (bX st) t/\t { nx:=λ_ H'=>Q .non H',rt:=Q } (eX N vs) H):FnOk P w K mg base CX0 (k+1) f fd ps sp:=by
 obtain⟨oc,od,kV,doc,pm,an,cdv,ct,osl,rfl,lk,hcd⟩:=F.ex
 refine pK lk hcd S len λA outer s H vs Q E hr hsp=>?_
 obtain⟨t,h,q⟩:=hbody cdv A outer s H vs Q E hr hsp
 exact⟨t,h.nox,q⟩
theorem Fun.binds {x qual:Str}{st:Stmt}{f:Addr}{fd:FuncData}{ps:List Str} (F:Fun K x qual st f fd)
  (h:∀(kV doc pm:Value) (an:Option Addr) (cdv ct:Value) (us:List Value),us.length=ps.length->bindArgs (PySem.W.fnOf x qual (cN st) (bX st) (ao st) .none kV doc pm an cdv ct) ⟨us,[]⟩=pure (ps.zip us)):cu K fd ps []:=by
 obtain⟨oc,od,kV,doc,pm,an,cdv,ct,osl,rfl,lk,hcd⟩:=F.ex
 exact .all (h kV doc pm an cdv ct)
theorem okF {x qual:Str}{st:Stmt}{f:Addr}{fd:FuncData}{N ps:List Str}{k:Nat}{sp:Sp} (F:Fun K x qual st f fd) (S:FnScope N ps (ao st))
  (hbody:∀(cdv:Value) (A:Around) (outer:List Env) (s:Shared) (H:Hp) (vs:List V) (Q:VK) (E:XK),Room k (A.deeper (envOfC qual (ao st) s.heap.objs.size f cdv))->sp vs H Q E->
   ∃t,PSs (eU CX0 P w K mg base N qual (ao st) f cdv A outer s H E).nox (bX st) t/\t { nx:=λ_ H'=>Q .non H',rt:=Q } (eX N vs) H) (len:∀vs H Q E,sp vs H Q E->vs.length=ps.length:=by intro _ _ _ _ h;cases h;subst_vars;rfl):FnOk P w K mg base CX0 (k+1) f fd ps sp:=F.ok S len hbody
theorem fun_mk {x qual:Str}{st:Stmt}{f:Addr}{oc:Value}{od an:Option Addr}{osl:Array (Option Value)}{kV doc pm cdv ct:Value} (l:K.lookup f=some ⟨oc,od,.func (PySem.W.fnOf x qual (cN st) (bX st) (ao st) .none kV doc pm an cdv ct),osl⟩)
  (c:PySem.W.codeIn K cdv qual=true) (k:PySem.W.keepIn K (.ref f)=true):Fun K x qual st f (PySem.W.fnOf x qual (cN st) (bX st) (ao st) .none kV doc pm an cdv ct):=⟨⟨oc,od,kV,doc,pm,an,cdv,ct,osl,rfl,l,c⟩,k⟩
end
theorem eB {A:Around}{k:Nat} (hr:Room k A):A.units+1 < cLine:=Nat.lt_of_le_of_lt (Nat.add_le_add_left (by decide:1<=64) _) hr.units
theorem bq {n:Nat} (h:n<=1000):n < sizeLine:=Nat.lt_of_le_of_lt h (by decide)
section
variable {X:Cx}
theorem pv (i:Nat){x:Str}{pos:Pos} (hN:X.N[i]?=some x:=by rfl) (hv:Vis X.env.scope x:=by first | exact Or.inl rfl | exact Or.inr (Or.inl rfl) | exact Or.inr (Or.inr rfl)) (hd:(x == ("__debug__" : Str))=false:=by decide)
  (hcd:(x == ("__classdict__" : Str))=false:=by decide):PE X (.Name x pos) (cr i):=Ac hN hv hd hcd
end
theorem aX {A B:Prop} (h:B):if false=true then A else B:=by
 rw [if_neg Bool.false_ne_true]
 exact h
theorem bG {A B:Prop} (h:A):if true=true then A else B:=by
 rw [if_pos rfl]
 exact h
theorem iN {c A B:Prop} [Decidable c] (h1:c->A) (h2:¬c->B):if c then A else B:=by
 by_cases h:c
 ·rw [if_pos h]
  exact h1 h
 ·rw [if_neg h]
  exact h2 h
section
variable {κ:Type} [DecidableEq κ]
theorem uN {kvs:List (κ × V)}{k:κ} (h:valV kvs k=none):¬k∈kvs.map (·.1):=by
 intro m
 obtain⟨p,hp,e⟩:=List.mem_map.mp m
 have q:(kvs.any λkv=>decide (kv.1=k))=true:=List.any_eq_true.mpr ⟨p,hp,decide_eq_true e⟩
 rw [eW,h]at q
 exact absurd q (by simp)
end
end L2
set_option maxHeartbeats 4000000
namespace L2
open PySem PySem.Spec PyProof.Rows
section
variable {X:Cx}{pins:List (Addr × Obj)}{Y:St}{H:Hp}{s:Shared}{h':Heap}
theorem Inv.table {P:Addr}{ps more:Array Value}{t':Nat} (I:Inv X pins Y H s) (e:H P=some (.tbl ps)) (k:∀b o,b≠P->s.heap.get? b=some o->h'.get? b=some o)
  (hP:h'.get? P=some { cls:=.none,data:=.fields (ps++more) }):Inv X pins Y (upd H P (.tbl (ps++more))) { s with heap:=h',toks:=t' }:=by
 have nP:∀b,H b=none->b≠P:=λb n z=>by rw [z,e]at n;cases n
 refine I.un ⟨λb o q n _ _=>k b o (nP b n) q,λb o q n _ _=>⟨o.slots,k b o (nP b n) q⟩,λb o q n _=>by rw [aj (nP b n)];exact n,λb o q _=>?_,λb xs q=>?_,λb o u q=>?_,λb qs q=>?_⟩ λb u q=>?_
 ·by_cases z:b=P
  ·exact⟨_,by rw [z];exact hP⟩
  ·exact⟨o,k b o z q⟩
 ·rw [aj (aS q e (by intro z;cases z))];exact q
 ·rw [aj (aS q e (by intro z;cases z))];exact q
 ·by_cases z:b=P
  ·subst z;rw [e]at q;cases q;exact⟨more,ag⟩
  ·exact⟨#[],by rw [aj z,q];simp⟩
 ·by_cases z:b=P
  ·subst z;rw [ag]at q;cases q;exact hP
  ·rw [aj z]at q
   refine(I.hok b u q).stay (λc v hc r=>k c v ?_ r) (λc r=>by rw [aj (aS r e (by intro z;cases z))];exact r) λc xs r=>by rw [aj (aS r e (by intro z;cases z))];exact r
   rcases hc with hc | hc
   ·rw [hc];exact z
   ·exact aS hc e (by intro z;cases z)
theorem Inv.track {a:Addr}{o:HO} (I:Inv X pins Y H s) (hs:X.s₀.heap.objs.size<=a) (f:iu X pins H a) (new:bw X.prog X.w (upd H a o) s.heap a o):Inv X pins Y (upd H a o) s:=by
 obtain⟨hn,hL,hfs,_,hcl,hpn⟩:=f
 have ne:∀b u,H b=some u->b≠a:=λb u q=>al q hn
 refine⟨I.ok,I.os,I.bare,⟨I.base.keep,I.base.slot,λb ob q n hx=>?_,I.base.there,λb xs q=>?_,λb ob u q=>?_,λb ps q=>?_⟩,I.loc,I.cell,?_,λx c q=>?_,λp hp=>?_,λb u q=>?_,I.len⟩
 ·rw [aj (Nat.ne_of_lt (Nat.lt_of_lt_of_le (Heap.lt_size q) hs))];exact I.base.free b ob q n hx
 ·have r:=I.base.tups b xs q
  rw [aj (ne b _ r)];exact r
 ·have r:=I.base.frzs b ob u q
  rw [aj (ne b _ r)];exact r
 ·obtain⟨m,r⟩:=I.base.tbls b ps q
  exact⟨m,by rw [aj (ne b _ r)];exact r⟩
 ·rw [aj (Ne.symm hL)];exact I.free
 ·rw [aj (hcl x c q)];exact I.freeC x c q
 ·obtain⟨e,n,r⟩:=I.pin p hp
  exact⟨e,by rw [aj (hpn p hp)];exact n,r⟩
 ·by_cases z:b=a
  ·subst z;rw [ag]at q;cases q;exact new
  ·rw [aj z]at q
   exact(I.hok b u q).stay (λ_ _ _ r=>r) (λc r=>by rw [aj (ne c _ r)];exact r) λc xs r=>by rw [aj (ne c _ r)];exact r
end
def bO (c:Addr) (q:Str):Heap->Prop:=λh=>h.CodeRec (.ref c) q
theorem bO.st {c:Addr}{q:Str}{h1 h2:Heap} (x:bO c q h1) (k:∀o,h1.get? c=some o->h2.get? c=some o):bO c q h2:=by
 obtain⟨c',o,vs,t,e,g,r⟩:=x
 cases e
 exact⟨c,o,vs,t,rfl,k o g,r⟩
theorem bO.obj {c:Addr}{q:Str}{h:Heap} (x:bO c q h):∃o,h.get? c=some o:=by
 obtain⟨c',o,vs,t,e,g,r⟩:=x
 cases e
 exact⟨o,g⟩
def oF (f:Addr) (params:Arguments) (body:Expr) (scope:Scope) (q:Str) (c:Addr):Heap->Prop:=λh=>∃pm ctv,h.get? f=some (PySem.W.kla_obj "<lambda>" q params body scope [] pm c ctv)
theorem oF.st {f:Addr}{params:Arguments}{body:Expr}{scope:Scope}{q:Str}{c:Addr}{h1 h2:Heap} (x:oF f params body scope q c h1) (k:∀o,h1.get? f=some o->h2.get? f=some o):oF f params body scope q c h2:=by
 obtain⟨pm,ctv,e⟩:=x
 exact⟨pm,ctv,k _ e⟩
def eV (P:Addr) (pos:Pos) (q:Str) (H:Hp):Prop:=
 H P=some (.tbl #[])\/∃c,H P=some (.tbl #[rawInt pos.line,rawInt pos.col,.ref c])/\H c=some (.ext (bO c q))
theorem eV.tbl {P:Addr}{pos:Pos}{q:Str}{H:Hp} (L:eV P pos q H):∃ps,H P=some (.tbl ps):=by
 rcases L with L | ⟨c,L,_⟩
 ·exact⟨_,L⟩
 ·exact⟨_,L⟩
structure Go (P:Addr) (pos:Pos) (q:Str) (H H':Hp):Prop where
 same:∀b o,b≠P->H b=some o->H' b=some o
 lam:eV P pos q H'
theorem Go.trans {P:Addr}{pos:Pos}{q:Str}{H H1 H2:Hp} (a:Go P pos q H H1) (b:Go P pos q H1 H2):Go P pos q H H2:=⟨λc o n e=>b.same c o n (a.same c o n e),b.lam⟩
theorem Go.at {P:Addr}{pos:Pos}{q:Str}{H H':Hp} (G:Go P pos q H H') (L:eV P pos q H){b:Addr}{o:HO} (e:H b=some o) (n:∀ps,o≠.tbl ps):H' b=some o:=by
 obtain⟨ps,eP⟩:=L.tbl
 exact G.same b o (aS e eP (n ps)) e
theorem eV.upd_new {P:Addr}{pos:Pos}{q:Str}{H:Hp} (L:eV P pos q H){a:Addr}{o:HO} (hn:H a=none):eV P pos q (upd H a o):=by
 rcases L with L | ⟨c,L,Lc⟩
 ·exact .inl (by rw [aj (al L hn)];exact L)
 ·exact .inr ⟨c,by rw [aj (al L hn)];exact L,by rw [aj (al Lc hn)];exact Lc⟩
theorem Go.new {P:Addr}{pos:Pos}{q:Str}{H:Hp} (L:eV P pos q H){a:Addr}{o:HO} (hn:H a=none):Go P pos q H (upd H a o):=
 ⟨λb u _ e=>by rw [aj (al e hn)];exact e,L.upd_new hn⟩
theorem eV.upd_own {P:Addr}{pos:Pos}{q:Str}{H:Hp} (L:eV P pos q H){a:Addr}{o u:HO} (ha:H a=some u) (n1:∀ps,u≠.tbl ps) (n2:∀φ,u≠.ext φ):eV P pos q (upd H a o):=by
 rcases L with L | ⟨c,L,Lc⟩
 ·exact .inl (by rw [aj (aS L ha (n1 _).symm)];exact L)
 ·exact .inr ⟨c,by rw [aj (aS L ha (n1 _).symm)];exact L,by rw [aj (aS Lc ha (n2 _).symm)];exact Lc⟩
def C5 (P:Addr) (pos:Pos) (q:Str) (params:Arguments) (body:Expr) (scope:Scope):TE:=λ_ H Q=>eV P pos q H/\
 ∀H' f c,Go P pos q H H'->H f=none->H' c=some (.ext (bO c q))->H' f=some (.ext (oF f params body scope q c))->Q (.ref f) H'
section
variable {X:Cx}
theorem Ad {params:Arguments}{body:Expr}{scope:Scope}{pos:Pos}{c P:Addr} (hcd:X.env.code=.ref c) (hC:PySem.W.CodeHd X.base c P) (hB:X.base.BuiltinsAt X.mg P)
  (hdef:defaultsOf params X.env=([],[])) (hcl:closureFor scope X.env=pure []):PE X (.Lambda params body scope pos) (C5 P pos (X.env.qual++"<lambda>") params body scope):=by
 intro pins s Y H Q I hh
 obtain⟨L,h⟩:=hh
 refine PySem.W.kla_eval hdef ?_
 have hg:s.heap.Ns mainGlobals X.mg:=I.ok.mod.glob.keeps I.bk
 have hgP:mainGlobals≠P:=λz=>by
  obtain⟨o,es,ep,e,_⟩:=I.ok.mod.glob
  have n:=(I.bs _ _ e).2
  obtain⟨ps,eP⟩:=L.tbl
  rw [z,eP]at n
  cases n
 rcases L with L | ⟨c1,L,Lc⟩
 ·have hP:s.heap.get? P=some (PySem.W.tabObj #[]):=I.hok P _ L
  have hPlt:P < s.heap.objs.size:=Heap.lt_size hP
  refine PySem.W.kla_makeFunction hcl I.ok.glob hg hcd (hC.keeps I.bk) hP trivial rfl hgP (hB.keeps I.bk) λc' ctv h' tk hx hge hlt hrec htb=>?_
  have fge:s.heap.objs.size<=h'.objs.size:=Nat.le_trans hge (Nat.le_of_lt hlt)
  have nc:H c'=none:=I.hok.fresh hge
  have nf:H h'.objs.size=none:=I.hok.fresh fge
  have cP:c'≠P:=Nat.ne_of_gt (Nat.lt_of_lt_of_le hPlt hge)
  have fP:h'.objs.size≠P:=Nat.ne_of_gt (Nat.lt_of_lt_of_le hPlt fge)
  have cf:c'≠h'.objs.size:=Nat.ne_of_lt hlt
  have I1:=I.table (h':=h'.push (PySem.W.kla_obj "<lambda>" (X.env.qual++"<lambda>") params body scope [] ((X.mg "__name__").getD .none) c' ctv)) (more:=#[rawInt pos.line,rawInt pos.col,.ref c']) (t':=tk) L
   (λb o z q=>Heap.get?_push_of_some _ (hx b o z q)) (Heap.get?_push_of_some _ htb)
  have e0:(#[]:Array Value)++#[rawInt pos.line,rawInt pos.col,.ref c'] = #[rawInt pos.line,rawInt pos.col,.ref c']:=by simp
  rw [e0]at I1
  have rec':bO c' (X.env.qual++"<lambda>") (h'.push (PySem.W.kla_obj "<lambda>" (X.env.qual++"<lambda>") params body scope [] ((X.mg "__name__").getD .none) c' ctv)):=
   bO.st (show bO c' _ h' from hrec) λo q=>Heap.get?_push_of_some _ q
  have I2:=I1.track (a:=c') (o:=.ext (bO c' (X.env.qual++"<lambda>"))) (Nat.le_trans I.sz hge) (I.fpOk hge (by rw [aj cP];exact nc)) ⟨rec',rec'.obj,λh1 h2 x k=>x.st k⟩
  have fn':oF h'.objs.size params body scope (X.env.qual++"<lambda>") c' (h'.push (PySem.W.kla_obj "<lambda>" (X.env.qual++"<lambda>") params body scope [] ((X.mg "__name__").getD .none) c' ctv)):=⟨_,_,Heap.get?_push_size _ rfl⟩
  have I3:=I2.track (a:=h'.objs.size) (o:=.ext (oF h'.objs.size params body scope (X.env.qual++"<lambda>") c')) (Nat.le_trans I.sz fge)
   (I.fpOk fge (by rw [aj cf.symm,aj fP];exact nf)) ⟨fn',⟨_,Heap.get?_push_size _ rfl⟩,λh1 h2 x k=>x.st k⟩
  refine⟨.ref h'.objs.size,_,I3,rfl,h _ _ c' ⟨λb o z q=>?_,.inr ⟨c',?_,?_⟩⟩ nf ?_ ag⟩
  ·rw [aj (al q nf),aj (al q nc),aj z];exact q
  ·rw [aj fP.symm,aj cP.symm,ag]
  ·rw [aj cf,ag]
  ·rw [aj cf,ag]
 ·have hP:s.heap.get? P=some (PySem.W.tabObj #[rawInt pos.line,rawInt pos.col,.ref c1]):=I.hok P _ L
  refine PySem.W.kla_makeFunctionHit (cv:=.ref c1) hcl I.ok.glob hg hcd (hC.keeps I.bk) hP (by simp [TriplesOk,rawInt]) (by simp [codeAmong,rawInt]) (hB.keeps I.bk) λctv h' tk hk hsz=>?_
  have nf:H h'.objs.size=none:=I.hok.fresh hsz
  have fn':oF h'.objs.size params body scope (X.env.qual++"<lambda>") c1 (h'.push { cls:=.type "function", data:=.func (PySem.W.kla_fn "<lambda>" (X.env.qual++"<lambda>") params body scope [] ((X.mg "__name__").getD .none) (.ref c1) ctv) }):=⟨_,_,Heap.get?_push_size _ rfl⟩
  have I1:=I.laid (a:=h'.objs.size) (o:=.ext (oF h'.objs.size params body scope (X.env.qual++"<lambda>") c1)) (t':=tk) (λb u q=>Heap.get?_push_of_some _ (hk b u q)) hsz ⟨fn',⟨_,Heap.get?_push_size _ rfl⟩,λh1 h2 x k=>x.st k⟩
  refine⟨.ref h'.objs.size,_,I1,rfl,h _ _ c1 (Go.new (.inr ⟨c1,L,Lc⟩) nf) nf ?_ ag⟩
  rw [aj (al Lc nf)];exact Lc
end
section
variable {prog:Program}{w:World}{A:Around}{E:Value->Shared->Prop}{s:Shared}
theorem wS {f c p:Addr}{k:Int}{t:Tok}{r:List Value}{pa p1 p2 p3:Pos}{j:Nat}{q:Str}{pm ctv:Value}{scope:Scope}{Q:Value->Shared->Prop}
  (hA:A.depth < recursionLimit)
  (hf:s.heap.get? f=some (PySem.W.kla_obj "<lambda>" q { posonlyargs:=[],args:=[{ arg:="row", annotation:=none,pos:=pa }],vararg:=none,kwonlyargs:=[],kw_defaults:=[],kwarg:=none,defaults:=[] }
   (.Subscript (.Name "row" p1) (.Constant (.int 0) j p2) p3) scope [] pm c ctv))
  (hsc:scope.kind=.function) (hsn:scope.names=[(PySem.Str.ofString "row", .local)]) (hsg:scope.isGenerator=false) (hsco:scope.isCoroutine=false)
  (hc:s.heap.CodeRec (.ref c) q) (hp:IsTup s.heap p (Value.int k t::r).toArray) (hr:r.length < 1000) (lim:s.heap.NoLimit)
  (hq:∀h₁ tk,(∀b o,s.heap.get? b=some o->h₁.get? b=some o)->Q (.int k t) { s with heap:=h₁,toks:=tk }) :
  wpAny (model prog w) A (call (.ref f) [.ref p]) Q E s:=by
 refine wpAny_call (PySem.W.kla_callFunE hA hf rfl hsco hsg rfl hc ?_)
 have hb:∀(pm' cdv ctv':Value),bindArgs (PySem.W.kla_fn "<lambda>" q { posonlyargs:=[],args:=[{ arg:="row", annotation:=none,pos:=pa }],vararg:=none,kwonlyargs:=[],kw_defaults:=[],kwarg:=none,defaults:=[] }
   (.Subscript (.Name "row" p1) (.Constant (.int 0) j p2) p3) scope [] pm' cdv ctv') ⟨[.ref p],[]⟩=(pure [(("row" : Str),Value.ref p)]:Sem (List (Str × Value))):=λ_ _ _=>rfl
 rw [hb]
 refine wpAny_pure (wpAny_newFunctionEnv (by rw [hsn];intro y hy;rw [List.mem_singleton.mp hy];intro z;cases z) (by rw [hsn];intro y hy;rw [List.mem_singleton.mp hy];rfl) (λh₁ hns hsb=>⟨lim.fresh _ hsb,?_⟩) hsc)
 have keep:∀b o,s.heap.get? b=some o->h₁.get? b=some o:=λb o e=>(hsb.2 b (Nat.ne_of_lt (Heap.lt_size e))).trans (Heap.get?_push_of_some _ e)
 refine PySem.W.kla_codeExpr ?_
 refine Subscript_ (wpAny_Name (wpAny_loadName_local hsc (by show scope.names.lookup _=_;rw [hsn];rfl) hns rfl ?_) (by decide))
 refine wpAny_Constant_int ?_
 have hp1:IsTup h₁ p (Value.int k t::r).toArray:=by
  obtain⟨o,e,rest⟩:=hp
  exact⟨o,keep _ _ e,rest⟩
 refine subscriptTail_builtinR (x:=.int k t) (T:="tuple") hp1.typeIs slot_tuple_getitem.lookup ?_ rfl
 refine getItem_tuple (j:=0) hp1 (by decide) (by decide) ?_ (by simp) ⟨rfl,hq h₁ _ keep⟩
 simp [seqIndex?]
end
end L2
namespace L2
open PySem PySem.Spec PyProof.Rows
noncomputable def jw:Bool->Keyed->Array Keyed->Nat->Nat->Nat->StateT SortSt Sem (Option Nat):=sortPriv% PySem.Builtin.gallop
section
variable {prog:Program}{w:World}{A:Around}{E:Value->Shared->Prop}{s:Shared}
theorem ju {st:SortSt}{x y:Int}{t u:Tok}{p q:Value}{R:Option Bool->SortSt->Prop} (hk:kindOf st=oneType') (h:R (some (decide (x < y))) st):wpS (model prog w) A E s (lt' (.int x t,p) (.int y u,q)) R st:=by
 rw [lt'_eq]
 refine wpS_bind (wpS_get ?_)
 rw [hk,keyLt'_oneType]
 refine wpS_bind (wpS_lift (wpAny_attempt (oneLt_int ⟨rfl,?_⟩)))
 exact wpS_pure h
theorem zj {st:SortSt}{n:Nat} (β:Nat->Bool){lo hi:Nat}{Q:(Option (Option Nat) × Nat × Nat)->SortSt->Prop}{F:Nat->(Option (Option Nat) × Nat × Nat)->StateT SortSt Sem (ForInStep (Option (Option Nat) × Nat × Nat))}
  (mono:∀i j,i<=j->j < n->β j=true->β i=true)
  (stop:∀x lo hi {R:ForInStep (Option (Option Nat) × Nat × Nat)->SortSt->Prop},hi<=lo->R (.done (none,lo,hi)) st->wpS (model prog w) A E s (F x (none,lo,hi)) R st)
  (up:∀x lo hi {R:ForInStep (Option (Option Nat) × Nat × Nat)->SortSt->Prop},lo < hi->hi<=n->β (lo+(hi - lo) / 2)=true->R (.yield (none,lo+(hi - lo) / 2+1,hi)) st->wpS (model prog w) A E s (F x (none,lo,hi)) R st)
  (dn:∀x lo hi {R:ForInStep (Option (Option Nat) × Nat × Nat)->SortSt->Prop},lo < hi->hi<=n->β (lo+(hi - lo) / 2)=false->R (.yield (none,lo,lo+(hi - lo) / 2)) st->wpS (model prog w) A E s (F x (none,lo,hi)) R st)
  (h1:lo<=hi) (h2:hi<=n) (h3:∀i,i < lo->β i=true) (h4:∀i,hi<=i->i < n->β i=false)
  (h:∀k,k<=n->(∀i,i < k->β i=true)->(∀i,k<=i->i < n->β i=false)->Q (none,k,k) st):wpS (model prog w) A E s (forIn [:n] (none,lo,hi) F) Q st:=by
 refine wpS_forRange (I:=λi c st'=>st'=st/\∃lo hi,c=(none,lo,hi)/\lo<=hi/\hi<=n/\hi - lo<=n - i/\(∀j,j < lo->β j=true)/\(∀j,hi<=j->j < n->β j=false)) ?_ ?_ ⟨rfl,lo,hi,rfl,h1,h2,by omega,h3,h4⟩
 ·rintro i c st' _ hi' ⟨rfl,lo,hi,rfl,g1,g2,g3,g4,g5⟩
  by_cases hl:hi<=lo
  ·have e:lo=hi:=by omega
   subst e
   exact stop _ _ _ hl (h lo g2 g4 g5)
  ·have l:lo < hi:=by omega
   cases e:β (lo+(hi - lo) / 2) with
   | true=>exact up _ _ _ l g2 e ⟨rfl,_,_,rfl,by omega,g2,by omega,λj hj=>mono j _ (by omega) (by omega) e,g5⟩
   | false=>
    refine dn _ _ _ l g2 e ⟨rfl,_,_,rfl,by omega,by omega,by omega,g4,λj hj hn=>?_⟩
    cases ej:β j with
    | false=>rfl
    | true=>rw [mono _ j hj hn ej]at e;exact absurd e (by decide)
 ·rintro c st' ⟨rfl,lo,hi,rfl,g1,g2,g3,g4,g5⟩
  have e:lo=hi:=by omega
  subst e
  exact h lo g2 g4 g5
theorem kR {st:SortSt}{Q:Option Nat->SortSt->Prop}{left:Bool}{arr:Array Keyed}{key:Keyed}{base n hint:Nat} (β:Nat->Bool) (hh:hint < n)
  (bey:∀(i:Nat){R:Option Bool->SortSt->Prop},i < n->R (some (β i)) st->wpS (model prog w) A E s (do let x <- elem' arr (base+i);if left=true then lt' x key else (do let r <- lt' key x;pure (Option.map (λb=>!b) r))) R st)
  (mono:∀i j,i<=j->j < n->β j=true->β i=true)
  (h:∀k,k<=n->(∀i,i < k->β i=true)->(∀i,k<=i->i < n->β i=false)->Q (some k) st):wpS (model prog w) A E s (jw left key arr base n hint) Q st:=by
 have dmono:∀i j,i<=j->j < n->β i=false->β j=false:=λi j hij hj e=>by
  cases ej:β j with
  | false=>rfl
  | true=>rw [mono i j hij hj ej]at e;exact absurd e (by decide)
 unfold jw
 k_delta "gallop"
 dsimp only
 refine wpS_bind (bey hint hh ?_)
 dsimp only
 cases eh:β hint with
 | true=>
  rw [if_pos rfl]
  refine wpS_bind (wpS_mono (wpS_forRange (I:=λi c st'=>st'=st/\∃last ofs,c=(none,last,ofs)/\last < ofs/\i < ofs/\hint+last < n/\β (hint+last)=true)
   (Q:=λc st'=>st'=st/\∃last ofs,c=(none,last,ofs)/\last < ofs/\hint+last < n/\β (hint+last)=true/\(hint+ofs < n->β (hint+ofs)=false)) ?step ?fin ⟨rfl,0,1,rfl,by omega,by omega,by omega,eh⟩) ?post)
  case fin=>
   rintro c st' ⟨rfl,last,ofs,rfl,a1,a2,a3,a4⟩
   exact⟨rfl,last,ofs,rfl,a1,a3,a4,λ_=>by omega⟩
  case step=>
   rintro i c st' _ hi ⟨rfl,last,ofs,rfl,a1,a2,a3,a4⟩
   dsimp only
   by_cases hm:ofs>=n - hint
   ·rw [if_pos hm]
    exact wpS_pure ⟨rfl,last,ofs,rfl,a1,a3,a4,λ_=>by omega⟩
   ·rw [if_neg hm]
    refine wpS_bind (bey (hint+ofs) (by omega) ?_)
    dsimp only
    cases eo:β (hint+ofs) with
    | true=>
     rw [if_neg (by decide)]
     exact wpS_pure ⟨rfl,ofs,2 * ofs+1,rfl,by omega,by omega,by omega,eo⟩
    | false=>
     rw [if_pos (show (!false)=true from rfl)]
     exact wpS_pure ⟨rfl,last,ofs,rfl,a1,a3,a4,λ_=>eo⟩
  case post=>
   rintro c st' ⟨rfl,last,ofs,rfl,a1,a3,a4,a5⟩
   dsimp only
   refine wpS_bind (zj β mono (λx lo hi R hl r=>?_) (λx lo hi R hl hn e r=>?_) (λx lo hi R hl hn e r=>?_) (by omega) (by omega) (λi hi=>mono i (hint+last) (by omega) a3 a4) (λi hi hn=>?_) λk k1 k2 k3=>?_)
   ·dsimp only
    rw [if_pos hl]
    exact wpS_pure r
   ·dsimp only
    rw [if_neg (by omega)]
    refine wpS_bind (bey _ (by omega) ?_)
    rw [e]
    exact wpS_pure r
   ·dsimp only
    rw [if_neg (by omega)]
    refine wpS_bind (bey _ (by omega) ?_)
    rw [e]
    exact wpS_pure r
   ·exact dmono (hint+ofs) i (by omega) hn (a5 (by omega))
   ·exact wpS_pure (h k k1 k2 k3)
 | false=>
  rw [if_neg (by decide)]
  refine wpS_bind (wpS_mono (wpS_forRange (I:=λi c st'=>st'=st/\∃last ofs,c=(none,last,ofs)/\last < ofs/\i < ofs/\last<=hint/\β (hint - last)=false)
   (Q:=λc st'=>st'=st/\∃last ofs,c=(none,last,ofs)/\last < ofs/\last<=hint/\β (hint - last)=false/\(ofs<=hint->β (hint - ofs)=true)) ?step ?fin ⟨rfl,0,1,rfl,by omega,by omega,by omega,eh⟩) ?post)
  case fin=>
   rintro c st' ⟨rfl,last,ofs,rfl,a1,a2,a3,a4⟩
   exact⟨rfl,last,ofs,rfl,a1,a3,a4,λ_=>by omega⟩
  case step=>
   rintro i c st' _ hi ⟨rfl,last,ofs,rfl,a1,a2,a3,a4⟩
   dsimp only
   by_cases hm:ofs>=hint+1
   ·rw [if_pos hm]
    exact wpS_pure ⟨rfl,last,ofs,rfl,a1,a3,a4,λ_=>by omega⟩
   ·rw [if_neg hm]
    refine wpS_bind (bey (hint - ofs) (by omega) ?_)
    dsimp only
    cases eo:β (hint - ofs) with
    | false=>
     rw [if_neg (by decide)]
     exact wpS_pure ⟨rfl,ofs,2 * ofs+1,rfl,by omega,by omega,by omega,eo⟩
    | true=>
     rw [if_pos rfl]
     exact wpS_pure ⟨rfl,last,ofs,rfl,a1,a3,a4,λ_=>eo⟩
  case post=>
   rintro c st' ⟨rfl,last,ofs,rfl,a1,a3,a4,a5⟩
   dsimp only
   refine wpS_bind (zj β mono (λx lo hi R hl r=>?_) (λx lo hi R hl hn e r=>?_) (λx lo hi R hl hn e r=>?_) (by omega) (by omega) (λi hi=>?_) (λi hi hn=>dmono (hint - last) i hi hn a4) λk k1 k2 k3=>?_)
   ·dsimp only
    rw [if_pos hl]
    exact wpS_pure r
   ·dsimp only
    rw [if_neg (by omega)]
    refine wpS_bind (bey _ (by omega) ?_)
    rw [e]
    exact wpS_pure r
   ·dsimp only
    rw [if_neg (by omega)]
    refine wpS_bind (bey _ (by omega) ?_)
    rw [e]
    exact wpS_pure r
   ·exact mono i (hint - ofs) (by omega) (by omega) (a5 (by omega))
   ·exact wpS_pure (h k k1 k2 k3)
end
end L2
namespace L2
open PySem PySem.Spec PyProof.Rows
structure SG (a₀:Array Keyed) (p:Array (Nat × Nat × Nat)) (st:SortSt):Prop where
 pm:(arrOf st).Perm a₀
 kd:kindOf st=oneType'
 fl:failedOf st=none
 pd:pendingOf st=p
theorem SG.sz {a₀ p st} (g:SG a₀ p st):(arrOf st).size=a₀.size:=g.pm.size_eq
theorem SG.arr {a₀ p st} (g:SG a₀ p st){xs:Array Keyed} (hp:xs.Perm (arrOf st)):SG a₀ p (setArr st xs):=⟨hp.trans g.pm,g.kd,g.fl,g.pd⟩
theorem SG.get {a₀ p st} (g:SG a₀ p st) (h0:IntKeys a₀){i:Nat} (hi:i < a₀.size):∃t q,(arrOf st)[i]?=some (.int (K (arrOf st) i) t,q):=by
 have hi':i < (arrOf st).size:=by rw [g.sz];exact hi
 obtain⟨n,t,hn⟩:=h0 _ ((Array.perm_iff_toList_perm.mp g.pm).mem_iff.mp (show (arrOf st)[i]∈_ by simp))
 have e:=getElem?_pos (arrOf st) i hi'
 have e2:(arrOf st)[i]=(.int n t,(arrOf st)[i].2):=Prod.ext hn rfl
 refine⟨t,(arrOf st)[i].2,?_⟩
 unfold K
 rw [e,e2]
 rfl
def Ris (xs:Array Keyed) (a b:Nat):Prop:=∀i j,a<=i->i<=j->j < b->K xs i<=K xs j
def Fal (xs:Array Keyed) (a b:Nat):Prop:=∀i j,a<=i->i<=j->j < b->K xs j<=K xs i
def Low (xs ys:Array Keyed) (lo:Nat):Prop:=∀k,k < lo->K xs k=K ys k
theorem Low.rfl' {xs:Array Keyed} {lo}:Low xs xs lo:=λ_ _=>rfl
theorem Low.then {xs ys zs:Array Keyed} {lo} (h:Low xs ys lo) (g:Low ys zs lo):Low xs zs lo:=λk hk=>(h k hk).trans (g k hk)
theorem Ris.one {xs:Array Keyed} {a b} (h:b<=a+1):Ris xs a b:=λi j h1 h2 h3=>by
 have:i=j:=by omega
 rw [this];exact Int.le_refl _
theorem kH {xs:Array Keyed}{lo i j:Nat} (hj:j<=xs.size) (hl:lo<=i):Low (mirror xs i j ((j - i) / 2)) xs lo:=λk hk=>by
 rw [K_mirror hj,if_neg (by omega)]
section
variable {prog:Program}{w:World}{A:Around}{E:Value->Shared->Prop}{s:Shared}{a₀:Array Keyed}{p:Array (Nat × Nat × Nat)}
theorem ltG {st:SortSt}{i j:Nat}{Q:Option Bool->SortSt->Prop} (g:SG a₀ p st) (h0:IntKeys a₀) (hi:i < a₀.size) (hj:j < a₀.size)
  (h:Q (some (decide (K (arrOf st) i < K (arrOf st) j))) st):wpS (model prog w) A E s (ltAt' i j) Q st:=by
 obtain⟨_,_,e1⟩:=g.get h0 hi
 obtain⟨_,_,e2⟩:=g.get h0 hj
 exact wpS_ltAt g.kd e1 e2 h
theorem xZ {st:SortSt}{i j:Nat}{Q:Unit->SortSt->Prop} (h:Q () (setArr st (mirror (arrOf st) i j ((j - i) / 2)))):wpS (model prog w) A E s (reverseSlice' i j) Q st:=by
 rw [reverseSlice'_eq]
 exact wpS_modify h
noncomputable def xA (lo a nrem:Nat):StateT SortSt Sem (Option (Option Nat) × Nat):=
 forIn [a:nrem] ((none,a):Option (Option Nat) × Nat) λ_ c=>do
  let x <- ltAt' (lo+c.snd) (lo+c.snd - 1)
  match x with
  | some less=>if less=true then pure (ForInStep.done (none,c.snd)) else pure (ForInStep.yield (none,c.snd+1))
  | _=>pure (ForInStep.done (some none,c.snd))
noncomputable def xm (lo n nrem:Nat):StateT SortSt Sem (Option Nat):=do
 reverseSlice' lo (lo+n)
 let c <- xA lo n nrem
 match c.fst with
 | some r=>pure r
 | none=>pure (some c.snd)
noncomputable def sV (lo n nrem:Nat):StateT SortSt Sem (Option (Option Nat) × Nat × Nat):=
 forIn [n:nrem] ((none,n,0):Option (Option Nat) × Nat × Nat) λ_ c=>do
  let x <- ltAt' (lo+c.snd.fst) (lo+c.snd.fst - 1)
  match x with
  | some less=>
   if less=true then
    if c.snd.snd > 0 then do
     reverseSlice' (lo+c.snd.fst - (c.snd.snd+1)) (lo+c.snd.fst)
     pure (ForInStep.yield (none,c.snd.fst+1,0))
    else pure (ForInStep.yield (none,c.snd.fst+1,0))
   else do
    let x <- ltAt' (lo+c.snd.fst - 1) (lo+c.snd.fst)
    match x with
    | some more=>
     if more=true then pure (ForInStep.done (none,c.snd.fst,c.snd.snd))
     else pure (ForInStep.yield (none,c.snd.fst+1,c.snd.snd+1))
    | _=>pure (ForInStep.done (some none,c.snd.fst,c.snd.snd))
  | _=>pure (ForInStep.done (some none,c.snd.fst,c.snd.snd))
noncomputable def pM (lo n nrem:Nat):StateT SortSt Sem (Option Nat):=do
 liftM (rule "list.sort.descending-run")
 let c <- sV lo (n+1) nrem
 match c.fst with
 | some r=>pure r
 | none=>
  if c.snd.snd > 0 then do
   reverseSlice' (lo+c.snd.fst - (c.snd.snd+1)) (lo+c.snd.fst)
   xm lo c.snd.fst nrem
  else xm lo c.snd.fst nrem
theorem uy (lo nrem:Nat):countRun' lo nrem=(do
  let c <- xA lo 1 nrem
  match c.fst with
  | some r=>pure r
  | none=>
   if (c.snd == nrem)=true then pure (some c.snd)
   else if c.snd > 1 then do
    let x <- ltAt' lo (lo+c.snd - 1)
    match x with
    | some rose=>if rose=true then pure (some c.snd) else do
      reverseSlice' lo (lo+c.snd)
      pM lo c.snd nrem
    | _=>pure none
   else pM lo c.snd nrem):=by
 rw [countRun'_eq]
 dsimp only
 unfold pM xm sV xA
 congr 1
 funext c
 obtain⟨r,n⟩:=c
 cases r with
 | some r=>rfl
 | none=>
  dsimp only
  split
  ·rfl
  ·split
   ·congr 1
    funext x
    cases x with
    | none=>rfl
    | some rose=>
     dsimp only
     split
     ·rfl
     ·congr 1;funext _;congr 1;funext _;congr 1;funext c2
      obtain⟨r2,n2,q2⟩:=c2
      cases r2 with
      | some r2=>rfl
      | none=>
       dsimp only
       split
       ·congr 1;funext _;congr 1;funext _;congr 1;funext c3
        obtain⟨r3,n3⟩:=c3
        cases r3 <;> rfl
       ·congr 1;funext _;congr 1;funext c3
        obtain⟨r3,n3⟩:=c3
        cases r3 <;> rfl
   ·congr 1;funext _;congr 1;funext c2
    obtain⟨r2,n2,q2⟩:=c2
    cases r2 with
    | some r2=>rfl
    | none=>
     dsimp only
     split
     ·congr 1;funext _;congr 1;funext _;congr 1;funext c3
      obtain⟨r3,n3⟩:=c3
      cases r3 <;> rfl
     ·congr 1;funext _;congr 1;funext c3
      obtain⟨r3,n3⟩:=c3
      cases r3 <;> rfl
theorem rA {st:SortSt}{lo a nrem:Nat}{Q:Option (Option Nat) × Nat->SortSt->Prop} (h0:IntKeys a₀) (hn:lo+nrem<=a₀.size) (ha:1<=a) (han:a<=nrem) (g:SG a₀ p st)
  (hs:Ris (arrOf st) lo (lo+a))
  (h:∀n,a<=n->n<=nrem->Ris (arrOf st) lo (lo+n)->(n=nrem\/K (arrOf st) (lo+n) < K (arrOf st) (lo+n - 1))->Q (none,n) st) :
  wpS (model prog w) A E s (xA lo a nrem) Q st:=by
 unfold xA
 refine wpS_forRange (I:=λx c u=>u=st/\c=(none,x)/\Ris (arrOf st) lo (lo+x)) ?step ?fin ⟨rfl,rfl,hs⟩
 case fin=>
  rintro c u ⟨rfl,rfl,r⟩
  rw [Nat.max_eq_right han]at r ⊢
  exact h nrem han (Nat.le_refl _) r (.inl rfl)
 case step=>
  rintro x c u ax xn ⟨rfl,rfl,r⟩
  dsimp only
  refine wpS_bind (ltG g h0 (by omega) (by omega) ?_)
  by_cases less:K (arrOf u) (lo+x) < K (arrOf u) (lo+x - 1)
  ·rw [decide_eq_true less]
   try dsimp only
   exact wpS_pure (h x ax (by omega) r (.inr less))
  ·rw [decide_eq_false less]
   refine wpS_pure ⟨rfl,rfl,λi j h1 h2 h3=>?_⟩
   by_cases hj:j < lo+x
   ·exact r i j h1 h2 hj
   ·have ej:j=lo+x:=by omega
    by_cases ei:i=j
    ·rw [ei];exact Int.le_refl _
    ·rw [ej]
     exact Int.le_trans (r i (lo+x - 1) h1 (by omega) (by omega)) (Int.not_lt.mp less)
theorem rz {st:SortSt}{lo n nrem:Nat}{Q:Option Nat->SortSt->Prop} (h0:IntKeys a₀) (hn:lo+nrem<=a₀.size) (h1:1<=n) (hnn:n<=nrem) (g:SG a₀ p st)
  (hs:Fal (arrOf st) lo (lo+n)) (h:∀m u,SG a₀ p u->Low (arrOf u) (arrOf st) lo->1<=m->m<=nrem->Ris (arrOf u) lo (lo+m)->Q (some m) u) :
  wpS (model prog w) A E s (xm lo n nrem) Q st:=by
 unfold xm
 have sz:lo+n<=(arrOf st).size:=by rw [g.sz];omega
 refine wpS_bind (xZ ?_)
 have g':SG a₀ p (setArr st (mirror (arrOf st) lo (lo+n) ((lo+n - lo) / 2))):=g.arr (mirror_perm _ _ _ _)
 refine wpS_bind (rA h0 hn h1 hnn g' (λi j a1 a2 a3=>?_) λm m1 m2 m3 _=>wpS_pure (h m _ g' (kH sz (Nat.le_refl _)) (by omega) m2 m3))
 show K (mirror (arrOf st) lo (lo+n) _) i<=K (mirror (arrOf st) lo (lo+n) _) j
 rw [K_mirror sz,K_mirror sz,if_pos ⟨a1,by omega⟩,if_pos ⟨by omega,a3⟩]
 exact hs _ _ (by omega) (by omega) (by omega)
theorem uL {st:SortSt}{lo n nrem:Nat}{Q:Option (Option Nat) × Nat × Nat->SortSt->Prop} (h0:IntKeys a₀) (hn:lo+nrem<=a₀.size) (h1:1<=n) (hnn:n<=nrem) (g:SG a₀ p st)
  (hs:Fal (arrOf st) lo (lo+n))
  (h:∀m q u,SG a₀ p u->Low (arrOf u) (arrOf st) lo->n<=m->m<=nrem->Fal (arrOf u) lo (lo+m)->q+1<=m->(∀i,lo+m - (q+1)<=i->i < lo+m->K (arrOf u) i=K (arrOf u) (lo+m - 1))->Q (none,m,q) u) :
  wpS (model prog w) A E s (sV lo n nrem) Q st:=by
 unfold sV
 refine wpS_forRange (I:=λx c u=>∃q,c=(none,x,q)/\SG a₀ p u/\Low (arrOf u) (arrOf st) lo/\Fal (arrOf u) lo (lo+x)/\q+1<=x/\
   (∀i,lo+x - (q+1)<=i->i < lo+x->K (arrOf u) i=K (arrOf u) (lo+x - 1))) ?step ?fin ⟨0,rfl,g,Low.rfl',hs,by omega,λi a1 a2=>by congr 1;omega⟩
 case fin=>
  rintro c u ⟨q,rfl,g1,l1,f1,q1,e1⟩
  rw [Nat.max_eq_right hnn]at f1 q1 e1 ⊢
  exact h nrem q u g1 l1 hnn (Nat.le_refl _) f1 q1 e1
 case step=>
  rintro x c u ax xn ⟨q,rfl,g1,l1,f1,q1,e1⟩
  dsimp only
  have sz:lo+x<=(arrOf u).size:=by rw [g1.sz];omega
  refine wpS_bind (ltG g1 h0 (by omega) (by omega) ?_)
  by_cases less:K (arrOf u) (lo+x) < K (arrOf u) (lo+x - 1)
  ·rw [decide_eq_true less]
   try dsimp only
   have st1:∀xs:Array Keyed,(∀k,K xs k=K (arrOf u) k)->Fal xs lo (lo+(x+1)):=by
    intro xs hk i j a1 a2 a3
    rw [hk,hk]
    by_cases hj:j < lo+x
    ·exact f1 i j a1 a2 hj
    ·have ej:j=lo+x:=by omega
     by_cases ei:i=j
     ·rw [ei];exact Int.le_refl _
     ·rw [ej]
      exact Int.le_trans (Int.le_of_lt less) (f1 i (lo+x - 1) a1 (by omega) (by omega))
   by_cases hq:q > 0
   ·rw [if_pos rfl,if_pos hq]
    refine wpS_bind (xZ (wpS_pure ⟨0,rfl,g1.arr (mirror_perm _ _ _ _),λk hk=>?_,st1 _ (K_mirror_equal sz e1),by omega,λi a1 a2=>by congr 1;omega⟩))
    exact(K_mirror_equal sz e1 k).trans (l1 k hk)
   ·rw [if_pos rfl,if_neg hq]
    exact wpS_pure ⟨0,rfl,g1,l1,st1 _ (λ_=>rfl),by omega,λi a1 a2=>by congr 1;omega⟩
  ·rw [decide_eq_false less]
   dsimp only
   rw [if_neg (by decide)]
   refine wpS_bind (ltG g1 h0 (by omega) (by omega) ?_)
   by_cases more:K (arrOf u) (lo+x - 1) < K (arrOf u) (lo+x)
   ·rw [decide_eq_true more]
    exact wpS_pure (h x q u g1 l1 ax (by omega) f1 q1 e1)
   ·rw [decide_eq_false more]
    have ex:K (arrOf u) (lo+x)=K (arrOf u) (lo+x - 1):=by omega
    refine wpS_pure ⟨q+1,rfl,g1,l1,λi j a1 a2 a3=>?_,by omega,λi a1 a2=>?_⟩
    ·by_cases hj:j < lo+x
     ·exact f1 i j a1 a2 hj
     ·have ej:j=lo+x:=by omega
      by_cases ei:i=j
      ·rw [ei];exact Int.le_refl _
      ·rw [ej,ex];exact f1 i (lo+x - 1) a1 (by omega) (by omega)
    ·rw [show lo+(x+1) - 1=lo+x by omega]
     by_cases ei:i=lo+x
     ·rw [ei]
     ·rw [ex];exact e1 i (by omega) (by omega)
theorem oG {st:SortSt}{lo n nrem:Nat}{Q:Option Nat->SortSt->Prop} (h0:IntKeys a₀) (hn:lo+nrem<=a₀.size) (hnn:n+1<=nrem) (g:SG a₀ p st)
  (hs:Fal (arrOf st) lo (lo+(n+1))) (h:∀m u,SG a₀ p u->Low (arrOf u) (arrOf st) lo->1<=m->m<=nrem->Ris (arrOf u) lo (lo+m)->Q (some m) u) :
  wpS (model prog w) A E s (pM lo n nrem) Q st:=by
 unfold pM
 refine wpS_bind (wpS_lift (wpAny_rule ⟨rfl,?_⟩))
 refine wpS_bind (uL h0 hn (by omega) hnn g hs λm q u g1 l1 m1 m2 f1 q1 e1=>?_)
 dsimp only
 have sz:lo+m<=(arrOf u).size:=by rw [g1.sz];omega
 by_cases hq:q > 0
 ·rw [if_pos hq]
  refine wpS_bind (xZ (rz h0 hn (by omega) m2 (g1.arr (mirror_perm _ _ _ _)) (λi j a1 a2 a3=>?_) λm' u' g2 l2 k1 k2 k3=>h m' u' g2 (λk hk=>?_) k1 k2 k3))
  ·show K (mirror (arrOf u) _ _ _) j<=K (mirror (arrOf u) _ _ _) i
   rw [K_mirror_equal sz e1,K_mirror_equal sz e1]
   exact f1 i j a1 a2 a3
  ·exact((l2 k hk).trans (K_mirror_equal sz e1 k)).trans (l1 k hk)
 ·rw [if_neg hq]
  exact rz h0 hn (by omega) m2 g1 f1 λm' u' g2 l2=>h m' u' g2 (l2.then l1)
theorem tm {st:SortSt}{lo nrem:Nat}{Q:Option Nat->SortSt->Prop} (h0:IntKeys a₀) (hn:lo+nrem<=a₀.size) (h1:1<=nrem) (g:SG a₀ p st)
  (h:∀m u,SG a₀ p u->Low (arrOf u) (arrOf st) lo->1<=m->m<=nrem->Ris (arrOf u) lo (lo+m)->Q (some m) u) :
  wpS (model prog w) A E s (countRun' lo nrem) Q st:=by
 rw [uy]
 refine wpS_bind (rA h0 hn (Nat.le_refl 1) h1 g (Ris.one (Nat.le_refl _)) λn n1 n2 r1 o1=>?_)
 dsimp only
 by_cases hnn:n=nrem
 ·rw [if_pos (by simpa using hnn)]
  exact wpS_pure (h n st g Low.rfl' n1 n2 r1)
 ·rw [if_neg (by simpa using hnn)]
  have less:=o1.resolve_left hnn
  by_cases hgt:n > 1
  ·rw [if_pos hgt]
   refine wpS_bind (ltG g h0 (by omega) (by omega) ?_)
   by_cases rose:K (arrOf st) lo < K (arrOf st) (lo+n - 1)
   ·rw [decide_eq_true rose]
    exact wpS_pure (h n st g Low.rfl' n1 n2 r1)
   ·rw [decide_eq_false rose]
    dsimp only
    rw [if_neg (by decide)]
    have sz:lo+n<=(arrOf st).size:=by rw [g.sz];omega
    have all:∀k,lo<=k->k < lo+n->K (arrOf st) k=K (arrOf st) (lo+n - 1):=by
     intro k k1 k2
     have b1:=r1 lo k (Nat.le_refl _) k1 k2
     have b2:=r1 k (lo+n - 1) k1 (by omega) (by omega)
     omega
    refine wpS_bind (xZ (oG h0 hn (by omega) (g.arr (mirror_perm _ _ _ _)) (λi j a1 a2 a3=>?_) λm u g2 l2=>h m u g2 (l2.then (kH sz (Nat.le_refl _)))))
    show K (mirror (arrOf st) _ _ _) j<=K (mirror (arrOf st) _ _ _) i
    rw [K_mirror_equal sz all,K_mirror_equal sz all]
    by_cases hj:j < lo+n
    ·rw [all i a1 (by omega),all j (by omega) hj];exact Int.le_refl _
    ·have ej:j=lo+n:=by omega
     by_cases ei:i=j
     ·rw [ei];exact Int.le_refl _
     ·rw [all i a1 (by omega),ej];exact Int.le_of_lt less
  ·rw [if_neg hgt]
   have en:n=1:=by omega
   subst en
   refine oG h0 hn (by omega) g (λi j a1 a2 a3=>?_) h
   by_cases ei:i=j
   ·rw [ei];exact Int.le_refl _
   ·rw [show i=lo+1 - 1 by omega,show j=lo+1 by omega]
    exact Int.le_of_lt less
theorem xJ {st:SortSt}{lo n ok:Nat}{Q:Bool->SortSt->Prop} (h0:IntKeys a₀) (hn:lo+n<=a₀.size) (hok:ok<=n) (g:SG a₀ p st) (hs:Ris (arrOf st) lo (lo+ok))
  (h:∀u,SG a₀ p u->Low (arrOf u) (arrOf st) lo->Ris (arrOf u) lo (lo+n)->Q true u):wpS (model prog w) A E s (binarySort' lo n ok) Q st:=by
 rw [binarySort'_eq]
 dsimp only
 refine wpS_bind (wpS_mono (wpS_forRange (I:=λk c u=>c=(none,())/\SG a₀ p u/\Low (arrOf u) (arrOf st) lo/\Ris (arrOf u) lo (lo+min k n))
  (Q:=λc u=>c=(none,())/\SG a₀ p u/\Low (arrOf u) (arrOf st) lo/\Ris (arrOf u) lo (lo+n)) ?step ?fin ?init) ?post)
 case post=>
  rintro c u ⟨rfl,g1,l1,r1⟩
  exact wpS_pure (h u g1 l1 r1)
 case init=>
  refine⟨rfl,g,Low.rfl',?_⟩
  by_cases e:ok=0
  ·exact Ris.one (by omega)
  ·exact λi j a1 a2 a3=>hs i j a1 a2 (by omega)
 case fin=>
  rintro c u ⟨hc,g1,l1,r1⟩
  exact⟨hc,g1,l1,λi j a1 a2 a3=>r1 i j a1 a2 (by omega)⟩
 case step=>
  rintro k c u ak kn ⟨rfl,g1,l1,r1⟩
  rw [Nat.min_eq_left (Nat.le_of_lt kn)]at r1
  try dsimp only
  refine wpS_bind (wpS_mono (wpS_forRange (I:=λx c v=>v=u/\∃l r,c=(none,l,r)/\l<=r/\r<=k/\r - l<=k - x/\
    (∀i,lo<=i->i < lo+l->K (arrOf u) i<=K (arrOf u) (lo+k))/\(∀i,lo+r<=i->i < lo+k->K (arrOf u) (lo+k) < K (arrOf u) i))
   (Q:=λc v=>v=u/\∃l r,c=(none,l,r)/\l<=k/\
    (∀i,lo<=i->i < lo+l->K (arrOf u) i<=K (arrOf u) (lo+k))/\(∀i,lo+l<=i->i < lo+k->K (arrOf u) (lo+k) < K (arrOf u) i)) ?istep ?ifin ?iinit) ?ipost)
  case iinit=>exact⟨rfl,0,k,rfl,by omega,by omega,by omega,λi _ _=>by omega,λi _ _=>by omega⟩
  case ifin=>
   rintro c v ⟨rfl,l,r,rfl,b1,b2,b3,b4,b5⟩
   have e:l=r:=by omega
   subst e
   exact⟨rfl,l,l,rfl,b2,b4,b5⟩
  case istep=>
   rintro x c v _ xk ⟨rfl,l,r,rfl,b1,b2,b3,b4,b5⟩
   dsimp only
   by_cases ge:l>=r
   ·rw [if_pos ge]
    have e:l=r:=by omega
    subst e
    exact wpS_pure ⟨rfl,l,l,rfl,b2,b4,b5⟩
   ·rw [if_neg ge]
    refine wpS_bind (ltG g1 h0 (by omega) (by omega) ?_)
    by_cases less:K (arrOf v) (lo+k) < K (arrOf v) (lo+(l+r) / 2)
    ·rw [decide_eq_true less]
     refine wpS_pure ⟨rfl,l,(l+r) / 2,rfl,by omega,by omega,by omega,b4,λi a1 a2=>?_⟩
     exact Int.lt_of_lt_of_le less (r1 _ _ (by omega) a1 a2)
    ·rw [decide_eq_false less]
     refine wpS_pure ⟨rfl,(l+r) / 2+1,r,rfl,by omega,by omega,by omega,λi a1 a2=>?_,b5⟩
     exact Int.le_trans (r1 i (lo+(l+r) / 2) a1 (by omega) (by omega)) (Int.not_lt.mp less)
  case ipost=>
   rintro c v ⟨rfl,l,r,rfl,b1,b2,b3⟩
   dsimp only
   rw [moveDown'_eq]
   have sz:lo+k < (arrOf v).size:=by rw [g1.sz];omega
   refine wpS_bind (wpS_modify (wpS_pure ⟨rfl,g1.arr (bubble_perm _ _ _),λi hi=>?_,λi j a1 a2 a3=>?_⟩))
   ·refine Eq.trans ?_ (l1 i hi)
    show K (bubble (arrOf v) (lo+k) (lo+k - (lo+l))) i=_
    rw [K_bubble sz (by omega),if_neg (by omega),if_neg (by omega)]
   ·show K (bubble (arrOf v) (lo+k) (lo+k - (lo+l))) i<=K (bubble (arrOf v) (lo+k) (lo+k - (lo+l))) j
    rw [K_bubble sz (by omega),K_bubble sz (by omega),show lo+k - (lo+k - (lo+l))=lo+l from Nat.sub_sub_self (by omega)]
    have a4:j < lo+(k+1):=by omega
    repeat' split
    all_goals first
     | (exfalso;omega)
     | exact Int.le_refl _
     | exact b2 _ (by omega) (by omega)
     | exact Int.le_of_lt (b3 _ (by omega) (by omega))
     | exact r1 _ _ (by omega) (by omega) (by omega)
end
end L2
namespace L2
open PySem PySem.Spec PyProof.Rows
noncomputable def ky (q:Keyed):Int:=numOf q.1
theorem yU {xs:Array Keyed}{i:Nat}{q:Keyed} (h:xs[i]?=some q):K xs i=ky q:=by
 unfold K ky;rw [h]
structure Mg (a b out:Array Keyed):Prop where
 pm:out.toList.Perm (a.toList++b.toList)
 so:(out.toList.map ky).Pairwise (·<=·)
structure LoI (a b out:Array Keyed) (ia ib:Nat):Prop where
 pm:out.toList.Perm (a.toList.take ia++b.toList.take ib)
 so:(out.toList.map ky).Pairwise (·<=·)
 ba:∀o∈out.toList,∀i,ia<=i->i < a.size->ky o<=K a i
 bb:∀o∈out.toList,∀j,ib<=j->j < b.size->ky o<=K b j
theorem bD (a:Array Keyed) (i k:Nat):(a.extract i (i+k)).toList=(a.toList.drop i).take k:=by
 rw [Array.toList_extract,List.extract_eq_take_drop,Nat.add_sub_cancel_left]
theorem bC {a:Array Keyed}{i k:Nat}{o:Keyed} (h:o∈(a.toList.drop i).take k):∃j,i<=j/\j < i+k/\j < a.size/\ky o=K a j:=by
 obtain⟨n,hn,e⟩:=List.getElem_of_mem h
 rw [List.length_take,List.length_drop,Array.length_toList]at hn
 refine⟨i+n,by omega,by omega,by omega,?_⟩
 rw [yU (q:=o)]
 rw [List.getElem_take,List.getElem_drop]at e
 rw [<- e]
 simp only [Array.getElem_toList]
 rw [getElem?_pos a (i+n) (by omega)]
theorem iJ {a:Array Keyed} (r:Ris a 0 a.size) (i k:Nat):(((a.toList.drop i).take k).map ky).Pairwise (·<=·):=by
 rw [List.pairwise_iff_getElem]
 intro m n hm hn hmn
 rw [List.length_map,List.length_take,List.length_drop,Array.length_toList]at hm hn
 rw [List.getElem_map,List.getElem_map,List.getElem_take,List.getElem_take,List.getElem_drop,List.getElem_drop]
 have h:=r (i+m) (i+n) (by omega) (by omega) (by omega)
 rw [yU (getElem?_pos a (i+m) (by omega)),yU (getElem?_pos a (i+n) (by omega))]at h
 exact h
theorem jA (l:List Keyed) (i k:Nat):l.take (i+k)=l.take i++(l.drop i).take k:=by
 rw [List.take_add]
theorem LoI.takeA {a b out:Array Keyed}{ia ib k:Nat} (h:LoI a b out ia ib) (ra:Ris a 0 a.size) (rb:Ris b 0 b.size) (hb:∀i,ia<=i->i < ia+k->i < a.size->ib < b.size->K a i<=K b ib) :
  LoI a b (out++a.extract ia (ia+k)) (ia+k) ib:=by
 refine⟨?_,?_,?_,?_⟩
 ·rw [Array.toList_append,bD,jA]
  refine(h.pm.append_right _).trans ?_
  rw [List.append_assoc,List.append_assoc]
  exact List.Perm.append_left _ List.perm_append_comm
 ·rw [Array.toList_append,bD,List.map_append,List.pairwise_append]
  refine⟨h.so,iJ ra _ _,λx hx y hy=>?_⟩
  obtain⟨o,ho,rfl⟩:=List.mem_map.mp hx
  obtain⟨q,hq,rfl⟩:=List.mem_map.mp hy
  obtain⟨j,j1,j2,j3,e⟩:=bC hq
  rw [e]
  exact h.ba o ho j j1 j3
 ·intro o ho i i1 i2
  rw [Array.toList_append,bD]at ho
  rcases List.mem_append.mp ho with ho | ho
  ·exact h.ba o ho i (by omega) i2
  ·obtain⟨j,j1,j2,j3,e⟩:=bC ho
   rw [e]
   exact ra j i (by omega) (by omega) i2
 ·intro o ho i i1 i2
  rw [Array.toList_append,bD]at ho
  rcases List.mem_append.mp ho with ho | ho
  ·exact h.bb o ho i i1 i2
  ·obtain⟨j,j1,j2,j3,e⟩:=bC ho
   rw [e]
   exact Int.le_trans (hb j j1 j2 j3 (by omega)) (rb ib i (by omega) i1 i2)
theorem LoI.takeB {a b out:Array Keyed}{ia ib k:Nat} (h:LoI a b out ia ib) (ra:Ris a 0 a.size) (rb:Ris b 0 b.size) (hb:∀i,ib<=i->i < ib+k->i < b.size->ia < a.size->K b i<=K a ia) :
  LoI a b (out++b.extract ib (ib+k)) ia (ib+k):=by
 refine⟨?_,?_,?_,?_⟩
 ·rw [Array.toList_append,bD,jA,<- List.append_assoc]
  exact h.pm.append_right _
 ·rw [Array.toList_append,bD,List.map_append,List.pairwise_append]
  refine⟨h.so,iJ rb _ _,λx hx y hy=>?_⟩
  obtain⟨o,ho,rfl⟩:=List.mem_map.mp hx
  obtain⟨q,hq,rfl⟩:=List.mem_map.mp hy
  obtain⟨j,j1,j2,j3,e⟩:=bC hq
  rw [e]
  exact h.bb o ho j j1 j3
 ·intro o ho i i1 i2
  rw [Array.toList_append,bD]at ho
  rcases List.mem_append.mp ho with ho | ho
  ·exact h.ba o ho i i1 i2
  ·obtain⟨j,j1,j2,j3,e⟩:=bC ho
   rw [e]
   exact Int.le_trans (hb j j1 j2 j3 (by omega)) (ra ia i (by omega) i1 i2)
 ·intro o ho i i1 i2
  rw [Array.toList_append,bD]at ho
  rcases List.mem_append.mp ho with ho | ho
  ·exact h.bb o ho i (by omega) i2
  ·obtain⟨j,j1,j2,j3,e⟩:=bC ho
   rw [e]
   exact rb j i (by omega) (by omega) i2
theorem dW {a out:Array Keyed}{i:Nat}{x:Keyed} (h:a[i]?=some x):out.push x=out++a.extract i (i+1):=by
 apply Array.ext'
 obtain⟨hi,e⟩:=Array.getElem?_eq_some_iff.mp h
 rw [Array.toList_push,Array.toList_append,bD,List.drop_eq_getElem_cons (by rw [Array.length_toList];exact hi)]
 rw [List.take_succ_cons,List.take_zero,Array.getElem_toList,e]
theorem LoI.fin {a b out:Array Keyed} (h:LoI a b out a.size b.size):Mg a b out:=by
 refine⟨?_,h.so⟩
 have:=h.pm
 rwa [List.take_of_length_le (by simp),List.take_of_length_le (by simp)]at this
theorem LoI.done {a b out:Array Keyed}{ia ib:Nat} (h:LoI a b out ia ib) (ra:Ris a 0 a.size) (rb:Ris b 0 b.size) (ha:ia<=a.size) (hb:ib=b.size) :
  Mg a b (out++a.extract ia a.size++b.extract ib b.size):=by
 have h1:=(h.takeA (k:=a.size - ia) ra rb λi _ _ _ hh=>by omega).takeB (k:=b.size - ib) ra rb λi _ _ _ hh=>by omega
 rw [show ia+(a.size - ia)=a.size from Nat.add_sub_of_le (by omega),show ib+(b.size - ib)=b.size from Nat.add_sub_of_le (by omega)]at h1
 exact h1.fin
theorem LoI.lastA {a b out:Array Keyed}{ia ib:Nat} (h:LoI a b out ia ib) (ra:Ris a 0 a.size) (rb:Ris b 0 b.size) (ha:ia+1=a.size) (hb:ib<=b.size)
  (hl:∀j,j < b.size->K b j<=K a (a.size - 1)):Mg a b (out++b.extract ib b.size++a.extract ia a.size):=by
 have h1:=(h.takeB (k:=b.size - ib) ra rb λi _ _ hi _=>by rw [show ia=a.size - 1 by omega];exact hl i hi).takeA (k:=a.size - ia) ra rb λi _ _ _ hh=>by omega
 rw [show ia+(a.size - ia)=a.size from Nat.add_sub_of_le (by omega),show ib+(b.size - ib)=b.size from Nat.add_sub_of_le (by omega)]at h1
 exact h1.fin
structure HiI (a b o:Array Keyed) (na nb:Nat):Prop where
 pm:o.toList.Perm (a.toList.drop na++b.toList.drop nb)
 so:(o.toList.map ky).Pairwise (·<=·)
 ba:∀q∈o.toList,∀i,i < na->i < a.size->K a i<=ky q
 bb:∀q∈o.toList,∀j,j < nb->j < b.size->K b j<=ky q
theorem eF (l:List Keyed) (i k:Nat):l.drop i=(l.drop i).take k++l.drop (i+k):=by
 rw [<- List.drop_drop,List.take_append_drop]
theorem HiI.takeA {a b o:Array Keyed}{na nb i k:Nat} (h:HiI a b o na nb) (e:na=i+k) (ra:Ris a 0 a.size) (rb:Ris b 0 b.size) (hn:nb<=b.size) (hb:∀j,i<=j->j < na->j < a.size->0 < nb->K b (nb - 1)<=K a j) :
  HiI a b (a.extract i na++o) i nb:=by
 subst e
 refine⟨?_,?_,?_,?_⟩
 ·rw [Array.toList_append,bD]
  refine(List.Perm.append_left _ h.pm).trans ?_
  rw [<- List.append_assoc,<- eF]
 ·rw [Array.toList_append,bD,List.map_append,List.pairwise_append]
  refine⟨iJ ra _ _,h.so,λx hx y hy=>?_⟩
  obtain⟨q,hq,rfl⟩:=List.mem_map.mp hx
  obtain⟨p,hp,rfl⟩:=List.mem_map.mp hy
  obtain⟨j,j1,j2,j3,e⟩:=bC hq
  rw [e]
  exact h.ba p hp j j2 j3
 ·intro q hq j j1 j2
  rw [Array.toList_append,bD]at hq
  rcases List.mem_append.mp hq with hq | hq
  ·obtain⟨m,m1,m2,m3,e⟩:=bC hq
   rw [e]
   exact ra j m (by omega) (by omega) m3
  ·exact h.ba q hq j (by omega) j2
 ·intro q hq j j1 j2
  rw [Array.toList_append,bD]at hq
  rcases List.mem_append.mp hq with hq | hq
  ·obtain⟨m,m1,m2,m3,e⟩:=bC hq
   rw [e]
   exact Int.le_trans (rb j (nb - 1) (by omega) (by omega) (by omega)) (hb m m1 m2 m3 (by omega))
  ·exact h.bb q hq j j1 j2
theorem HiI.takeB {a b o:Array Keyed}{na nb i k:Nat} (h:HiI a b o na nb) (e:nb=i+k) (ra:Ris a 0 a.size) (rb:Ris b 0 b.size) (hn:na<=a.size) (hb:∀j,i<=j->j < nb->j < b.size->0 < na->K a (na - 1)<=K b j) :
  HiI a b (b.extract i nb++o) na i:=by
 subst e
 refine⟨?_,?_,?_,?_⟩
 ·rw [Array.toList_append,bD]
  refine(List.Perm.append_left _ h.pm).trans ?_
  rw [eF b.toList i k,<- List.append_assoc,<- List.append_assoc,<- eF]
  exact List.Perm.append_right _ List.perm_append_comm
 ·rw [Array.toList_append,bD,List.map_append,List.pairwise_append]
  refine⟨iJ rb _ _,h.so,λx hx y hy=>?_⟩
  obtain⟨q,hq,rfl⟩:=List.mem_map.mp hx
  obtain⟨p,hp,rfl⟩:=List.mem_map.mp hy
  obtain⟨j,j1,j2,j3,e⟩:=bC hq
  rw [e]
  exact h.bb p hp j j2 j3
 ·intro q hq j j1 j2
  rw [Array.toList_append,bD]at hq
  rcases List.mem_append.mp hq with hq | hq
  ·obtain⟨m,m1,m2,m3,e⟩:=bC hq
   rw [e]
   exact Int.le_trans (ra j (na - 1) (by omega) (by omega) (by omega)) (hb m m1 m2 m3 (by omega))
  ·exact h.ba q hq j j1 j2
 ·intro q hq j j1 j2
  rw [Array.toList_append,bD]at hq
  rcases List.mem_append.mp hq with hq | hq
  ·obtain⟨m,m1,m2,m3,e⟩:=bC hq
   rw [e]
   exact rb j m (by omega) (by omega) m3
  ·exact h.bb q hq j (by omega) j2
theorem gm {a out:Array Keyed}{i:Nat}{x:Keyed} (h:a[i]?=some x):(out.push x).reverse=a.extract i (i+1)++out.reverse:=by
 rw [dW h,Array.reverse_append]
 congr 1
 apply Array.ext'
 rw [Array.toList_reverse,bD]
 obtain⟨hi,e⟩:=Array.getElem?_eq_some_iff.mp h
 rw [List.drop_eq_getElem_cons (by rw [Array.length_toList];exact hi)]
 rw [List.take_succ_cons,List.take_zero]
 rfl
theorem si (out x:Array Keyed):(out++x.reverse).reverse=x++out.reverse:=by
 rw [Array.reverse_append,Array.reverse_reverse]
theorem HiI.fin {a b o:Array Keyed} (h:HiI a b o 0 0):Mg a b o:=⟨h.pm,h.so⟩
theorem HiI.done {a b o:Array Keyed}{na nb:Nat} (h:HiI a b o na nb) (ra:Ris a 0 a.size) (rb:Ris b 0 b.size) (ha:na=0) (hb:nb<=b.size) :
  Mg a b (a.extract 0 na++b.extract 0 nb++o):=by
 have h1:=(h.takeB (i:=0) (k:=nb) (by omega) ra rb (by omega) λj _ _ _ hh=>by omega).takeA (i:=0) (k:=na) (by omega) ra rb (by omega) λj _ _ _ hh=>by omega
 rw [<- Array.append_assoc]at h1
 exact h1.fin
theorem HiI.firstB {a b o:Array Keyed}{na nb:Nat} (h:HiI a b o na nb) (ra:Ris a 0 a.size) (rb:Ris b 0 b.size) (ha:na<=a.size) (hb:nb=1) (hz:0 < b.size)
  (hl:∀j,j < a.size->K b 0<=K a j):Mg a b (b.extract 0 nb++a.extract 0 na++o):=by
 subst hb
 have h1:=(h.takeA (i:=0) (k:=na) (by omega) ra rb (by omega) λj _ _ hj _=>hl j hj).takeB (i:=0) (k:=1) (by omega) ra rb (by omega) λj _ _ _ hh=>by omega
 rw [<- Array.append_assoc]at h1
 exact h1.fin
end L2
namespace L2
open PySem PySem.Spec PyProof.Rows
noncomputable def loX:Array Keyed->Array Keyed->StateT SortSt Sem (Array Keyed):=sortPriv% PySem.Builtin.mergeLo
noncomputable def hiX:Array Keyed->Array Keyed->StateT SortSt Sem (Array Keyed):=sortPriv% PySem.Builtin.mergeHi
noncomputable def Bc:Nat->StateT SortSt Sem Unit:=sortPriv% PySem.Builtin.setMinGallop
def IK (a:Array Keyed):Prop:=∀i,i < a.size->∃t q,a[i]?=some (.int (K a i) t,q)
structure SS (st u:SortSt):Prop where
 ar:arrOf u=arrOf st
 pd:pendingOf u=pendingOf st
 kd:kindOf u=oneType'
 fl:failedOf u=none
section
variable {prog:Program}{w:World}{A:Around}{E:Value->Shared->Prop}{s:Shared}
theorem cH {st:SortSt}{arr:Array Keyed}{i:Nat}{x:Keyed}{Q:Keyed->SortSt->Prop} (h:arr[i]?=some x) (q:Q x st):wpS (model prog w) A E s (elem' arr i) Q st:=by
 rw [elem'_eq,h]
 exact wpS_pure q
theorem rR {st u:SortSt}{g:Nat}{Q:Unit->SortSt->Prop} (h:SS st u) (q:∀v,SS st v->Q () v):wpS (model prog w) A E s (Bc g) Q u:=by
 unfold Bc
 k_delta "setMinGallop"
 exact wpS_modify (q _ ⟨h.ar,h.pd,h.kd,h.fl⟩)
theorem AE {st u:SortSt}{arr:Array Keyed}{c:Int}{t:Tok}{q:Value}{base n hint:Nat}{Q:Option Nat->SortSt->Prop} (g:SS st u) (ik:IK arr) (hn:base+n<=arr.size) (r:Ris arr base (base+n)) (hh:hint < n)
  (h:∀k,k<=n->(∀i,i < k->K arr (base+i)<=c)->(∀i,k<=i->i < n->c < K arr (base+i))->Q (some k) u) :
  wpS (model prog w) A E s (jw false (.int c t,q) arr base n hint) Q u:=by
 refine kR (λi=>!decide (c < K arr (base+i))) hh (λi R hi hr=>?_) (λi j hij hj e=>?_) λk k1 k2 k3=>h k k1 (λi hi=>?_) λi i1 i2=>?_
 ·obtain⟨t2,q2,e⟩:=ik (base+i) (by omega)
  refine wpS_bind (cH e ?_)
  rw [if_neg (by decide)]
  exact wpS_bind (ju g.kd (wpS_pure hr))
 ·have:=r (base+i) (base+j) (by omega) (by omega) (by omega)
  simp only [Bool.not_eq_true',decide_eq_false_iff_not]at e ⊢
  omega
 ·have:=k2 i hi
  simp only [Bool.not_eq_true',decide_eq_false_iff_not]at this
  omega
 ·have:=k3 i i1 i2
  simpa using this
theorem AD {st u:SortSt}{arr:Array Keyed}{c:Int}{t:Tok}{q:Value}{base n hint:Nat}{Q:Option Nat->SortSt->Prop} (g:SS st u) (ik:IK arr) (hn:base+n<=arr.size) (r:Ris arr base (base+n)) (hh:hint < n)
  (h:∀k,k<=n->(∀i,i < k->K arr (base+i) < c)->(∀i,k<=i->i < n->c<=K arr (base+i))->Q (some k) u) :
  wpS (model prog w) A E s (jw true (.int c t,q) arr base n hint) Q u:=by
 refine kR (λi=>decide (K arr (base+i) < c)) hh (λi R hi hr=>?_) (λi j hij hj e=>?_) λk k1 k2 k3=>h k k1 (λi hi=>?_) λi i1 i2=>?_
 ·obtain⟨t2,q2,e⟩:=ik (base+i) (by omega)
  refine wpS_bind (cH e ?_)
  rw [if_pos rfl]
  exact ju g.kd hr
 ·have:=r (base+i) (base+j) (by omega) (by omega) (by omega)
  simp only [decide_eq_true_eq]at e ⊢
  omega
 ·simpa using k2 i hi
 ·have:=k3 i i1 i2
  simp only [decide_eq_false_iff_not]at this
  omega
theorem Ris.sub {xs:Array Keyed}{a b c d:Nat} (r:Ris xs a b) (h1:a<=c) (h2:d<=b):Ris xs c d:=λi j x y z=>r i j (by omega) y (by omega)
theorem AW {a b:Array Keyed}{st u:SortSt}{Q:Array Keyed->SortSt->Prop} (g:SS st u) (ia:IK a) (ib:IK b) (ra:Ris a 0 a.size) (rb:Ris b 0 b.size) (za:0 < a.size) (zb:0 < b.size)
  (hf:∀i,i < a.size->K b 0<=K a i) (hl:∀j,j < b.size->K b j < K a (a.size - 1))
  (h:∀out v,SS st v->Mg a b out->Q out v):wpS (model prog w) A E s (loX a b) Q u:=by
 unfold loX
 k_delta "mergeLo"
 dsimp only
 refine wpS_bind (wpS_lift (wpAny_rule ⟨rfl,?_⟩))
 obtain⟨t0,q0,e0⟩:=ib 0 zb
 refine wpS_bind (cH e0 ?_)
 have L0:LoI a b #[(.int (K b 0) t0,q0)] 0 1:=by
  have:=(LoI.takeB (a:=a) (b:=b) (out:=#[]) (ia:=0) (ib:=0) (k:=1) ⟨by simp,by simp,by simp,by simp⟩ ra rb λi i1 i2 i3 i4=>by rw [show i=0 by omega];exact hf 0 i4)
  rw [<- dW e0]at this
  exact this
 by_cases b1:1=b.size
 ·rw [if_pos (by simpa using b1)]
  exact wpS_pure (h _ _ g (L0.done ra rb (by omega) b1))
 rw [if_neg (by simpa using b1)]
 by_cases a1:0+1=a.size
 ·rw [if_pos (by simpa using a1)]
  exact wpS_pure (h _ _ g (L0.lastA ra rb a1 (by omega) λj hj=>Int.le_of_lt (hl j hj)))
 rw [if_neg (by simpa using a1)]
 refine wpS_bind (wpS_get ?_)
 refine wpS_bind (wpS_mono (wpS_forRange (I:=λx c v=>SS st v/\∃out i j m,c=(none,out,i,j,m)/\LoI a b out i j/\i+1 < a.size/\j < b.size/\x+1<=i+j)
  (Q:=λc v=>SS st v/\∃r out i j m,c=(some r,out,i,j,m)/\Mg a b r) ?step ?fin ⟨g,_,0,1,_,rfl,L0,by omega,by omega,by omega⟩) ?post)
 case post=>
  rintro c v ⟨g',r,out,i,j,m,rfl,hm⟩
  exact wpS_pure (h r v g' hm)
 case fin=>
  rintro c v ⟨g',out,i,j,m,rfl,L,x1,x2,x3⟩
  exfalso
  omega
 case step=>
  rintro x c v _ xn ⟨g1,out,i,j,m,rfl,L,x1,x2,x3⟩
  dsimp only
  refine wpS_bind (wpS_mono (wpS_forRange (I:=λy c v=>SS st v/\∃out i' j' ac bc,c=(none,out,i',j',ac,bc)/\LoI a b out i' j'/\i'+1 < a.size/\j' < b.size/\i+j+y<=i'+j')
   (Q:=λc v=>SS st v/\∃o out i' j' ac bc,c=(o,out,i',j',ac,bc)/\((∃r,o=some r/\Mg a b r)\/(o=none/\LoI a b out i' j'/\i'+1 < a.size/\j' < b.size/\i+j+1<=i'+j'))) ?step1 ?fin1 ⟨g1,out,i,j,0,0,rfl,L,x1,x2,by omega⟩) ?post1)
  case fin1=>
   rintro c v ⟨g',out,i',j',ac,bc,rfl,L',y1,y2,y3⟩
   exact⟨g',_,out,i',j',ac,bc,rfl,.inr ⟨rfl,L',y1,y2,by omega⟩⟩
  case step1=>
   rintro y c v _ yn ⟨g2,out,i',j',ac,bc,rfl,L',y1,y2,y3⟩
   dsimp only
   obtain⟨tb,qb,eb⟩:=ib j' y2
   obtain⟨ta,qa,ea⟩:=ia i' (by omega)
   refine wpS_bind (cH eb ?_)
   refine wpS_bind (cH ea ?_)
   refine wpS_bind (ju g2.kd ?_)
   by_cases less:K b j' < K a i'
   ·rw [decide_eq_true less]
    dsimp only
    rw [if_pos rfl]
    refine wpS_bind (cH eb ?_)
    have L2:=L'.takeB (k:=1) ra rb λn n1 n2 n3 n4=>by rw [show n=j' by omega];exact Int.le_of_lt less
    rw [<- dW eb]at L2
    by_cases eb1:j'+1=b.size
    ·rw [if_pos (by simpa using eb1)]
     exact wpS_pure ⟨g2,_,_,_,_,_,_,rfl,.inl ⟨_,rfl,L2.done ra rb (by omega) eb1⟩⟩
    ·rw [if_neg (by simpa using eb1)]
     split
     ·exact wpS_pure ⟨g2,_,_,_,_,_,_,rfl,.inr ⟨rfl,L2,y1,by omega,by omega⟩⟩
     ·exact wpS_pure ⟨g2,_,_,_,_,_,rfl,L2,y1,by omega,by omega⟩
   ·rw [decide_eq_false less]
    dsimp only
    rw [if_neg (by decide)]
    refine wpS_bind (cH ea ?_)
    have L2:=L'.takeA (k:=1) ra rb λn n1 n2 n3 n4=>by rw [show n=i' by omega];omega
    rw [<- dW ea]at L2
    by_cases ea1:i'+1+1=a.size
    ·rw [if_pos (by simpa using ea1)]
     exact wpS_pure ⟨g2,_,_,_,_,_,_,rfl,.inl ⟨_,rfl,L2.lastA ra rb ea1 (by omega) λj hj=>Int.le_of_lt (hl j hj)⟩⟩
    ·rw [if_neg (by simpa using ea1)]
     split
     ·exact wpS_pure ⟨g2,_,_,_,_,_,_,rfl,.inr ⟨rfl,L2,by omega,y2,by omega⟩⟩
     ·exact wpS_pure ⟨g2,_,_,_,_,_,rfl,L2,by omega,y2,by omega⟩
  case post1=>
   rintro c v ⟨g2,o,out,i',j',ac,bc,rfl,(⟨r,rfl,hm⟩ | ⟨rfl,L',y1,y2,y3⟩)⟩
   ·exact wpS_pure ⟨g2,_,_,_,_,_,rfl,hm⟩
   dsimp only
   refine wpS_bind (wpS_lift (wpAny_rule ⟨rfl,?_⟩))
   refine wpS_bind (wpS_mono (wpS_forRange (I:=λy c v=>SS st v/\∃out i' j' mg ac bc,c=(none,out,i',j',mg,ac,bc)/\LoI a b out i' j'/\i'+1 < a.size/\j' < b.size/\i+j+1<=i'+j')
    (Q:=λc v=>SS st v/\∃o out i' j' mg ac bc,c=(o,out,i',j',mg,ac,bc)/\((∃r,o=some r/\Mg a b r)\/(o=none/\LoI a b out i' j'/\i'+1 < a.size/\j' < b.size/\i+j+1<=i'+j'))) ?step2 ?fin2 ⟨g2,out,i',j',_,ac,bc,rfl,L',y1,y2,y3⟩) ?post2)
   case fin2=>
    rintro c v ⟨g',out,i',j',mg,ac,bc,rfl,L',y1,y2,y3⟩
    exact⟨g',_,out,i',j',mg,ac,bc,rfl,.inr ⟨rfl,L',y1,y2,y3⟩⟩
   case post2=>
    rintro c v ⟨g3,o,out,i',j',mg,ac,bc,rfl,(⟨r,rfl,hm⟩ | ⟨rfl,L',y1,y2,y3⟩)⟩
    ·exact wpS_pure ⟨g3,_,_,_,_,_,rfl,hm⟩
    dsimp only
    refine wpS_bind (rR g3 λv2 g4=>?_)
    exact wpS_pure ⟨g4,_,_,_,_,rfl,L',y1,y2,by omega⟩
   case step2=>
    rintro y c v _ yn ⟨g3,out,i',j',mg,ac,bc,rfl,L',y1,y2,y3⟩
    dsimp only
    obtain⟨tb,qb,eb⟩:=ib j' y2
    refine Decidable.byCases (p:=mg > 1) (λhmg=>?tA) (λhmg=>?tB)
    case' tA=>
     rw [if_pos hmg]
     clear hmg
     generalize mg - 1=mg'
     revert mg'
    case tB=>
     rw [if_neg hmg]
     exact ?tA mg
    case tA=>
     intro mg'
     refine wpS_bind (rR g3 λv2 g4=>?_)
     refine wpS_bind (cH eb ?_)
     refine wpS_bind (AE g4 ia (by omega) (ra.sub (by omega) (by omega)) (by omega) λk k1 k2 k3=>?_)
     dsimp only
     have kz:i'+k < a.size:=by
      apply Classical.byContradiction
      intro hk
      have e1:=k2 (a.size - 1 - i') (by omega)
      rw [show i'+(a.size - 1 - i')=a.size - 1 from Nat.add_sub_of_le (by omega)]at e1
      have e2:=hl j' y2
      omega
     have kl:K b j' < K a (i'+k):=k3 k (Nat.le_refl _) (by omega)
     have L2:=L'.takeA (k:=k) ra rb λn n1 n2 n3 n4=>by
      have:=k2 (n - i') (by omega)
      rwa [show i'+(n - i')=n from Nat.add_sub_of_le (by omega)]at this
     refine Decidable.byCases (p:=k > 0) (λhk=>?uA) (λhk=>?uB)
     case' uA=>
      rw [if_pos hk]
      by_cases ea1:i'+k+1=a.size
      ·rw [if_pos (by simpa using ea1)]
       exact wpS_pure ⟨g4,_,_,_,_,_,_,_,rfl,.inl ⟨_,rfl,L2.lastA ra rb ea1 (by omega) λj hj=>Int.le_of_lt (hl j hj)⟩⟩
      rw [if_neg (by simpa using ea1),if_neg (by simp only [beq_iff_eq];omega)]
      have I1:i'+k+1 < a.size:=by omega
      have I2:i+j+1<=i'+k+j':=by omega
      clear ea1 hk kz
      revert L2 kl I1 I2
      generalize out++a.extract i' (i'+k)=O
      generalize i'+k=I
      clear k1 k2 k3
      revert O I
      skip
     case uB=>
      rw [if_neg hk]
      have e:k=0:=by omega
      rw [e,Nat.add_zero]at kl
      exact ?uA out i' kl L' y1 y3
     case uA=>
      intro O I kl L2 I1 I2
      refine wpS_bind (cH eb ?_)
      have L3:=L2.takeB (k:=1) ra rb λn n1 n2 n3 n4=>by rw [show n=j' by omega];exact Int.le_of_lt kl
      by_cases eb1:j'+1=b.size
      ·rw [if_pos (by simpa using eb1)]
       rw [<- dW eb]at L3
       exact wpS_pure ⟨g4,_,_,_,_,_,_,_,rfl,.inl ⟨_,rfl,L3.done ra rb (by omega) eb1⟩⟩
      rw [if_neg (by simpa using eb1)]
      rw [<- dW eb]at L3
      obtain⟨ta,qa,ea⟩:=ia I (by omega)
      refine wpS_bind (cH ea ?_)
      refine wpS_bind (AD g4 ib (by omega) (rb.sub (by omega) (by omega)) (by omega) λm m1 m2 m3=>?_)
      dsimp only
      have L4:=L3.takeB (k:=m) ra rb λn n1 n2 n3 n4=>by
       have:=m2 (n - (j'+1)) (by omega)
       rw [show j'+1+(n - (j'+1))=n from Nat.add_sub_of_le (by omega)]at this
       exact Int.le_of_lt this
      refine Decidable.byCases (p:=m > 0) (λhm=>?vA) (λhm=>?vB)
      case' vA=>
       rw [if_pos hm]
       by_cases eb2:j'+1+m=b.size
       ·rw [if_pos (by simpa using eb2)]
        exact wpS_pure ⟨g4,_,_,_,_,_,_,_,rfl,.inl ⟨_,rfl,L4.done ra rb (by omega) eb2⟩⟩
       rw [if_neg (by simpa using eb2)]
       have L5:=L4.takeA (k:=1) ra rb λn n1 n2 n3 n4=>by
        rw [show n=I by omega];exact m3 m (Nat.le_refl _) (by omega)
       have J1:j'+1+m < b.size:=by omega
       have J2:i+j+1<=I+1+(j'+1+m):=by omega
       clear eb2 hm L4
       revert L5 J1 J2
       generalize O.push (Value.int (K b j') tb,qb)++b.extract (j'+1) (j'+1+m)=O2
       generalize j'+1+m=J
       revert O2 J
      case vB=>
       rw [if_neg hm]
       have L5:=L3.takeA (k:=1) ra rb λn n1 n2 n3 n4=>by
        rw [show n=I by omega];exact m3 0 (by omega) (by omega)
       exact ?vA _ (j'+1) L5 (by omega) (by omega)
      case vA=>
       intro O2 J L5 J1 J2
       refine wpS_bind (cH ea ?_)
       rw [<- dW ea]at L5
       by_cases ea2:I+1+1=a.size
       ·rw [if_pos (by simpa using ea2)]
        exact wpS_pure ⟨g4,_,_,_,_,_,_,_,rfl,.inl ⟨_,rfl,L5.lastA ra rb ea2 (Nat.le_of_lt J1) λj hj=>Int.le_of_lt (hl j hj)⟩⟩
       rw [if_neg (by simpa using ea2)]
       split
       ·exact wpS_pure ⟨g4,_,_,_,_,_,_,_,rfl,.inr ⟨rfl,L5,by omega,J1,J2⟩⟩
       ·exact wpS_pure ⟨g4,_,_,_,_,_,_,rfl,L5,by omega,J1,J2⟩
end
end L2
namespace L2
open PySem PySem.Spec PyProof.Rows
section
variable {prog:Program}{w:World}{A:Around}{E:Value->Shared->Prop}{s:Shared}
theorem AX {a b:Array Keyed}{st u:SortSt}{Q:Array Keyed->SortSt->Prop} (g:SS st u) (ia:IK a) (ib:IK b) (ra:Ris a 0 a.size) (rb:Ris b 0 b.size) (za:0 < a.size) (zb:0 < b.size)
  (hf:∀i,i < a.size->K b 0 < K a i) (hl:∀j,j < b.size->K b j < K a (a.size - 1))
  (h:∀out v,SS st v->Mg a b out->Q out v):wpS (model prog w) A E s (hiX a b) Q u:=by
 unfold hiX
 k_delta "mergeHi"
 dsimp only
 refine wpS_bind (wpS_lift (wpAny_rule ⟨rfl,?_⟩))
 obtain⟨t0,q0,e0⟩:=ia (a.size - 1) (by omega)
 refine wpS_bind (cH e0 ?_)
 have hf':∀j,j < a.size->K b 0<=K a j:=λj hj=>Int.le_of_lt (hf j hj)
 have L0:HiI a b (Array.reverse #[(.int (K a (a.size - 1)) t0,q0)]) (a.size - 1) b.size:=by
  have:=(HiI.takeA (a:=a) (b:=b) (o:=(#[]:Array Keyed).reverse) (na:=a.size) (nb:=b.size) (i:=a.size - 1) (k:=1) ⟨by simp,by simp,by simp,by simp⟩ (by omega) ra rb (by omega) λj i1 i2 i3 i4=>by rw [show j=a.size - 1 by omega];exact Int.le_of_lt (hl _ (by omega)))
  have e1:=gm (out:=#[]) e0
  rw [show a.size - 1+1=a.size by omega]at e1
  rw [<- e1]at this
  exact this
 by_cases a1:a.size - 1=0
 ·rw [if_pos (by simpa using a1)]
  exact wpS_pure (h _ _ g (L0.done ra rb a1 (by omega)))
 rw [if_neg (by simpa using a1)]
 by_cases b1:b.size=1
 ·rw [if_pos (by simpa using b1)]
  exact wpS_pure (h _ _ g (L0.firstB ra rb (by omega) b1 zb hf'))
 rw [if_neg (by simpa using b1)]
 refine wpS_bind (wpS_get ?_)
 refine wpS_bind (wpS_mono (wpS_forRange (I:=λx c v=>SS st v/\∃i j out m,c=(none,i,j,out,m)/\HiI a b out.reverse i j/\0 < i/\i<=a.size/\1 < j/\j<=b.size/\i+j+x+1<=a.size+b.size)
  (Q:=λc v=>SS st v/\∃r i j out m,c=(some r,i,j,out,m)/\Mg a b r) ?step ?fin ⟨g,_,_,_,_,rfl,L0,by omega,by omega,by omega,by omega,by omega⟩) ?post)
 case post=>
  rintro c v ⟨g',r,i,j,out,m,rfl,hm⟩
  exact wpS_pure (h r v g' hm)
 case fin=>
  rintro c v ⟨g',i,j,out,m,rfl,L,x1,x2,x3,x4,x5⟩
  exfalso
  omega
 case step=>
  rintro x c v _ xn ⟨g1,i,j,out,m,rfl,L,x1,x2,x3,x4,x5⟩
  dsimp only
  refine wpS_bind (wpS_mono (wpS_forRange (I:=λy c v=>SS st v/\∃i' j' out ac bc,c=(none,i',j',out,ac,bc)/\HiI a b out.reverse i' j'/\0 < i'/\i'<=a.size/\1 < j'/\j'<=b.size/\i'+j'+y<=i+j)
   (Q:=λc v=>SS st v/\∃o i' j' out ac bc,c=(o,i',j',out,ac,bc)/\((∃r,o=some r/\Mg a b r)\/(o=none/\HiI a b out.reverse i' j'/\0 < i'/\i'<=a.size/\1 < j'/\j'<=b.size/\i'+j'+1<=i+j))) ?step1 ?fin1 ⟨g1,i,j,out,0,0,rfl,L,x1,x2,x3,x4,by omega⟩) ?post1)
  case fin1=>
   rintro c v ⟨g',i',j',out,ac,bc,rfl,L',y1,y2,y3,y4,y5⟩
   exact⟨g',_,i',j',out,ac,bc,rfl,.inr ⟨rfl,L',y1,y2,y3,y4,by omega⟩⟩
  case step1=>
   rintro y c v _ yn ⟨g2,i',j',out,ac,bc,rfl,L',y1,y2,y3,y4,y5⟩
   dsimp only
   obtain⟨tb,qb,eb⟩:=ib (j' - 1) (by omega)
   obtain⟨ta,qa,ea⟩:=ia (i' - 1) (by omega)
   refine wpS_bind (cH eb ?_)
   refine wpS_bind (cH ea ?_)
   refine wpS_bind (ju g2.kd ?_)
   by_cases less:K b (j' - 1) < K a (i' - 1)
   ·rw [decide_eq_true less]
    dsimp only
    rw [if_pos rfl]
    refine wpS_bind (cH ea ?_)
    have L2:=L'.takeA (i:=i' - 1) (k:=1) (by omega) ra rb y4 λn n1 n2 n3 n4=>by rw [show n=i' - 1 by omega];exact Int.le_of_lt less
    have e1:=gm (out:=out) ea
    rw [show i' - 1+1=i' by omega]at e1
    rw [<- e1]at L2
    by_cases ea1:i' - 1=0
    ·rw [if_pos (by simpa using ea1)]
     exact wpS_pure ⟨g2,_,_,_,_,_,_,rfl,.inl ⟨_,rfl,L2.done ra rb ea1 y4⟩⟩
    ·rw [if_neg (by simpa using ea1)]
     split
     ·exact wpS_pure ⟨g2,_,_,_,_,_,_,rfl,.inr ⟨rfl,L2,by omega,by omega,y3,y4,by omega⟩⟩
     ·exact wpS_pure ⟨g2,_,_,_,_,_,rfl,L2,by omega,by omega,y3,y4,by omega⟩
   ·rw [decide_eq_false less]
    dsimp only
    rw [if_neg (by decide)]
    refine wpS_bind (cH eb ?_)
    have L2:=L'.takeB (i:=j' - 1) (k:=1) (by omega) ra rb y2 λn n1 n2 n3 n4=>by rw [show n=j' - 1 by omega];omega
    have e1:=gm (out:=out) eb
    rw [show j' - 1+1=j' by omega]at e1
    rw [<- e1]at L2
    by_cases eb1:j' - 1=1
    ·rw [if_pos (by simpa using eb1)]
     exact wpS_pure ⟨g2,_,_,_,_,_,_,rfl,.inl ⟨_,rfl,L2.firstB ra rb y2 eb1 zb hf'⟩⟩
    ·rw [if_neg (by simpa using eb1)]
     split
     ·exact wpS_pure ⟨g2,_,_,_,_,_,_,rfl,.inr ⟨rfl,L2,y1,y2,by omega,by omega,by omega⟩⟩
     ·exact wpS_pure ⟨g2,_,_,_,_,_,rfl,L2,y1,y2,by omega,by omega,by omega⟩
  case post1=>
   rintro c v ⟨g2,o,i',j',out,ac,bc,rfl,(⟨r,rfl,hm⟩ | ⟨rfl,L',y1,y2,y3,y4,y5⟩)⟩
   ·exact wpS_pure ⟨g2,_,_,_,_,_,rfl,hm⟩
   dsimp only
   refine wpS_bind (wpS_lift (wpAny_rule ⟨rfl,?_⟩))
   refine wpS_bind (wpS_mono (wpS_forRange (I:=λy c v=>SS st v/\∃i' j' out mg ac bc,c=(none,i',j',out,mg,ac,bc)/\HiI a b out.reverse i' j'/\0 < i'/\i'<=a.size/\1 < j'/\j'<=b.size/\i'+j'+1<=i+j)
    (Q:=λc v=>SS st v/\∃o i' j' out mg ac bc,c=(o,i',j',out,mg,ac,bc)/\((∃r,o=some r/\Mg a b r)\/(o=none/\HiI a b out.reverse i' j'/\0 < i'/\i'<=a.size/\1 < j'/\j'<=b.size/\i'+j'+1<=i+j))) ?step2 ?fin2 ⟨g2,i',j',out,_,ac,bc,rfl,L',y1,y2,y3,y4,y5⟩) ?post2)
   case fin2=>
    rintro c v ⟨g',i',j',out,mg,ac,bc,rfl,L',y1,y2,y3,y4,y5⟩
    exact⟨g',_,i',j',out,mg,ac,bc,rfl,.inr ⟨rfl,L',y1,y2,y3,y4,y5⟩⟩
   case post2=>
    rintro c v ⟨g3,o,i',j',out,mg,ac,bc,rfl,(⟨r,rfl,hm⟩ | ⟨rfl,L',y1,y2,y3,y4,y5⟩)⟩
    ·exact wpS_pure ⟨g3,_,_,_,_,_,rfl,hm⟩
    dsimp only
    refine wpS_bind (rR g3 λv2 g4=>?_)
    exact wpS_pure ⟨g4,_,_,_,_,rfl,L',y1,y2,y3,y4,by omega⟩
   case step2=>
    rintro y c v _ yn ⟨g3,i',j',out,mg,ac,bc,rfl,L',y1,y2,y3,y4,y5⟩
    dsimp only
    obtain⟨tb,qb,eb⟩:=ib (j' - 1) (by omega)
    refine Decidable.byCases (p:=mg > 1) (λhmg=>?tA) (λhmg=>?tB)
    case' tA=>
     rw [if_pos hmg]
     clear hmg
     generalize mg - 1=mg'
     revert mg'
    case tB=>
     rw [if_neg hmg]
     exact ?tA mg
    case tA=>
     intro mg'
     refine wpS_bind (rR g3 λv2 g4=>?_)
     refine wpS_bind (cH eb ?_)
     refine wpS_bind (AE g4 ia (by omega) (ra.sub (by omega) (by omega)) (by omega) λk k1 k2 k3=>?_)
     dsimp only
     simp only [Nat.zero_add]at k2 k3
     have kl:0 < k->K a (k - 1)<=K b (j' - 1):=λhk=>k2 (k - 1) (by omega)
     have L2:=L'.takeA (i:=k) (k:=i' - k) (by omega) ra rb y4 λn n1 n2 n3 n4=>Int.le_of_lt (k3 n n1 n2)
     rw [<- si]at L2
     refine Decidable.byCases (p:=i' - k > 0) (λhk=>?uA) (λhk=>?uB)
     case' uA=>
      rw [if_pos hk]
      by_cases ea1:k=0
      ·rw [if_pos (by simpa using ea1)]
       exact wpS_pure ⟨g4,_,_,_,_,_,_,_,rfl,.inl ⟨_,rfl,L2.done ra rb ea1 y4⟩⟩
      rw [if_neg (by simpa using ea1)]
      have kl1:=kl (by omega)
      have I1:0 < k:=by omega
      have I2:k<=a.size:=by omega
      have I3:k+j'+1<=i+j:=by omega
      clear ea1 hk
      revert L2 kl1 I1 I2 I3
      generalize out++(a.extract k i').reverse=O
      generalize i' - k=ct
      generalize k=I
      revert O ct I
     case uB=>
      rw [if_neg hk]
      have e:k=i':=by omega
      have kl1:=kl (by omega)
      rw [e]at kl1
      exact ?uA out _ i' L' kl1 y1 y2 y5
     case uA=>
      intro O ct I L2 kl I1 I2 I3
      refine wpS_bind (cH eb ?_)
      have L3:=L2.takeB (i:=j' - 1) (k:=1) (by omega) ra rb I2 λn n1 n2 n3 n4=>by rw [show n=j' - 1 by omega];exact kl
      have e1:=gm (out:=O) eb
      rw [show j' - 1+1=j' by omega]at e1
      rw [<- e1]at L3
      by_cases eb1:j' - 1=1
      ·rw [if_pos (by simpa using eb1)]
       exact wpS_pure ⟨g4,_,_,_,_,_,_,_,rfl,.inl ⟨_,rfl,L3.firstB ra rb I2 eb1 zb hf'⟩⟩
      rw [if_neg (by simpa using eb1)]
      obtain⟨ta,qa,ea⟩:=ia (I - 1) (by omega)
      refine wpS_bind (cH ea ?_)
      refine wpS_bind (AD g4 ib (by omega) (rb.sub (by omega) (by omega)) (by omega) λm m1 m2 m3=>?_)
      dsimp only
      simp only [Nat.zero_add]at m2 m3
      have mz:0 < m:=by
       apply Classical.byContradiction
       intro hm
       have:=m3 0 (by omega) (by omega)
       have:=hf (I - 1) (by omega)
       omega
      have L4:=L3.takeB (i:=m) (k:=j' - 1 - m) (by omega) ra rb I2 λn n1 n2 n3 n4=>m3 n n1 n2
      rw [<- si]at L4
      refine Decidable.byCases (p:=j' - 1 - m > 0) (λhm=>?vA) (λhm=>?vB)
      case' vA=>
       rw [if_pos hm]
       by_cases eb2:m=1
       ·rw [if_pos (by simpa using eb2)]
        exact wpS_pure ⟨g4,_,_,_,_,_,_,_,rfl,.inl ⟨_,rfl,L4.firstB ra rb I2 eb2 zb hf'⟩⟩
       rw [if_neg (by simpa using eb2),if_neg (by simp only [beq_iff_eq];omega)]
       have L5:=L4.takeA (i:=I - 1) (k:=1) (by omega) ra rb (by omega) λn n1 n2 n3 n4=>by
        rw [show n=I - 1 by omega];exact Int.le_of_lt (m2 (m - 1) (by omega))
       have J1:1 < m:=by omega
       have J2:m<=b.size:=by omega
       have J3:I - 1+m+1<=i+j:=by omega
       clear eb2 hm
       revert L5 J1 J2 J3
       generalize O.push (Value.int (K b (j' - 1)) tb,qb)++(b.extract m (j' - 1)).reverse=O2
       generalize j' - 1 - m=ct2
       generalize m=M
       revert O2 ct2 M
      case vB=>
       rw [if_neg hm]
       have L5:=L3.takeA (i:=I - 1) (k:=1) (by omega) ra rb (by omega) λn n1 n2 n3 n4=>by
        rw [show n=I - 1 by omega]
        have:=m2 (j' - 1 - 1) (by omega)
        exact Int.le_of_lt this
       exact ?vA _ _ (j' - 1) L5 (by omega) (by omega) (by omega)
      case vA=>
       intro O2 ct2 M L5 J1 J2 J3
       refine wpS_bind (cH ea ?_)
       have e3:=gm (out:=O2) ea
       rw [show I - 1+1=I by omega]at e3
       rw [<- e3]at L5
       by_cases ea2:I - 1=0
       ·rw [if_pos (by simpa using ea2)]
        exact wpS_pure ⟨g4,_,_,_,_,_,_,_,rfl,.inl ⟨_,rfl,L5.done ra rb ea2 J2⟩⟩
       rw [if_neg (by simpa using ea2)]
       split
       ·exact wpS_pure ⟨g4,_,_,_,_,_,_,_,rfl,.inr ⟨rfl,L5,by omega,by omega,J1,J2,by omega⟩⟩
       ·exact wpS_pure ⟨g4,_,_,_,_,_,_,rfl,L5,by omega,by omega,J1,J2,by omega⟩
end
end L2
namespace L2
open PySem PySem.Spec PyProof.Rows
theorem o3 {xs:Array Keyed}{a n:Nat} (h:a+n<=xs.size):Ris xs a (a+n)↔(((xs.toList.drop a).take n).map ky).Pairwise (·<=·):=by
 rw [List.pairwise_iff_getElem]
 have hk:∀i (hi:i < (((xs.toList.drop a).take n).map ky).length),(((xs.toList.drop a).take n).map ky)[i]=K xs (a+i):=by
  intro i hi
  rw [List.length_map,List.length_take,List.length_drop,Array.length_toList]at hi
  rw [List.getElem_map,List.getElem_take,List.getElem_drop,yU (getElem?_pos xs (a+i) (by omega))]
  rfl
 constructor
 ·intro r i j hi hj hij
  rw [hk i hi,hk j hj]
  rw [List.length_map,List.length_take,List.length_drop,Array.length_toList]at hi hj
  exact r _ _ (by omega) (by omega) (by omega)
 ·intro r i j h1 h2 h3
  by_cases e:i=j
  ·rw [e];exact Int.le_refl _
  ·have hl:(((xs.toList.drop a).take n).map ky).length=n:=by
    rw [List.length_map,List.length_take,List.length_drop,Array.length_toList];omega
   have:=r (i - a) (j - a) (by omega) (by omega) (by omega)
   rw [hk,hk,show a+(i - a)=i from Nat.add_sub_of_le (by omega),show a+(j - a)=j from Nat.add_sub_of_le (by omega)]at this
   exact this
theorem pJ (base:Nat):∀(l:List Keyed) (n:Nat) (xs:Array Keyed),base+n+l.length<=xs.size->
  ((l.zipIdx n).foldl (λa x=>a.setIfInBounds (base+x.snd) x.fst) xs).toList=xs.toList.take (base+n)++l++xs.toList.drop (base+n+l.length)
 | [],n,xs,h=>by simp
 | x::l,n,xs,h=>by
  rw [List.length_cons]at h
  rw [List.zipIdx_cons,List.foldl_cons,pJ base l (n+1) _ (by rw [Array.size_setIfInBounds];omega)]
  dsimp only
  rw [Array.toList_setIfInBounds,List.length_cons]
  have e1:(xs.toList.set (base+n) x).take (base+(n+1))=xs.toList.take (base+n)++[x]:=by
   apply List.ext_getElem?
   intro i
   rw [List.getElem?_take,List.getElem?_set,List.getElem?_append,List.getElem?_take]
   have hl:(xs.toList.take (base+n)).length=base+n:=by rw [List.length_take,Array.length_toList];exact Nat.min_eq_left (by omega)
   rw [hl]
   by_cases c1:i < base+n
   ·rw [if_pos (by omega),if_neg (by omega),if_pos c1,if_pos c1]
   ·by_cases c2:i=base+n
    ·subst c2
     rw [if_pos (by omega),if_pos rfl,if_neg c1,Nat.sub_self,if_pos (by rw [Array.length_toList];omega)]
     rfl
    ·rw [if_neg (by omega),if_neg c1]
     obtain⟨d,hd⟩:∃d,i - (base+n)=d+1:=⟨i - (base+n) - 1,by omega⟩
     rw [hd]
     simp
  have e2:(xs.toList.set (base+n) x).drop (base+(n+1)+l.length)=xs.toList.drop (base+n+(l.length+1)):=by
   rw [List.drop_set_of_lt (by omega)]
   congr 1
   omega
  rw [e1,e2]
  simp
theorem sU {xs:Array Keyed}{a b i:Nat} (hb:b<=xs.size) (hi:i < b - a):(xs.extract a b)[i]?=xs[a+i]?:=by
 rw [Array.getElem?_extract,if_pos (by rw [Nat.min_eq_left hb];exact hi)]
theorem ln {xs:Array Keyed}{a b i:Nat} (hb:b<=xs.size) (hi:i < b - a):K (xs.extract a b) i=K xs (a+i):=K_congr (sU hb hi)
theorem iP {xs:Array Keyed}{a b:Nat} (hb:b<=xs.size):(xs.extract a b).size=b - a:=by
 rw [Array.size_extract,Nat.min_eq_left hb]
theorem og {xs:Array Keyed}{a b:Nat} (ik:IK xs) (hb:b<=xs.size):IK (xs.extract a b):=by
 intro i hi
 rw [iP hb]at hi
 obtain⟨t,q,e⟩:=ik (a+i) (by omega)
 exact⟨t,q,by rw [sU hb hi,ln hb hi];exact e⟩
theorem jr {xs:Array Keyed}{a b:Nat} (r:Ris xs a b) (hb:b<=xs.size):Ris (xs.extract a b) 0 (xs.extract a b).size:=by
 intro i j h1 h2 h3
 rw [iP hb]at h3
 rw [ln hb (by omega),ln hb h3]
 exact r _ _ (by omega) (by omega) (by omega)
theorem qT (L:List Keyed){i j k:Nat} (h1:i<=j) (h2:j<=k):L=L.take i++((L.drop i).take (j - i)++(L.drop j).take (k - j))++L.drop k:=by
 have e1:L.drop i=(L.drop i).take (j - i)++L.drop j:=by
  have:=eF L i (j - i)
  rwa [show i+(j - i)=j from Nat.add_sub_of_le (by omega)]at this
 have e2:L.drop j=(L.drop j).take (k - j)++L.drop k:=by
  have:=eF L j (k - j)
  rwa [show j+(k - j)=k from Nat.add_sub_of_le (by omega)]at this
 calc L=L.take i++L.drop i:=(List.take_append_drop i L).symm
  _=L.take i++((L.drop i).take (j - i)++((L.drop j).take (k - j)++L.drop k)):=by rw [<- e2,<- e1]
  _=_:=by simp only [List.append_assoc]
theorem ud {xs ys:Array Keyed}{M:Array Keyed}{sa sb na nb i k:Nat} (h1:sa<=i) (h2:i<=sb) (h3:sb<=k) (h4:k<=sb+nb) (h5:sb=sa+na) (hz:sb+nb<=xs.size)
  (m:Mg (xs.extract i sb) (xs.extract sb k) M) (e:ys.toList=xs.toList.take i++M.toList++xs.toList.drop k)
  (ra:Ris xs sa sb) (rb:Ris xs sb (sb+nb)) (lo:∀j,sa<=j->j < i->∀j',sb<=j'->j' < sb+nb->K xs j<=K xs j') (hi:∀j,sa<=j->j < sb->∀j',k<=j'->j' < sb+nb->K xs j<=K xs j') :
  ys.Perm xs/\Ris ys sa (sb+nb)/\(∀j,j < sa\/sb+nb<=j->K ys j=K xs j):=by
 have ex:(xs.extract i sb).toList=(xs.toList.drop i).take (sb - i):=by
  have:=bD xs i (sb - i)
  rwa [show i+(sb - i)=sb from Nat.add_sub_of_le (by omega)]at this
 have ey:(xs.extract sb k).toList=(xs.toList.drop sb).take (k - sb):=by
  have:=bD xs sb (k - sb)
  rwa [show sb+(k - sb)=k from Nat.add_sub_of_le (by omega)]at this
 have mp:=m.pm
 rw [ex,ey]at mp
 have ml:M.toList.length=k - i:=by
  rw [mp.length_eq,List.length_append,List.length_take,List.length_take,List.length_drop,List.length_drop,Array.length_toList,Nat.min_eq_left (by omega),Nat.min_eq_left (by omega)]
  omega
 have pm:ys.toList.Perm xs.toList:=by
  rw [e]
  conv=>rhs;rw [qT xs.toList h2 h3]
  exact(mp.append_left _).append_right _
 have ysz:ys.size=xs.size:=by rw [<- Array.length_toList,<- Array.length_toList];exact pm.length_eq
 refine⟨Array.perm_iff_toList_perm.mpr pm,?_,?_⟩
 ·rw [show sb+nb=sa+(na+nb) by omega,o3 (by omega)]
  have el:(ys.toList.drop sa).take (na+nb)=(xs.toList.drop sa).take (i - sa)++(M.toList++(xs.toList.drop k).take (sb+nb - k)):=by
   rw [e,List.append_assoc,List.drop_append,List.take_append]
   have z:(xs.toList.take i).length=i:=by rw [List.length_take,Array.length_toList];exact Nat.min_eq_left (by omega)
   rw [z,show sa - i=0 by omega,List.drop_zero,List.drop_take,List.take_take]
   rw [List.length_take,List.length_drop,Array.length_toList,Nat.min_eq_right (show i - sa<=na+nb by omega),Nat.min_eq_left (show i - sa<=xs.size - sa by omega)]
   congr 1
   rw [List.take_append,ml]
   rw [List.take_of_length_le (by omega),Nat.sub_sub,show i - sa+(k - i)=k - sa by omega,show na+nb - (k - sa)=sb+nb - k by rw [h5];omega]
  have mem:∀q∈M.toList,(∃j,i<=j/\j < sb/\ky q=K xs j)\/(∃j,sb<=j/\j < k/\ky q=K xs j):=by
   intro q hq
   rcases List.mem_append.mp (mp.mem_iff.mp hq) with hq | hq
   ·obtain⟨j,j1,j2,j3,e⟩:=bC hq
    exact .inl ⟨j,j1,by omega,e⟩
   ·obtain⟨j,j1,j2,j3,e⟩:=bC hq
    exact .inr ⟨j,j1,by omega,e⟩
  rw [el,List.map_append,List.map_append,List.pairwise_append,List.pairwise_append]
  refine⟨(o3 (by omega)).mp (ra.sub (Nat.le_refl _) (by omega)),⟨m.so,?_,?_⟩,?_⟩
  ·exact(o3 (by omega)).mp (rb.sub h3 (by omega))
  ·intro x hx y hy
   obtain⟨q,hq,rfl⟩:=List.mem_map.mp hx
   obtain⟨p,hp,rfl⟩:=List.mem_map.mp hy
   obtain⟨j',a1,a2,a3,e'⟩:=bC hp
   rw [e']
   rcases mem q hq with⟨j,j1,j2,e⟩ | ⟨j,j1,j2,e⟩
   ·rw [e];exact hi j (by omega) j2 j' a1 (by omega)
   ·rw [e];exact rb j j' j1 (by omega) (by omega)
  ·intro x hx y hy
   obtain⟨q,hq,rfl⟩:=List.mem_map.mp hx
   rw [<- List.map_append]at hy
   obtain⟨p,hp,rfl⟩:=List.mem_map.mp hy
   obtain⟨j,j1,j2,j3,e⟩:=bC hq
   rw [e]
   rcases List.mem_append.mp hp with hp | hp
   ·rcases mem p hp with⟨j',a1,a2,e'⟩ | ⟨j',a1,a2,e'⟩
    ·rw [e'];exact ra j j' j1 (by omega) a2
    ·rw [e'];exact lo j j1 (by omega) j' a1 (by omega)
   ·obtain⟨j',a1,a2,a3,e'⟩:=bC hp
    rw [e'];exact lo j j1 (by omega) j' (by omega) (by omega)
 ·intro j hj
  apply K_congr
  rw [<- Array.getElem?_toList,<- Array.getElem?_toList,e]
  rcases hj with hj | hj
  ·rw [List.append_assoc,List.getElem?_append_left (by rw [List.length_take,Array.length_toList,Nat.min_eq_left (by omega)];omega),List.getElem?_take,if_pos (by omega)]
  ·rw [List.getElem?_append_right (by rw [List.length_append,List.length_take,Array.length_toList,ml,Nat.min_eq_left (by omega)];omega),List.length_append,List.length_take,Array.length_toList,ml,List.getElem?_drop,Nat.min_eq_left (show i<=xs.size by omega)]
   congr 1
   omega
section
variable {prog:Program}{w:World}{A:Around}{E:Value->Shared->Prop}{s:Shared}{a₀:Array Keyed}{p:Array (Nat × Nat × Nat)}
theorem AZ {Y:Type}{st x:Y}{Q:PUnit->Y->Prop} (h:Q ⟨⟩ x):wpS (model prog w) A E s (set x:StateT Y Sem PUnit) Q st:=by
 unfold wpS;rw [StateT.run_set];exact wpAny_pure ⟨rfl,h⟩
theorem AY {st:SortSt}{i sa na sb nb w1 w2:Nat}{Q:Bool->SortSt->Prop} (h0:IntKeys a₀) (g:SG a₀ p st) (e1:p[i]?=some (sa,na,w1)) (e2:p[i+1]?=some (sb,nb,w2))
  (h5:sb=sa+na) (hz:sb+nb<=a₀.size) (za:0 < na) (zb:0 < nb) (ra:Ris (arrOf st) sa sb) (rb:Ris (arrOf st) sb (sb+nb))
  (h:∀v,SG a₀ ((p.setIfInBounds i (sa,na+nb,w1)).eraseIdxIfInBounds (i+1)) v->Ris (arrOf v) sa (sb+nb)->(∀j,j < sa\/sb+nb<=j->K (arrOf v) j=K (arrOf st) j)->Q true v) :
  wpS (model prog w) A E s (mergeAt' i) Q st:=by
 unfold mergeAt'
 k_delta "mergeAt"
 dsimp only
 refine wpS_bind (wpS_get ?_)
 have hp:=g.pd
 have sz:=g.sz
 have ik:IK (arrOf st):=λj hj=>g.get h0 (by omega)
 obtain⟨tb,qb,eb⟩:=ik sb (by omega)
 obtain⟨ta,qa,ea⟩:=ik (sb - 1) (by omega)
 have o1:(pendingOf st)[i]?=some (sa,na,w1):=by rw [hp];exact e1
 have o2:(pendingOf st)[i+1]?=some (sb,nb,w2):=by rw [hp];exact e2
 show wpS _ _ _ _ (match ((pendingOf st)[i]?,(pendingOf st)[i+1]?) with | (some (sa,na,power),some (sb,nb,snd))=>_ | _=>_) _ _
 rw [o1,o2]
 dsimp only
 refine wpS_bind (AZ ?_)
 have hp2:((pendingOf st).setIfInBounds i (sa,na+nb,w1)).eraseIdxIfInBounds (i+1)=(p.setIfInBounds i (sa,na+nb,w1)).eraseIdxIfInBounds (i+1):=by rw [hp]
 have g2:SG a₀ ((p.setIfInBounds i (sa,na+nb,w1)).eraseIdxIfInBounds (i+1)) (SortSt.mk' (kindOf st) (arrOf st) (((pendingOf st).setIfInBounds i (sa,na+nb,w1)).eraseIdxIfInBounds (i+1)) (gallopOf st) (failedOf st)):=⟨g.pm,g.kd,g.fl,hp2⟩
 have s2:SS (SortSt.mk' (kindOf st) (arrOf st) (((pendingOf st).setIfInBounds i (sa,na+nb,w1)).eraseIdxIfInBounds (i+1)) (gallopOf st) (failedOf st)) (SortSt.mk' (kindOf st) (arrOf st) (((pendingOf st).setIfInBounds i (sa,na+nb,w1)).eraseIdxIfInBounds (i+1)) (gallopOf st) (failedOf st)):=⟨rfl,rfl,g.kd,g.fl⟩
 refine wpS_bind (cH eb ?_)
 refine wpS_bind (AE (arr:=arrOf st) s2 ik (by omega) (by rw [<- h5];exact ra) (by omega) λk k1 k2 k3=>?_)
 dsimp only
 by_cases kn:na - k=0
 ·rw [if_pos (by simpa using kn)]
  refine wpS_pure (h _ g2 (λj j' a1 a2 a3=>?_) λ_ _=>rfl)
  by_cases c1:j' < sb
  ·exact ra j j' a1 a2 c1
  ·by_cases c2:j < sb
   ·have:=k2 (j - sa) (by omega)
    rw [show sa+(j - sa)=j from Nat.add_sub_of_le (by omega)]at this
    exact Int.le_trans this (rb sb j' (Nat.le_refl _) (by omega) a3)
   ·exact rb j j' (by omega) a2 a3
 rw [if_neg (by simpa using kn)]
 rw [show sa+k+(na - k) - 1=sb - 1 by rw [Nat.add_assoc,Nat.add_sub_of_le (by omega),h5]]
 refine wpS_bind (cH ea ?_)
 refine wpS_bind (AD (arr:=arrOf st) s2 ik (by omega) rb (by omega) λm m1 m2 m3=>?_)
 dsimp only
 by_cases mz:m=0
 ·rw [if_pos (by simpa using mz)]
  refine wpS_pure (h _ g2 (λj j' a1 a2 a3=>?_) λ_ _=>rfl)
  by_cases c1:j' < sb
  ·exact ra j j' a1 a2 c1
  ·by_cases c2:j < sb
   ·have:=m3 (j' - sb) (by omega) (by omega)
    rw [show sb+(j' - sb)=j' by omega]at this
    exact Int.le_trans (ra j (sb - 1) a1 (by omega) (by omega)) this
   ·exact rb j j' (by omega) a2 a3
 rw [if_neg (by simpa using mz)]
 have zx:((arrOf st).extract (sa+k) sb).size=sb - (sa+k):=iP (by omega)
 have zy:((arrOf st).extract sb (sb+m)).size=m:=by rw [iP (by omega)];omega
 have kk:∀j,sa+k<=j->j < sb->K (arrOf st) sb < K (arrOf st) j:=λj j1 j2=>by
  have:=k3 (j - sa) (by omega) (by omega)
  rwa [show sa+(j - sa)=j from Nat.add_sub_of_le (by omega)]at this
 have mm:∀j,sb<=j->j < sb+m->K (arrOf st) j < K (arrOf st) (sb - 1):=λj j1 j2=>by
  have:=m2 (j - sb) (by omega)
  rwa [show sb+(j - sb)=j from Nat.add_sub_of_le (by omega)]at this
 have hf:∀j,j < ((arrOf st).extract (sa+k) sb).size->K ((arrOf st).extract sb (sb+m)) 0 < K ((arrOf st).extract (sa+k) sb) j:=λj hj=>by
  rw [ln (by omega) (by omega),ln (by omega) (by omega)]
  exact kk _ (by omega) (by omega)
 have hl:∀j,j < ((arrOf st).extract sb (sb+m)).size->K ((arrOf st).extract sb (sb+m)) j < K ((arrOf st).extract (sa+k) sb) (((arrOf st).extract (sa+k) sb).size - 1):=λj hj=>by
  rw [ln (by omega) (by omega),ln (by omega) (by omega),zx,show sa+k+(sb - (sa+k) - 1)=sb - 1 by rw [<- Nat.add_sub_assoc (by omega),Nat.add_sub_of_le (by omega)]]
  exact mm _ (by omega) (by omega)
 have fin:∀M v,SS (SortSt.mk' (kindOf st) (arrOf st) (((pendingOf st).setIfInBounds i (sa,na+nb,w1)).eraseIdxIfInBounds (i+1)) (gallopOf st) (failedOf st)) v->Mg ((arrOf st).extract (sa+k) sb) ((arrOf st).extract sb (sb+m)) M->
   Q true (setArr v (M.toList.zipIdx.foldl (λa x=>a.setIfInBounds (sa+k+x.snd) x.fst) (arrOf v))):=by
  intro M v sv mg
  have ml:M.toList.length=sb - (sa+k)+m:=by
   rw [mg.pm.length_eq,List.length_append,Array.length_toList,Array.length_toList,zx,zy]
  have ar:arrOf v=arrOf st:=sv.ar
  have el:=pJ (sa+k) M.toList 0 (arrOf v) (by rw [ar,ml];omega)
  rw [ar,Nat.add_zero,ml,show sa+k+(sb - (sa+k)+m)=sb+m by rw [<- Nat.add_assoc,Nat.add_sub_of_le (by omega)]]at el
  have r:=ud (by omega) (by omega) (by omega) (by omega) h5 (by omega) mg el ra rb (λj a1 a2 j' a3 a4=>?_) (λj a1 a2 j' a3 a4=>?_)
  ·have e4:arrOf (setArr v (M.toList.zipIdx.foldl (λa x=>a.setIfInBounds (sa+k+x.snd) x.fst) (arrOf v)))=M.toList.zipIdx.foldl (λa x=>a.setIfInBounds (sa+k+x.snd) x.fst) (arrOf st):=by
    show M.toList.zipIdx.foldl (λa x=>a.setIfInBounds (sa+k+x.snd) x.fst) (arrOf v)=_
    rw [ar]
   refine h _ ⟨?_,sv.kd,sv.fl,sv.pd.trans hp2⟩ ?_ ?_
   ·rw [e4];exact r.1.trans g.pm
   ·rw [e4];exact r.2.1
   ·rw [e4];exact r.2.2
  ·have:=k2 (j - sa) (by omega)
   rw [show sa+(j - sa)=j from Nat.add_sub_of_le (by omega)]at this
   exact Int.le_trans this (rb sb j' (Nat.le_refl _) a3 a4)
  ·have:=m3 (j' - sb) (by omega) (by omega)
   rw [show sb+(j' - sb)=j' by omega]at this
   exact Int.le_trans (ra j (sb - 1) a1 (by omega) (by omega)) this
 have isn:∀v,SS (SortSt.mk' (kindOf st) (arrOf st) (((pendingOf st).setIfInBounds i (sa,na+nb,w1)).eraseIdxIfInBounds (i+1)) (gallopOf st) (failedOf st)) v->∀xs,(failedOf (setArr v xs)).isNone=true:=λv sv xs=>by
  show (failedOf v).isNone=true
  rw [sv.fl];rfl
 by_cases c:na - k<=m
 ·rw [if_pos c]
  refine wpS_bind (AW (a:=(arrOf st).extract (sa+k) sb) (b:=(arrOf st).extract sb (sb+m)) s2 (og ik (by omega)) (og ik (by omega)) (jr (ra.sub (by omega) (by omega)) (by omega)) (jr (rb.sub (by omega) (by omega)) (by omega)) (by omega) (by omega) (λj hj=>Int.le_of_lt (hf j hj)) hl λM v sv mg=>?_)
  refine wpS_bind (wpS_modify (wpS_bind (wpS_get ?_)))
  have:=wpS_pure (M:=model prog w) (A:=A) (E:=E) (s:=s) (fin M v sv mg)
  rw [<- isn v sv]at this
  exact this
 ·rw [if_neg c]
  refine wpS_bind (AX (a:=(arrOf st).extract (sa+k) sb) (b:=(arrOf st).extract sb (sb+m)) s2 (og ik (by omega)) (og ik (by omega)) (jr (ra.sub (by omega) (by omega)) (by omega)) (jr (rb.sub (by omega) (by omega)) (by omega)) (by omega) (by omega) hf hl λM v sv mg=>?_)
  refine wpS_bind (wpS_modify (wpS_bind (wpS_get ?_)))
  have:=wpS_pure (M:=model prog w) (A:=A) (E:=E) (s:=s) (fin M v sv mg)
  rw [<- isn v sv]at this
  exact this
end
end L2
namespace L2
open PySem PySem.Spec PyProof.Rows
noncomputable def pr (q:Nat × Nat × Nat):Nat × Nat:=(q.1,q.2.1)
def dh (xs:Array Keyed):List (Nat × Nat)->Nat->Nat->Prop
 | [],lo,hi=>lo=hi
 | (b,n)::r,lo,hi=>b=lo/\1<=n/\Ris xs lo (lo+n)/\dh xs r (lo+n) hi
theorem dh.len {xs:Array Keyed}:∀{l:List (Nat × Nat)}{lo hi:Nat},dh xs l lo hi->lo+l.length<=hi
 | [],lo,hi,h=>by cases h;simp
 | (b,n)::r,lo,hi,h=>by
  have:=h.2.2.2.len
  have:=h.2.1
  rw [List.length_cons];omega
theorem dh.app {xs:Array Keyed}:∀{l r:List (Nat × Nat)}{lo hi:Nat},dh xs (l++r) lo hi↔∃m,dh xs l lo m/\dh xs r m hi
 | [],r,lo,hi=>⟨λh=>⟨lo,rfl,h⟩,λ⟨m,e,h⟩=>by cases e;exact h⟩
 | (b,n)::l,r,lo,hi=>by
  constructor
  ·rintro⟨h1,h2,h3,h4⟩
   obtain⟨m,a,b⟩:=dh.app.mp h4
   exact⟨m,⟨h1,h2,h3,a⟩,b⟩
  ·rintro⟨m,⟨h1,h2,h3,h4⟩,h5⟩
   exact⟨h1,h2,h3,dh.app.mpr ⟨m,h4,h5⟩⟩
theorem Ris.same {xs ys:Array Keyed}{a b:Nat} (r:Ris xs a b) (h:∀k,a<=k->k < b->K ys k=K xs k):Ris ys a b:=λi j h1 h2 h3=>by
 rw [h i h1 (by omega),h j (by omega) h3];exact r i j h1 h2 h3
theorem dh.same {xs ys:Array Keyed}:∀{l:List (Nat × Nat)}{lo hi:Nat},dh xs l lo hi->(∀k,lo<=k->k < hi->K ys k=K xs k)->dh ys l lo hi
 | [],lo,hi,h,_=>h
 | (b,n)::r,lo,hi,h,e=>⟨h.1,h.2.1,h.2.2.1.same λk k1 k2=>e k k1 (by have:=h.2.2.2.len;omega),h.2.2.2.same λk k1 k2=>e k (by omega) k2⟩
theorem kS {p:Array (Nat × Nat × Nat)}{i:Nat}{x y z:Nat × Nat × Nat}{l r:List (Nat × Nat × Nat)} (e:p.toList=l++x::y::r) (hl:l.length=i) :
  ((p.setIfInBounds i z).eraseIdxIfInBounds (i+1)).toList=l++z::r:=by
 have hs:(p.setIfInBounds i z).toList=l++z::y::r:=by
  rw [Array.toList_setIfInBounds,e,<- hl,List.set_append_right _ _ (Nat.le_refl _),Nat.sub_self]
  rfl
 have hz:i+1 < (p.setIfInBounds i z).size:=by
  rw [<- Array.length_toList,hs,List.length_append,hl]
  simp
 unfold Array.eraseIdxIfInBounds
 rw [dif_pos hz,Array.toList_eraseIdx,hs,<- hl,List.eraseIdx_append_of_length_le (by omega),Nat.add_sub_cancel_left]
 rfl
section
variable {prog:Program}{w:World}{A:Around}{E:Value->Shared->Prop}{s:Shared}{a₀:Array Keyed}
theorem rj {st:SortSt}{p:Array (Nat × Nat × Nat)}{i hi:Nat}{Q:Bool->SortSt->Prop} (h0:IntKeys a₀) (g:SG a₀ p st) (r:dh (arrOf st) (p.toList.map pr) 0 hi) (hh:hi<=a₀.size) (hi2:i+1 < p.size)
  (h:∀v p',SG a₀ p' v->dh (arrOf v) (p'.toList.map pr) 0 hi->p'.size+1=p.size->(∀k,hi<=k->K (arrOf v) k=K (arrOf st) k)->Q true v) :
  wpS (model prog w) A E s (mergeAt' i) Q st:=by
 obtain⟨sa,na,w1,e1⟩:∃sa na w1,p[i]?=some (sa,na,w1):=⟨_,_,_,getElem?_pos p i (by omega)⟩
 obtain⟨sb,nb,w2,e2⟩:∃sb nb w2,p[i+1]?=some (sb,nb,w2):=⟨_,_,_,getElem?_pos p (i+1) hi2⟩
 have ep:p.toList=p.toList.take i++(sa,na,w1)::(sb,nb,w2)::p.toList.drop (i+2):=by
  conv=>lhs;rw [<- List.take_append_drop i p.toList]
  congr 1
  have l1:i < p.toList.length:=by rw [Array.length_toList];omega
  have l2:i+1 < p.toList.length:=by rw [Array.length_toList];omega
  rw [List.drop_eq_getElem_cons l1,List.drop_eq_getElem_cons l2]
  have g1:p.toList[i]=(sa,na,w1):=by
   have:=Array.getElem?_toList (xs:=p) (i:=i)
   rw [e1,List.getElem?_eq_getElem l1]at this
   exact Option.some.inj this
  have g2:p.toList[i+1]=(sb,nb,w2):=by
   have:=Array.getElem?_toList (xs:=p) (i:=i+1)
   rw [e2,List.getElem?_eq_getElem l2]at this
   exact Option.some.inj this
  rw [g1,g2]
 have ll:(p.toList.take i).length=i:=by rw [List.length_take,Array.length_toList];omega
 have r1:=r
 rw [ep,List.map_append,List.map_cons,List.map_cons]at r1
 obtain⟨m,ra,rb1,rb2,rb3,rc1,rc2,rc3,rd⟩:=dh.app.mp r1
 have rb1':sa=m:=rb1
 have rc1':sb=m+na:=rc1
 have rb2':1<=na:=rb2
 have rc2':1<=nb:=rc2
 subst rb1'
 have hd:=rd.len
 have hl:=ra.len
 have hd':sa+na+nb+(List.map pr (List.drop (i+2) p.toList)).length<=hi:=hd
 refine AY h0 g e1 e2 rc1' (by omega) (by omega) (by omega) (by rw [rc1'];exact rb3) (by rw [rc1'];exact rc3) λv gv rv kv=>?_
 refine h v _ gv ?_ ?_ λk hk=>kv k (.inr (by omega))
 ·rw [kS ep ll,List.map_append,List.map_cons]
  refine dh.app.mpr ⟨sa,ra.same λk _ k2=>kv k (.inl k2),rfl,(show 1<=na+nb by omega),?_,?_⟩
  ·show Ris (arrOf v) sa (sa+(na+nb))
   rw [<- Nat.add_assoc,<- rc1']
   exact rv
  ·show dh (arrOf v) _ (sa+(na+nb)) hi
   rw [<- Nat.add_assoc]
   exact rd.same λk k1 k2=>kv k (.inr (by rw [rc1'];exact k1))
 ·have e3:=congrArg List.length (kS (z:=(sa,na+nb,w1)) ep ll)
  have e4:=congrArg List.length ep
  rw [Array.length_toList,List.length_append,ll]at e3 e4
  rw [List.length_cons]at e3
  rw [List.length_cons,List.length_cons]at e4
  omega
theorem qP (p:Array (Nat × Nat × Nat)) (i x:Nat):(p.modify i λq=>(q.1,q.2.1,x)).toList.map pr=p.toList.map pr:=by
 apply List.ext_getElem?
 intro k
 rw [List.getElem?_map,List.getElem?_map,Array.getElem?_toList,Array.getElem?_toList,Array.getElem?_modify]
 split
 ·cases p[k]? <;> rfl
 ·rfl
theorem uK {st:SortSt}{Q:Unit->SortSt->Prop} (h0:IntKeys a₀) (g:SG a₀ #[] st) (h2:2<=a₀.size)
  (h:∀v,(arrOf v).Perm a₀->failedOf v=none->SortedTo (arrOf v) a₀.size->Q () v):wpS (model prog w) A E s sortRuns' Q st:=by
 rw [sortRuns'_eq]
 dsimp only
 refine wpS_bind (wpS_get ?_)
 rw [g.sz]
 generalize minRun' a₀.size a₀.size 0=mr
 refine wpS_bind (wpS_mono (wpS_forRange (I:=λx c v=>∃lo p,c=(none,lo)/\SG a₀ p v/\dh (arrOf v) (p.toList.map pr) 0 lo/\lo<=a₀.size/\x<=lo)
  (Q:=λc v=>∃p,c=(none,a₀.size)/\SG a₀ p v/\dh (arrOf v) (p.toList.map pr) 0 a₀.size) ?step ?fin ⟨0,#[],rfl,g,rfl,by omega,by omega⟩) ?post)
 case fin=>
  rintro c v ⟨lo,p,rfl,gv,r,l1,l2⟩
  have e:lo=a₀.size:=by omega
  subst e
  exact⟨p,rfl,gv,r⟩
 case post=>
  rintro c v ⟨p,rfl,gv,r⟩
  dsimp only
  refine wpS_bind (wpS_mono (wpS_forRange (I:=λx c u=>c=(none,())/\∃p,SG a₀ p u/\dh (arrOf u) (p.toList.map pr) 0 a₀.size/\(p.size<=1\/p.size+x<=a₀.size))
   (Q:=λc u=>c=(none,())/\∃p,SG a₀ p u/\dh (arrOf u) (p.toList.map pr) 0 a₀.size/\p.size<=1) ?_ ?_ ⟨rfl,p,gv,r,.inr ?_⟩) ?_)
  ·rintro x c u _ xn ⟨rfl,p,gu,r,z⟩
   refine wpS_bind (wpS_get ?_)
   have ep:pendingOf u=p:=gu.pd
   rw [ep]
   by_cases c1:p.size<=1
   ·rw [if_pos c1]
    exact wpS_pure ⟨rfl,p,gu,r,c1⟩
   rw [if_neg c1]
   have bnd:∀b:Bool,(if b=true then p.size - 2 - 1 else p.size - 2)+1 < p.size:=λb=>by cases b <;> simp <;> omega
   refine wpS_bind (rj h0 gu r (Nat.le_refl _) (bnd _) λu2 p2 g2 r2 z2 _=>?_)
   exact wpS_pure ⟨rfl,p2,g2,r2,.inr (by omega)⟩
  ·rintro c u ⟨rfl,p,gu,r,z⟩
   exact⟨rfl,p,gu,r,by omega⟩
  ·have:=r.len
   rw [List.length_map,Array.length_toList]at this
   omega
  ·rintro c u ⟨rfl,p,gu,r,z⟩
   refine wpS_pure (h u gu.pm gu.fl λi j hij hj=>?_)
   have hz:p.toList.length<=1:=by rw [Array.length_toList];exact z
   generalize p.toList=l at r hz
   cases l with
   | nil=>
    have:0=a₀.size:=r
    omega
   | cons q t=>
    cases t with
    | nil=>
     obtain⟨r1,r2,r3,r4⟩:=r
     have r4':0+q.2.1=a₀.size:=r4
     exact r3 i j (by omega) hij (by omega)
    | cons q2 t=>simp at hz
 case step=>
  rintro x c v _ xn ⟨lo,p,rfl,gv,r,l1,l2⟩
  dsimp only
  by_cases c1:lo>=a₀.size
  ·rw [if_pos c1]
   have e:lo=a₀.size:=by omega
   subst e
   exact wpS_pure ⟨p,rfl,gv,r⟩
  rw [if_neg c1]
  have push:∀N (u:SortSt) (q:Array (Nat × Nat × Nat)),SG a₀ q u->dh (arrOf u) (q.toList.map pr) 0 lo->Ris (arrOf u) lo (lo+N)->1<=N->lo+N<=a₀.size->
    ∃lo' q',(none,lo+N)=((none,lo'):Option Unit × Nat)/\SG a₀ q' (setPending u ((pendingOf u).push (lo,N,0)))/\dh (arrOf (setPending u ((pendingOf u).push (lo,N,0)))) (q'.toList.map pr) 0 lo'/\lo'<=a₀.size/\x+1<=lo':=by
   intro N u q gq rq rn n1 n2
   refine⟨lo+N,q.push (lo,N,0),rfl,⟨gq.pm,gq.kd,gq.fl,?_⟩,?_,n2,by omega⟩
   ·show (pendingOf u).push _=_
    rw [gq.pd]
   ·rw [Array.toList_push,List.map_append]
    exact dh.app.mpr ⟨lo,rq,rfl,n1,rn,rfl⟩
  refine wpS_bind (tm h0 (by omega) (by omega) gv λm u gu lu m1 m2 rm=>?_)
  dsimp only
  have ru:dh (arrOf u) (p.toList.map pr) 0 lo:=r.same λk _ k2=>lu k k2
  by_cases hm:m < mr
  case' pos=>
   rw [if_pos hm]
   refine wpS_bind (wpS_lift (wpAny_rule ⟨rfl,?_⟩))
   refine wpS_bind (xJ h0 (n:=min (a₀.size - lo) mr) (by omega) (by omega) gu rm λu2 g2 lu2 rn=>?_)
   rw [if_neg (by decide)]
   have rq:dh (arrOf u2) (p.toList.map pr) 0 lo:=ru.same λk _ k2=>lu2 k k2
   have n1:1<=min (a₀.size - lo) mr:=by omega
   have n2:lo+min (a₀.size - lo) mr<=a₀.size:=by omega
   generalize min (a₀.size - lo) mr=N at *
  case' neg=>
   rw [if_neg hm]
   have g2:=gu
   have rn:=rm
   have rq:=ru
   have n1:=m1
   have n2:lo+m<=a₀.size:=by omega
   clear gu lu m2 rm ru hm m1
   generalize m=N at *
   generalize u=u2 at *
  all_goals
   refine wpS_bind (wpS_get ?_)
   have ep:pendingOf u2=p:=g2.pd
   cases hb:(pendingOf u2).back? with
   | none=>
    dsimp only
    exact wpS_bind (wpS_modify (wpS_pure (push N u2 p g2 rq rn n1 n2)))
   | some q=>
    obtain⟨s1,k1,w1⟩:=q
    dsimp only
    generalize power' a₀.size (2 * s1+k1) (2 * s1+k1+k1+N) a₀.size=pw
    refine wpS_bind (wpS_mono (wpS_forRange (I:=λ_ c u=>c=(none,())/\∃q,SG a₀ q u/\dh (arrOf u) (q.toList.map pr) 0 lo/\Ris (arrOf u) lo (lo+N))
     (Q:=λc u=>c=(none,())/\∃q,SG a₀ q u/\dh (arrOf u) (q.toList.map pr) 0 lo/\Ris (arrOf u) lo (lo+N)) ?_ (λ_ _ e=>e) ⟨rfl,p,g2,rq,rn⟩) ?_)
    ·rintro y c u3 _ _ ⟨rfl,q,g3,r3,rn3⟩
     refine wpS_bind (wpS_get ?_)
     have e3:pendingOf u3=q:=g3.pd
     rw [e3]
     by_cases cz:q.size > 1
     ·rw [if_pos cz,getElem?_pos q (q.size - 2) (by omega)]
      dsimp only
      split
      ·exact wpS_pure ⟨rfl,q,g3,r3,rn3⟩
      ·refine wpS_bind (rj h0 g3 r3 l1 (by omega) λu4 q4 g4 r4 z4 k4=>?_)
       exact wpS_pure ⟨rfl,q4,g4,r4,rn3.same λk a1 _=>k4 k a1⟩
     ·rw [if_neg cz]
      exact wpS_pure ⟨rfl,q,g3,r3,rn3⟩
    ·rintro c u3 ⟨rfl,q,g3,r3,rn3⟩
     dsimp only
     refine wpS_bind (wpS_modify (wpS_bind (wpS_modify (wpS_pure (push N _ _ ⟨g3.pm,g3.kd,g3.fl,rfl⟩ ?_ rn3 n1 n2)))))
     rw [qP,show pendingOf u3=q from g3.pd]
     exact r3
end
end L2
namespace L2
open PySem PySem.Spec PyProof.Rows
noncomputable def most:Nat:=1000
theorem cV {n:Nat} (h:n<=most):n<=sizeLine:=by
 rw [sizeLine_eq];unfold most at h;omega
section
variable {prog:Program}{w:World}{A:Around}{E:Value->Shared->Prop}{s:Shared}{hb:Heap}{fa:Addr}{mp:Str->Option Value}{bk:List (Addr × Obj)}{a st:Addr}{xs:List Value}{ks:List Int}{ka:Array Value}{c1 c2:Nat}
theorem oO {P:PySem.Fin->Shared->Prop}{u:SortSt} (F:Fr hb fa s.heap mp) (N:News hb fa s.heap (bk++[(st,seqObj "list" ka c2),(a,seqObj "list" #[] c1)])) (ne:st≠a) (n1:∀p∈bk,p.1≠st) (n2:∀p∈bk,p.1≠a)
  (kz:ka.size=xs.length) (hk:IntsAre ka.toList ks) (hz:xs.length<=most) (pm:(arrOf u).Perm (ka.zip xs.toArray)) (so:SortedTo (arrOf u) (arrOf u).size) (fl:failedOf u=none)
  (h:∀h' tk out c,Fr hb fa h' mp->News hb fa h' ((a,seqObj "list" out c)::bk)->KskOut false ks xs out.toList->P (.done (.ret .none)) { s with heap:=h',toks:=tk }) :
  wpAny (model prog w) A (ksk_tail a false c1 (.ref st) u) P E s:=by
 have i1:=N (st,seqObj "list" ka c2) (by simp)
 have i2:=N (a,seqObj "list" #[] c1) (by simp)
 have zo:((arrOf u).map (·.2)).size=xs.length:=by
  rw [Array.size_map,pm.size_eq,Array.size_zip,kz,List.size_toArray,Nat.min_self]
 have b1:=Heap.SameBut.update s.heap st (Obj.mapSeq λ_=>(#[]:Array Value))
 have i3:=(b1.2 a ne.symm).trans i2.1
 have b2:=Heap.SameBut.update (s.heap.update st (Obj.mapSeq λ_=>(#[]:Array Value))) a (Obj.mapSeq λ_=>(arrOf u).map (·.2))
 obtain⟨c3,i4⟩:∃c3,((s.heap.update st (Obj.mapSeq λ_=>(#[]:Array Value))).update a (Obj.mapSeq λ_=>(arrOf u).map (·.2))).get? a=some (seqObj "list" ((arrOf u).map (·.2)) c3):=⟨_,get?_update_seq i3 λ_=>(arrOf u).map (·.2)⟩
 unfold ksk_tail
 dsimp only
 refine wpAny_bind (listUpdate_at i1.1 rfl ?_ (by rw [kz];exact cV hz) (Nat.zero_le _))
 refine wpAny_bind (wpAny_letGo ?_)
 refine wpAny_bind (seqEpoch_at i3 rfl ?_)
 refine wpAny_bind (listUpdate_at i3 rfl ?_ (Nat.zero_le _) (by simp only [Bool.false_eq_true,if_false];rw [zo];exact Nat.le_succ_of_le (cV hz)))
 rw [fl]
 simp only [bne_self_eq_false,Bool.false_eq_true,if_false]
 have ko:=ksk_out (b:=false) hk pm so
 simp only [Bool.false_eq_true,if_false]at ko
 refine wpAny_pure (h _ _ _ c3 (ksk_fr (ksk_fr F b1 i1.2.1 i1.2.2) b2 i2.2.1 i2.2.2) (λp hp=>?_) ko)
 rcases List.mem_cons.mp hp with e | hp
 ·rw [e];exact⟨i4,i2.2⟩
 ·exact ksk_news (ksk_news (λq hq=>N q (List.mem_append_left _ hq)) b1 n1) b2 n2 p hp
theorem xR {P:PySem.Fin->Shared->Prop} (F:Fr hb fa s.heap mp) (N:News hb fa s.heap (bk++[(st,seqObj "list" ka c2),(a,seqObj "list" #[] c1)])) (ne:st≠a) (n1:∀p∈bk,p.1≠st) (n2:∀p∈bk,p.1≠a)
  (hk:IntsAre ka.toList ks) (hl:ks.length=xs.length) (hz:xs.length<=most)
  (h:∀h' tk out c,Fr hb fa h' mp->News hb fa h' ((a,seqObj "list" out c)::bk)->KskOut false ks xs out.toList->P (.done (.ret .none)) { s with heap:=h',toks:=tk }) :
  wpAny (model prog w) A (ksk_end a false xs.toArray c1 (.ref st) ka) P E s:=by
 have kz:ka.size=xs.length:=by
  have:=hk.length
  rw [Array.length_toList]at this
  omega
 have zz:(ka.zip xs.toArray).size=xs.length:=by rw [Array.size_zip,kz,List.size_toArray,Nat.min_self]
 unfold ksk_end
 dsimp only
 simp only [Bool.false_eq_true,if_false]
 by_cases few:xs.toArray.size < 2
 ·rw [if_pos few,if_pos few]
  refine wpAny_bind (wpAny_pure ?_)
  rw [StateT.run_pure]
  refine wpAny_bind (wpAny_pure ?_)
  refine oO (u:=SortSt.mk' general' (ka.zip xs.toArray) #[] 7 none) F N ne n1 n2 kz hk hz (Array.Perm.refl _) (λi j ij jz=>?_) rfl h
  have jz':j < (ka.zip xs.toArray).size:=jz
  rw [List.size_toArray]at few
  rw [show i=j by omega]
  exact Int.le_refl _
 ·rw [if_neg few,if_neg few]
  rw [List.size_toArray]at few
  rw [ksk_kind hk (by omega)]
  refine wpAny_bind (wpAny_pure ?_)
  have srt:=uK (prog:=prog) (w:=w) (A:=A) (E:=E) (s:=s) (a₀:=ka.zip xs.toArray) (st:=SortSt.mk' oneType' (ka.zip xs.toArray) #[] 7 none)
   (Q:=λ_ v=>(arrOf v).Perm (ka.zip xs.toArray)/\failedOf v=none/\SortedTo (arrOf v) (ka.zip xs.toArray).size) (ksk_intKeys hk) ⟨Array.Perm.refl _,rfl,rfl,rfl⟩ (by omega) λv a1 a2 a3=>⟨a1,a2,a3⟩
  refine wpAny_bind (wpAny_mono srt ?_ λ_ _ e=>e)
  rintro⟨⟨⟩,v⟩ s' ⟨rfl,pm,fl,so⟩
  exact oO F N ne n1 n2 kz hk hz pm (by rw [pm.size_eq];exact so) fl h
theorem uZ {P:PySem.Fin->Shared->Prop}{f:Value} (F:Fr hb fa s.heap mp) (N:News hb fa s.heap (bk++[(st,seqObj "list" #[] 0),(a,seqObj "list" #[] c1)])) (ne:st≠a) (n1:∀p∈bk,p.1≠st) (n2:∀p∈bk,p.1≠a)
  (hl:ks.length=xs.length) (hz:xs.length<=most)
  (ask:∀(i:Nat) (x:Value) (k:Int),xs[i]?=some x->ks[i]?=some k->∀(g:Heap) (tk:Nat) (own:List (Addr × Obj)),Fr hb fa g mp->News hb fa g (bk++own)->
   wpAny (model prog w) A (call f [x]) (KskEnd hb fa mp (bk++own) k { s with heap:=g,toks:=tk }) (λ_ _=>False) { s with heap:=g,toks:=tk })
  (h:∀h' tk out c,Fr hb fa h' mp->News hb fa h' ((a,seqObj "list" out c)::bk)->KskOut false ks xs out.toList->P (.done (.ret .none)) { s with heap:=h',toks:=tk }) :
  wpAny (model prog w) A (ksk_rest a f false xs.toArray c1 (.ref st)) P E s:=by
 unfold ksk_rest
 refine wpAny_bind (wpAny_rule ?_)
 rw [List.forIn_toArray]
 refine wpAny_bind (ksk_fold (λi s'=>∃g tk kA c,s'={ s with heap:=g,toks:=tk }/\Fr hb fa g mp/\News hb fa g (bk++[(st,seqObj "list" kA c),(a,seqObj "list" #[] c1)])/\IntsAre kA.toList (ks.take i)) xs 0 s
  ⟨s.heap,s.toks,#[],0,rfl,F,N,by simpa using IntsAre.nil⟩ ?one ?all)
 case one=>
  rintro j x s' hx ⟨g,tk,kA,c,rfl,F1,N1,hk⟩
  rw [Nat.zero_add]at hk
  have lj:j < xs.length:=(List.getElem?_eq_some_iff.mp hx).1
  have hkj:=List.getElem?_eq_getElem (l:=ks) (i:=j) (by omega)
  have zk:kA.size < most:=by
   have:=hk.length
   rw [Array.length_toList,List.length_take]at this
   omega
  refine wpAny_bind (wpAny_attempt (wpAny_mono (ask j x _ hx hkj g tk _ F1 N1) (λv s'' q=>?_) λ_ _ q=>q.elim))
  obtain⟨g2,tk2,t2,rfl,rfl,F2,N2⟩:=q
  dsimp only
  have i1:=N2 (st,seqObj "list" kA c) (by simp)
  have i2:=N2 (a,seqObj "list" #[] c1) (by simp)
  have b1:=Heap.SameBut.update g2 st (Obj.mapSeq (·.push (.int ks[j] t2)))
  obtain⟨c3,i3⟩:∃c3,(g2.update st (Obj.mapSeq (·.push (.int ks[j] t2)))).get? st=some (seqObj "list" (kA.push (.int ks[j] t2)) c3):=⟨_,get?_update_seq i1.1 (·.push (.int ks[j] t2))⟩
  refine wpAny_bind (listUpdate_at i1.1 rfl ?_ (cV (by omega)) (by rw [Array.size_push];exact Nat.succ_le_succ (cV (Nat.le_of_lt zk))))
  refine wpAny_pure ⟨rfl,_,_,kA.push (.int ks[j] t2),c3,rfl,ksk_fr F2 b1 i1.2.1 i1.2.2,λp hp=>?_,?_⟩
  ·rcases List.mem_append.mp hp with hp | hp
   ·exact ksk_news (λq hq=>N2 q (List.mem_append_left _ hq)) b1 n1 p hp
   ·rcases List.mem_cons.mp hp with e | hp
    ·rw [e];exact⟨i3,i1.2⟩
    ·rw [List.mem_singleton.mp hp]
     exact⟨(b1.2 a ne.symm).trans i2.1,i2.2⟩
  ·rw [Nat.zero_add,List.take_add_one,hkj,Array.toList_push]
   exact ksk_snoc hk
 case all=>
  rintro s' ⟨g,tk,kA,c,rfl,F1,N1,hk⟩
  rw [Nat.zero_add,List.take_of_length_le (by omega)]at hk
  try dsimp only
  refine wpAny_bind (listItems_at (N1 (st,seqObj "list" kA c) (by simp)).1 rfl ?_)
  exact xR F1 N1 ne n1 n2 hk hl hz λh3 tk3 out c F3 N3 k3=>h h3 tk3 out c F3 N3 k3
theorem uY {P:PySem.Fin->Shared->Prop}{f:Value}{c:Nat} (F:Fr hb fa s.heap mp) (N:News hb fa s.heap bk) (ho:s.heap.get? a=some (seqObj "list" xs.toArray c)) (aL:a≠fa) (a0:hb.get? a=none) (n2:∀p∈bk,p.1≠a)
  (hl:ks.length=xs.length) (hz:xs.length<=most)
  (ask:∀(i:Nat) (x:Value) (k:Int),xs[i]?=some x->ks[i]?=some k->∀(g:Heap) (tk:Nat) (own:List (Addr × Obj)),Fr hb fa g mp->News hb fa g (bk++own)->
   wpAny (model prog w) A (call f [x]) (KskEnd hb fa mp (bk++own) k { s with heap:=g,toks:=tk }) (λ_ _=>False) { s with heap:=g,toks:=tk })
  (h:∀h' tk out c,Fr hb fa h' mp->News hb fa h' ((a,seqObj "list" out c)::bk)->KskOut false ks xs out.toList->P (.done (.ret .none)) { s with heap:=h',toks:=tk }) :
  wpAny (model prog w) A (ksk_tree a f false) P E s:=by
 have la:a < s.heap.objs.size:=Heap.lt_size ho
 have b1:=Heap.SameBut.update s.heap a (Obj.mapSeq λ_=>(#[]:Array Value))
 obtain⟨c3,ho1⟩:∃c3,(s.heap.update a (Obj.mapSeq λ_=>(#[]:Array Value))).get? a=some (seqObj "list" #[] c3):=⟨_,get?_update_seq ho λ_=>#[]⟩
 have F1:=ksk_fr F b1 aL a0
 have N1:=ksk_news N b1 n2
 unfold ksk_tree
 refine wpAny_bind (listItems_at ho rfl ?_)
 refine wpAny_bind (listUpdate_at ho rfl ?_ (by rw [List.size_toArray];exact cV hz) (Nat.zero_le _))
 refine wpAny_bind (seqEpoch_at ho1 rfl ?_)
 refine wpAny_bind (wpAny_newTuple ?_ (by rw [List.toList_toArray];exact cV hz))
 refine wpAny_bind (wpAny_newList ?_ (Nat.zero_le _))
 refine wpAny_holding ?_
 have zt:((s.heap.update a (Obj.mapSeq λ_=>(#[]:Array Value))).push (seqObj "tuple" xs.toArray 0)).objs.size=s.heap.objs.size+1:=by rw [size_push',Heap.size_update]
 have lf:=(F1.push (seqObj "tuple" xs.toArray 0)).ns.lt
 refine uZ (s:={ s with heap:=((s.heap.update a (Obj.mapSeq λ_=>(#[]:Array Value))).push (seqObj "tuple" xs.toArray 0)).push (seqObj "list" #[] 0) })
  ((F1.push _).push _) (λp hp=>?_) (by rw [zt];exact Nat.ne_of_gt (Nat.lt_succ_of_lt la)) (λp hp=>by rw [zt];exact Nat.ne_of_lt (Nat.lt_succ_of_lt (Heap.lt_size (N p hp).1))) n2 hl hz ask h
 rcases List.mem_append.mp hp with hp | hp
 ·exact⟨Heap.get?_push_of_some _ (Heap.get?_push_of_some _ (N1 p hp).1),(N1 p hp).2⟩
 ·rcases List.mem_cons.mp hp with e | hp
  ·rw [e];exact⟨Heap.get?_push_size _ rfl,Nat.ne_of_gt lf,Heap.get?_none_of_le (Nat.le_trans F.above (Nat.le_of_lt lf))⟩
  ·rw [List.mem_singleton.mp hp]
   exact⟨Heap.get?_push_of_some _ (Heap.get?_push_of_some _ ho1),aL,a0⟩
theorem qm {l:Addr}{Q:Value->Shared->Prop}{f:Addr} (F:Fr hb fa s.heap mp) (N:News hb fa s.heap bk) (il:s.heap.IsList l xs.toArray) (hl:ks.length=xs.length) (hz:xs.length<=most)
  (ask:∀(i:Nat) (x:Value) (k:Int),xs[i]?=some x->ks[i]?=some k->∀(g:Heap) (tk:Nat) (own:List (Addr × Obj)),Fr hb fa g mp->News hb fa g (bk++own)->
   wpAny (model prog w) A.in1.in1 (call (.ref f) [x]) (KskEnd hb fa mp (bk++own) k { s with heap:=g,toks:=tk }) (λ_ _=>False) { s with heap:=g,toks:=tk })
  (h:∀D h' tk out c,Fr hb fa h' mp->News hb fa h' ((D,seqObj "list" out c)::bk)->(∀q∈bk,q.1 < D)->KskOut false ks xs out.toList->Q (.ref D) { s with heap:=h',toks:=tk }) :
  wpAny (model prog w) A (call (.builtin "sorted") [.ref l] [(PySem.Str.ofString "key", .ref f)]) Q E s:=by
 refine call_function_entry_kw kind_sorted plain_sorted entry_sorted (ksk_s1 _ _) ?_
 unfold Builtin.«sorted»
 refine wpAny_bind (m:=checkCount "sorted" 1 1 _) (wpAny_pure ?_)
 refine wpAny_bind (collect_list il ?_ (cV hz))
 refine wpAny_bind (wpAny_newList ?_ (cV hz))
 have z1:((s.heap.push (seqObj "list" #[] 0)).update s.heap.objs.size (Obj.mapSeq (·++xs.toArray))).objs.size=s.heap.objs.size+1:=by
  rw [Heap.size_update,size_push']
 generalize eg:((s.heap.push (seqObj "list" #[] 0)).update s.heap.objs.size (Obj.mapSeq (·++xs.toArray)))=g at z1
 have kp:∀b o,s.heap.get? b=some o->(g.push (seqObj "list" xs.toArray 0)).get? b=some o:=λb o q=>by
  have lt:=Heap.lt_size q
  rw [Heap.get?_push_ne _ _ _ (by rw [z1];exact Nat.ne_of_lt (Nat.lt_succ_of_lt lt)),<- eg,Heap.get?_update_ne _ _ _ _ (Nat.ne_of_lt lt),Heap.get?_push_ne _ _ _ (Nat.ne_of_lt lt)]
  exact q
 have hn:(g.push (seqObj "list" xs.toArray 0)).get? (s.heap.objs.size+1)=some (seqObj "list" xs.toArray 0):=by
  rw [<- z1];exact Heap.get?_push_size _ rfl
 have lf:=F.ns.lt
 show wpAny _ _ _ _ _ { s with heap:=g.push (seqObj "list" xs.toArray 0) }
 rw [z1]
 refine wpAny_bind (wpAny_holding (wpAny_call_entry_kw slot_list_sort ⟨_,hn,rfl⟩ entry_list_sort ?body (ksk_l1 _ _)))
 case body=>
  have e1:=ksk_t1 f (s.heap.objs.size+1)
  show wpAny (model prog w) A.in1.in1 (Builtin.«list.sort» ⟨[.ref (s.heap.objs.size+1)],[(PySem.Str.ofString "key", .ref f)]⟩) _ _ _
  rw [e1]
  refine uY (s:={ s with heap:=g.push (seqObj "list" xs.toArray 0) }) (F.kept kp) (N.grown kp) hn (Nat.ne_of_gt (Nat.lt_succ_of_lt lf)) (Heap.get?_none_of_le (Nat.le_trans F.above (Nat.le_succ_of_le (Nat.le_of_lt lf))))
   (λp hp=>Nat.ne_of_lt (Nat.lt_succ_of_lt (Heap.lt_size (N p hp).1))) hl hz ask λh' tk out c F' N' k'=>⟨_,rfl,?_⟩
  exact wpAny_pure ⟨_,rfl,h _ h' tk out c F' N' (λq hq=>Nat.lt_succ_of_lt (Heap.lt_size (N q hq).1)) k'⟩
end
end L2
namespace L2
open PySem PySem.Spec PyProof.Rows
section
variable {X:Cx}{pins:List (Addr × Obj)}{Y:St}{H:Hp}{s:Shared}
theorem qO {h:Heap}{L:Addr}:News (Att.noObjs h) L h (Att.ledger h L L):=by
 rintro⟨a,o⟩ hp
 obtain⟨n1,_,e⟩:=Att.mem_ledger.mp hp
 exact⟨e,n1,Att.noObjs_get _ _⟩
theorem Inv.newList {h':Heap}{t':Nat}{D:Addr}{m:Str->Option Value}{xs:List V}{its:List Value}{n:Nat} (I:Inv X pins Y H s) (hm:s.heap.Ns X.env.locals m) (hn:h'.Ns X.env.locals m)
  (k:∀b o,b≠X.env.locals->s.heap.get? b=some o->h'.get? b=some o) (fr:s.heap.get? D=none) (hD:h'.get? D=some { cls:=.type "list", data:=.seq its.toArray n })
  (r:aP xs its) (hz:xs.length<=sizeLine):H D=none/\Inv X pins Y (upd H D (.lst xs)) { s with heap:=h',toks:=t' }:=by
 have nD:H D=none:=by
  cases q:H D with
  | none=>rfl
  | some u=>
   exfalso
   have:∃o,s.heap.get? D=some o:=by
    have l:=(I.hok D u q).lt
    have z:=I.hok D u q
    cases u with
    | lst ys=>obtain⟨_,_,_,_,e⟩:=z;exact⟨_,e⟩
    | tup ys=>obtain⟨_,_,_,o,e,_⟩:=z;exact⟨_,e⟩
    | dK kvs=>obtain⟨_,_,_,_,o,_,_,e,_⟩:=z;exact⟨_,e⟩
    | dT kvs=>obtain⟨_,_,_,_,o,_,_,e,_⟩:=z;exact⟨_,e⟩
    | set S n=>obtain⟨o,_,_,_,e,_⟩:=z;exact⟨_,e⟩
    | ins C dx fs=>obtain⟨_,_,_,e,_⟩:=z;exact⟨_,e⟩
    | own y=>exact z
    | xd fs=>obtain⟨_,⟨o,_,_,e,_⟩,_⟩:=z;exact⟨_,e⟩
    | rng lo hi=>obtain⟨_,_,_,e⟩:=z;exact⟨_,e⟩
    | frz ob u=>obtain⟨e,_⟩:=z;exact⟨_,e⟩
    | tbl ps=>exact⟨_,z⟩
    | met f y=>exact⟨_,z⟩
    | ext φ=>exact z.2.1
   obtain⟨o,e⟩:=this
   rw [fr]at e;cases e
 have ne:∀b u,H b=some u->b≠D:=λb u q=>al q nD
 have nL:∀b u,H b=some u->b≠X.env.locals:=λb u q=>al q I.free
 refine⟨nD,I.step (g':=s.gens) (d':=s.drawn) (ch:=[]) (λb z=>absurd z (by simp)) (λb o hL _ _ e _=>k b o hL e) (λb o hL _ _ e _=>⟨o.slots,k b o hL e⟩) (λb o _ e n=>?_) (λb o _ e=>?_)
  (λb ys q=>?_) (λb o u q=>?_) (λb ps q=>?_) (λm' hm'=>?_) (λb u q=>?_) I.bare⟩
 ·rw [aj (λz=>by rw [z,fr]at e;cases e)];exact n
 ·by_cases z:b=X.env.locals
  ·obtain⟨o',_,_,e',_⟩:=hn
   exact⟨o',by rw [z];exact e'⟩
  ·exact⟨o,k b o z e⟩
 ·rw [aj (ne b _ q)];exact q
 ·rw [aj (ne b _ q)];exact q
 ·exact⟨#[],by rw [aj (ne b _ q),q];simp⟩
 ·have e1:=hm.eq_nsMap
  have e2:=hm'.eq_nsMap
  rw [e2,<- e1];exact hn
 ·by_cases z:b=D
  ·subst z;rw [ag]at q;cases q
   exact⟨hz,its,n,r,hD⟩
  ·rw [aj z]at q
   refine(I.hok b u q).stay (λc v hc r=>k c v ?_ r) (λc r=>by rw [aj (ne c _ r)];exact r) λc ys r=>by rw [aj (ne c _ r)];exact r
   rcases hc with hc | hc
   ·rw [hc];exact nL b u q
   ·exact nL c _ hc
end
theorem lK {ps:List Addr}{its:List Value} (r:aP (ps.map V.ref) its):its=ps.map Value.ref:=by
 induction ps generalizing its with
 | nil=>cases r;rfl
 | cons p ps ih=>
  cases r with
  | cons h t=>rw [List.map_cons,<- ih t];cases h;rfl
theorem mf:∀ps:List Addr,aP (ps.map V.ref) (ps.map Value.ref)
 | []=>.nil
 | _::ps=>.cons rfl (mf ps)
noncomputable def fN:Value->Addr
 | .ref a=>a
 | _=>0
theorem dB {α β:Type}{F:α->β->Prop}:∀{l₁:List α}{l₂:List β},Paired F l₁ l₂->∀{i:Nat}{a:α},l₁[i]?=some a->∃b,l₂[i]?=some b/\F a b
 | _,_,.nil,_,_,e=>by simp at e
 | _,_,.cons r _,0,_,e=>by simp at e;subst e;exact⟨_,rfl,r⟩
 | _,_,.cons _ t,i+1,a,e=>by
  obtain⟨b,h1,h2⟩:=dB t (i:=i) (a:=a) (by simpa using e)
  exact⟨b,by simpa using h1,h2⟩
def B1 (pa p1 p2 p3:Pos) (j:Nat) (scope:Scope) (q:Str) (t tk:TA):TE:=λY H Q=>t Y H λvs H1=>tk Y H1 λzs H2=>∃(l f c:Addr) (ps:List Addr) (ks:List Int),
 vs=[.ref l]/\zs=[.ref f]/\H2 l=some (.lst (ps.map V.ref))/\ps.length<=most/\Paired (λp k=>∃r,H2 p=some (.tup (.int k::r))/\r.length < 1000) ps ks/\
 H2 c=some (.ext (bO c q))/\
 H2 f=some (.ext (oF f { posonlyargs:=[],args:=[{ arg:="row", annotation:=none,pos:=pa }],vararg:=none,kwonlyargs:=[],kw_defaults:=[],kwarg:=none,defaults:=[] } (.Subscript (.Name "row" p1) (.Constant (.int 0) j p2) p3) scope q c))/\
 ∀(D:Addr) (zs:List (Int × Addr)),zs.Perm (ks.zip ps)->zs.Pairwise (λa b=>a.1<=b.1)->H2 D=none->Q (.ref D) (upd H2 D (.lst (zs.map λz=>V.ref z.2)))
section
variable {X:Cx}{e:Expr}{kws:List Keyword}{t tk:TA}{p pos:Pos}
theorem yc {k:Nat}{pa p1 p2 p3:Pos}{j:Nat}{scope:Scope}{q:Str} (hr:Room k X.A) (hg:Gl X "sorted") (hm:X.mg "sorted" = none) (ha:PA X [e] t) (hk:PK X kws tk)
  (hsc:scope.kind=.function) (hsn:scope.names=[(PySem.Str.ofString "row", .local)]) (hsg:scope.isGenerator=false) (hsco:scope.isCoroutine=false)
  (he:backTo pos (starEach [e] X.env)=(false,eval e X.env)::backTo pos (starEach [] X.env):=by rfl) (hplain:(backTo pos (starEach [e] X.env)).any (·.1)=false:=by rfl)
  (hall:(backToKw pos (keywordEach kws X.env)).all (·.1.isSome)=true:=by rfl) (hkw:(backToKw pos (keywordEach kws X.env)).any (·.1.isNone)=false:=by rfl)
  (hks:(backToKw pos (keywordEach kws X.env)).filterMap (·.1)=[PySem.Str.ofString "key"]:=by rfl):PE X (.Call (.Name "sorted" p) [e] kws pos) (B1 pa p1 p2 p3 j scope q t tk):=by
 intro pins s Y H Q I h
 refine wpAny_Call_Name_kw (io I hg hm PyProof.Rows.Boot.«sorted» ?_)
 refine callWith_kw (thn (ha pos pins s Y H _ I h) λus s1 hh=>?_) he hplain hall hkw
 obtain⟨vs,H1,I1,r1,q1⟩:=hh
 refine thn (hk pos pins s1 Y H1 _ I1 q1) λws s2 hh=>?_
 obtain⟨zs,H2,I2,r2,l,f,c,ps,ks,rfl,rfl,hl,h64,pk,hc,hf,done⟩:=hh
 obtain⟨u,rfl,ru⟩:=fR r1
 obtain⟨u2,rfl,ru2⟩:=fR r2
 cases (show u=Value.ref l from ru)
 cases (show u2=Value.ref f from ru2)
 rw [hks]
 show wpAny _ _ (call (.builtin "sorted") [.ref l] [(PySem.Str.ofString "key", .ref f)]) _ _ _
 obtain⟨its,n,rv,ho,hz⟩:=I2.lst hl
 obtain rfl:=lK rv
 obtain⟨m,hn,_⟩:=id I2.loc
 have kl:ks.length=ps.length:=(Paired.length pk).symm
 have nL:∀b u,H2 b=some u->b≠X.env.locals:=λb u q=>al q I2.free
 refine qm (hb:=Att.noObjs s2.heap) (fa:=X.env.locals) (mp:=m) (bk:=Att.ledger s2.heap X.env.locals X.env.locals) (ks:=ks) (xs:=ps.map Value.ref) (f:=f) (Att.fr_all hn) qO ⟨_,ho,rfl,n,rfl⟩ (by rw [List.length_map,kl]) (by rw [List.length_map];exact h64)
  (λi v kz hv hkz h1 tk1 own F1 N1=>?_) (λD h3 tk3 out c3 F3 N3 lt ko=>?_)
 ·-- one call of the key
  rw [List.getElem?_map]at hv
  cases ep:ps[i]? with
  | none=>rw [ep]at hv;cases hv
  | some a=>
   rw [ep]at hv
   cases hv
   obtain⟨k',ek,r,ht,hr'⟩:=dB pk ep
   rw [hkz]at ek
   cases ek
   have kept:∀b o,b≠X.env.locals->s2.heap.get? b=some o->h1.get? b=some o:=λb o n e=>(N1 (b,o) (List.mem_append_left _ (Att.mem_ledger.mpr ⟨n,n,e⟩))).1
   obtain⟨hz2,ts,rt,ot,et,ct,nt,dt⟩:=(show bw X.prog X.w H2 s2.heap a (.tup (.int kz::r)) from I2.hok a _ ht)
   cases rt with
   | @cons _ u _ us hu0 htl=>
    obtain⟨tt,rfl⟩:=hu0
    obtain⟨pm,ctv,ef⟩:=(show bw X.prog X.w H2 s2.heap f _ from I2.hok f _ hf).1
    have hcr:=(show bw X.prog X.w H2 s2.heap c _ from I2.hok c _ hc).1
    obtain⟨oc,eoc⟩:=bO.obj hcr
    have hl1:us.length < 1000:=by have:=Paired.length htl;omega
    refine wS (s:={ s2 with heap:=h1,toks:=tk1 }) (scope:=scope) (show X.A.depth < recursionLimit from hr.depth) (kept _ _ (nL _ _ hf) ef) hsc hsn hsg hsco (bO.st hcr λo e=>kept _ _ (nL _ _ hc) e) ⟨ot,kept _ _ (nL _ _ ht) et,ct,nt,dt⟩ hl1
     (I2.ok.mod.nolimit.keeps λb o e=>kept b o (Nat.ne_of_lt (Nat.lt_of_lt_of_le (Heap.lt_size e) (Nat.le_trans I2.ok.bsz I2.ok.above))) (I2.bk b o e)) λh₁ tk' hk'=>?_
    exact⟨h₁,tk',tt,rfl,rfl,⟨F1.ns.keeps hk',λb o e=>hk' b o (F1.keep b o e),F1.above⟩,λp hp=>⟨hk' _ _ (N1 p hp).1,(N1 p hp).2⟩⟩
 ·-- the sorted list
  obtain⟨qs,hp,ho3,hs⟩:=ko
  have kept:∀b o,b≠X.env.locals->s2.heap.get? b=some o->h3.get? b=some o:=λb o n e=>(N3 (b,o) (List.mem_cons_of_mem _ (Att.mem_ledger.mpr ⟨n,n,e⟩))).1
  have nD:=N3 (D,seqObj "list" out c3) List.mem_cons_self
  have fr:s2.heap.get? D=none:=by
   cases e:s2.heap.get? D with
   | none=>rfl
   | some o=>exact absurd (lt (D,o) (Att.mem_ledger.mpr ⟨nD.2.1,nD.2.1,e⟩)) (Nat.lt_irrefl _)
  have eg:ks.zip (ps.map Value.ref)=(ks.zip ps).map λz=>(z.1,Value.ref z.2):=by
   rw [List.zip_map_right]
   rfl
  have all:∀z∈qs,(z.1,Value.ref (fN z.2))=z:=λz hz=>by
   have:=hp.mem_iff.mp hz
   rw [eg]at this
   obtain⟨y,_,rfl⟩:=List.mem_map.mp this
   rfl
  have hp2:(qs.map λz=>(z.1,fN z.2)).Perm (ks.zip ps):=by
   have:=hp.map λz:Int × Value=>(z.1,fN z.2)
   rw [eg,List.map_map]at this
   have e2:((λz:Int × Value=>(z.1,fN z.2)) ∘ λz:Int × Addr=>(z.1,Value.ref z.2))=id:=by funext z;rfl
   rw [e2,List.map_id]at this
   exact this
  have hs2:(qs.map λz=>(z.1,fN z.2)).Pairwise (λa b=>a.1<=b.1):=by
   rw [List.pairwise_map]
   exact hs.imp λq=>q
  have e3:out.toList=((qs.map λz=>(z.1,fN z.2)).map λz=>Value.ref z.2):=by
   rw [ho3,List.map_map]
   refine List.map_congr_left λz hz=>?_
   exact(congrArg Prod.snd (all z hz)).symm
  have eo:out=(((qs.map λz=>(z.1,fN z.2)).map λz=>z.2).map Value.ref).toArray:=by
   rw [List.map_map]
   have:out=out.toList.toArray:=by simp
   rw [this,e3]
   rfl
  have hD:h3.get? D=some { cls:=.type "list", data:=.seq (((qs.map λz=>(z.1,fN z.2)).map λz=>z.2).map Value.ref).toArray c3 }:=by rw [<- eo];exact nD.1
  have hl3:(qs.map λz=>(z.1,fN z.2)).length<=sizeLine:=by
   rw [hp2.length_eq,List.length_zip,kl,Nat.min_self]
   rw [List.length_map]at hz
   exact hz
  obtain⟨nH,I3⟩:=I2.newList (t':=tk3) hn F3.ns kept fr hD (mf _) (by rw [List.length_map,List.length_map];exact hl3)
  rw [List.map_map]at I3
  exact⟨.ref D,_,I3,rfl,done D _ hp2 hs2 nH⟩
end
end L2
namespace L2
open PySem PySem.Spec PyProof.Rows
noncomputable abbrev bF:=Int × Int × V
def de:V->Prop
 | .non=>True
 | .int _=>True
 | _=>False
noncomputable def dr (r:bF):List V:=[.int r.1,.int r.2.1,r.2.2]
def bY (H:Hp) (ps:List Addr) (rs:List bF):Prop:=Paired (λp r=>H p=some (.tup (dr r))/\de r.2.2) ps rs
def cm (H:Hp) (a:Addr) (rs:List bF):Prop:=∃ps,H a=some (.lst (ps.map V.ref))/\bY H ps rs
noncomputable def uu:V->PySem.W.Dat
 | .int i=>.int i
 | _=>.none
noncomputable def AH (r:bF):PySem.W.Dat:=.tuple [.int r.1,.int r.2.1,uu r.2.2]
section
variable {X:Cx}{pins:List (Addr × Obj)}{Y:St}{H:Hp}{s:Shared}
end
section
variable {X:Cx}
end
section
variable {X:Cx}
end
end L2
namespace L2
open PySem PySem.Spec PyProof.Rows
def xE (P:Addr) (H:Hp):Prop:=H P=some (.tbl #[])/\∀b,b=P\/H b=none\/∃o xs,H b=some (.frz o (.lst xs))
theorem ue {P:Program}{w:World}{K:PySem.W.Frag}{mg mb:Str->Option Value}{k:Nat}{fa a:Addr}{fd:FuncData}{x:Str}{sp:Sp}{s₁:Shared}{vs:List Value}{ns:List Int}{c T:Addr}
  (KX:K.In s₁.heap) (hns:s₁.heap.Ns mainGlobals mg) (hb:s₁.heap.Ns builtinsNs mb) (hbb:∀x:Str,x≠"__name__"->mb x=bootBuiltins x) (hlim:s₁.heap.NoLimit) (hg:s₁.gens = #[])
  (hC:PySem.W.CodeHd s₁.heap c T) (hT:s₁.heap.get? T=some (PySem.W.tabObj #[])) (hnt:PySem.W.noTabs K=true) (hB:s₁.heap.BuiltinsAt mg T)
  (ha:s₁.heap.get? a=some { cls:=.type "list", data:=.seq vs.toArray }) (hi:IntsAre vs ns) (hl:ns.length<=sizeLine) (hr:Room k callerA)
  (F:∀base:Heap,K.In base->base.Ns mainGlobals mg->PySem.W.CodeHd base c T->base.BuiltinsAt mg T->FnOk P w K mg base CX0 k fa fd [x] sp) (hbind:∀(s:Shared) (u:Value),BindsTo s fd ⟨[u],[]⟩ [(x,u)])
  (hsp:∀H:Hp,xE T H->SqL K H a (ns.map V.int)->sp [.ref a] H (λv _=>v=.bl true) λ_ _ _=>False) :
  codeAny (model P w) callerA (.call (.ref fa) ⟨[.ref a],[]⟩) (λr s'=>r=.ok (.ret (.bool true))/\OldK s₁.heap s'.heap/\s'.os=s₁.os/\AllBare s'.gens) s₁:=by
 have rv:=lL hi
 have lenV:=hi.length
 have aT:a≠T:=λz=>by rw [z,hT]at ha;cases ha
 have core:∀H:Hp,xE T H->SqL K H a (ns.map V.int)->HOk P w H s₁.heap->(∀b,H b≠none->b=a\/b=T)->(H a≠none->K.lookup a=none)->
   codeAny (model P w) callerA (.call (.ref fa) ⟨[.ref a],[]⟩) (λr s'=>r=.ok (.ret (.bool true))/\OldK s₁.heap s'.heap/\s'.os=s₁.os/\AllBare s'.gens) s₁:=by
  intro H hO hS hok hA hK
  have base_of:∀{b:Addr}{o:Obj},s₁.heap.get? b=some o->H b=none->(kP s₁.heap H).get? b=some o:=λe n=>x8 e n
  have noA:∀{b:Addr}{o:Obj},s₁.heap.get? b=some o->o≠{ cls:=.type "list", data:=.seq vs.toArray }->o≠PySem.W.tabObj #[]->H b=none:=λ{b o} e d1 d2=>by
   cases q:H b with
   | none=>rfl
   | some u=>
    rcases hA b (by rw [q];simp) with z | z
    ·subst z
     rw [ha]at e;cases e
     exact absurd rfl d1
    ·subst z
     rw [hT]at e;cases e
     exact absurd rfl d2
  have nsK:∀{b:Addr}{m:Str->Option Value},s₁.heap.Ns b m->(kP s₁.heap H).Ns b m:=λ{b m} hh=>by
   obtain⟨o,es,ep,e,d,r⟩:=hh
   exact⟨o,es,ep,base_of e (noA e (λz=>by rw [z]at d;cases d) λz=>by rw [z]at d;cases d),d,r⟩
  have hKb:K.In (kP s₁.heap H):=λb o e=>base_of (KX b o e) (by
   cases q:H b with
   | none=>rfl
   | some u=>
    rcases hA b (by rw [q];simp) with z | z
    ·subst z
     rw [hK (by rw [q];simp)]at e;cases e
    ·subst z
     have h1:=KX b o e
     rw [hT]at h1;cases h1
     have h2:=List.all_eq_true.mp hnt (b,PySem.W.tabObj #[]) (PySem.W.mem_of_lookupK e)
     exact absurd (show false=true from h2) Bool.false_ne_true)
  have hM:Mod K mg (kP s₁.heap H):=⟨hKb,nsK hns,⟨mb,nsK hb,hbb⟩,let ⟨mc,h1,h2⟩:=hlim;⟨mc,nsK h1,h2⟩⟩
  have hCb:PySem.W.CodeHd (kP s₁.heap H) c T:=by
   obtain⟨o,vs',file,tf,flags,tg,inF,text,tt,e1,e2,r⟩:=hC
   exact⟨o,vs',file,tf,flags,tg,inF,text,tt,base_of e1 (noA e1 (λz=>by rw [z]at e2;injection e2 with e2;exact absurd e2 (by decide)) λz=>by rw [z]at e2;cases e2),e2,r⟩
  have hBb:(kP s₁.heap H).BuiltinsAt mg T:=by
   obtain⟨bm,ob,b1,b2,b3,b4,b5,b6,b7⟩:=hB
   exact⟨bm,ob,b1,b2,b3,b4,base_of b5 (noA b5 (λz=>by rw [z]at b6;injection b6 with b6;exact absurd b6 (by decide)) λz=>by rw [z]at b6;cases b6),b6,b7⟩
  have e0:Env0 P w K mg (kP s₁.heap H) callerA [] s₁ H:=⟨rfl,hM,λb o e=>yv e,Nat.le_of_eq (uk _ _),trivial,λb hb=>absurd (show b∈([]:List Addr) from hb) (by simp),hok,.of_eq hg⟩
  refine codeAny_mono ((F _ hKb (nsK hns) hCb hBb).run callerA [] s₁ H ⟨[.ref a],[]⟩ [.ref a] [.ref a] _ _ hr e0 (hbind s₁ (.ref a)) (.cons rfl .nil) (hsp H hO hS)) λr s' h=>?_
  cases r with
  | error e=>exact False.elim h
  | ok fl=>
   cases fl with
   | next=>exact False.elim h
   | brk=>exact False.elim h
   | cont=>exact False.elim h
   | ret u=>
    obtain⟨v,H',os,bare,un,hok',r',q⟩:=h
    have q':v=.bl true:=q
    subst q'
    obtain rfl:u=Value.bool true:=r'
    obtain⟨more,hmore⟩:=un.tbls T #[] hO.1
    have hT':s'.heap.get? T=some { cls:=.none,data:=.fields (#[]++more) }:=hok' T _ hmore
    have kept:∀b o,b≠T->s₁.heap.get? b=some o->s'.heap.get? b=some o:=λb o nT e=>by
     rcases hO.2 b with z | z | ⟨ob,xs,z⟩
     ·exact absurd z nT
     ·exact un.keep b o e z (by intro z;exact absurd (show b∈([]:List Addr) from z) (by simp)) (by simp)
     ·have z2:=un.frzs b ob _ z
      obtain⟨e1,_⟩:=hok b _ z
      obtain⟨e2,_⟩:=hok' b _ z2
      rw [e]at e1;cases e1
      exact e2
    refine⟨rfl,⟨λb o e=>?_,λb o e=>?_⟩,os,bare⟩
    ·by_cases z:b=T
     ·subst z
      rw [hT]at e;cases e
      exact .inr (.inl ⟨(hC.tab hT).isCodeTable,rfl,#[],more,rfl,hT'⟩)
     ·exact .inl (kept b o z e)
    ·by_cases z:b=T
     ·subst z;exact⟨_,hT'⟩
     ·exact⟨o,kept b o z e⟩
 cases hk:K.lookup a with
 | some o=>
  have e:=KX a o hk
  rw [ha]at e
  cases e
  refine core (λb=>if b=T then some (.tbl #[]) else none) ⟨if_pos rfl,λb=>?_⟩ (.inr ⟨_,vs.toArray,_,hk,rfl,rfl,rfl,by rw [List.size_toArray,lenV];exact hl,by simpa using rv⟩) (λb u z=>?_) (λb z=>?_) λz=>absurd (if_neg aT) z
  ·by_cases hb:b=T
   ·exact .inl hb
   ·exact .inr (.inl (if_neg hb))
  ·by_cases hb:b=T
   ·have z':=(if_pos hb).symm.trans z
    cases z'
    rw [hb]
    exact hT
   ·have z':=(if_neg hb).symm.trans z
    cases z'
  ·by_cases hb:b=T
   ·exact .inr hb
   ·exact absurd (if_neg hb) z
 | none=>
  refine core (λb=>if b=T then some (.tbl #[]) else if b=a then some (.frz { cls:=.type "list", data:=.seq vs.toArray } (.lst (ns.map V.int))) else none) ⟨if_pos rfl,λb=>?_⟩
   (.inl (.inr ⟨{ cls:=.type "list", data:=.seq vs.toArray },(if_neg aT).trans (if_pos rfl)⟩)) (λb u z=>?_) (λb z=>?_) λ_=>hk
  ·by_cases hb:b=T
   ·exact .inl hb
   ·by_cases hb2:b=a
    ·exact .inr (.inr ⟨_,_,(if_neg hb).trans (if_pos hb2)⟩)
    ·exact .inr (.inl ((if_neg hb).trans (if_neg hb2)))
  ·by_cases hb:b=T
   ·have z':=(if_pos hb).symm.trans z
    cases z'
    rw [hb]
    exact hT
   ·by_cases hb2:b=a
    ·have z':=((if_neg hb).trans (if_pos hb2)).symm.trans z
     cases z'
     subst hb2
     exact⟨ha,by rw [List.length_map];exact hl,vs,_,rv,ha⟩
    ·have z':=((if_neg hb).trans (if_neg hb2)).symm.trans z
     cases z'
  ·by_cases hb:b=T
   ·exact .inr hb
   ·by_cases hb2:b=a
    ·exact .inl hb2
    ·exact absurd ((if_neg hb).trans (if_neg hb2)) z
theorem uM {l:PySem.W.OpenLaw}{n k:Nat}{q:Program}{loose:List Str}{XP:(Str->Option Value)->Heap->Prop}{YP:World->Heap->Prop}{d dj:DefRec}{K:Params->PySem.W.Frag}{sp:World->Sp}{x xj:Str}{c T:Addr}
  (hn:l.most=some n) (hn2:n<=sizeLine) (hdf:d.params.defaults=[]) (hr:Room k callerA)
  (hY:∀(w:World) (h:Heap),YP w h->(K w.params).In h)
  (hrj:(recsOf q).find? (λe=>e.name == xj)=some dj) (htab:∀(w:World) (h:Heap),(K w.params).In h->PySem.W.tabIn (K w.params) xj=some (c,T)) (hnt:∀(w:World) (h:Heap),(K w.params).In h->PySem.W.noTabs (K w.params)=true)
  (F:∀(w:World) (mg:Str->Option Value) (fa:Addr) (h:Heap),(K w.params).In h->h.Ns mainGlobals mg->mg d.name=some (.ref fa)->
   ∃fd:FuncData,(∀(s:Shared) (u:Value),BindsTo s fd ⟨[u],[]⟩ [(x,u)])/\
    ∀base:Heap,(K w.params).In base->base.Ns mainGlobals mg->PySem.W.CodeHd base c T->base.BuiltinsAt mg T->FnOk l.prog w (K w.params) mg base CX0 k fa fd [x] (sp w))
  (hsp:∀(w:World) (H:Hp) (a:Addr) (ns:List Int),ns.length<=n->xE T H->SqL (K w.params) H a (ns.map V.int)->sp w [.ref a] H (λv _=>v=.bl true) λ_ _ _=>False) :
  PySem.W.WalkO q loose XP YP l.row.toRowW d [] (λf vs=>PySem.call f vs):=by
 refine Att.attach_call hn hdf λw s₀ s₁ mg mb fa o pm cd doc a vs ns G Y ho hd hcd hmg hobj hints hlen hg=>?_
 have KX:=hY w _ Y
 obtain⟨fd,hb,hF⟩:=F w mg fa _ KX G.T.g hmg
 obtain⟨hC,hT⟩:=PySem.W.tab_of G.T KX hrj (htab w _ KX)
 have hB:s₁.heap.BuiltinsAt mg T:=by
  obtain⟨bm,ob,b1,b2,b3,b4,b5,b6⟩:=G.T.bmain
  refine⟨bm,ob,b1,b2,λz=>?_,λz=>?_,b3,b4,b5,b6⟩
  ·obtain⟨o',es,ep,e,hd',_⟩:=G.T.g
   rw [z,e]at b3;cases b3;rw [hd']at b6;cases b6
  ·rw [z,hT]at b3;cases b3;cases b4
 exact ue KX G.T.g G.T.b G.T.builtins G.T.nolimit hg hC hT (hnt w _ KX) hB hobj hints (Nat.le_trans hlen hn2) hr hF hb (λH hO hS=>hsp w H a ns hlen hO hS)
end L2
namespace Strip
section
variable {M:Type} [DecidableEq M]
noncomputable abbrev Row (M:Type):=Int × Int × M
def Has (r:Row M) (n:Int):Prop:=r.1<=n/\n<=r.2.1
noncomputable instance (r:Row M) (n:Int):Decidable (Has r n):=by unfold Has;exact inferInstance
noncomputable def dayOf:List (Row M)->Int->Option M
 | [],_=>none
 | r::t,n=>match dayOf t n with
  | some m=>some m
  | none=>if Has r n then some r.2.2 else none
theorem om (as bs:List (Row M)) (n:Int):dayOf (as++bs) n=(match dayOf bs n with | some m=>some m | none=>dayOf as n):=by
 induction as with
 | nil=>show dayOf bs n=_;cases dayOf bs n <;> rfl
 | cons r t ih=>
  show (match dayOf (t++bs) n with | some m=>some m | none=>if Has r n then some r.2.2 else none)=_
  rw [ih]
  cases e:dayOf bs n with
  | some m=>rfl
  | none=>rfl
theorem bZ (as:List (Row M)) (r:Row M) (n:Int):dayOf (as++[r]) n=if Has r n then some r.2.2 else dayOf as n:=by
 rw [om]
 show (match (if Has r n then some r.2.2 else none) with | some m=>some m | none=>dayOf as n)=_
 by_cases h:Has r n
 ·rw [if_pos h,if_pos h]
 ·rw [if_neg h,if_neg h]
def iT (r s:Row M):Prop:=r.2.1 < s.1\/s.2.1 < r.1
theorem iT.symm {r s:Row M} (h:iT r s):iT s r:=h.elim .inr .inl
theorem iT.not_both {r s:Row M}{n:Int} (h:iT r s) (h1:Has r n) (h2:Has s n):False:=by
 unfold iT at h;unfold Has at h1 h2;omega
structure Disj (rs:List (Row M)):Prop where
 ap:rs.Pairwise iT
 le:∀r∈rs,r.1<=r.2.1
def Lt (r s:Row M):Prop:=r.2.1 < s.1
structure Rising (rs:List (Row M)):Prop where
 lt:rs.Pairwise Lt
 le:∀r∈rs,r.1<=r.2.1
theorem Rising.disj {rs:List (Row M)} (h:Rising rs):Disj rs:=⟨h.lt.imp λq=>.inl q,h.le⟩
theorem Disj.perm {rs rs':List (Row M)} (h:Disj rs) (p:rs'.Perm rs):Disj rs':=by
 refine⟨?_,λr hr=>h.le r (p.mem_iff.mp hr)⟩
 exact(p.pairwise_iff (λq=>q.symm)).mpr h.ap
theorem eG {rs:List (Row M)}{n:Int}{m:M} (h:dayOf rs n=some m):∃r∈rs,Has r n/\r.2.2=m:=by
 induction rs with
 | nil=>cases h
 | cons r t ih=>
  have h':(match dayOf t n with | some m=>some m | none=>if Has r n then some r.2.2 else none)=some m:=h
  cases e:dayOf t n with
  | some m'=>
   rw [e]at h'
   obtain⟨s,hs,q⟩:=ih (e.trans h')
   exact⟨s,List.mem_cons_of_mem _ hs,q⟩
  | none=>
   rw [e]at h'
   by_cases hr:Has r n
   ·have h2:(if Has r n then some r.2.2 else none)=some m:=h'
    rw [if_pos hr]at h2
    exact⟨r,List.mem_cons_self,hr,Option.some.inj h2⟩
   ·have h2:(if Has r n then some r.2.2 else none)=some m:=h'
    rw [if_neg hr]at h2
    cases h2
theorem dayOf_mem {rs:List (Row M)}{n:Int}{r:Row M} (d:Disj rs) (hr:r∈rs) (hn:Has r n):dayOf rs n=some r.2.2:=by
 induction rs with
 | nil=>cases hr
 | cons s t ih=>
  obtain⟨h1,h2⟩:=List.pairwise_cons.mp d.ap
  have dt:Disj t:=⟨h2,λq hq=>d.le q (List.mem_cons_of_mem _ hq)⟩
  show (match dayOf t n with | some m=>some m | none=>if Has s n then some s.2.2 else none)=_
  rcases List.mem_cons.mp hr with e | hr
  ·subst e
   cases e:dayOf t n with
   | some m=>
    obtain⟨q,hq,hh,_⟩:=eG e
    exact((h1 q hq).not_both hn hh).elim
   | none=>exact if_pos hn
  ·rw [ih dt hr]
theorem fK {rs:List (Row M)}{n:Int} (h:∀r∈rs,¬Has r n):dayOf rs n=none:=by
 cases e:dayOf rs n with
 | none=>rfl
 | some m=>
  obtain⟨r,hr,q,_⟩:=eG e
  exact(h r hr q).elim
theorem lI {rs:List (Row M)}{n:Int} (d:Disj rs) (h:dayOf rs n=none):∀r∈rs,¬Has r n:=λr hr q=>by
 rw [dayOf_mem d hr q]at h;cases h
theorem dayOf_perm {rs rs':List (Row M)} (d:Disj rs) (p:rs'.Perm rs) (n:Int):dayOf rs' n=dayOf rs n:=by
 cases e:dayOf rs n with
 | some m=>
  obtain⟨r,hr,q,rfl⟩:=eG e
  exact dayOf_mem (d.perm p) (p.mem_iff.mpr hr) q
 | none=>exact fK λr hr=>lI d e r (p.mem_iff.mp hr)
def Beside (r s:Row M):Prop:=r.2.1+1=s.1/\r.2.2=s.2.2
noncomputable instance (r s:Row M):Decidable (Beside r s):=by unfold Beside;exact inferInstance
structure Tidy (rs:List (Row M)):Prop where
 up:Rising rs
 no:∀(i:Nat) (r s:Row M),rs[i]?=some r->rs[i+1]?=some s->¬Beside r s
theorem tidy_nil:Tidy ([]:List (Row M)):=⟨⟨List.Pairwise.nil,(λ_ h=>nomatch h)⟩,λi r s h _=>by simp at h⟩
theorem Rising.snoc {as:List (Row M)}{r:Row M} (h:Rising as) (hr:r.1<=r.2.1) (hl:∀s∈as,s.2.1 < r.1):Rising (as++[r]):=by
 refine⟨List.pairwise_append.mpr ⟨h.lt,List.pairwise_singleton _ _,λa ha b hb=>?_⟩,λs hs=>?_⟩
 ·rw [List.mem_singleton.mp hb];exact hl a ha
 ·rcases List.mem_append.mp hs with hs | hs
  ·exact h.le s hs
  ·rw [List.mem_singleton.mp hs];exact hr
theorem Rising.init {as:List (Row M)}{r:Row M} (h:Rising (as++[r])):Rising as:=
 ⟨(List.pairwise_append.mp h.lt).1,λs hs=>h.le s (List.mem_append_left _ hs)⟩
theorem Rising.last {as:List (Row M)}{r:Row M} (h:Rising (as++[r])):∀s∈as,s.2.1 < r.1:=λs hs=>
 (List.pairwise_append.mp h.lt).2.2 s hs r (List.mem_singleton.mpr rfl)
theorem x9 {α:Type} (as:List α) (x:α) (i:Nat):(as++[x])[i]?=if i < as.length then as[i]? else if i=as.length then some x else none:=by
 by_cases h:i < as.length
 ·rw [if_pos h,List.getElem?_append_left h]
 ·rw [if_neg h,List.getElem?_append_right (by omega)]
  by_cases h2:i=as.length
  ·rw [if_pos h2,h2];simp
  ·rw [if_neg h2,List.getElem?_eq_none];simp;omega
theorem Tidy.snoc {as:List (Row M)}{r:Row M} (h:Tidy as) (hr:r.1<=r.2.1) (hl:∀s∈as,s.2.1 < r.1) (hn:∀s,as[as.length - 1]?=some s->¬Beside s r):Tidy (as++[r]):=by
 refine⟨h.up.snoc hr hl,λi a b ha hb=>?_⟩
 rw [x9]at ha hb
 by_cases h1:i+1 < as.length
 ·rw [if_pos h1]at hb
  rw [if_pos (by omega)]at ha
  exact h.no i a b ha hb
 ·rw [if_neg h1]at hb
  by_cases h2:i+1=as.length
  ·rw [if_pos h2]at hb
   rw [if_pos (by omega)]at ha
   cases hb
   have:as.length - 1=i:=by omega
   exact hn a (by rw [this];exact ha)
  ·rw [if_neg h2]at hb;cases hb
theorem Tidy.longer {as:List (Row M)}{l r:Row M} (h:Tidy (as++[l])) (hr:r.1<=r.2.1) (hb:Beside l r):Tidy (as++[(l.1,r.2.1,r.2.2)]):=by
 have ll:=h.up.le l (List.mem_append_right _ (List.mem_singleton.mpr rfl))
 obtain⟨b1,b2⟩:=hb
 have up:Rising as:=h.up.init
 have t:Tidy as:=⟨up,λi a b ha hb=>h.no i a b (by rw [List.getElem?_append_left (List.getElem?_eq_some_iff.mp ha).1];exact ha) (by rw [List.getElem?_append_left (List.getElem?_eq_some_iff.mp hb).1];exact hb)⟩
 refine t.snoc (by show l.1<=r.2.1;omega) (λs hs=>h.up.last s hs) λs hs hb=>?_
 have hlen:as.length - 1 < as.length:=(List.getElem?_eq_some_iff.mp hs).1
 refine h.no (as.length - 1) s l (by rw [List.getElem?_append_left hlen];exact hs) ?_ ⟨hb.1,?_⟩
 ·have:as.length - 1+1=as.length:=by omega
  rw [this];simp
 ·show s.2.2=l.2.2
  rw [b2];exact hb.2
theorem oj {as:List (Row M)}{l r:Row M} (h:Rising (as++[l])) (hr:r.1<=r.2.1) (hb:Beside l r) (n:Int):dayOf (as++[(l.1,r.2.1,r.2.2)]) n=dayOf (as++[l]++[r]) n:=by
 have ll:=h.le l (List.mem_append_right _ (List.mem_singleton.mpr rfl))
 obtain⟨b1,b2⟩:=hb
 rw [bZ,bZ,bZ]
 by_cases h1:Has r n
 ·rw [if_pos h1,if_pos]
  unfold Has at h1 ⊢
  dsimp only
  omega
 ·rw [if_neg h1]
  by_cases h2:Has l n
  ·rw [if_pos h2,if_pos,b2]
   unfold Has at h2 ⊢
   dsimp only
   omega
  ·rw [if_neg h2,if_neg]
   unfold Has at h1 h2 ⊢
   dsimp only
   omega
structure Joining (pre acc:List (Row M)):Prop where
 tidy:Tidy acc
 day:∀n,dayOf acc n=dayOf pre n
 lo:∀k:Int,(∀r∈pre,r.2.1 < k)->∀s∈acc,s.2.1 < k
 hi:∀k:Int,(∀r∈pre,k<=r.1)->∀s∈acc,k<=s.1
 len:acc.length<=pre.length
 mark:∀s∈acc,∃r∈pre,s.2.2=r.2.2
theorem Joining.nil:Joining ([]:List (Row M)) []:=⟨tidy_nil,λ_=>rfl,(λ_ _ _ h=>nomatch h),(λ_ _ _ h=>nomatch h),Nat.le_refl _,(λ_ h=>nomatch h)⟩
theorem Joining.put {pre acc:List (Row M)}{r:Row M} (J:Joining pre acc) (hr:r.1<=r.2.1) (hp:∀s∈pre,s.2.1 < r.1) (hn:∀s,acc[acc.length - 1]?=some s->¬Beside s r):Joining (pre++[r]) (acc++[r]):=by
 refine⟨J.tidy.snoc hr (J.lo _ hp) hn,λn=>?_,λk hk s hs=>?_,λk hk s hs=>?_,by rw [List.length_append,List.length_append];have:=J.len;simp only [List.length_singleton];omega,λs hs=>?_⟩
 ·rw [bZ,bZ,J.day]
 ·rcases List.mem_append.mp hs with hs | hs
  ·exact J.lo k (λr hr=>hk r (List.mem_append_left _ hr)) s hs
  ·exact hk s (List.mem_append_right _ hs)
 ·rcases List.mem_append.mp hs with hs | hs
  ·exact J.hi k (λr hr=>hk r (List.mem_append_left _ hr)) s hs
  ·exact hk s (List.mem_append_right _ hs)
 ·rcases List.mem_append.mp hs with hs | hs
  ·obtain⟨q,hq,e⟩:=J.mark s hs
   exact⟨q,List.mem_append_left _ hq,e⟩
  ·exact⟨s,List.mem_append_right _ hs,rfl⟩
theorem Joining.grow {pre as:List (Row M)}{l r:Row M} (J:Joining pre (as++[l])) (hr:r.1<=r.2.1) (hb:Beside l r):Joining (pre++[r]) (as++[(l.1,r.2.1,r.2.2)]):=by
 refine⟨J.tidy.longer hr hb,λn=>?_,λk hk s hs=>?_,λk hk s hs=>?_,?_,λs hs=>?_⟩
 ·rw [oj J.tidy.up hr hb,bZ,bZ pre,J.day]
 ·rcases List.mem_append.mp hs with hs | hs
  ·exact J.lo k (λr hr=>hk r (List.mem_append_left _ hr)) s (List.mem_append_left _ hs)
  ·rw [List.mem_singleton.mp hs]
   exact hk r (List.mem_append_right _ (List.mem_singleton.mpr rfl))
 ·rcases List.mem_append.mp hs with hs | hs
  ·exact J.hi k (λr hr=>hk r (List.mem_append_left _ hr)) s (List.mem_append_left _ hs)
  ·rw [List.mem_singleton.mp hs]
   exact J.hi k (λr hr=>hk r (List.mem_append_left _ hr)) l (List.mem_append_right _ (List.mem_singleton.mpr rfl))
 ·have:=J.len
  rw [List.length_append]at this ⊢
  rw [List.length_append]
  simp only [List.length_singleton]at this ⊢
  omega
 ·rcases List.mem_append.mp hs with hs | hs
  ·obtain⟨q,hq,e⟩:=J.mark s (List.mem_append_left _ hs)
   exact⟨q,List.mem_append_left _ hq,e⟩
  ·rw [List.mem_singleton.mp hs]
   exact⟨r,List.mem_append_right _ (List.mem_singleton.mpr rfl),rfl⟩
theorem rising_of_sorted {rs:List (Row M)} (d:Disj rs) (h:rs.Pairwise λr s=>r.1<=s.1):Rising rs:=by
 refine⟨?_,d.le⟩
 have:=List.Pairwise.and_mem.mp (d.ap.and h)
 refine this.imp λ{r s} q=>?_
 obtain⟨hr,hs,q1,q2⟩:=q
 have l1:=d.le r hr
 have l2:=d.le s hs
 unfold iT at q1
 unfold Lt
 omega
noncomputable def markOn:List (Row M)->Int->Option M
 | [],_=>none
 | r::t,n=>if Has r n then some r.2.2 else markOn t n
theorem tidy_unique:∀{as bs:List (Row M)},Tidy as->Tidy bs->(∀n,dayOf as n=dayOf bs n)->as=bs:=by
 have tail:∀{r:Row M}{t:List (Row M)},Tidy (r::t)->Tidy t:=λ{r t} h=>
  ⟨⟨(List.pairwise_cons.mp h.up.lt).2,λs hs=>h.up.le s (List.mem_cons_of_mem _ hs)⟩,λi a b ha hb=>h.no (i+1) a b (by simpa using ha) (by simpa using hb)⟩
 have first:∀{r:Row M}{t:List (Row M)}{n:Int}{m:M},Tidy (r::t)->dayOf (r::t) n=some m->r.1<=n:=λ{r t n m} h e=>by
  obtain⟨s,hs,q,_⟩:=eG e
  rcases List.mem_cons.mp hs with z | hs
  ·rw [<- z];exact q.1
  ·have:=(List.pairwise_cons.mp h.up.lt).1 s hs
   have l:=h.up.le r List.mem_cons_self
   unfold Lt at this;unfold Has at q;omega
 have ends:∀{r s:Row M}{t u:List (Row M)},Tidy (r::t)->Tidy (s::u)->r.1=s.1->r.2.2=s.2.2->(∀n,dayOf (r::t) n=dayOf (s::u) n)->¬r.2.1 < s.2.1:=λ{r s t u} h1 h2 e1 e2 hd hlt=>by
  have lr:=h1.up.le r List.mem_cons_self
  have hs:dayOf (s::u) (r.2.1+1)=some s.2.2:=dayOf_mem h2.up.disj List.mem_cons_self ⟨by omega,by omega⟩
  rw [<- hd]at hs
  obtain⟨q,hq,hn,hm⟩:=eG hs
  rcases List.mem_cons.mp hq with z | hq
  ·rw [z]at hn;unfold Has at hn;omega
  ·cases t with
   | nil=>cases hq
   | cons v t'=>
    have lv:r.2.1 < v.1:=(List.pairwise_cons.mp h1.up.lt).1 v List.mem_cons_self
    have lq:v.1<=q.1:=by
     rcases List.mem_cons.mp hq with z | hq
     ·rw [z];exact Int.le_refl _
     ·have:=(List.pairwise_cons.mp (tail h1).up.lt).1 q hq
      have l:=h1.up.le v (List.mem_cons_of_mem _ List.mem_cons_self)
      unfold Lt at this;omega
    have hv:v.1=r.2.1+1:=by unfold Has at hn;omega
    have lv2:=h1.up.le v (List.mem_cons_of_mem _ List.mem_cons_self)
    have dv:dayOf (r::v::t') (r.2.1+1)=some v.2.2:=dayOf_mem h1.up.disj (List.mem_cons_of_mem _ List.mem_cons_self) ⟨by omega,by omega⟩
    rw [hd,dayOf_mem h2.up.disj List.mem_cons_self (show Has s (r.2.1+1) from ⟨by omega,by omega⟩)]at dv
    exact h1.no 0 r v rfl rfl ⟨hv.symm,by rw [e2];exact Option.some.inj dv⟩
 intro as
 induction as with
 | nil=>
  intro bs _ hb hd
  cases bs with
  | nil=>rfl
  | cons s u=>
   have:=dayOf_mem hb.up.disj List.mem_cons_self (show Has s s.1 from ⟨Int.le_refl _,hb.up.le s List.mem_cons_self⟩)
   rw [<- hd]at this;cases this
 | cons r t ih=>
  intro bs ha hb hd
  cases bs with
  | nil=>
   have:=dayOf_mem ha.up.disj List.mem_cons_self (show Has r r.1 from ⟨Int.le_refl _,ha.up.le r List.mem_cons_self⟩)
   rw [hd]at this;cases this
  | cons s u=>
   have d1:=dayOf_mem ha.up.disj List.mem_cons_self (show Has r r.1 from ⟨Int.le_refl _,ha.up.le r List.mem_cons_self⟩)
   have d2:=dayOf_mem hb.up.disj List.mem_cons_self (show Has s s.1 from ⟨Int.le_refl _,hb.up.le s List.mem_cons_self⟩)
   have g1:=first hb ((hd _).symm.trans d1)
   have g2:=first ha ((hd _).trans d2)
   have e1:r.1=s.1:=by omega
   have e2:r.2.2=s.2.2:=by rw [hd,e1,d2]at d1;exact(Option.some.inj d1).symm
   have n1:=ends ha hb e1 e2 hd
   have n2:=ends hb ha e1.symm e2.symm λn=>(hd n).symm
   have e3:r.2.1=s.2.1:=by omega
   have er:r=s:=by
    obtain⟨a,b,c⟩:=r;obtain⟨a',b',c'⟩:=s
    simp only at e1 e2 e3
    rw [e1,e2,e3]
   subst er
   refine congrArg _ (ih (tail ha) (tail hb) λn=>?_)
   by_cases hn:Has r n
   ·have a1:dayOf t n=none:=fK λq hq hh=>by
     have:=(List.pairwise_cons.mp ha.up.lt).1 q hq
     unfold Lt at this;unfold Has at hn hh;omega
    have a2:dayOf u n=none:=fK λq hq hh=>by
     have:=(List.pairwise_cons.mp hb.up.lt).1 q hq
     unfold Lt at this;unfold Has at hn hh;omega
    rw [a1,a2]
   ·have c:∀l:List (Row M),dayOf (r::l) n=dayOf l n:=λl=>by
     show (match dayOf l n with | some m=>some m | none=>if Has r n then some r.2.2 else none)=_
     cases dayOf l n with
     | some m=>rfl
     | none=>exact if_neg hn
    rw [<- c t,<- c u];exact hd n
end
end Strip
namespace L2
open PySem PySem.Spec PyProof.Rows
theorem cU {H:Hp}{ps:List Addr}{rs:List bF} (h:bY H ps rs):ps.length=rs.length:=Paired.length h
theorem fi {H:Hp}{p:Addr}{r:bF} (hp:H p=some (.tup (dr r))) (hm:de r.2.2):∀{ps:List Addr}{rs:List bF},bY H ps rs->bY H (ps++[p]) (rs++[r])
 | _,_,.nil=>.cons ⟨hp,hm⟩ .nil
 | _,_,.cons a t=>.cons a (fi hp hm t)
theorem cO {H H':Hp}:∀{ps:List Addr}{rs:List bF},bY H ps rs->(∀p xs,H p=some (.tup xs)->H' p=some (.tup xs))->bY H' ps rs
 | _,_,.nil,_=>.nil
 | _,_,.cons a t,k=>.cons ⟨k _ _ a.1,a.2⟩ (cO t k)
theorem iX {H:Hp}{ps:List Addr}{rs:List bF} (h:bY H ps rs){i:Nat}{p:Addr} (e:ps[i]?=some p):∃r,rs[i]?=some r/\H p=some (.tup (dr r))/\de r.2.2:=dB h e
theorem jX {H:Hp}{l:bF}:∀{as:List bF}{ps:List Addr},bY H ps (as++[l])->∃qs pl,ps=qs++[pl]/\bY H qs as/\H pl=some (.tup (dr l))/\de l.2.2
 | [],_,.cons a t=>by cases t;exact⟨[],_,rfl,.nil,a.1,a.2⟩
 | _::_,_,.cons a t=>by
  obtain⟨qs,pl,e,h1,h2⟩:=jX t
  exact⟨_::qs,pl,by rw [e];rfl,.cons a h1,h2⟩
theorem dA {H H':Hp}{a:Addr}{rs:List bF} (h:cm H a rs) (ka:∀xs,H a=some (.lst xs)->H' a=some (.lst xs)) (k:∀p xs,H p=some (.tup xs)->H' p=some (.tup xs)):cm H' a rs:=by
 obtain⟨ps,e,r⟩:=h
 exact⟨ps,ka _ e,cO r k⟩
theorem gN {H:Hp}{a:Addr} (e:H a=some (.lst [])):cm H a []:=⟨[],e,.nil⟩
section
variable {T:Addr}{pos:Pos}{q:Str}{H H':Hp}
theorem Go.tup (G:Go T pos q H H') (L:eV T pos q H){p:Addr}{xs:List V} (e:H p=some (.tup xs)):H' p=some (.tup xs):=G.at L e λ_ z=>by cases z
theorem Go.lst (G:Go T pos q H H') (L:eV T pos q H){p:Addr}{xs:List V} (e:H p=some (.lst xs)):H' p=some (.lst xs):=G.at L e λ_ z=>by cases z
theorem Go.dK (G:Go T pos q H H') (L:eV T pos q H){p:Addr}{xs:List (Key × V)} (e:H p=some (.dK xs)):H' p=some (.dK xs):=G.at L e λ_ z=>by cases z
theorem Go.rows (G:Go T pos q H H') (L:eV T pos q H){a:Addr}{rs:List bF} (h:cm H a rs):cm H' a rs:=dA h (λ_ e=>G.lst L e) λ_ _ e=>G.tup L e
theorem Go.none (G:Go T pos q H H'){b:Addr} (e:H' b=.none) (n:b≠T):H b=.none:=by
 cases z:H b with
 | none=>rfl
 | some o=>rw [G.same b o n z]at e;cases e
end
theorem tL {α β:Type}{g:α->β}:∀{zs ws:List β},zs.Perm ws->∀xs:List α,ws=xs.map g->∃ys:List α,ys.Perm xs/\zs=ys.map g:=by
 intro zs ws h
 induction h with
 | nil=>
  intro xs e
  cases xs with
  | nil=>exact⟨[],.nil,rfl⟩
  | cons _ _=>cases e
 | cons a _ ih=>
  intro xs e
  cases xs with
  | nil=>cases e
  | cons x xs=>
   rw [List.map_cons]at e
   injection e with e1 e2
   obtain⟨ys,p,e3⟩:=ih xs e2
   exact⟨x::ys,p.cons x,by rw [List.map_cons,e1,e3]⟩
 | swap a b l=>
  intro xs e
  cases xs with
  | nil=>cases e
  | cons x xs=>
   cases xs with
   | nil=>cases e
   | cons y xs=>
    rw [List.map_cons,List.map_cons]at e
    injection e with e1 e2
    injection e2 with e2 e3
    exact⟨y::x::xs,.swap x y xs,by rw [List.map_cons,List.map_cons,e1,e2,e3]⟩
 | trans _ _ ih1 ih2=>
  intro xs e
  obtain⟨ys,p,e2⟩:=ih2 xs e
  obtain⟨zs,p2,e3⟩:=ih1 ys e2
  exact⟨zs,p2.trans p,e3⟩
theorem me {H:Hp}:∀{ps:List Addr}{rs:List bF},bY H ps rs->∀z∈ps.zip rs,H z.1=some (.tup (dr z.2))/\de z.2.2.2
 | _,_,.nil,z,hz=>by cases hz
 | _,_,.cons a t,z,hz=>by
  rw [List.zip_cons_cons]at hz
  rcases List.mem_cons.mp hz with e | hz
  ·rw [e];exact a
  ·exact me t z hz
theorem p7 {H:Hp}:∀{ys:List (Addr × bF)},(∀z∈ys,H z.1=some (.tup (dr z.2))/\de z.2.2.2)->bY H (ys.map (·.1)) (ys.map (·.2))
 | [],_=>.nil
 | z::ys,h=>.cons (h z List.mem_cons_self) (p7 λy hy=>h y (List.mem_cons_of_mem _ hy))
theorem p5 {H:Hp}{ps:List Addr}{rs:List bF} (h:bY H ps rs){zs:List (Int × Addr)} (p:zs.Perm ((rs.map (·.1)).zip ps)) (s:zs.Pairwise λa b=>a.1<=b.1) :
  ∃qs ss,bY H qs ss/\ss.Perm rs/\(ss.Pairwise λr t=>r.1<=t.1)/\(zs.map λz=>V.ref z.2)=qs.map V.ref:=by
 have hl:=cU h
 have e:(rs.map (·.1)).zip ps=(ps.zip rs).map λz=>(z.2.1,z.1):=by
  clear p s hl
  unfold bY at h
  induction h with
  | nil=>rfl
  | cons _ _ ih=>rw [List.map_cons,List.zip_cons_cons,List.zip_cons_cons,List.map_cons,ih]
 rw [e]at p
 obtain⟨ys,py,ez⟩:=tL p _ rfl
 refine⟨ys.map (·.1),ys.map (·.2),p7 λz hz=>me h z (py.mem_iff.mp hz),?_,?_,?_⟩
 ·have:=py.map (·.2)
  rw [List.map_snd_zip (by omega)]at this
  exact this
 ·rw [List.pairwise_map]
  rw [ez,List.pairwise_map]at s
  exact s
 ·rw [ez,List.map_map,List.map_map]
  rfl
end L2
namespace L2
open PySem PySem.Spec PyProof.Rows
section
variable {X:Cx}
theorem bS:dq X (.builtin "isinstance") (λxs H Q=>∃x n t b,xs=[x,.ty n]/\TyOf X.K H x t/\PySem.W.kitOne X.K t (.type n)=some b/\Q (.bl b) H):=by
 intro pins s Y H xs us Q I r h
 obtain⟨x,n,t,b,rfl,ty,e,q⟩:=h
 obtain⟨u,u2,rfl,rx,rt⟩:=lM r
 cases (show u2=Value.type n from rt)
 exact ui I rx ty e λtk=>⟨.bl b,H,I.tok _,rfl,q⟩
end
end L2
namespace L2
open PySem PySem.Spec PyProof.Rows
theorem x6 (n:Nat):ixN (n+1) (-1)=some n:=by
 unfold ixN
 rw [if_neg (by decide),if_pos (by omega)]
 congr 1
 omega
theorem p9 {H:Hp}{st p:Addr}{as:List Addr}{acc:List bF}{r:bF} (hst:H st=some (.lst (as.map V.ref))) (hrs:bY H as acc) (np:H p=none) (hm:de r.2.2) :
  cm (upd (upd H p (.tup (dr r))) st (.lst (as.map V.ref++[V.ref p]))) st (acc++[r])/\∀b o,b≠st->H b=some o->upd (upd H p (.tup (dr r))) st (.lst (as.map V.ref++[V.ref p])) b=some o:=by
 have ps:p≠st:=λz=>by rw [z,hst]at np;cases np
 have keep:∀b o,b≠st->H b=some o->upd (upd H p (.tup (dr r))) st (.lst (as.map V.ref++[V.ref p])) b=some o:=λb o n e=>by
  rw [aj n,aj (al e np)];exact e
 refine⟨⟨as++[p],?_,fi ?_ hm (cO hrs λb xs e=>keep b _ (aS e hst (by intro z;cases z)) e)⟩,keep⟩
 ·rw [ag,List.map_append];rfl
 ·rw [aj ps,ag]
theorem uV {H:Hp}{st p pl:Addr}{qs:List Addr}{acc:List bF}{r:bF} (hst:H st=some (.lst ((qs++[pl]).map V.ref))) (hrs:bY H qs acc) (np:H p=none) (hm:de r.2.2) :
  cm (upd (upd H p (.tup (dr r))) st (.lst (((qs++[pl]).map V.ref).set qs.length (V.ref p)))) st (acc++[r])/\∀b o,b≠st->H b=some o->upd (upd H p (.tup (dr r))) st (.lst (((qs++[pl]).map V.ref).set qs.length (V.ref p))) b=some o:=by
 have ps:p≠st:=λz=>by rw [z,hst]at np;cases np
 have keep:∀b o,b≠st->H b=some o->upd (upd H p (.tup (dr r))) st (.lst (((qs++[pl]).map V.ref).set qs.length (V.ref p))) b=some o:=λb o n e=>by
  rw [aj n,aj (al e np)];exact e
 refine⟨⟨qs++[p],?_,fi ?_ hm (cO hrs λb xs e=>keep b _ (aS e hst (by intro z;cases z)) e)⟩,keep⟩
 ·rw [ag,List.map_append,List.map_append,List.set_append]
  simp
 ·rw [aj ps,ag]
theorem eV.row {T:Addr}{pos:Pos}{q:Str}{H:Hp} (L:eV T pos q H){st p:Addr}{xs ys zs:List V} (hst:H st=some (.lst xs)) (np:H p=none):eV T pos q (upd (upd H p (.tup zs)) st (.lst ys)):=by
 refine(L.upd_new np).upd_own (u:=.lst xs) ?_ (λ_ z=>by cases z) λ_ z=>by cases z
 rw [aj (al hst np)];exact hst
end L2
namespace Strip
section
variable {M:Type} [DecidableEq M]
structure DG (cs:List (Row M)) (g:Int->Option M):Prop where
 dj:Disj cs
 day:∀n,dayOf cs n=g n
theorem DG.nil:DG ([]:List (Row M)) λ_=>none:=⟨⟨List.Pairwise.nil,(λ_ h=>nomatch h)⟩,λ_=>rfl⟩
theorem DG.eq {cs:List (Row M)}{g g':Int->Option M} (h:DG cs g) (e:∀n,g n=g' n):DG cs g':=⟨h.dj,λn=>(h.day n).trans (e n)⟩
theorem DG.put {cs:List (Row M)}{g:Int->Option M}{c:Row M} (h:DG cs g) (hc:c.1<=c.2.1) (no:∀n,Has c n->g n=none):DG (cs++[c]) (λn=>if Has c n then some c.2.2 else g n):=by
 refine⟨⟨List.pairwise_append.mpr ⟨h.dj.ap,List.pairwise_singleton _ _,λa ha b hb=>?_⟩,λs hs=>?_⟩,λn=>?_⟩
 ·rw [List.mem_singleton.mp hb]
  have la:=h.dj.le a ha
  unfold iT
  by_cases h1:a.2.1 < c.1
  ·exact .inl h1
  ·by_cases h2:c.2.1 < a.1
   ·exact .inr h2
   ·exfalso
    by_cases h3:a.1<=c.1
    ·have:=no c.1 ⟨Int.le_refl _,hc⟩
     rw [<- h.day,dayOf_mem h.dj ha ⟨h3,by omega⟩]at this
     cases this
    ·have:=no a.1 ⟨by omega,by omega⟩
     rw [<- h.day,dayOf_mem h.dj ha ⟨Int.le_refl _,la⟩]at this
     cases this
 ·rcases List.mem_append.mp hs with hs | hs
  ·exact h.dj.le s hs
  ·rw [List.mem_singleton.mp hs];exact hc
 ·rw [bZ,h.day]
theorem Disj.ahead {rs:List (Row M)} (d:Disj rs){i:Nat}{r:Row M} (e:rs[i]?=some r){n:Int} (h:Has r n):dayOf (rs.take i) n=none:=by
 refine fK λs hs hh=>?_
 obtain⟨hlt,e2⟩:=List.getElem?_eq_some_iff.mp e
 obtain⟨j,hj,ej⟩:=List.mem_iff_getElem.mp hs
 rw [List.length_take]at hj
 rw [List.getElem_take]at ej
 have:=List.pairwise_iff_getElem.mp d.ap j i (by omega) hlt (by omega)
 rw [ej,e2]at this
 exact this.not_both hh h
theorem take_snoc {α:Type}{rs:List α}{i:Nat}{r:α} (e:rs[i]?=some r):rs.take (i+1)=rs.take i++[r]:=by rw [List.take_add_one,e];rfl
noncomputable def laidG (m:M) (rs:List (Row M)) (f l:Int):Int->Option M:=λn=>if f<=n/\n<=l then some m else dayOf rs n
end
end Strip
namespace L2
open PySem PySem.Spec PyProof.Rows
noncomputable def cF (X:Cx) (scope:Scope) (cl:List (Str × Addr)) (N:List Str) (C:Addr) (fp:List Addr) (s:Shared) (H:Hp):Cx where
 prog:=X.prog
 w:=X.w
 K:=X.K
 mg:=X.mg
 base:=X.base
 A:=X.A
 N:=N
 s₀:=s
 Hz:=H
 env:=compEnvC scope cl C X.env
 outer:=X.stack
 stack:=X.stack
 ex:=fp
 fn:=λ_=>false
 calm:=true
 pn:=[]
 xe:=λ_ _=>False
noncomputable def cj (sub:List Nat) (Y:St):St:=sub.map λi=>(Y[i]?).join
def PTs (X:Cx) (ifs:List Expr) (t:TT):Prop:=
 ∀(pins:List (Addr × Obj)) (s:Shared) (Y:St) (H:Hp) (Q:Bool->Hp->Prop),Inv X pins Y H s->t Y H Q->
  wpAny (model X.prog X.w) X.A (forIn ifs true λc r=>if r=true then do let ok <- isTrue c X.env (eval c X.env);pure (ForInStep.yield ok) else pure (ForInStep.yield r)) (TP X pins Y Q) X.xe s
theorem cM {X:Cx}:PTs X [] (λ_ H Q=>Q true H):=λ_ _ _ H _ I h=>wpAny_tests_nil ⟨H,I,h⟩
theorem sx {X:Cx}{c:Expr}{t:TT} (h:PT X c t):PTs X [c] t:=λpins s Y H Q I q=>wpAny_tests_one (h pins s Y H Q I q)
def ja (wi:TI) (sub:List Nat) (tt:TT) (te:TE):TE:=λY H Q=>wi Y H λJ H1=>∀D,H1 D=none->∃W:Nat->Nat->List V->Hp->Prop,(∃m,W 0 m [] (upd H1 D (.lst [])))/\∀i m ys H2,W i m ys H2->
 (J.stop i H2/\Q (.ref D) H2)\/(J.go i H2/\∃N:List V->Hp->Prop,(∀ys' H',N ys' H'->∃m',m' < m/\W (i+1) m' ys' H')/\∀v H3,J.yld i H2 v H3->tt (some v::cj sub Y) H3 λb H4=>if b=true then
  te (some v::cj sub Y) H4 λy H5=>H5 D=some (.lst ys)/\ys.length < sizeLine/\N (ys++[y]) (upd H5 D (.lst (ys++[y])))
  else N ys H4)
def PEC (X:Cx) (e iter:Expr) (scope:Scope) (te:TE):Prop:=
 ∀(pos:Pos) (pins:List (Addr × Obj)) (s:Shared) (Y:St) (H:Hp) (Q:VK) (use:Option (Value->Sem Unit)) (QV:Value->Shared->Prop),Inv X pins Y H s->te Y H Q->
  (∀(D C:Addr) (H':Hp) (s':Shared),Inv X pins Y H' s'->iu X pins H' C->(∃m,s'.heap.Ns C m)->Q (.ref D) H'->compPost (model X.prog X.w) X.A X.xe use QV (.ref D) C (.ok .next) s')->
  wpAny (model X.prog X.w) X.A (comprehension e scope X.env pos (newList []) false (eval iter X.env) use) QV X.xe s
theorem iu.turn {X:Cx}{pins:List (Addr × Obj)}{Y:St}{H:Hp}{s:Shared}{h':Heap}{C:Addr} (f:iu X pins H C) (I:Inv X pins Y H s) (hs:Heap.SameBut C s.heap h'):Inv X pins Y H { s with heap:=h' }:=
 I.turned (h':=h') (t':=s.toks) (it:=C) (λb o n e=>(hs.2 b n).trans e) f.1 f.2.1 f.2.2.2.1 f.2.2.2.2.1 f.2.2.2.2.2
theorem gz {X:Cx}{elt tg iter:Expr}{ifs:List Expr}{scope:Scope}{pos:Pos}{te:TE} (h:PEC X (.ListComp elt [⟨tg,iter,ifs,0⟩] scope pos) iter scope te):PE X (.ListComp elt [⟨tg,iter,ifs,0⟩] scope pos) te:=by
 intro pins s Y H Q I q
 rw [eval_ListComp]
 refine h _ pins s Y H Q none _ I q λD C H' s' K1 fC ⟨m,hm⟩ q=>⟨m,hm,λh' hsb'=>⟨.ref D,H',fC.turn K1 hsb',rfl,q⟩⟩
theorem o8 {X:Cx}{elt tg iter:Expr}{ifs:List Expr}{scope:Scope}{pos spos py:Pos}{te:TE}{i:Nat}{y:Str} (hN:X.N.Nodup) (hi:X.N[i]?=some y) (hx:Loc X.env.scope y)
  (h:PEC X (.ListComp elt [⟨tg,iter,ifs,0⟩] scope pos) iter scope te) (hsw:swapsWith (.ListComp elt [⟨tg,iter,ifs,0⟩] scope pos) (some (.Name y py)) spos.line X.env=pure true:=by rfl)
  (hf:X.fn y=true\/X.env.scope.names.lookup y=some .local:=by first | exact .inl rfl | exact .inr rfl | assumption):PS X (.Assign [.Name y py] (.ListComp elt [⟨tg,iter,ifs,0⟩] scope pos) spos) (qk te (aN i)):=by
 intro pins s Y H D I q
 rw [exec_Assign_Name_used _ _ _ _ hsw]
 refine wpAny_bind (wpAny_standAt (wpAny_bind ?_))
 show wpAny _ X.A (do let _ <- comprehension (.ListComp elt [⟨tg,iter,ifs,0⟩] scope pos) scope X.env _ (newList []) false (eval iter X.env) (some (assign (.Name y py) X.env))) _ _ s
 refine wpAny_bind (wpAny_mono (h _ pins s Y H _ (some (assign (.Name y py) X.env)) (λ_ s'=>SP X pins D .next s') I q λDa C H' s' K1 fC hm q=>?_) (λ_ s' hq=>wpAny_pure (wpAny_pure hq)) λ_ _ e=>e)
 show wpAny _ X.A (assign (.Name y py) X.env (.ref Da)) _ _ _
 refine wpAny_assign_Name (lO K1 hN hi hx (v:=.ref Da) rfl (λs2 I2 hh=>?_) hf)
 obtain⟨m,hm⟩:=hm
 obtain⟨a,hsb,ha⟩:=hh
 have hne:C≠a:=by
  rcases ha with z | z
  ·rw [z];exact fC.2.1
  ·exact λe=>fC.2.2.2.2.1 _ _ z e.symm
 exact⟨m,hm.sameBut hsb hne,λh' hs'=>⟨_,H',fC.turn I2 hs',q⟩⟩
section
variable {prog:Program}{w:World}{A:Around}{R:Result->Shared->Prop}{s:Shared}
abbrev mH (prog:Program) (w:World) (A:Around) (env:Env) (R:Result->Shared->Prop):Value->Shared->Prop:=notedBy (model prog w) A env λx s'=>R (.error x) s'
theorem r6 {elt tg iter:Expr}{ifs:List Expr}{scope:Scope}{pos:Pos}{it acc:Value}{env:Env} (J:Nat->Shared->Prop)
  (go:∀n s,J n s->wpAny (model prog w) A (pyNext it) (λr s1=>match r with
   | none=>R (.ok .next) s1
   | some v=>wpAny (model prog w) A (letOwnedTupleGo tg it v) (λ_ s1'=>wpAny (model prog w) A (assign tg env v) (λ_ s2=>
     wpAny (model prog w) A (forIn ifs true λc r=>if r=true then do let ok <- isTrue c env (eval c env);pure (ForInStep.yield ok) else pure (ForInStep.yield r)) (λb s3=>
      if b=true then wpAny (model prog w) A (eval elt env) (λx s4=>wpAny (model prog w) A (call (.builtin "list.append") [acc,x]) (λ_ s5=>∃m,m < n/\J m s5) (mH prog w A env R) s4) (mH prog w A env R) s3
      else ∃m,m < n/\J m s3) (mH prog w A env R) s2) (mH prog w A env R) s1') (mH prog w A env R) s1) (mH prog w A env R) s)
  (n:Nat) (h0:J n s):codeAny (model prog w) A (.compLoop (.ListComp elt [⟨tg,iter,ifs,0⟩] scope pos) 0 it acc env) R s:=by
 refine codeAny_loop rfl J (λn s hI=>?_) n h0
 have e:((compTurn (.ListComp elt [⟨tg,iter,ifs,0⟩] scope pos) 0 it acc env).onRaise λx=>do noteFrame x env;theTreesLotGoes x)=((compTurn (.ListComp elt [⟨tg,iter,ifs,0⟩] scope pos) 0 it acc env).onRaise λx=>do noteFrame x env;theTreesLotGoes x):=rfl
 show wpAny _ A ((compTurn (.ListComp elt [⟨tg,iter,ifs,0⟩] scope pos) 0 it acc env).onRaise λx=>do noteFrame x env;theTreesLotGoes x) _ _ s
 apply wpAny_noted
 rw [compTurn_list]
 refine wpAny_bind (wpAny_standAt (wpAny_bind (thn (go n s hI) λr s1 h1=>?_)))
 cases r with
 | none=>exact wpAny_pure h1
 | some v=>
  refine wpAny_bind (thn h1 λ_ s1' h1'=>wpAny_bind (thn h1' λ_ s2 h2=>wpAny_bind (thn h2 λb s3 h3=>?_)))
  cases b with
  | false=>exact wpAny_pure ⟨rfl,h3⟩
  | true=>exact wpAny_bind (wpAny_bind (thn h3 λx s4 h4=>wpAny_bind (thn h4 λ_ s5 h5=>wpAny_pure (wpAny_pure ⟨rfl,h5⟩))))
end
def BX (g:TG) (n:Nat) (sub:List Nat) (tt:TT) (te:TE) (Y:St) (Q:VK) (J:It) (H1:Hp):Prop:=∀D,H1 D=none->∃W:Nat->Nat->List V->Hp->Prop,(∃m,W 0 m [] (upd H1 D (.lst [])))/\∀i m ys H2,W i m ys H2->
 (J.stop i H2/\Q (.ref D) H2)\/(J.go i H2/\∃N:List V->Hp->Prop,(∀ys' H',N ys' H'->∃m',m' < m/\W (i+1) m' ys' H')/\∀v H3,J.yld i H2 v H3->∀τ:List (Option V),τ.length=n->g v (τ++cj sub Y) H3 λY' H'=>(∃τ':List (Option V),τ'.length=n/\Y'=τ'++cj sub Y)/\tt Y' H' λc H4=>if c=true then
  te Y' H4 λy H5=>H5 D=some (.lst ys)/\ys.length < sizeLine/\N (ys++[y]) (upd H5 D (.lst (ys++[y])))
  else N ys H4)
section
variable {X:Cx}
theorem mj {elt tg iter:Expr}{xn:List Str}{g:TG}{CB:St->VK->It->Hp->Prop}{pos:Pos}{ifs:List Expr}{scope:Scope}{cl:List (Str × Addr)}{sub:List Nat}{fv:List Str}{wi:TI}{tt:TT}{te:TE}
  (hc:X.calm=true) (hi:PI X tg iter wi) (hclos:closureFor scope X.env=pure cl)
  (hcell:∀y∈scope.names,y.2≠.cell) (hkind:scope.kind=.function) (hnames:∀y∈scope.names,y.2=.local->scope.names.lookup y.1=some .local)
  (hl:sub.length=fv.length) (hsub:∀(j:Nat) (i:Nat) (y:Str),sub[j]?=some i->fv[j]?=some y->X.N[i]?=some y/\Vis X.env.scope y/\X.env.kindOf y≠some .local)
  (hvis:∀y∈fv,(compEnvC scope cl 0 X.env).kindOf y=some .cell\/(compEnvC scope cl 0 X.env).kindOf y=some .free)
  (hcl:∀y c,cl.lookup y=some c->X.env.cells.lookup y=some c) (hcl2:∀y∈fv,cl.lookup y=X.env.cells.lookup y)
  (hhas:∀y,((compEnvC scope cl 0 X.env).kindOf y=some .cell\/(compEnvC scope cl 0 X.env).kindOf y=some .free)->∃c,cl.lookup y=some c)
  (hg:∀C fp s H,PG (cF X scope cl (xn++fv) C fp s H) tg g) (ht:∀C fp s H,PTs (cF X scope cl (xn++fv) C fp s H) ifs tt) (he:∀C fp s H,PE (cF X scope cl (xn++fv) C fp s H) elt te)
  (hCB:∀Y Q J H1,CB Y Q J H1->BX g xn.length sub tt te Y Q J H1) (hs:∀x,foldedSetIterable iter X.env x=pure x:=by intro _;rfl):PEC X (.ListComp elt [⟨tg,iter,ifs,0⟩] scope pos) iter scope (λY H Q=>wi Y H λJ H1=>CB Y Q J H1):=by
 intro upos pins s Y H Q use QV I h hend
 refine wpAny_comprehension_free (use:=use) rfl hs hclos hkind hnames ?_
 refine thn (hi pins s Y H _ I h) λv s1 h1=>thn h1 λitv s2 h2=>?_
 obtain⟨it,fp,tn,J,H2,e,I2,T,st2,f2,h⟩:=h2
 subst e
 refine wpAny_newList ?_ (Nat.zero_le _)
 have nD:H2 s2.heap.objs.size=none:=I2.hok.fresh (Nat.le_refl _)
 obtain⟨W,⟨m0,w0⟩,turn⟩:=hCB _ _ _ _ h s2.heap.objs.size nD
 have I3:=I2.lnew (ys:=[]) (its:=[]) (t':=s2.toks) .nil (Nat.zero_le _)
 generalize hs3:({ s2 with heap:=s2.heap.push { cls:=.type "list", data:=.seq ([]:List Value).toArray },toks:=s2.toks }:Shared)=s3 at I3
 have hDlt:s2.heap.objs.size < s3.heap.objs.size:=by rw [<- hs3];show _ < (s2.heap.push _).objs.size;rw [Heap.size_push];exact Nat.lt_succ_self _
 have old3:∀b o,s2.heap.get? b=some o->s3.heap.get? b=some o:=λb o e=>by rw [<- hs3];exact Heap.get?_push_of_some _ e
 generalize hD:s2.heap.objs.size=D at *
 refine wpAny_newFunctionEnv hcell (by intro y hy;simp at hy) (λh₁ hns hsb=>?_) hkind
 generalize hC:s3.heap.objs.size=C at *
 have kept:∀b o,s3.heap.get? b=some o->h₁.get? b=some o:=λb o e=>(hsb.2 b (by rw [<- hC];exact Nat.ne_of_lt (Heap.lt_size e))).trans (Heap.get?_push_of_some _ e)
 have nC:upd H2 D (.lst []) C=none:=I3.hok.fresh (Nat.le_of_eq hC)
 have fC:iu X pins (upd H2 D (.lst [])) C:=I3.fpOk (Nat.le_of_eq hC) nC
 have fp3:∀b∈fp,b < s2.heap.objs.size:=λb hb=>by obtain⟨o,e,_⟩:=T.obj _ _ st2 b hb;exact Heap.lt_size e
 have fpC:∀b∈fp,b≠C:=λb hb=>by rw [<- hC];exact Nat.ne_of_lt (Nat.lt_of_lt_of_le (fp3 b hb) (by rw [hD];exact Nat.le_of_lt (hC ▸ hDlt)))
 have fpD:∀b∈fp,b≠D:=λb hb=>by rw [<- hD];exact Nat.ne_of_lt (fp3 b hb)
 have ok':(cF X scope cl (xn++fv) C fp s3 (upd H2 D (.lst []))).Ok:=by
  refine⟨I.ok.mod,hkind,I.ok.glob,I.ok.blt,Nat.le_of_eq hC,λy z c e1 e2=>I.ok.inj y z c (hcl y c e1) (hcl z c e2),λy hy=>hhas y hy,(λy c e _=>by cases e),λ_=>I.ok.hd hc,I.ok.frames,.inl rfl,λb hb=>⟨fpC b hb,λy c e=>(f2 b hb).2.2.2.2.1 y c (hcl y c e)⟩,I3.bs,Nat.le_trans I.ok.bsz I3.sz,
   λb o e hb=>?_,λb hb hf=>?_,I3.stack,I3.stkFree⟩
  ·rcases (f2 b hb).2.2.2.1 with z | z
   ·exact I.ok.noex b o e z
   ·exact absurd (Nat.lt_of_lt_of_le (Heap.lt_size e) (Nat.le_trans I.ok.bsz z)) (Nat.lt_irrefl _)
  ·rcases List.mem_cons.mp (I3.stkSub b hf) with z | z
   ·exact(f2 b hb).2.1 z
   ·exact(f2 b hb).2.2.1 z
 have lenY:∀τ:List (Option V),τ.length=xn.length->(τ++cj sub Y).length=(xn++fv).length:=λτ ht=>by
  unfold cj
  rw [List.length_append,List.length_append,List.length_map,hl,ht]
 have I4:∀t',Inv (cF X scope cl (xn++fv) C fp s3 (upd H2 D (.lst []))) [] (List.replicate xn.length none++cj sub Y) (upd H2 D (.lst [])) { s3 with heap:=h₁,toks:=t' }:=λt'=>by
  refine⟨ok',rfl,I3.bare,Un.kept kept,⟨_,hns,λi y v e1 e2 e3=>?_⟩,λy c e=>?_,nC,λy c e=>I3.freeC y c (hcl y c e),(λp hp=>by cases hp),I3.hok.kept kept,lenY _ (List.length_replicate ..)⟩
  ·by_cases hi:i < xn.length
   ·rw [List.getElem?_append_left (by rw [List.length_replicate];exact hi),List.getElem?_replicate,if_pos hi]at e2
    cases e2
   ·have e1:(xn++fv)[i]?=some y:=e1
    rw [List.getElem?_append_right (by omega)]at e1
    rw [List.getElem?_append_right (by rw [List.length_replicate];omega),List.length_replicate]at e2
    generalize i - xn.length=j at e1 e2
    unfold cj at e2
    rw [List.getElem?_map]at e2
    cases ei:sub[j]? with
    | none=>rw [ei]at e2;cases e2
    | some i=>
     rw [ei]at e2
     have e2:(Y[i]?).join=some v:=Option.some.inj e2
     obtain⟨n1,n2,n3⟩:=hsub j i y ei e1
     have e4:Y[i]?=some (some v):=by
      cases q:Y[i]? with
      | none=>rw [q]at e2;cases e2
      | some w'=>rw [q]at e2;cases w' with
       | none=>cases e2
       | some v'=>cases e2;rfl
     obtain⟨m,hn,hl'⟩:=I3.loc
     obtain⟨u,ru,lu⟩:=hl' i y v n1 e4 n2
     refine⟨u,ru,?_⟩
     rcases lu with⟨k1,_⟩ | ⟨k1,c,ec,ic⟩
     ·exact absurd k1 n3
     ·have hy:=List.mem_of_getElem? e1
      exact .inr ⟨hvis y hy,c,(hcl2 y hy).trans ec,ic.keeps kept⟩
  ·obtain⟨v,z⟩:=I3.cell y c (hcl y c e)
   exact⟨v,z.keeps kept⟩
 have back:∀{Y':St}{H':Hp}{s':Shared},Inv (cF X scope cl (xn++fv) C fp s3 (upd H2 D (.lst []))) [] Y' H' s'->Q (.ref D) H'->
   compPost (model X.prog X.w) X.A X.xe use QV (.ref D) C (.ok .next) s':=λ{Y' H' s'} J' q=>by
  obtain⟨m,hm,_⟩:=id J'.loc
  have hos:s'.os=s3.os:=J'.os
  have K1:Inv X pins Y H' s':=I3.call' (ch:=fp) hos J'.base J'.hok J'.bare λb hb=>⟨(f2 b hb).2.2.2.1,(f2 b hb).2.1,(f2 b hb).2.2.2.2.1,(f2 b hb).2.2.2.2.2⟩
  exact hend D C H' s' K1 ⟨J'.free,fC.2⟩ ⟨m,hm⟩ q
 have stat:∀{H':Hp},(∀b∈fp,H' b=none)->∀b∈fp,iu (cF X scope cl (xn++fv) C fp s3 (upd H2 D (.lst []))) [] H' b:=λhn b hb=>
  ⟨hn b hb,fpC b hb,ok'.exfs b hb,.inl hb,(ok'.exf b hb).2,(λp hp=>by cases hp)⟩
 have loop:∀t',codeAny (model X.prog X.w) X.A (.compLoop (.ListComp elt [⟨tg,iter,ifs,0⟩] scope pos) 0 (.ref it) (.ref D) (compEnvC scope cl C X.env)) (compPost (model X.prog X.w) X.A X.xe use QV (.ref D) C) { s3 with heap:=h₁,toks:=t' }:=λt'=>by
  refine r6 (λn s'=>∃(i:Nat) (ys:List V) (H':Hp) (τ:List (Option V)),τ.length=xn.length/\Inv (cF X scope cl (xn++fv) C fp s3 (upd H2 D (.lst []))) [] (τ++cj sub Y) H' s'/\tn i s'.heap/\(∀b∈fp,H' b=none)/\W i n ys H') ?_ m0
   ⟨0,[],_,_,List.length_replicate ..,I4 t',T.keep _ _ _ st2 (λb hb o e=>kept b o (old3 b o e)),λb hb=>by rw [aj (fpD b hb)];exact(f2 b hb).1,w0⟩
  rintro n s5 ⟨i,ys,H5,τ,hτ,I5,st5,fr5,w5⟩
  rcases turn i n ys H5 w5 with⟨stop,q⟩ | ⟨go,NN,hNN,step⟩
  ·refine wpAny_mono (T.done (cF X scope cl (xn++fv) C fp s3 (upd H2 D (.lst []))) rfl rfl rfl rfl i [] s5 _ H5 (λ_ _=>False) I5 (stat fr5) st5 stop) (λr s6 hh=>?_) λ_ _ f=>f.elim
   obtain⟨hr,I6⟩:=hh
   subst hr
   exact back I6 q
  ·refine wpAny_mono (T.item (cF X scope cl (xn++fv) C fp s3 (upd H2 D (.lst []))) rfl rfl rfl rfl i [] s5 _ H5 (λ_ _=>False) I5 (stat fr5) st5 go) (λr s6 hh=>?_) λ_ _ f=>f.elim
   obtain⟨u,hr,h6⟩:=hh
   subst hr
   refine wpAny_mono h6 (λ_ s7 hh=>?_) λ_ _ f=>f.elim
   obtain⟨v,H7,I7,r7,y7,st7,fr7⟩:=hh
   have I7':=I7.pinned (stat fr7) (T.obj _ _ st7)
   refine wpAny_mono (hg C fp s3 _ _ s7 _ H7 v u _ I7' r7 (step v H7 y7 τ hτ)) (λ_ s8 hh=>?_) λ_ _ f=>f.elim
   obtain⟨_,H8,I8,⟨τ',hτ',rfl⟩,step⟩:=hh
   have again:∀{H9:Hp}{s9:Shared}{ys9:List V}{m9:Nat},Inv (cF X scope cl (xn++fv) C fp s3 (upd H2 D (.lst []))) ([]++kh fp s7.heap) (τ'++cj sub Y) H9 s9->m9 < n->W (i+1) m9 ys9 H9->
     ∃m,m < n/\∃(i:Nat) (ys:List V) (H':Hp) (τ:List (Option V)),τ.length=xn.length/\Inv (cF X scope cl (xn++fv) C fp s3 (upd H2 D (.lst []))) [] (τ++cj sub Y) H' s9/\tn i s9.heap/\(∀b∈fp,H' b=none)/\W i m ys H':=λ{H9 s9 ys9 m9} I9 hm w9=>by
    refine⟨m9,hm,i+1,ys9,H9,_,hτ',I9.unpinned,T.keep _ _ _ st7 λb hb o e=>(I9.pin (b,o) (List.mem_append_right _ (List.mem_append_right _ (fE hb e)))).1,λb hb=>?_,w9⟩
    obtain⟨o,e,d⟩:=T.obj _ _ st7 b hb
    exact(I9.pin (b,o) (List.mem_append_right _ (List.mem_append_right _ (fE hb e)))).2.1
   refine wpAny_mono (ht C fp s3 _ _ s8 _ H8 _ I8 step) (λok s9 hh=>?_) λ_ _ f=>f.elim
   obtain⟨H9,I9,q9⟩:=hh
   cases ok with
   | false=>
    rw [if_neg Bool.false_ne_true]at q9 ⊢
    obtain⟨m',hm,w'⟩:=hNN _ _ q9
    exact again I9 hm w'
   | true=>
    rw [if_pos rfl]at q9 ⊢
    refine wpAny_mono (he C fp s3 _ _ s9 _ H9 _ I9 q9) (λxv sa hh=>?_) λ_ _ f=>f.elim
    obtain⟨y,Ha,Ia,ra,hDa,hsz,qa⟩:=hh
    obtain⟨m',hm,w'⟩:=hNN _ _ qa
    refine wpAny_mono (bN (X:=cF X scope cl (xn++fv) C fp s3 (upd H2 D (.lst []))) _ sa _ Ha (.ref D) [y] (.ref D) [xv] (λ_ H'=>H'=upd Ha D (.lst (ys++[y]))) Ia rfl (.cons ra .nil) ⟨D,ys,y,rfl,rfl,hDa,hsz,rfl⟩) (λ_ sb hh=>?_) λ_ _ f=>f.elim
    obtain⟨_,Hb,Ib,_,rfl⟩:=hh
    exact again Ib hm w'
 exact codeAny_compStart_list (loop _) (T.self X.A 0 _ _ _ (T.keep _ _ _ st2 (λb hb o e=>kept b o (old3 b o e))) (loop _))
theorem pc {elt iter:Expr}{x:Str}{px pos:Pos}{ifs:List Expr}{scope:Scope}{cl:List (Str × Addr)}{sub:List Nat}{fv:List Str}{wi:TI}{tt:TT}{te:TE}
  (hc:X.calm=true) (hi:PI X (.Name x px) iter wi) (hclos:closureFor scope X.env=pure cl)
  (hcell:∀y∈scope.names,y.2≠.cell) (hkind:scope.kind=.function) (hnames:∀y∈scope.names,y.2=.local->scope.names.lookup y.1=some .local) (hx:scope.names.lookup x=some .local)
  (hnd:(x::fv).Nodup) (hl:sub.length=fv.length) (hsub:∀(j:Nat) (i:Nat) (y:Str),sub[j]?=some i->fv[j]?=some y->X.N[i]?=some y/\Vis X.env.scope y/\X.env.kindOf y≠some .local)
  (hvis:∀y∈fv,(compEnvC scope cl 0 X.env).kindOf y=some .cell\/(compEnvC scope cl 0 X.env).kindOf y=some .free)
  (hcl:∀y c,cl.lookup y=some c->X.env.cells.lookup y=some c) (hcl2:∀y∈fv,cl.lookup y=X.env.cells.lookup y)
  (hhas:∀y,((compEnvC scope cl 0 X.env).kindOf y=some .cell\/(compEnvC scope cl 0 X.env).kindOf y=some .free)->∃c,cl.lookup y=some c)
  (ht:∀C fp s H,PTs (cF X scope cl (x::fv) C fp s H) ifs tt) (he:∀C fp s H,PE (cF X scope cl (x::fv) C fp s H) elt te)
  (hs:∀x,foldedSetIterable iter X.env x=pure x:=by intro _;rfl):PEC X (.ListComp elt [⟨.Name x px,iter,ifs,0⟩] scope pos) iter scope (ja wi sub tt te):=by
 refine mj (xn:=[x]) (g:=aN 0) hc hi hclos hcell hkind hnames hl hsub hvis hcl hcl2 hhas (λC fp s H=>bp (i:=0) hnd rfl (.inl (lookup_relabel_local hx)) (.inr (lookup_relabel_local hx))) ht he (λY Q J H1 h D nD=>?_) hs
 obtain⟨W,w0,st⟩:=h D nD
 refine⟨W,w0,λi m ys H2 hw=>(st i m ys H2 hw).imp id λ⟨go,N,hN,h⟩=>⟨go,N,hN,λv H3 y τ hτ=>?_⟩⟩
 match τ,hτ with
 | [t0],_=>exact⟨⟨[some v],rfl,rfl⟩,h v H3 y⟩
end
end L2
namespace Strip
section
variable {M:Type} [DecidableEq M]
end
end Strip
namespace L2
open PySem PySem.Spec PyProof.Rows
mutual
inductive DatV (H:Hp):V->PySem.W.Dat->Prop
 | non:DatV H .non .none
 | int (i:Int):DatV H (.int i) (.int i)
 | str (x:Str):DatV H (.str x) (.str x)
 | tup {a:Addr}{xs:List V}{ds:List PySem.W.Dat}:H a=some (.tup xs)->DatVs H xs ds->DatV H (.ref a) (.tuple ds)
 | lst {a:Addr}{xs:List V}{ds:List PySem.W.Dat}:H a=some (.lst xs)->DatVs H xs ds->DatV H (.ref a) (.list ds)
inductive DatVs (H:Hp):List V->List PySem.W.Dat->Prop
 | nil:DatVs H [] []
 | cons {x:V}{d:PySem.W.Dat}{xs:List V}{ds:List PySem.W.Dat}:DatV H x d->DatVs H xs ds->DatVs H (x::xs) (d::ds)
end
section
variable {X:Cx}{pins:List (Addr × Obj)}{Y:St}{H:Hp}{s:Shared}
mutual
theorem i8 (I:Inv X pins Y H s):∀{x:V}{d:PySem.W.Dat}{u:Value},DatV H x d->bh x u->∃as,Reads s.heap u (PySem.W.kqdP d) as
 | _,_,u,.non,r=>by cases (show u=Value.none from r);rw [PySem.W.kqdP];exact⟨_,.none⟩
 | _,_,u,.int i,r=>by obtain⟨t,e⟩:=(show ∃t,u=Value.int i t from r);subst e;rw [PySem.W.kqdP];exact⟨_,.int i t⟩
 | _,_,u,.str x,r=>by obtain⟨t,e⟩:=(show ∃t,u=Value.str x t from r);subst e;rw [PySem.W.kqdP];exact⟨_,.str x t⟩
 | _,_,u,.tup (a:=a) e t,r=>by
  cases (show u=Value.ref a from r)
  obtain⟨_,its,rv,o,e1,e2,n,e3⟩:=(show bw X.prog X.w H s.heap a (.tup _) from I.hok a _ e)
  obtain⟨as,q⟩:=gk I t rv
  rw [PySem.W.kqdP]
  exact⟨as,reads_tuple_at e1 e2 e3 (by simpa using q)⟩
 | _,_,u,.lst (a:=a) e t,r=>by
  cases (show u=Value.ref a from r)
  obtain⟨_,its,n,rv,e1⟩:=(show bw X.prog X.w H s.heap a (.lst _) from I.hok a _ e)
  obtain⟨as,q⟩:=gk I t rv
  rw [PySem.W.kqdP]
  exact⟨_,reads_list_at e1 rfl rfl (by simpa using q)⟩
theorem gk (I:Inv X pins Y H s):∀{xs:List V}{ds:List PySem.W.Dat}{us:List Value},DatVs H xs ds->aP xs us->∃as,ReadsAll s.heap us (PySem.W.kqdPs ds) as
 | _,_,_,.nil,.nil=>by rw [PySem.W.kqdPs];exact⟨_,.nil⟩
 | _,_,_,.cons d t,.cons r rt=>by
  obtain⟨as,q⟩:=i8 I d r
  obtain⟨bs,p⟩:=gk I t rt
  rw [PySem.W.kqdPs]
  exact⟨_,.cons q p⟩
end
end
section
variable {X:Cx}
inductive qC (neg:Bool) (x:V) (y:V) (H:Hp) (Q:VK):Prop
 | mk (d e) (h1:DatV H x d) (h2:DatV H y e) (h3:PySem.W.kqdOk 9 d=true) (h4:PySem.W.kqdOk 9 e=true) (h5:∃k:Bool,(k=true↔d=e)/\Q (.bl (if neg then !k else k)) H)
theorem jQ {d:PySem.W.Dat} (h:PySem.W.kqdOk 9 d=true):SeqAt.shaped (PySem.W.kqdP d)=true:=by
 have la:=PySem.W.kqd_lay 9 d h
 unfold SeqAt.shaped
 rw [la.1,Bool.true_and]
 exact decide_eq_true (Nat.le_trans la.2 (by decide))
theorem yL {d e:PySem.W.Dat} (h1:PySem.W.kqdOk 9 d=true) (h2:PySem.W.kqdOk 9 e=true){k:Bool} (hk:k=true↔d=e):PyData.eqv (PySem.W.kqdP d) (PySem.W.kqdP e)=k:=by
 have q:=PySem.W.kqd_eqv 9 d e 9 h1 h2
 cases k with
 | true=>exact q.mpr (hk.mp rfl)
 | false=>exact Bool.eq_false_iff.mpr λx=>by have:=hk.mpr (q.mp x);cases this
theorem eZ (hu:X.A.units+64 < cLine):OpR X (compareOp .NotEq) (qC true):=by
 intro pins s Y H x y v u Q I r1 r2 h
 obtain⟨d,e,hd,he,kd,ke,k,hk,q⟩:=h
 obtain⟨as,ra⟩:=i8 I hd r1
 obtain⟨bs,rb⟩:=i8 I he r2
 refine ne_dataH ra rb (jQ kd) (jQ ke) hu ?_
 rw [yL kd ke hk]
 exact⟨.bl (!k),H,I,rfl,q⟩
end
theorem mG {H:Hp}:∀{x:V},de x->DatV H x (uu x)
 | .non,_=>.non
 | .int i,_=>.int i
theorem t5 (n:Nat):∀{x:V},de x->PySem.W.kqdOk n (uu x)=true
 | .non,_=>by cases n <;> rfl
 | .int i,_=>by cases n <;> rfl
end L2
namespace L2
open PySem PySem.Spec PyProof.Rows
theorem ff {K:PySem.W.Frag}{a D:Addr}{xs:List V}{Y:St}{sub:List Nat}{tt:TT}{te:TE}{Q:VK}{H:Hp} (Pv:Nat->List V->Hp->Prop) (h0:Pv 0 [] (upd H D (.lst []))) (hl:∀i ys H,i<=xs.length->Pv i ys H->SqL K H a xs)
  (hs:∀i x ys H,xs[i]?=some x->Pv i ys H->tt (some x::cj sub Y) H λb H4=>if b=true then te (some x::cj sub Y) H4 λy H5=>H5 D=some (.lst ys)/\ys.length < sizeLine/\Pv (i+1) (ys++[y]) (upd H5 D (.lst (ys++[y]))) else Pv (i+1) ys H4)
  (hd:∀ys H,Pv xs.length ys H->Q (.ref D) H) :
  ∃W:Nat->Nat->List V->Hp->Prop,(∃m,W 0 m [] (upd H D (.lst [])))/\∀i m ys H2,W i m ys H2->
   ((Itl K a).stop i H2/\Q (.ref D) H2)\/((Itl K a).go i H2/\∃N:List V->Hp->Prop,(∀ys' H',N ys' H'->∃m',m' < m/\W (i+1) m' ys' H')/\∀v H3,(Itl K a).yld i H2 v H3->tt (some v::cj sub Y) H3 λb H4=>if b=true then
    te (some v::cj sub Y) H4 λy H5=>H5 D=some (.lst ys)/\ys.length < sizeLine/\N (ys++[y]) (upd H5 D (.lst (ys++[y])))
    else N ys H4):=by
 refine⟨λi m ys H=>m=xs.length - i/\i<=xs.length/\Pv i ys H,⟨xs.length,rfl,Nat.zero_le _,h0⟩,?_⟩
 rintro i m ys H ⟨rfl,hi,p⟩
 have q:=hl i ys H hi p
 by_cases hlt:i < xs.length
 ·refine .inr ⟨⟨xs,xs[i],q,by simp [hlt]⟩,Pv (i+1),λys' H' p'=>⟨xs.length - (i+1),by omega,rfl,hlt,p'⟩,λx H' y=>?_⟩
  obtain⟨e,y⟩:=y
  subst e
  exact hs i x ys _ (y xs q) p
 ·have e:i=xs.length:=by omega
  subst e
  exact .inl ⟨⟨xs,q,Nat.le_refl _⟩,hd ys H p⟩
end L2
namespace L2
open PySem PySem.Spec PyProof.Rows
end L2
namespace L2
open PySem PySem.Spec PyProof.Rows
section
variable {X:Cx}
theorem qp:SlR X (λx lo hi H Q=>∃z,x=.str z/\z.length<=sizeLine/\Q (.str (Txt.slice z lo hi)) H):=by
 intro pins s Y H x v vl vu lo hi sl Q I rx hs pl pu h
 obtain⟨z,rfl,hz,q⟩:=h
 obtain⟨t,rfl⟩:=rx
 refine⟨"str", _,slot_str_getitem.lookup,typeIs_str s z t,?_⟩
 have fin:∀l u:Option (Int × Tok),vl=partValue l->vu=partValue u->l.map (·.1)=lo->u.map (·.1)=hi->
   wpAny (model X.prog X.w) X.A (getItem (.str z t) (.ref sl)) (EP X pins Y Q) X.xe s:=λl u e1 e2 e3 e4=>by
  subst e1 e2 e3 e4
  refine wpAny_getItem_str_slice (l:=l) (u:=u) (st:=none) hs rfl ?_
  have q2:∀t',EP X pins Y Q (.str (Txt.slice z (l.map (·.1)) (u.map (·.1))) t') s:=λt'=>⟨.str _,H,I,⟨t',rfl⟩,q⟩
  unfold sliceMade
  unfold Txt.slice at q2
  unfold Txt.slice at q
  by_cases c:((((none:Option (Int × Tok)).map (·.1)).getD 1:Int) == 1 && (slicePicked z l u none).length == z.length)=true
  ·rw [if_pos c]
   rw [if_pos (show ((1:Int) == 1 && (Builtin.Str.strSliceIndices (l.map (·.1)) (u.map (·.1)) 1 z.length).length == z.length)=true from c)]at q2
   exact q2 t
  ·rw [if_neg c]
   rw [if_neg (show ¬((1:Int) == 1 && (Builtin.Str.strSliceIndices (l.map (·.1)) (u.map (·.1)) 1 z.length).length == z.length)=true from c)]at q
   refine⟨?_,⟨.str _,H,I.tok _,⟨_,rfl⟩,q⟩⟩
   have hle:=Txt.slice_le z (l.map (·.1)) (u.map (·.1))
   unfold Txt.slice at hle
   rw [if_neg (show ¬((1:Int) == 1 && (Builtin.Str.strSliceIndices (l.map (·.1)) (u.map (·.1)) 1 z.length).length == z.length)=true from c)]at hle
   exact Nat.le_trans hle hz
 cases pl with
 | none=>cases pu with
  | none=>exact fin none none rfl rfl rfl rfl
  | int j tj=>exact fin none (some (j,tj)) rfl rfl rfl rfl
 | int i ti=>cases pu with
  | none=>exact fin (some (i,ti)) none rfl rfl rfl rfl
  | int j tj=>exact fin (some (i,ti)) (some (j,tj)) rfl rfl rfl rfl
noncomputable def Its (x:Str):It:=⟨λi _=>i < x.cps.size,λi H v H'=>H'=H/\∃c,x.cps[i]?=some c/\v=.str ⟨#[c]⟩,λi _=>x.cps.size<=i⟩
theorem qf {P:Program}{w:World}{K:PySem.W.Frag}{tg:Expr} (x:Str) (t:Tok) (it:Addr):Turn P w K tg (Its x) [it] it (λi h=>h.IsStrIter it "str_ascii_iterator" x t i) where
 mem:=by simp
 obj:=λi h st b hb=>by
  have e:b=it:=by simpa using hb
  subst e
  obtain⟨o,e,c,d⟩:=st
  exact⟨o,e,λv z=>by rw [d]at z;cases z⟩
 keep:=λi h h' st k=>let ⟨o,ho,r⟩:=st;⟨o,k it (by simp) o ho,r⟩
 item:=by
  intro X hP hw hK hc i pins s Y H E I hf st hg
  subst hP hw hK
  have hg:i < x.cps.size:=hg
  obtain⟨f0,f1,f2,f3,f4,f5⟩:=hf it (by simp)
  refine wpAny_pyNext_ascii_item st (c:=x.cps[i]) (by simp [hg]) λh' st' sb=>?_
  have I1:Inv X pins Y H { s with heap:=h',toks:=s.toks+1 }:=I.turned (λb o hb e=>(sb.2 b hb).trans e) f0 f1 f3 f4 f5
  obtain⟨o,e,c,d⟩:=id st'
  exact⟨_,rfl,sS (s:={ s with heap:=h',toks:=s.toks+1 }) e c d (by decide) ⟨.str ⟨#[x.cps[i]]⟩,H,I1,⟨_,rfl⟩,⟨rfl,_,by simp [hg],rfl⟩,st',λb hb=>(hf b hb).1⟩⟩
 done:=by
  intro X hP hw hK hc i pins s Y H E I hf st hg
  subst hP hw hK
  have hg:x.cps.size<=i:=hg
  obtain⟨f0,f1,f2,f3,f4,f5⟩:=hf it (by simp)
  exact wpAny_pyNext_ascii_end (I.ok.hd hc) st (by simp;omega) λh' eb=>⟨rfl,I.turned (t':=s.toks) (λb o hb e=>eb b o hb e) f0 f1 f3 f4 f5⟩
 self:=λ_ _ _ _ _ st h=>wpAny_pyIter_striter_ascii st h
theorem tw {P:Program}{w:World}{K:PySem.W.Frag}{tg:Expr} (x:Str) (t:Tok) (it:Addr):Turn P w K tg (Its x) [it] it (λi h=>h.IsStrIter it "str_iterator" x t i) where
 mem:=by simp
 obj:=λi h st b hb=>by
  have e:b=it:=by simpa using hb
  subst e
  obtain⟨o,e,c,d⟩:=st
  exact⟨o,e,λv z=>by rw [d]at z;cases z⟩
 keep:=λi h h' st k=>let ⟨o,ho,r⟩:=st;⟨o,k it (by simp) o ho,r⟩
 item:=by
  intro X hP hw hK hc i pins s Y H E I hf st hg
  subst hP hw hK
  have hg:i < x.cps.size:=hg
  obtain⟨f0,f1,f2,f3,f4,f5⟩:=hf it (by simp)
  refine wpAny_pyNext_wide_item st (c:=x.cps[i]) (by simp [hg]) λh' st' sb=>?_
  have I1:Inv X pins Y H { s with heap:=h',toks:=s.toks+1 }:=I.turned (λb o hb e=>(sb.2 b hb).trans e) f0 f1 f3 f4 f5
  obtain⟨o,e,c,d⟩:=id st'
  exact⟨_,rfl,sS (s:={ s with heap:=h',toks:=s.toks+1 }) e c d (by decide) ⟨.str ⟨#[x.cps[i]]⟩,H,I1,⟨_,rfl⟩,⟨rfl,_,by simp [hg],rfl⟩,st',λb hb=>(hf b hb).1⟩⟩
 done:=by
  intro X hP hw hK hc i pins s Y H E I hf st hg
  subst hP hw hK
  have hg:x.cps.size<=i:=hg
  obtain⟨f0,f1,f2,f3,f4,f5⟩:=hf it (by simp)
  exact wpAny_pyNext_wide_end (I.ok.hd hc) st (by simp;omega) λh' eb=>⟨rfl,I.turned (t':=s.toks) (λb o hb e=>eb b o hb e) f0 f1 f3 f4 f5⟩
 self:=λ_ _ _ _ _ st h=>wpAny_pyIter_striter_wide st h
def BG (tl:TE):TI:=λY H R=>tl Y H λv H1=>∃x,v=.str x/\R (Its x) H1
theorem A9 {tg l:Expr}{tl:TE} (hl:PE X l tl):PI X tg l (BG tl):=by
 intro pins s Y H R I h
 refine thn (hl pins s Y H _ I h) λv s1 ⟨y,H1,I1,r1,q1⟩=>?_
 obtain⟨x,e,q⟩:=q1
 subst e
 obtain⟨t,rfl⟩:=r1
 have fp:∀b∈[s1.heap.objs.size],iu X pins H1 b:=λb hb=>by
  have e:b=s1.heap.objs.size:=by simpa using hb
  subst e
  exact I1.fpOk (Nat.le_refl _) (I1.hok.fresh (Nat.le_refl _))
 cases ha:x.cps.all (· < 128)
 ·refine wpAny_pyIter_wide ha ?_
  exact⟨s1.heap.objs.size,[s1.heap.objs.size],_,_,H1,rfl,I1.kept (t':=s1.toks) λb o e=>Heap.get?_push_of_some _ e,tw x t _,⟨_,Heap.get?_push_size _ rfl,rfl,rfl⟩,fp,q⟩
 ·refine wpAny_pyIter_ascii ha ?_
  exact⟨s1.heap.objs.size,[s1.heap.objs.size],_,_,H1,rfl,I1.kept (t':=s1.toks) λb o e=>Heap.get?_push_of_some _ e,qf x t _,⟨_,Heap.get?_push_size _ rfl,rfl,rfl⟩,fp,q⟩
theorem xq {x:Str}{D:Addr}{Y:St}{sub:List Nat}{tt:TT}{te:TE}{Q:VK}{H:Hp} (Pv:Nat->List V->Hp->Prop) (h0:Pv 0 [] (upd H D (.lst [])))
  (hs:∀i c ys H,x.cps[i]?=some c->Pv i ys H->tt (some (.str ⟨#[c]⟩)::cj sub Y) H λb H4=>if b=true then te (some (.str ⟨#[c]⟩)::cj sub Y) H4 λy H5=>H5 D=some (.lst ys)/\ys.length < sizeLine/\Pv (i+1) (ys++[y]) (upd H5 D (.lst (ys++[y]))) else Pv (i+1) ys H4)
  (hd:∀ys H,Pv x.cps.size ys H->Q (.ref D) H) :
  ∃W:Nat->Nat->List V->Hp->Prop,(∃m,W 0 m [] (upd H D (.lst [])))/\∀i m ys H2,W i m ys H2->
   ((Its x).stop i H2/\Q (.ref D) H2)\/((Its x).go i H2/\∃N:List V->Hp->Prop,(∀ys' H',N ys' H'->∃m',m' < m/\W (i+1) m' ys' H')/\∀v H3,(Its x).yld i H2 v H3->tt (some v::cj sub Y) H3 λb H4=>if b=true then
    te (some v::cj sub Y) H4 λy H5=>H5 D=some (.lst ys)/\ys.length < sizeLine/\N (ys++[y]) (upd H5 D (.lst (ys++[y])))
    else N ys H4):=by
 refine⟨λi m ys H=>m=x.cps.size - i/\i<=x.cps.size/\Pv i ys H,⟨_,rfl,Nat.zero_le _,h0⟩,?_⟩
 rintro i m ys H ⟨rfl,hi,p⟩
 by_cases hlt:i < x.cps.size
 ·refine .inr ⟨hlt,Pv (i+1),λys' H' p'=>⟨_,by omega,rfl,hlt,p'⟩,λv H' y=>?_⟩
  obtain⟨rfl,c,ec,rfl⟩:=y
  exact hs i c ys _ ec p
 ·have e:i=x.cps.size:=by omega
  subst e
  exact .inl ⟨Nat.le_refl _,hd ys H p⟩
end
end L2
namespace L2
open PySem PySem.Spec PyProof.Rows
section
variable {X:Cx}
theorem j8 (hc:X.calm=true):dq X (.builtin "all") (λxs H Q=>∃(a:Addr) (bs:List Bool),xs=[.ref a]/\SqL X.K H a (bs.map V.bl)/\Q (.bl (bs.all id)) H):=by
 intro pins s Y H xs us Q I r h
 obtain⟨a,bs,rfl,hS,q⟩:=h
 obtain⟨u,rfl,ru⟩:=fR r
 cases (show u=Value.ref a from ru)
 obtain⟨its,rv,p,hz⟩:=I.list hS
 have hlen:=rv.length
 rw [List.length_map]at hlen
 have hne:a≠s.heap.objs.size:=λz=>by
  obtain⟨o,e,_⟩:=p.isList
  exact Nat.lt_irrefl _ (z ▸ Heap.lt_size e)
 obtain⟨f0,f1,f2,f3,f4,f5⟩:=I.fpOk (Nat.le_refl _) (I.hok.fresh (Nat.le_refl _))
 refine call_all_walk (wpAny_pyIter_list p.isList ?_)
 have I1:=λo=>I.kept (h':=s.heap.push o) (t':=s.toks) λb ob e=>Heap.get?_push_of_some _ e
 refine⟨s.heap.objs.size,_,_,_,_,_,λi=>bs.getD i false,rfl,Walks.list (A:=X.A.in1) (I.ok.hd hc) _ a hne its.toArray,⟨⟨_,Heap.get?_push_size _ rfl,rfl,rfl⟩,p.isList.at λo e=>Heap.get?_push_of_some _ e⟩,?_,λh' tk hk=>?_⟩
 ·intro i v s' Q' E' hv hQ
  have hv:its[i]?=some v:=by simpa using hv
  have hi:i < bs.length:=by rw [hlen];exact(List.getElem?_eq_some_iff.mp hv).1
  obtain⟨u',hu,ru'⟩:=rv.get (i:=i) (x:=V.bl bs[i]) (by rw [List.getElem?_map,List.getElem?_eq_getElem hi];rfl)
  rw [hv]at hu
  cases hu
  cases (show v=Value.bool bs[i] from ru')
  have e:bs.getD i false=bs[i]:=by rw [List.getD_eq_getElem?_getD,List.getElem?_eq_getElem hi];rfl
  have hQ:Q' (bs.getD i false) s':=hQ
  rw [e]at hQ
  exact wpAny_truthy_bool hQ
 ·refine⟨.bl _,H,(I1 _).turned (t':=tk) (λb o hb e=>hk b o (by simpa using hb) e) f0 f1 f3 f4 f5,rfl,?_⟩
  have e:(List.range its.toArray.size).all (λi=>bs.getD i false)=bs.all id:=by
   rw [List.size_toArray,<- hlen]
   rw [Bool.eq_iff_iff,List.all_eq_true,List.all_eq_true]
   constructor
   ·intro h b hb
    obtain⟨i,hi,rfl⟩:=List.getElem_of_mem hb
    have:=h i (List.mem_range.mpr hi)
    rw [List.getD_eq_getElem?_getD,List.getElem?_eq_getElem hi]at this
    exact this
   ·intro h i hi
    have hi:=List.mem_range.mp hi
    rw [List.getD_eq_getElem?_getD,List.getElem?_eq_getElem hi]
    exact h _ (List.getElem_mem hi)
  rw [e]
  exact q
theorem fc {α:Type}:∀{l:List (Str × α)}{z:Str}{k:α},l.lookup z=some k->∃p∈l,z=p.1/\p.2=k
 | [],_,_,e=>by cases e
 | (n,k')::r,z,k,e=>by
  rw [List.lookup_cons]at e
  split at e
  ·rename_i h
   cases e
   exact⟨(n,k'),List.mem_cons_self,eq_of_beq h,rfl⟩
  ·obtain⟨p,hp,q⟩:=fc e
   exact⟨p,List.mem_cons_of_mem _ hp,q⟩
theorem wl {elt iter:Expr}{x y:Str}{c:Addr}{i:Nat}{px pos:Pos}{ifs:List Expr}{scope:Scope}{wi:TI}{tt:TT}{te:TE}
  (hc:X.calm=true) (hi:PI X (.Name x px) iter wi) (hclos:closureFor scope X.env=pure [(y,c)]) (hkind:scope.kind=.function)
  (hall:∀p∈scope.names,p.2=.local\/(p.1=y/\p.2=.free)) (hnames:∀p∈scope.names,p.2=.local->scope.names.lookup p.1=some .local) (hx:scope.names.lookup x=some .local)
  (hxy:x≠y) (hN:X.N[i]?=some y) (hv:Vis X.env.scope y) (hk:X.env.kindOf y≠some .local)
  (hvis:(compEnvC scope [(y,c)] 0 X.env).kindOf y=some .cell\/(compEnvC scope [(y,c)] 0 X.env).kindOf y=some .free) (hcy:X.env.cells.lookup y=some c)
  (ht:∀C fp s H,PTs (cF X scope [(y,c)] [x,y] C fp s H) ifs tt) (he:∀C fp s H,PE (cF X scope [(y,c)] [x,y] C fp s H) elt te)
  (hs:∀x,foldedSetIterable iter X.env x=pure x:=by intro _;rfl):PE X (.ListComp elt [⟨.Name x px,iter,ifs,0⟩] scope pos) (ja wi [i] tt te):=by
 have one:∀{z c'},[(y,c)].lookup z=some c'->z=y/\c'=c:=λ{z c'} e=>by
  obtain⟨p,hp,e1,e2⟩:=fc e
  cases List.mem_singleton.mp hp
  exact⟨e1,e2.symm⟩
 have self:[(y,c)].lookup y=some c:=by rw [List.lookup_cons];simp
 refine gz ?_
 refine pc (cl:=[(y,c)]) (fv:=[y]) hc hi hclos (λp hp z=>?_) hkind hnames hx ?_ rfl (λj k z e1 e2=>?_) (λz hz=>?_) (λz c' e=>?_) (λz hz=>?_) (λz hz=>?_) ht he hs
 ·rcases hall p hp with q | ⟨_,q⟩ <;> rw [q]at z <;> cases z
 ·exact List.nodup_cons.mpr ⟨λh=>hxy (List.mem_singleton.mp h),List.nodup_cons.mpr ⟨(λh=>nomatch h),List.nodup_nil⟩⟩
 ·cases j with
  | zero=>cases e1;cases e2;exact⟨hN,hv,hk⟩
  | succ j=>cases e1
 ·cases List.mem_singleton.mp hz
  exact hvis
 ·obtain⟨rfl,rfl⟩:=one e
  exact hcy
 ·cases List.mem_singleton.mp hz
  rw [self,hcy]
 ·have far:∀k,(k=.cell\/k=.free)->(compEnvC scope [(y,c)] 0 X.env).kindOf z=some k->∃c',[(y,c)].lookup z=some c':=λk hkk e=>by
   obtain⟨p,hp,e1,e2⟩:=fc (show (scope.names.map _).lookup z=some k from e)
   obtain⟨⟨n,kk⟩,hq,rfl⟩:=List.mem_map.mp hp
   rcases hall _ hq with q | ⟨q,_⟩
   ·have q:kk=.local:=q
    subst q
    have e2:NameKind.local=k:=e2
    rcases hkk with r | r <;> rw [r]at e2 <;> cases e2
   ·have q:n=y:=q
    subst q
    refine⟨c,?_⟩
    have:z=n:=by
     rw [e1]
     dsimp only
     split <;> rfl
    rw [this]
    exact self
  rcases hz with e | e
  ·exact far _ (.inl rfl) e
  ·exact far _ (.inr rfl) e
end
end L2
namespace L2
open PySem PySem.Spec PyProof.Rows
end L2
namespace L2
open PySem PySem.Spec PyProof.Rows
end L2
namespace Strip
section
variable {M:Type} [DecidableEq M]
noncomputable def holeG (rs:List (Row M)) (f l:Int):Int->Option M:=λn=>if f<=n/\n<=l then none else dayOf rs n
theorem hole_start {f l:Int}:DG ([]:List (Row M)) (holeG [] f l):=DG.nil.eq λn=>by unfold holeG;split <;> rfl
noncomputable def midH (rs:List (Row M)) (f l:Int) (r:Row M):Int->Option M:=λn=>if Has r n/\n < f then some r.2.2 else holeG rs f l n
theorem hole_left {rs cs:List (Row M)}{f l:Int}{i:Nat}{r:Row M} (d:Disj rs) (e:rs[i]?=some r) (h:r.1 < f){b:Int} (hb:b=if f - 1 < r.2.1 then f - 1 else r.2.1) (D:DG cs (holeG (rs.take i) f l)) :
  DG (cs++[(r.1,b,r.2.2)]) (midH (rs.take i) f l r)/\b<=r.2.1:=by
 have hr:=d.le r (List.mem_of_getElem? e)
 have b1:b<=f - 1/\b<=r.2.1/\(b=f - 1\/b=r.2.1):=by rw [hb];split <;> omega
 refine⟨(D.put (c:=(r.1,b,r.2.2)) (by show r.1<=b;omega) λn hn=>?_).eq λn=>?_,b1.2.1⟩
 ·unfold Has at hn
  dsimp only at hn
  unfold holeG
  rw [if_neg (by omega)]
  exact d.ahead e ⟨by omega,by omega⟩
 ·unfold midH
  by_cases y:Has r n/\n < f
  ·rw [if_pos y,if_pos]
   unfold Has at y ⊢
   dsimp only
   omega
  ·rw [if_neg y,if_neg]
   unfold Has at y ⊢
   dsimp only
   omega
theorem hole_noLeft {rs cs:List (Row M)}{f l:Int}{i:Nat}{r:Row M} (h:¬r.1 < f) (D:DG cs (holeG (rs.take i) f l)):DG cs (midH (rs.take i) f l r):=D.eq λn=>by
 unfold midH
 rw [if_neg]
 unfold Has
 omega
theorem hole_right {rs cs:List (Row M)}{f l:Int}{i:Nat}{r:Row M} (d:Disj rs) (e:rs[i]?=some r) (hfl:f<=l) (h:l < r.2.1){a:Int} (ha:a=if l+1 > r.1 then l+1 else r.1) (D:DG cs (midH (rs.take i) f l r)) :
  DG (cs++[(a,r.2.1,r.2.2)]) (holeG (rs.take (i+1)) f l)/\r.1<=a:=by
 have hr:=d.le r (List.mem_of_getElem? e)
 have a1:l+1<=a/\r.1<=a/\(a=l+1\/a=r.1):=by rw [ha];split <;> omega
 refine⟨(D.put (c:=(a,r.2.1,r.2.2)) (by show a<=r.2.1;omega) λn hn=>?_).eq λn=>?_,a1.2.1⟩
 ·unfold Has at hn
  dsimp only at hn
  unfold midH
  rw [if_neg (by omega)]
  unfold holeG
  rw [if_neg (by omega)]
  exact d.ahead e ⟨by omega,by omega⟩
 ·unfold midH holeG
  rw [take_snoc e,bZ]
  by_cases z:f<=n/\n<=l
  ·rw [if_neg (by unfold Has;dsimp only;omega),if_neg (by omega),if_pos z,if_pos z]
  ·rw [if_neg z,if_neg z]
   by_cases y:Has r n
   ·rw [if_pos y]
    by_cases x:n < f
    ·rw [if_neg (by unfold Has;dsimp only;omega),if_pos ⟨y,x⟩]
    ·rw [if_pos (by unfold Has at y ⊢;dsimp only;omega)]
   ·rw [if_neg y,if_neg (by unfold Has at y ⊢;dsimp only;omega),if_neg (λq=>y q.1)]
theorem hole_noRight {rs cs:List (Row M)}{f l:Int}{i:Nat}{r:Row M} (e:rs[i]?=some r) (h:¬l < r.2.1) (D:DG cs (midH (rs.take i) f l r)):DG cs (holeG (rs.take (i+1)) f l):=D.eq λn=>by
 unfold midH holeG
 rw [take_snoc e,bZ]
 by_cases z:f<=n/\n<=l
 ·rw [if_neg (by omega),if_pos z,if_pos z]
 ·rw [if_neg z,if_neg z]
  by_cases y:Has r n
  ·rw [if_pos y,if_pos]
   refine⟨y,?_⟩
   unfold Has at y
   omega
  ·rw [if_neg y,if_neg (λq=>y q.1)]
theorem hole_laid {m:M}{rs cs:List (Row M)}{f l:Int} (hfl:f<=l) (D:DG cs (holeG rs f l)):DG (cs++[(f,l,m)]) (laidG m rs f l):=(D.put (c:=(f,l,m)) hfl λn hn=>if_pos hn).eq λn=>by
 unfold holeG laidG
 by_cases z:f<=n/\n<=l
 ·rw [if_pos (show Has (f,l,m) n from z),if_pos z]
 ·rw [if_neg (show ¬Has (f,l,m) n from z),if_neg z,if_neg z]
end
end Strip
namespace L2
open PySem PySem.Spec PyProof.Rows
def Nm (x:Str):Prop:=x.cps.all (· < 0x110000)=true
end L2
namespace Strip
open L2 PySem
end Strip
namespace L2
open PySem PySem.Spec PyProof.Rows
inductive Caps (X:Cx) (scope:Scope) (cl0:List (Str × Addr)):List (Str × Addr)->List Nat->Prop
 | nil:Caps X scope cl0 [] []
 | cons {y:Str}{c:Addr}{i:Nat}{cl:List (Str × Addr)}{sub:List Nat} (hN:X.N[i]?=some y) (hv:Vis X.env.scope y) (hk:X.env.kindOf y≠some .local)
   (hvis:(compEnvC scope cl0 0 X.env).kindOf y=some .cell\/(compEnvC scope cl0 0 X.env).kindOf y=some .free) (hc:X.env.cells.lookup y=some c) (t:Caps X scope cl0 cl sub):Caps X scope cl0 ((y,c)::cl) (i::sub)
section
variable {X:Cx}{scope:Scope}{cl0:List (Str × Addr)}
theorem Caps.len:∀{cl:List (Str × Addr)}{sub:List Nat},Caps X scope cl0 cl sub->sub.length=(cl.map (·.1)).length
 | _,_,.nil=>rfl
 | _,_,.cons _ _ _ _ _ t=>congrArg (· + 1) t.len
theorem Caps.at:∀{cl:List (Str × Addr)}{sub:List Nat},Caps X scope cl0 cl sub->∀(j i:Nat) (y:Str),sub[j]?=some i->(cl.map (·.1))[j]?=some y->X.N[i]?=some y/\Vis X.env.scope y/\X.env.kindOf y≠some .local
 | _,_,.nil,_,_,_,e,_=>by simp at e
 | _,_,.cons hN hv hk _ _ t,j,i,y,e1,e2=>by
  cases j with
  | zero=>
   simp at e1 e2
   subst e1 e2
   exact⟨hN,hv,hk⟩
  | succ j=>exact t.at j i y (by simpa using e1) (by simpa using e2)
theorem Caps.vis:∀{cl:List (Str × Addr)}{sub:List Nat},Caps X scope cl0 cl sub->∀y∈cl.map (·.1),(compEnvC scope cl0 0 X.env).kindOf y=some .cell\/(compEnvC scope cl0 0 X.env).kindOf y=some .free
 | _,_,.nil,_,h=>by simp at h
 | _,_,.cons _ _ _ hvis _ t,y,h=>by
  rcases List.mem_cons.mp h with e | h
  ·rw [e];exact hvis
  ·exact t.vis y h
theorem Caps.cell:∀{cl:List (Str × Addr)}{sub:List Nat},Caps X scope cl0 cl sub->∀y c,cl.lookup y=some c->X.env.cells.lookup y=some c
 | _,_,.nil,_,_,h=>by cases h
 | _,_,.cons (y:=z) (c:=d) _ _ _ _ hc t,y,c,h=>by
  rw [List.lookup_cons]at h
  split at h
  ·rename_i e
   cases h
   rw [eq_of_beq e]
   exact hc
  ·exact t.cell y c h
theorem eA {α:Type}:∀{l:List (Str × α)}{y:Str},y∈l.map (·.1)->∃c,l.lookup y=some c
 | [],_,h=>by simp at h
 | (n,k)::r,y,h=>by
  rw [List.lookup_cons]
  split
  ·exact⟨k,rfl⟩
  ·rename_i e
   rcases List.mem_cons.mp h with z | z
   ·rw [z]at e
    simp at e
   ·exact eA z
def gI (ys:List Str) (p:Str × NameKind):Prop:=p.2=.local\/p.2=.globalImplicit\/(p.1∈ys/\p.2=.free)
noncomputable instance (ys:List Str) (p:Str × NameKind):Decidable (gI ys p):=by unfold gI;exact inferInstance
theorem bW {elt iter:Expr}{x:Str}{cl:List (Str × Addr)}{sub:List Nat}{px pos:Pos}{ifs:List Expr}{wi:TI}{tt:TT}{te:TE}
  (hc:X.calm=true) (hi:PI X (.Name x px) iter wi) (hclos:closureFor scope X.env=pure cl) (hkind:scope.kind=.function)
  (hall:∀p∈scope.names,gI (cl.map (·.1)) p) (hnames:∀p∈scope.names,p.2=.local->scope.names.lookup p.1=some .local) (hx:scope.names.lookup x=some .local)
  (hnd:(x::cl.map (·.1)).Nodup) (caps:Caps X scope cl cl sub)
  (ht:∀C fp s H,PTs (cF X scope cl (x::cl.map (·.1)) C fp s H) ifs tt) (he:∀C fp s H,PE (cF X scope cl (x::cl.map (·.1)) C fp s H) elt te)
  (hs:∀x,foldedSetIterable iter X.env x=pure x:=by intro _;rfl):PEC X (.ListComp elt [⟨.Name x px,iter,ifs,0⟩] scope pos) iter scope (ja wi sub tt te):=by
 refine pc (cl:=cl) (fv:=cl.map (·.1)) hc hi hclos (λp hp z=>?_) hkind hnames hx hnd caps.len caps.at caps.vis caps.cell (λy hy=>?_) (λz hz=>?_) ht he hs
 ·rcases hall p hp with q | q | ⟨_,q⟩ <;> rw [q]at z <;> cases z
 ·obtain⟨c,e⟩:=eA hy
  rw [e,caps.cell y c e]
 ·have far:∀k,(k=.cell\/k=.free)->(compEnvC scope cl 0 X.env).kindOf z=some k->∃c',cl.lookup z=some c':=λk hkk e=>by
   obtain⟨p,hp,e1,e2⟩:=fc (show (scope.names.map _).lookup z=some k from e)
   obtain⟨⟨n,kk⟩,hq,rfl⟩:=List.mem_map.mp hp
   rcases hall _ hq with q | q | ⟨q,_⟩
   ·have q:kk=.local:=q
    subst q
    have e2:NameKind.local=k:=e2
    rcases hkk with r | r <;> rw [r]at e2 <;> cases e2
   ·have q:kk=.globalImplicit:=q
    subst q
    have e2:NameKind.globalImplicit=k:=e2
    rcases hkk with r | r <;> rw [r]at e2 <;> cases e2
   ·have q:n∈cl.map (·.1):=q
    have:z=n:=by
     rw [e1]
     dsimp only
     split <;> rfl
    rw [this]
    exact eA q
  rcases hz with e | e
  ·exact far _ (.inl rfl) e
  ·exact far _ (.inr rfl) e
end
theorem ir {lo:Int}{n:Nat}{D:Addr}{Y:St}{sub:List Nat}{tt:TT}{te:TE}{Q:VK}{H:Hp} (Pv:Nat->List V->Hp->Prop) (h0:Pv 0 [] (upd H D (.lst [])))
  (hs:∀i ys H2,i < n->Pv i ys H2->tt (some (.int (lo+i))::cj sub Y) H2 λb H4=>if b=true then te (some (.int (lo+i))::cj sub Y) H4 λy H5=>H5 D=some (.lst ys)/\ys.length < sizeLine/\Pv (i+1) (ys++[y]) (upd H5 D (.lst (ys++[y]))) else Pv (i+1) ys H4)
  (hd:∀ys H2,Pv n ys H2->Q (.ref D) H2) :
  ∃W:Nat->Nat->List V->Hp->Prop,(∃m,W 0 m [] (upd H D (.lst [])))/\∀i m ys H2,W i m ys H2->
   ((Itr lo n).stop i H2/\Q (.ref D) H2)\/((Itr lo n).go i H2/\∃N:List V->Hp->Prop,(∀ys' H',N ys' H'->∃m',m' < m/\W (i+1) m' ys' H')/\∀v H3,(Itr lo n).yld i H2 v H3->tt (some v::cj sub Y) H3 λb H4=>if b=true then
    te (some v::cj sub Y) H4 λy H5=>H5 D=some (.lst ys)/\ys.length < sizeLine/\N (ys++[y]) (upd H5 D (.lst (ys++[y]))) else N ys H4):=by
 refine⟨λi m ys H2=>m=n - i/\i<=n/\Pv i ys H2,⟨n,by simp,Nat.zero_le _,h0⟩,?_⟩
 rintro i m ys H2 ⟨rfl,hi,p⟩
 by_cases hlt:i < n
 ·refine .inr ⟨hlt,Pv (i+1),λys' H' p'=>⟨n - (i+1),by omega,rfl,hlt,p'⟩,λv H3 y=>?_⟩
  obtain⟨e,e2⟩:=y
  subst e e2
  exact hs i ys _ hlt p
 ·have e:i=n:=by omega
  subst e
  exact .inl ⟨Nat.le_refl _,hd ys H2 p⟩
end L2
namespace L2
open PySem PySem.Spec PyProof.Rows
theorem Inv.turnedL {X:Cx}{pins:List (Addr × Obj)}{Y:St}{H:Hp}{s:Shared}{h':Heap}{t':Nat}{ch:List Addr} (I:Inv X pins Y H s) (k:∀b o,b∉ch->s.heap.get? b=some o->h'.get? b=some o) (hf:∀b∈ch,iu X pins H b):Inv X pins Y H { s with heap:=h',toks:=t' }:=by
 have nit:∀b u,H b=some u->b∉ch:=λb u e z=>by rw [(hf b z).1]at e;cases e
 refine I.step (g':=s.gens) (d':=s.drawn) (ch:=ch) (λb hb=>?_) (λb o _ _ hc e _=>k b o hc e) (λb o _ _ hc e _=>⟨o.slots,k b o hc e⟩) (λ_ _ _ _ n=>n)
  (λb o hc e=>⟨o,k b o hc e⟩) (λ_ _ e=>e) (λ_ _ _ e=>e) (λb ps e=>⟨#[],by rw [e];simp⟩) (λm hm=>?_) (λb u e=>?_) I.bare
 ·obtain⟨f0,f1,f2,f3,f4,f5⟩:=hf b hb
  exact⟨f3,f1,f4,f5⟩
 ·obtain⟨o,es,ep,ho,r⟩:=hm
  exact⟨o,es,ep,k _ o (λz=>(hf _ z).2.1 rfl) ho,r⟩
 ·refine(I.hok b u e).stay (λc v hc q=>k c v ?_ q) (λ_ q=>q) λ_ _ q=>q
  rcases hc with z | z
  ·rw [z];exact nit b u e
  ·exact nit c _ z
noncomputable def Ite (K:PySem.W.Frag) (a:Addr):It:=
 ⟨λi H=>∃xs x,SqL K H a xs/\xs[i]?=some x,λi H v H'=>∃(t:Addr) (x:V),v=.ref t/\H t=none/\H'=upd H t (.tup [.int (i:Int),x])/\∀xs,SqL K H a xs->xs[i]?=some x,λi H=>∃xs,SqL K H a xs/\xs.length<=i⟩
theorem tE {P:Program}{w:World}{K:PySem.W.Frag}{elts:List Expr}{kk:Nat}{pos:Pos} (a e it:Addr) (hne:e≠it):Turn P w K (.Tuple elts kk pos) (Ite K a) [e,it] e (λi h=>(∃old,IsEnum h e it (i:Int) old)/\h.IsListIter it a i) where
 mem:=by simp
 obj:=λi h st b hb=>by
  obtain⟨⟨old,he⟩,o,ho,c,d⟩:=st
  rcases List.mem_cons.mp hb with z | z
  ·subst z
   exact⟨_,he,λv z=>by
    have z':Data.fields _=Data.cell v:=z
    cases z'⟩
  ·rcases List.mem_cons.mp z with z | z
   ·subst z
    exact⟨o,ho,λv z=>by rw [d]at z;cases z⟩
   ·cases z
 keep:=λi h h' st k=>⟨let ⟨old,he⟩:=st.1;⟨old,k e (by simp) _ he⟩,st.2.at λo q=>k it (by simp) o q⟩
 item:=by
  intro X hP hw hK hc i pins s Y H E I hf st hg
  subst hP hw hK
  obtain⟨⟨old,he⟩,hit⟩:=st
  obtain⟨xs,x,hq,hx⟩:=hg
  obtain⟨its,rv,p,hz⟩:=I.list hq
  obtain⟨u,hu,ru⟩:=rv.get hx
  refine wpAny_pyNext_enum_item he hit p.isList (x:=u) (by simpa using hu) hne λh1 heo hit1 ht1 hz1 hk1=>?_
  refine⟨_,rfl,wpAny_letOwnedTupleGo_enum heo λh2 he2 hs2=>?_⟩
  have hs2:Heap.SameBut e h1 h2:=hs2
  have el:e < s.heap.objs.size:=Heap.lt_size he
  have ht2:h2.get? s.heap.objs.size=some { cls:=.type "tuple", data:=.seq #[.int i s.toks,u] }:=(hs2.2 _ (Nat.ne_of_gt el)).trans ht1
  have nt:H s.heap.objs.size=none:=I.hok.fresh (Nat.le_refl _)
  have I1:Inv X pins Y (upd H s.heap.objs.size (.tup [.int (i:Int),x])) { s with heap:=s.heap.push { cls:=.type "tuple", data:=.seq #[.int i s.toks,u] },toks:=s.toks+1 }:=
   I.laid (a:=s.heap.objs.size) (o:=.tup [.int (i:Int),x]) (λ_ _ q=>Heap.get?_push_of_some _ q) (Nat.le_refl _) ⟨by show 2<=sizeLine;decide,[.int i s.toks,u],.cons ⟨_,rfl⟩ (.cons ru .nil),_,Heap.get?_push_size _ rfl,rfl,0,rfl⟩
  have fp1:∀b∈[e,it],iu X pins (upd H s.heap.objs.size (.tup [.int (i:Int),x])) b:=λb hb=>by
   obtain⟨f0,f1,f2,f3,f4,f5⟩:=hf b hb
   refine⟨?_,f1,f2,f3,f4,f5⟩
   have hb2:b < s.heap.objs.size:=by
    rcases List.mem_cons.mp hb with z | z
    ·rw [z];exact el
    ·rcases List.mem_cons.mp z with z | z
     ·rw [z]
      obtain⟨o,ho,_⟩:=hit
      exact Heap.lt_size ho
     ·cases z
   rw [aj (Nat.ne_of_lt hb2)]
   exact f0
  have I2:Inv X pins Y (upd H s.heap.objs.size (.tup [.int (i:Int),x])) { s with heap:=h2,toks:=s.toks+1 }:=I1.turnedL (h':=h2) (t':=s.toks+1) (λb o hb ho=>by
   have b1:b≠e:=λz=>hb (by rw [z];simp)
   have b2:b≠it:=λz=>hb (by rw [z];simp)
   by_cases bs:b=s.heap.objs.size
   ·rw [bs]at ho ⊢
    have ho:(s.heap.push { cls:=.type "tuple", data:=.seq #[.int i s.toks,u] }).get? s.heap.objs.size=some o:=ho
    rw [Heap.get?_push_size _ rfl]at ho
    cases ho
    exact ht2
   ·have ho2:s.heap.get? b=some o:=(Heap.get?_push_ne _ b _ bs).symm.trans ho
    exact(hs2.2 b b1).trans (hk1 b o b1 b2 ho2)) fp1
  refine⟨.ref s.heap.objs.size,_,I2,rfl,⟨s.heap.objs.size,x,rfl,nt,rfl,λys hy=>by rw [I.list_inj hy hq];exact hx⟩,⟨⟨u,?_⟩,hit1.extBut hs2.extBut (Ne.symm hne)⟩,λb hb=>(fp1 b hb).1⟩
  have:((i+1:Nat):Int)=(i:Int)+1:=by omega
  rw [this]
  exact he2
 done:=by
  intro X hP hw hK hc i pins s Y H E I hf st hg
  subst hP hw hK
  obtain⟨⟨old,he⟩,hit⟩:=st
  obtain⟨xs,hq,hx⟩:=hg
  obtain⟨its,rv,p,hz⟩:=I.list hq
  obtain⟨f0,f1,f2,f3,f4,f5⟩:=hf it (by simp)
  have hl:=rv.length
  exact wpAny_pyNext_enum_end (I.ok.hd hc) he hit p.isList (by simp;omega) λh' eb=>⟨rfl,I.turned (t':=s.toks) (λb o hb q=>eb b o hb q) f0 f1 f3 f4 f5⟩
 self:=λ_ _ _ _ _ st h=>let ⟨old,he⟩:=st.1;wpAny_pyIter_enum he h
def BJ (K:PySem.W.Frag) (ta:TA):TI:=λY H R=>ta Y H λvs H1=>∃a,vs=[.ref a]/\(∃xs,SqL K H1 a xs)/\R (Ite K a) H1
theorem sA {X:Cx}{elts:List Expr}{kk:Nat}{pt:Pos}{a:Expr}{ta:TA}{p pos:Pos} (hg:Gl X "enumerate") (hm:X.mg "enumerate" = none) (ha:PA X [a] ta) (hs:starEach [a] X.env=[(false,eval a X.env)]:=by rfl) :
  PI X (.Tuple elts kk pt) (.Call (.Name "enumerate" p) [a] [] pos) (BJ X.K ta):=by
 intro pins s Y H R I h
 refine Call_ (io I hg hm (PyProof.Rows.Boot.«enumerate») (PyProof.Rows.callWith_type1 (thn (ha pos pins s Y H _ I h) λus s1 ⟨vs,H1,I1,r1,q1⟩=>?_) hs rfl))
 obtain⟨b,e,⟨xs,hq⟩,q⟩:=q1
 subst e
 cases r1 with
 | cons r rr=>
  cases rr
  cases r
  obtain⟨its,rv,pp,hz⟩:=I1.list hq
  refine call_enumerate_list pp.isList λh' hE hI hsz hk=>?_
  refine wpAny_pyIter_enum hE ?_
  refine⟨s1.heap.objs.size+1,[s1.heap.objs.size+1,s1.heap.objs.size],_,_,H1,rfl,I1.kept (t':=s1.toks) hk,tE b _ _ (Nat.succ_ne_self _),⟨⟨_,hE⟩,hI⟩,λc hc=>?_,q⟩
  rcases List.mem_cons.mp hc with z | z
  ·subst z
   exact I1.fpOk (Nat.le_succ _) (I1.hok.fresh (Nat.le_succ _))
  ·rcases List.mem_cons.mp z with z | z
   ·subst z
    exact I1.fpOk (Nat.le_refl _) (I1.hok.fresh (Nat.le_refl _))
   ·cases z
theorem xh {K:PySem.W.Frag}{a:Addr}{xs:List V}{g:TG}{tb:TS}{D:Ends}{Y:St}{H:Hp} (Pv:Nat->St->Hp->Prop) (h0:Pv 0 Y H) (hl:∀i Y H,i<=xs.length->Pv i Y H->SqL K H a xs)
  (hs:∀i x Y H t,xs[i]?=some x->Pv i Y H->H t=none->g (.ref t) Y (upd H t (.tup [.int (i:Int),x])) λY2 H2=>tb { D with nx:=Pv (i+1),ct:=Pv (i+1),bk:=D.nx } Y2 H2) (hd:∀Y H,Pv xs.length Y H->D.nx Y H) :
  ∃W:Nat->Nat->St->Hp->Prop,(∃m,W 0 m Y H)/\∀i m Y H,W i m Y H->
   ((Ite K a).stop i H/\D.nx Y H)\/((Ite K a).go i H/\∃N:St->Hp->Prop,(∀Y' H',N Y' H'->∃m',m' < m/\W (i+1) m' Y' H')/\∀x H',(Ite K a).yld i H x H'->g x Y H' λY2 H2=>tb { D with nx:=N,ct:=N,bk:=D.nx } Y2 H2):=by
 refine⟨λi m Y H=>m=xs.length - i/\i<=xs.length/\Pv i Y H,⟨xs.length,by simp,Nat.zero_le _,h0⟩,?_⟩
 rintro i m Y H ⟨rfl,hi,p⟩
 have q:=hl i Y H hi p
 by_cases hlt:i < xs.length
 ·refine .inr ⟨⟨xs,xs[i],q,by simp [hlt]⟩,Pv (i+1),λY' H' p'=>⟨xs.length - (i+1),by omega,rfl,hlt,p'⟩,λx H' y=>?_⟩
  obtain⟨t,y1,e1,nt,e2,y⟩:=y
  subst e1 e2
  exact hs i y1 Y _ t (y xs q) p nt
 ·have e:i=xs.length:=by omega
  subst e
  exact .inl ⟨⟨xs,q,Nat.le_refl _⟩,hd Y H p⟩
theorem mW:∀{zs:List Str}{us:List Value},aP (zs.map V.str) us->StrsAre us zs
 | [],_,r=>by cases r;exact .nil
 | z::zs,_,r=>by
  rw [List.map_cons]at r
  cases r with
  | cons a t=>
   obtain⟨tk,rfl⟩:=a
   exact .cons z tk (mW t)
theorem yx {X:Cx}:MtR X "str.join" (λx xs H Q=>∃i l zs,x=.str i/\xs=[.ref l]/\H l=some (.lst (zs.map V.str))/\(zs.map (·.length)).sum+zs.length * i.length<=16777216/\Q (.str (Txt.join i zs)) H):=by
 intro pins s Y H x xs v us Q I rx rv h
 obtain⟨i,l,zs,rfl,rfl,hl,hz,q⟩:=h
 obtain⟨t,rfl⟩:=rx
 obtain⟨u,rfl,ru⟩:=aP.one rv
 cases ru
 obtain⟨_,its,n,r,_,e⟩:=I.lstM hl
 exact join_list (items:=its.toArray) ⟨_,e,rfl,n,rfl⟩ (by simpa using mW r) hz λt' k=>⟨.str _,H,I.tok _,⟨_,rfl⟩,q⟩
theorem ow {X:Cx}:dq X (.type "dict") (λxs H Q=>∃d kvs,xs=[.ref d]/\H d=some (.dK kvs)/\∀p,H p=none->Q (.ref p) (upd H p (.dK kvs))):=by
 intro pins s Y H xs us Q I r h
 obtain⟨d,kvs,rfl,hd,q⟩:=h
 obtain⟨u,rfl,ru⟩:=aP.one r
 cases ru
 obtain⟨z,hds,vs,rk,dd⟩:=sW I.hok hd
 have hb:sysModules < s.heap.objs.size:=I.big
 refine kt_call_dict (knd:=bo X.prog X.w) hds dd (by rw [<- Paired.length rk];exact z) λh' dd' sb=>?_
 refine⟨.ref s.heap.objs.size,_,I.laid (t':=s.toks) (h':=h') (λb u e=>(sb.2 b (Nat.ne_of_lt (Heap.lt_size e))).trans (Heap.get?_push_of_some _ e)) (Nat.le_refl _) (oi z (beq_eq_false_iff_ne.mpr (Ne.symm (Nat.ne_of_lt hb))) rk dd'),rfl,q _ (I.hok.fresh (Nat.le_refl _))⟩
end L2
namespace L2
open PySem PySem.Spec PyProof.Rows
def qj (K:PySem.W.Frag) (wi:TI) (sub:List Nat) (tt:TT) (te:TE):TE:=λY H Q=>wi Y H λJ H1=>∀D,H1 D=none->∃W:Nat->Nat->List V->Hp->Prop,(∃m,W 0 m [] (upd H1 D (.lst [])))/\∀i m ys H2,W i m ys H2->
 (J.stop i H2/\Q (.ref D) H2)\/(J.go i H2/\∃N:List V->Hp->Prop,(∀ys' H',N ys' H'->∃m',m' < m/\W (i+1) m' ys' H')/\∀v H3,J.yld i H2 v H3->∃(t:Addr) (a b:V),v=.ref t/\SqT K H3 t [a,b]/\tt (some a::some b::cj sub Y) H3 λc H4=>if c=true then
  te (some a::some b::cj sub Y) H4 λy H5=>H5 D=some (.lst ys)/\ys.length < sizeLine/\N (ys++[y]) (upd H5 D (.lst (ys++[y])))
  else N ys H4)
section
variable {X:Cx}
theorem tN {elt iter:Expr}{x x2:Str}{px py pt pos:Pos}{kk:Nat}{ifs:List Expr}{scope:Scope}{cl:List (Str × Addr)}{sub:List Nat}{fv:List Str}{wi:TI}{tt:TT}{te:TE}
  (hc:X.calm=true) (hi:PI X (.Tuple [.Name x px,.Name x2 py] kk pt) iter wi) (hclos:closureFor scope X.env=pure cl)
  (hcell:∀y∈scope.names,y.2≠.cell) (hkind:scope.kind=.function) (hnames:∀y∈scope.names,y.2=.local->scope.names.lookup y.1=some .local) (hx:scope.names.lookup x=some .local) (hx2:scope.names.lookup x2=some .local)
  (hnd:(x::x2::fv).Nodup) (hl:sub.length=fv.length) (hsub:∀(j:Nat) (i:Nat) (y:Str),sub[j]?=some i->fv[j]?=some y->X.N[i]?=some y/\Vis X.env.scope y/\X.env.kindOf y≠some .local)
  (hvis:∀y∈fv,(compEnvC scope cl 0 X.env).kindOf y=some .cell\/(compEnvC scope cl 0 X.env).kindOf y=some .free)
  (hcl:∀y c,cl.lookup y=some c->X.env.cells.lookup y=some c) (hcl2:∀y∈fv,cl.lookup y=X.env.cells.lookup y)
  (hhas:∀y,((compEnvC scope cl 0 X.env).kindOf y=some .cell\/(compEnvC scope cl 0 X.env).kindOf y=some .free)->∃c,cl.lookup y=some c)
  (ht:∀C fp s H,PTs (cF X scope cl (x::x2::fv) C fp s H) ifs tt) (he:∀C fp s H,PE (cF X scope cl (x::x2::fv) C fp s H) elt te)
  (hs:∀x,foldedSetIterable iter X.env x=pure x:=by intro _;rfl):PEC X (.ListComp elt [⟨.Tuple [.Name x px,.Name x2 py] kk pt,iter,ifs,0⟩] scope pos) iter scope (qj X.K wi sub tt te):=by
 refine mj (xn:=[x,x2]) (g:=BL X.K 2 (xg (aN 0) (xg (aN 1) BM))) hc hi hclos hcell hkind hnames hl hsub hvis hcl hcl2 hhas (λC fp s H=>gx rfl (bB (bp (i:=0) hnd rfl (.inl (lookup_relabel_local hx)) (.inr (lookup_relabel_local hx))) (bB (bp (i:=1) hnd rfl (.inl (lookup_relabel_local hx2)) (.inr (lookup_relabel_local hx2))) eN))) ht he (λY Q J H1 h D nD=>?_) hs
 obtain⟨W,w0,st⟩:=h D nD
 refine⟨W,w0,λi m ys H2 hw=>(st i m ys H2 hw).imp id λ⟨go,N,hN,h⟩=>⟨go,N,hN,λv H3 y τ hτ=>?_⟩⟩
 obtain⟨tp,va,vb,ev,htp,h⟩:=h v H3 y
 match τ,hτ with
 | [t0,t1],_=>exact⟨tp,[va,vb],ev,htp,rfl,va,[vb],rfl,vb,[],rfl,rfl,⟨[some va,some vb],rfl,rfl⟩,h⟩
variable {scope:Scope}{cl0:List (Str × Addr)}
theorem qD {elt iter:Expr}{x x2:Str}{cl:List (Str × Addr)}{sub:List Nat}{px py pt pos:Pos}{kk:Nat}{ifs:List Expr}{wi:TI}{tt:TT}{te:TE}
  (hc:X.calm=true) (hi:PI X (.Tuple [.Name x px,.Name x2 py] kk pt) iter wi) (hclos:closureFor scope X.env=pure cl) (hkind:scope.kind=.function)
  (hall:∀p∈scope.names,gI (cl.map (·.1)) p) (hnames:∀p∈scope.names,p.2=.local->scope.names.lookup p.1=some .local) (hx:scope.names.lookup x=some .local) (hx2:scope.names.lookup x2=some .local)
  (hnd:(x::x2::cl.map (·.1)).Nodup) (caps:Caps X scope cl cl sub)
  (ht:∀C fp s H,PTs (cF X scope cl (x::x2::cl.map (·.1)) C fp s H) ifs tt) (he:∀C fp s H,PE (cF X scope cl (x::x2::cl.map (·.1)) C fp s H) elt te)
  (hs:∀x,foldedSetIterable iter X.env x=pure x:=by intro _;rfl):PEC X (.ListComp elt [⟨.Tuple [.Name x px,.Name x2 py] kk pt,iter,ifs,0⟩] scope pos) iter scope (qj X.K wi sub tt te):=by
 refine tN (cl:=cl) (fv:=cl.map (·.1)) hc hi hclos (λp hp z=>?_) hkind hnames hx hx2 hnd caps.len caps.at caps.vis caps.cell (λy hy=>?_) (λz hz=>?_) ht he hs
 ·rcases hall p hp with q | q | ⟨_,q⟩ <;> rw [q]at z <;> cases z
 ·obtain⟨c,e⟩:=eA hy
  rw [e,caps.cell y c e]
 ·have far:∀k,(k=.cell\/k=.free)->(compEnvC scope cl 0 X.env).kindOf z=some k->∃c',cl.lookup z=some c':=λk hkk e=>by
   obtain⟨p,hp,e1,e2⟩:=fc (show (scope.names.map _).lookup z=some k from e)
   obtain⟨⟨n,kk⟩,hq,rfl⟩:=List.mem_map.mp hp
   rcases hall _ hq with q | q | ⟨q,_⟩
   ·have q:kk=.local:=q
    subst q
    have e2:NameKind.local=k:=e2
    rcases hkk with r | r <;> rw [r]at e2 <;> cases e2
   ·have q:kk=.globalImplicit:=q
    subst q
    have e2:NameKind.globalImplicit=k:=e2
    rcases hkk with r | r <;> rw [r]at e2 <;> cases e2
   ·have q:n∈cl.map (·.1):=q
    have:z=n:=by
     rw [e1]
     dsimp only
     split <;> rfl
    rw [this]
    exact eA q
  rcases hz with e | e
  ·exact far _ (.inl rfl) e
  ·exact far _ (.inr rfl) e
end
theorem uz {K:PySem.W.Frag}{a D:Addr}{xs:List V}{Y:St}{sub:List Nat}{tt:TT}{te:TE}{Q:VK}{H:Hp} (Pv:Nat->List V->Hp->Prop) (h0:Pv 0 [] (upd H D (.lst []))) (hl:∀i ys H,i<=xs.length->Pv i ys H->SqL K H a xs)
  (hs:∀i x ys H2 t,xs[i]?=some x->Pv i ys H2->H2 t=none->tt (some (.int (i:Int))::some x::cj sub Y) (upd H2 t (.tup [.int (i:Int),x])) λb H4=>if b=true then te (some (.int (i:Int))::some x::cj sub Y) H4 λy H5=>H5 D=some (.lst ys)/\ys.length < sizeLine/\Pv (i+1) (ys++[y]) (upd H5 D (.lst (ys++[y]))) else Pv (i+1) ys H4)
  (hd:∀ys H2,Pv xs.length ys H2->Q (.ref D) H2) :
  ∃W:Nat->Nat->List V->Hp->Prop,(∃m,W 0 m [] (upd H D (.lst [])))/\∀i m ys H2,W i m ys H2->
   ((Ite K a).stop i H2/\Q (.ref D) H2)\/((Ite K a).go i H2/\∃N:List V->Hp->Prop,(∀ys' H',N ys' H'->∃m',m' < m/\W (i+1) m' ys' H')/\∀v H3,(Ite K a).yld i H2 v H3->∃(t:Addr) (a b:V),v=.ref t/\SqT K H3 t [a,b]/\tt (some a::some b::cj sub Y) H3 λc H4=>if c=true then
    te (some a::some b::cj sub Y) H4 λy H5=>H5 D=some (.lst ys)/\ys.length < sizeLine/\N (ys++[y]) (upd H5 D (.lst (ys++[y]))) else N ys H4):=by
 refine⟨λi m ys H2=>m=xs.length - i/\i<=xs.length/\Pv i ys H2,⟨xs.length,by simp,Nat.zero_le _,h0⟩,?_⟩
 rintro i m ys H2 ⟨rfl,hi,p⟩
 have q:=hl i ys H2 hi p
 by_cases hlt:i < xs.length
 ·refine .inr ⟨⟨xs,xs[i],q,by simp [hlt]⟩,Pv (i+1),λys' H' p'=>⟨xs.length - (i+1),by omega,rfl,hlt,p'⟩,λv H3 y=>?_⟩
  obtain⟨t,x,e1,nt,e2,y⟩:=y
  subst e1 e2
  exact⟨t,.int (i:Int),x,rfl,SqT.of ag,hs i x ys _ t (y xs q) p nt⟩
 ·have e:i=xs.length:=by omega
  subst e
  exact .inl ⟨⟨xs,q,Nat.le_refl _⟩,hd ys H2 p⟩
end L2
namespace L2
open PySem PySem.Spec PyProof.Rows
noncomputable def inS (zs:List Str) (i:Nat):Str->Bool:=λk=>decide (k∈zs.take i)
noncomputable def gG (zs:List Str):Nat->Nat
 | 0=>0
 | i+1=>match zs[i]? with
  | some z=>if inS zs i z=true then gG zs i else gG zs i+1
  | none=>gG zs i
theorem xr (zs:List Str):∀i,gG zs i<=i
 | 0=>Nat.le_refl _
 | i+1=>by
  have:=xr zs i
  unfold gG
  split
  ·split <;> omega
  ·omega
theorem Az {zs:List Str} (nd:zs.Nodup){i:Nat}{z:Str} (ez:zs[i]?=some z):inS zs i z=false:=by
 refine decide_eq_false λq=>?_
 obtain⟨j,hj,e⟩:=List.getElem_of_mem q
 rw [List.length_take]at hj
 rw [List.getElem_take]at e
 have hi:=(List.getElem?_eq_some_iff.mp ez)
 exact(List.pairwise_iff_getElem.mp nd j i (by omega) hi.1 (by omega)) (e.trans hi.2.symm)
theorem mI {zs:List Str} (nd:zs.Nodup):∀i,i<=zs.length->gG zs i=i
 | 0,_=>rfl
 | i+1,h=>by
  have ez:zs[i]?=some (zs[i]'(by omega)):=List.getElem?_eq_getElem (by omega)
  unfold gG
  rw [ez]
  simp only
  rw [Az nd ez,mI nd i (by omega)]
  rfl
abbrev lm (P:Program) (w:World) (a:Addr) (zs:List Str) (i:Nat) (h:Heap):Prop:=h.SetOf (strKind P w) a (inS zs i) (gG zs i)
theorem lm.at {P:Program}{w:World}{a:Addr}{zs:List Str}{i:Nat}{h h':Heap} (x:lm P w a zs i h) (e:∀o,h.get? a=some o->h'.get? a=some o):lm P w a zs i h':=by
 obtain⟨o,es,ep,t,ho,r⟩:=x
 exact⟨o,es,ep,t,e o ho,r⟩
section
variable {prog:Program}{w:World}{A:Around}{R:Result->Shared->Prop}{it:Addr}{fp wr:List Addr}{G:Array GenState->Array GenState->Prop}{P:Nat->Value->Prop}{St:Nat->Shared->Prop}
theorem vp {zs:List Str} (W:WalksS prog w A.in1 it fp wr G zs.length P St) (S:Addr) (hS:S∉fp) (val:∀i v,P i v->∃z t,zs[i]?=some z/\v=.str z t) (hb:zs.length+1 < scanBound) :
  ∀(k i:Nat) (s:Shared),zs.length - i=k->i<=zs.length->St i s->lm prog w S zs i s.heap->
   (∀s',Moved (S::wr) G s s'->lm prog w S zs zs.length s'.heap->R (.ok (.ret .none)) s')->
   codeAny (model prog w) A (.builtin "set.update.loop" ⟨[.ref S,.ref it],[]⟩) R s:=by
 have nw:S∉wr:=λz=>hS (W.sub _ z)
 have up:∀b∈wr,b∈S::wr:=λb z=>List.mem_cons_of_mem _ z
 intro k
 induction k with
 | zero=>
  intro i s ek le st x fin
  have e:i=zs.length:=by omega
  subst e
  refine codeAny_builtin F.entry_set_update_loop ?_
  rw [Around.under_plainId F.plain_set_update_loop _]
  show wpAny _ A.in1 (pyNext (.ref it) >>= _) _ _ s
  refine wpAny_bind (W.done s _ _ st λs' mv=>?_)
  exact wpAny_pure (fin s' (mv.mono up) (x.at λo e=>mv.heap S o nw e))
 | succ k ih=>
  intro i s ek le st x fin
  refine codeAny_builtin F.entry_set_update_loop ?_
  rw [Around.under_plainId F.plain_set_update_loop _]
  show wpAny _ A.in1 (pyNext (.ref it) >>= _) _ _ s
  refine wpAny_bind (W.item i s _ _ (by omega) st λv s' pv st' mv=>?_)
  obtain⟨z,t,ez,rfl⟩:=val i v pv
  have x':=x.at λo e=>mv.heap S o nw e
  show wpAny _ A.in1 (holding [Value.str z t] (setAdd S (.str z t)) >>= _) _ _ s'
  refine wpAny_bind (wpAny_holding ?_)
  unfold setAdd
  refine wpAny_holding ?_
  refine wpAny_bind ((strKind prog w).pyHash (k:=z) (strKind_is _ _ _ _) ?_)
  have hc:=xr zs i
  refine wpAny_setAddHashed_of (knd:=strKind prog w) (s:={ s' with toks:=s'.toks+1 }) (strKind_is _ _ _ _) rfl x' (by omega) λh' sb x2=>?_
  have x0:(match zs[i]? with | some z=>if inS zs i z=true then gG zs i else gG zs i+1 | none=>gG zs i)=gG zs (i+1):=rfl
  rw [ez]at x0
  have x3:lm prog w S zs (i+1) h':=SetOf_congr x2 (λk'=>by
   unfold inS
   rw [List.take_add_one,ez,Bool.eq_iff_iff]
   simp) x0
  refine wpAny_pure ⟨plainId_quiet F.plain_set_update_loop _,ih (i+1) _ (by omega) (by omega) (W.frame _ s' _ _ st' (Nat.le_succ _) λb hb o e=>?_) x3 λs'' mv'' x4=>?_⟩
  ·rw [sb.2 b (λh:b=S=>hS (by rw [<- h];exact hb))];exact e
  ·refine fin s'' (Moved.trans W.gtrans ((mv.mono up).then_heap (Nat.le_succ _) λb o hb e=>?_) mv'') x4
   rw [sb.2 b (λh:b=S=>hb (by rw [h];exact List.mem_cons_self))];exact e
end
section
variable {prog:Program}{w:World}{A:Around}{E:Value->Shared->Prop}{s:Shared}
noncomputable abbrev fD (b:Bool):Obj:={ cls:=.type "set", dict:=none,data:=.set #[] 0 (.fresh 0 0 b) }
theorem rE:∀{vs:List Value}{zs:List Str},StrsAre vs zs->∀(i:Nat) (v:Value),vs[i]?=some v->∃z t,zs[i]?=some z/\v=.str z t
 | _,_,.nil,i,v,h=>by simp at h
 | _,_,.cons z t r,0,v,h=>⟨z,t,rfl,by simpa using h.symm⟩
 | _,_,.cons z t r,i+1,v,h=>by
  obtain⟨z',t',e1,e2⟩:=rE r i v (by simpa using h)
  exact⟨z',t',by simpa using e1,e2⟩
theorem lJ {l:Addr}{its:Array Value}{zs:List Str}{Q:Value->Shared->Prop} (hh:A.handled=none) (hl:s.heap.IsList l its) (hs:StrsAre its.toList zs) (hb:zs.length+1 < scanBound)
  (q:∀(h':Heap) (tk:Nat),lm prog w s.heap.objs.size zs zs.length h'->(∀a o,a < s.heap.objs.size->s.heap.get? a=some o->h'.get? a=some o)->Q (.ref s.heap.objs.size) { s with heap:=h',toks:=tk }) :
  wpAny (model prog w) A (call (.type "set") [.ref l]) Q E s:=by
 have ft:=PySem.F.called_set
 obtain⟨c0,tl0,m0⟩:=ft.mro
 have m1:=ft.made
 have m2:=ft.sub
 have hlen:its.size=zs.length:=by
  have:=hs.length
  rw [Array.length_toList]at this
  exact this
 refine wpAny_call (codeAny_of_tree ?_)
 show wpAny _ _ (callAny (.type "set") _) _ _ _
 refine wpAny_pure ⟨Code.quiet_builtin _ (by decide +kernel),codeAny_builtin PySem.F.entry_type_call ?_⟩
 rw [Around.under_plain (weight_type_call_type "set" [.ref l] []) rfl]
 have m3:=ft.notType
 have m4:=ft.canCreate
 have m5:=PySem.F.typeCall_set_1 (.ref l)
 repeat (any_goals (first | assumption | wp_step))
 refine codeAny_mono (PySem.code_set_new_1 (.ref l) (E:=E) (Q₁:=λo s1=>∃b:Bool,o=.ref s.heap.objs.size/\s1={ s with heap:=s.heap.push (fD b) }) λb=>⟨b,rfl,rfl⟩) λr s1 hr=>?_
 cases r with
 | error e=>exact hr
 | ok fl=>
  cases fl with
  | ret o=>
   obtain⟨b,rfl,rfl⟩:=hr
   have hS:(s.heap.push (fD b)).get? s.heap.objs.size=some (fD b):=Heap.get?_push_size _ rfl
   have hT:Shared.TypeIs { s with heap:=s.heap.push (fD b) } (.ref s.heap.objs.size) "set":=⟨_,hS,rfl⟩
   have n1:=ft.init.lookup
   have n2:=ft.init.bind (.ref s.heap.objs.size)
   repeat (any_goals (first | assumption | wp_step))
   refine codeAny_mono (codeAny_call_builtin (R:=wants (λr s2=>r=.none/\∃h' tk,s2={ s with heap:=h',toks:=tk }/\lm prog w s.heap.objs.size zs zs.length h'/\∀a o,a < s.heap.objs.size->s.heap.get? a=some o->h'.get? a=some o) E) ft.init.plain PySem.F.entry_set_init (PySem.check_set_init_1 hT ?_)) λr2 s2 hr2=>?_
   ·obtain⟨ol,hol,hcl,nl,hdl⟩:=hl
    obtain⟨oc,od,oa,os⟩:=ol
    simp only at hcl hdl
    subst hcl;subst hdl
    have ho1:(s.heap.push (fD b)).get? l=some { cls:=.type "list", dict:=od,data:=.seq its nl,slots:=os }:=Heap.get?_push_of_some _ hol
    have k1:=PySem.F.sub_list_set
    have k2:=PySem.F.sub_list_frozenset
    have k3:(Value.type "list" == Value.type "dict")=false:=by decide
    have l1:(s.heap.push (fD b)).IsList l its:=⟨_,ho1,rfl,nl,rfl⟩
    have lS:l < s.heap.objs.size:=Heap.lt_size hol
    unfold Builtin.«set.__init__» noKeywords Builtin.Frozenset.updateFrom
    generalize eI:pyIter=PI
    wp_walk
    subst eI
    refine wpAny_pyIter_list l1 ?_
    refine wpAny_bind (wpAny_runValue ?_)
    have zp:(s.heap.push (fD b)).objs.size=s.heap.objs.size+1:=Heap.size_push _ _
    have d1:l≠(s.heap.push (fD b)).objs.size:=by rw [zp];exact Nat.ne_of_lt (Nat.lt_succ_of_lt lS)
    have d2:s.heap.objs.size∉[(s.heap.push (fD b)).objs.size,l]:=by
     rw [zp]
     intro z
     rcases List.mem_cons.mp z with z | z
     ·exact Nat.ne_of_lt (Nat.lt_succ_self _) z
     ·exact Nat.ne_of_gt lS (List.mem_singleton.mp z)
    have W:=(Walks.list (prog:=prog) (w:=w) (A:=A.in1.in1.in1) (by simp [hh]) _ l d1 its).toS
    rw [hlen]at W
    refine vp W s.heap.objs.size d2 (λi v hv=>rE hs i v (by rw [Array.getElem?_toList];exact hv)) hb (zs.length - 0) 0 _ (by omega) (Nat.zero_le _) ⟨⟨_,Heap.get?_push_size _ rfl,rfl,rfl⟩,l1.push _⟩ ?s0 ?fin
    case s0=>
     exact SetOf_congr ((setObjOf_fresh (knd:=strKind prog w) b).setOf (Heap.get?_push_of_some _ hS) (by unfold scanBound;omega)) (λ_=>by unfold inS;simp) rfl
    case fin=>
     intro s' mv x
     obtain⟨h',g',d',tk',os'⟩:=s'
     obtain rfl:g'=s.gens:=mv.gens
     obtain rfl:d'=s.drawn:=mv.drawn
     obtain rfl:os'=s.os:=mv.os
     refine wpAny_pure ?_
     show wpAny _ _ (ret Value.none) _ _ _
     refine wpAny_pure ⟨rfl,h',tk',rfl,x,λa o ha e=>mv.heap a o (λz=>?_) (Heap.get?_push_of_some _ (Heap.get?_push_of_some _ e))⟩
     rcases List.mem_cons.mp z with z | z
     ·exact Nat.ne_of_lt ha z
     ·rw [zp]at z
      exact Nat.ne_of_lt (Nat.lt_succ_of_lt ha) (List.mem_singleton.mp z)
   ·cases r2 with
    | error e=>exact hr2
    | ok f2=>
     cases f2 with
     | ret r=>
      obtain⟨rfl,h',tk,rfl,x,kp⟩:=hr2
      repeat (any_goals (first | assumption | wp_step))
      exact q _ _ x kp
     | _=>exact hr2.elim
  | _=>exact hr.elim
end
end L2
namespace L2
open PySem PySem.Spec PyProof.Rows
theorem mJ {X:Cx} (hc:X.calm=true):dq X (.type "set") (λxs H Q=>∃(a:Addr) (zs:List Str),xs=[.ref a]/\SqL X.K H a (zs.map V.str)/\zs.length<=1000/\∀p,H p=none->Q (.ref p) (upd H p (.ext (lm X.prog X.w p zs zs.length)))):=by
 intro pins s Y H xs us Q I r h
 obtain⟨a,zs,rfl,hS,hz,q⟩:=h
 obtain⟨u,rfl,ru⟩:=fR r
 cases (show u=Value.ref a from ru)
 obtain⟨its,rv,p,_⟩:=I.list hS
 refine lJ (I.ok.hd hc) p.isList (by simpa using mW rv) (by unfold scanBound;omega) λh' tk x kp=>?_
 refine⟨.ref s.heap.objs.size,_,I.laid (o:=.ext (lm X.prog X.w s.heap.objs.size zs zs.length)) (t':=tk) (h':=h') (λb u e=>kp b u (Heap.lt_size e) e) (Nat.le_refl _) (by
  obtain⟨o,_,_,_,e,_⟩:=id x
  exact⟨x,⟨o,e⟩,λh1 h2 e k=>e.at k⟩),rfl,q _ (I.hok.fresh (Nat.le_refl _))⟩
theorem mL {X:Cx}:dq X (.builtin "len") (λxs H Q=>∃(a:Addr) (zs:List Str),xs=[.ref a]/\H a=some (.ext (lm X.prog X.w a zs zs.length))/\Q (.int (gG zs zs.length)) H):=by
 intro pins s Y H xs us Q I r h
 obtain⟨a,zs,rfl,hS,q⟩:=h
 obtain⟨u,rfl,ru⟩:=fR r
 cases (show u=Value.ref a from ru)
 obtain⟨o,es,ep,t,ho,hex,hd,_,_,hb,hf,hn⟩:=(show bw X.prog X.w H s.heap a _ from I.hok a _ hS).1
 refine call_len_set ho hex hd hf (by unfold scanBound at hb;omega) ⟨.int (gG zs zs.length),H,I.tok _,⟨_,by rw [hn]⟩,q⟩
theorem gR:plainId "dict.update.loop" = true:=by decide +kernel
theorem mF:entryFor table "dict.update.loop" = some Builtin.«dict.update.loop»:=entryFor_of_tree (by kernel_rfl)
end L2
namespace PySem
open PySem PySem.Spec
theorem yC:typeLookup (.type "list") "__getattr__" = pure none:=by rw [typeLookup_type,builtinLookup_eq_fast];kernel_rfl
theorem yB:typeLookup (.type "list") "keys" = pure none:=by rw [typeLookup_type,builtinLookup_eq_fast];kernel_rfl
section
variable {prog:Program}{w:World}{A:Around}{E:Value->Shared->Prop}{h:Heap}{g:Array GenState}{d:Drawn}{t:Nat}{os:OsState}{a:Addr}{o:Obj}
theorem jC:isSubtype (.type "AttributeError") (.type "AttributeError")=pure true:=by rw [isSubtype_type];kernel_rfl
theorem qZ (vs:List Value):firstArgMember (.type "AttributeError") vs=pure .none:=by
 have e:((Manifest.find? "AttributeError").elim false λt=>t.mro.contains "StopIteration" || t.mro.contains "SystemExit")=false:=by kernel_rfl
 simp only [firstArgMember,e]
 rfl
theorem qB {α:Type}{name msg:Str}{s:Shared}{Q:α->Shared->Prop} (hm:msg.length<=sizeLine) (hh:A.handled=none)
  (hq:∀h' tk e,(∀b o,s.heap.get? b=some o->h'.get? b=some o)->(∃ob,h'.get? e=some ob/\ob.cls=.type "AttributeError")->E (.ref e) { s with heap:=h',toks:=tk }) :
  wpAny (model prog w) A (raiseAttrError (.ref a) name msg) Q E s:=by
 unfold raiseAttrError
 refine wpAny_bind (wpAny_mkStr ?_ hm)
 refine wpAny_bind ?_
 unfold newExc newTuple
 refine wpAny_bind (wpAny_newObj_type ?_ (by show 1<=sizeLine;decide))
 refine wpAny_bind (m:=firstArgMember _ _) (wpAny_of_eq (qZ _) ?_)
 refine wpAny_newObj_type ?_ (by first | trivial | size_fits)
 refine wpAny_bind (wpAny_mkText ?_)
 have hT:∀tk,Shared.TypeIs { s with heap:=(s.heap.push { cls:=.type "tuple", data:=.seq #[Value.str msg s.toks] }).push { cls:=.type "AttributeError", data:=.fields (#[Value.ref s.heap.objs.size,.none,.none,.none,.bool false,.none]++ownMembersOf (.type "AttributeError") [Value.str msg s.toks]) },toks:=tk } (.ref (s.heap.push { cls:=.type "tuple", data:=.seq #[Value.str msg s.toks] }).objs.size) "AttributeError":=λtk=>⟨_,Heap.get?_push_size _ rfl,rfl⟩
 have hG:((s.heap.push { cls:=.type "tuple", data:=.seq #[Value.str msg s.toks] }).push { cls:=.type "AttributeError", data:=.fields (#[Value.ref s.heap.objs.size,.none,.none,.none,.bool false,.none]++ownMembersOf (.type "AttributeError") [Value.str msg s.toks]) }).get? (s.heap.push { cls:=.type "tuple", data:=.seq #[Value.str msg s.toks] }).objs.size=some { cls:=.type "AttributeError", data:=.fields (#[Value.ref s.heap.objs.size,.none,.none,.none,.bool false,.none]++ownMembersOf (.type "AttributeError") [Value.str msg s.toks]) }:=Heap.get?_push_size _ rfl
 refine wpAny_bind ?_
 unfold noteAttr lacksNameAndObj
 refine wpAny_bind ?_
 refine wpAny_bind (wpAny_isInstance (hT _) jC ?_)
 rw [if_neg (by decide)]
 refine wpAny_bind (wpAny_load hG ?_)
 rw [show ownMembersOf (.type "AttributeError") [Value.str msg s.toks] = #[unsetMember,unsetMember] from rfl]
 refine wpAny_pure ?_
 rw [if_pos rfl]
 refine wpAny_bind (wpAny_rule ?_)
 refine wpAny_bind (wpAny_typeOf (hT _) ?_)
 unfold layMembers
 refine wpAny_bind (wpAny_load hG ?_)
 refine wpAny_update hG ?_
 unfold raiseNew
 refine wpAny_bind (wpAny_handled ?_)
 rw [hh]
 refine wpAny_bind (wpAny_pure (wpAny_throw ?_))
 refine hq _ _ _ (λb o e=>?_) ⟨_,Heap.get?_update_self _ hG (Obj.isFreed_of_fields (Obj.data_mapFields rfl _)),Obj.cls_mapFields _ _⟩
 rw [Heap.get?_update_ne _ _ _ _ (Nat.ne_of_lt (Nat.lt_of_lt_of_le (Heap.lt_size e) (by simp)))]
 exact Heap.get?_push_of_some _ (Heap.get?_push_of_some _ e)
theorem qU {tk:Tok}{Q:Fin->Shared->Prop} (hh:A.handled=none){its:Array Value}{n:Nat}{sl:Array (Option Value)} (hx:h.get? a=some { cls:=.type "list", dict:=none,data:=.seq its n,slots:=sl })
  (hq:∀h' tk' e,(∀b o,h.get? b=some o->h'.get? b=some o)->(∃ob,h'.get? e=some ob/\ob.cls=.type "AttributeError")->E (.ref e) ⟨h',g,d,tk',os⟩) :
  wpAny (model prog w) A (Builtin.«object.__getattribute__» ⟨[.ref a,.str "keys" tk],[]⟩) Q E ⟨h,g,d,t,os⟩:=by
 have hT:(⟨h,g,d,t,os⟩:Shared).TypeIs (.ref a) "list":=⟨_,hx,rfl⟩
 have f4:=yB
 repeat (any_goals (first | assumption | wp_step))
 exact qB (Nat.le_of_ble_eq_true (by kernel_rfl)) hh hq
theorem yF {tk:Tok}{Q:Value->Shared->Prop} (hh:A.handled=none){its:Array Value}{n:Nat}{sl:Array (Option Value)} (hx:h.get? a=some { cls:=.type "list", dict:=none,data:=.seq its n,slots:=sl })
  (hq:∀h' tk' e,(∀b o,h.get? b=some o->h'.get? b=some o)->(∃ob,h'.get? e=some ob/\ob.cls=.type "AttributeError")->E (.ref e) ⟨h',g,d,tk',os⟩) :
  wpAny (model prog w) A (getAttrBy (.ref a) (.str "keys" tk) false) Q E ⟨h,g,d,t,os⟩:=by
 have hT:(⟨h,g,d,t,os⟩:Shared).TypeIs (.ref a) "list":=⟨_,hx,rfl⟩
 have f2:=F.slot_list_getattribute.lookup
 have f3:=F.slot_list_getattribute.bind (.ref a)
 repeat (any_goals (first | assumption | wp_step))
 refine codeAny_call_builtin F.slot_list_getattribute.plain F.entry_list_ga (F.slot_list_getattribute.check _ _ _ _ _ _ _ _ hT (F.args_list_getattribute_2 _ _) (qU (by simp [hh]) hx λh' tk' e k x=>?_))
 dsimp only
 unfold getattributeRaised
 have hTe:(⟨h',g,d,tk',os⟩:Shared).TypeIs (.ref e) "AttributeError":=x
 have s1:=jC
 have s2:=yC
 repeat (any_goals (first | assumption | wp_step))
 exact hq _ _ _ k x
theorem no_keys {Q:Option Value->Shared->Prop}{s:Shared} (hh:A.handled=none){its:Array Value}{n:Nat}{sl:Array (Option Value)} (hx:s.heap.get? a=some { cls:=.type "list", dict:=none,data:=.seq its n,slots:=sl })
  (hq:∀h' tk',(∀b o,s.heap.get? b=some o->h'.get? b=some o)->Q none { s with heap:=h',toks:=tk' }):wpAny (model prog w) A (getAttr? (.ref a) "keys") Q E s:=by
 obtain⟨h,g,d,t,os⟩:=s
 unfold getAttr? getAttrBy?
 refine wpAny_bind (wpAny_mkText ?_)
 refine wpAny_bind (wpAny_attempt (yF hh hx λh' tk' e k x=>?_))
 refine wpAny_bind (wpAny_isInstance x jC ?_)
 exact wpAny_pure (hq _ _ k)
end
end PySem
namespace L2
open PySem PySem.Spec PyProof.Rows
section
variable {prog:Program}{w:World}{A:Around}{R:Result->Shared->Prop}{it:Addr}{fp wr:List Addr}{G:Array GenState->Array GenState->Prop}{P:Nat->Value->Prop}{St:Nat->Shared->Prop}
theorem pG (kvs:List (Key × Value)) (p:Key × Value):merged [] (kvs++[p])=stored (merged [] kvs) p.1 p.2:=by
 unfold merged
 rw [List.foldl_append]
 rfl
theorem ql (kvs:List (Key × Value)) (k:Key) (v:Value):(stored kvs k v).length<=kvs.length+1:=by
 unfold stored
 split
 ·rw [List.length_map];omega
 ·rw [List.length_append];exact Nat.le_refl _
theorem kG:∀(ms kvs:List (Key × Value)),(merged kvs ms).length<=kvs.length+ms.length
 | [],kvs=>Nat.le_refl _
 | p::ms,kvs=>by
  have h1:=kG ms (stored kvs p.1 p.2)
  have h2:=ql kvs p.1 p.2
  show (merged (stored kvs p.1 p.2) ms).length<=_
  rw [List.length_cons]
  omega
theorem ut {kvs:List (Key × Value)}{hb:Heap} (W:WalksS prog w A.in1 it fp wr G kvs.length P St) (S:Addr) (hS:S∉fp)
  (tp:∀j v,P j v->∃y x p u,kvs[j]?=some (y,x)/\v=.ref p/\p≠S/\p∉wr/\IsTup hb p #[u,x]/\(bo prog w).is y u=true) (hz:kvs.length<=1000) :
  ∀(k i:Nat) (s:Shared),kvs.length - i=k->i<=kvs.length->St i s->s.heap.DictOf (bo prog w) S (merged [] (kvs.take i))->(∀b o,b∉S::wr->hb.get? b=some o->s.heap.get? b=some o)->
   (∀s',Moved (S::wr) G s s'->s'.heap.DictOf (bo prog w) S (merged [] kvs)->R (.ok (.ret .none)) s')->
   codeAny (model prog w) A (.builtin "dict.update.loop" ⟨[.ref S,.ref it,rawInt (i:Int),.none],[]⟩) R s:=by
 have nw:S∉wr:=λz=>hS (W.sub _ z)
 have up:∀b∈wr,b∈S::wr:=λb z=>List.mem_cons_of_mem _ z
 intro k
 induction k with
 | zero=>
  intro i s ek le st x kp fin
  have e:i=kvs.length:=by omega
  subst e
  rw [List.take_length]at x
  refine codeAny_builtin mF ?_
  rw [Around.under_plainId gR _]
  show wpAny _ A.in1 (pyNext (.ref it) >>= _) _ _ s
  refine wpAny_bind (W.done s _ _ st λs' mv=>?_)
  refine wpAny_bind (wpAny_pure ?_)
  exact wpAny_pure (fin s' (mv.mono up) (x.at λo e=>mv.heap S o nw e))
 | succ k ih=>
  intro i s ek le st x kp fin
  refine codeAny_builtin mF ?_
  rw [Around.under_plainId gR _]
  show wpAny _ A.in1 (pyNext (.ref it) >>= _) _ _ s
  refine wpAny_bind (W.item i s _ _ (by omega) st λv s' pv st' mv=>?_)
  obtain⟨y,z,p,u,ez,rfl,pS,pw,tt,hu⟩:=tp i v pv
  have x':=x.at λo e=>mv.heap S o nw e
  have pn:p∉S::wr:=λq=>by
   rcases List.mem_cons.mp q with q | q
   ·exact pS q
   ·exact pw q
  obtain⟨o,ho,oc,n,od⟩:=tt
  have ho':s'.heap.get? p=some o:=mv.heap p o pw (kp p o pn ho)
  refine wpAny_bind (wpAny_holding ?_)
  refine wpAny_bind (wpAny_tryCatch ?_)
  unfold Builtin.Dict.pairItems
  refine wpAny_bind (wpAny_typeOf (T:="tuple") ⟨o,ho',oc⟩ ?_)
  rw [if_pos (by decide)]
  refine wpAny_bind (wpAny_seqItems ho' od ?_)
  refine wpAny_pure ?_
  show wpAny _ _ (holding [u,z] (dictSet S u z)) _ _ _
  refine wpAny_holding ?_
  have hln:=kG (kvs.take i) []
  rw [List.length_take,List.length_nil]at hln
  refine wpAny_dictSet_pairs hu x' (λh' dd sb=>?_) (by rw [sizeLine_eq];omega)
  have et:kvs.take (i+1)=kvs.take i++[(y,z)]:=by rw [List.take_add_one,ez];rfl
  refine wpAny_pure ⟨plainId_quiet gR _,?_⟩
  have step:=ih (i+1) { s' with heap:=h',toks:=s'.toks+1 } (by omega) (by omega) (W.frame _ s' _ _ st' (Nat.le_succ _) λb hb o e=>?_) (by rw [et,pG];exact dd) (λb o hb e=>?_) (λs'' mv'' x4=>?_)
  ·have e1:rawInt ((i+1:Nat):Int)=rawInt ((i:Int)+1):=by push_cast;rfl
   rw [e1]at step
   exact step
  ·rw [sb.2 b (λh:b=S=>hS (by rw [<- h];exact hb))];exact e
  ·rw [sb.2 b (λh:b=S=>hb (by rw [h];exact List.mem_cons_self))]
   exact mv.heap b o (λq=>hb (up b q)) (kp b o hb e)
  ·refine fin s'' (Moved.trans W.gtrans ((mv.mono up).then_heap (Nat.le_succ _) λb o hb e=>?_) mv'') x4
   rw [sb.2 b (λh:b=S=>hb (by rw [h];exact List.mem_cons_self))];exact e
end
section
variable {prog:Program}{w:World}{A:Around}{E:Value->Shared->Prop}{s:Shared}
theorem jh {l:Addr}{its:List Value}{n:Nat}{kvs:List (Key × Value)}{Q:Value->Shared->Prop} (hh:A.handled=none) (hl:s.heap.get? l=some { cls:=.type "list", dict:=none,data:=.seq its.toArray n,slots:=#[] })
  (tp:∀(j:Nat) (v:Value),its[j]?=some v->∃y x p u,kvs[j]?=some (y,x)/\v=.ref p/\IsTup s.heap p #[u,x]/\(bo prog w).is y u=true) (hk:kvs.length=its.length) (hz:kvs.length<=1000)
  (q:∀(h':Heap) (tk:Nat),h'.DictOf (bo prog w) s.heap.objs.size (merged [] kvs)->(∀a o,s.heap.get? a=some o->h'.get? a=some o)->Q (.ref s.heap.objs.size) { s with heap:=h',toks:=tk }) :
  wpAny (model prog w) A (call (.type "dict") [.ref l]) Q E s:=by
 refine callType_codes (Q₁:=λo s1=>o=.ref s.heap.objs.size/\s1={ s with heap:=s.heap.push { cls:=.type "dict", data:=.dict #[] } }) PySem.F.kt_called_dict (PySem.F.kt_typeCall_dict_1 _) PySem.F.entry_dict_init (kt_code_dict_new _ ⟨rfl,rfl⟩) ?_
 rintro o s1 ⟨rfl,rfl⟩
 have hn:(s.heap.push { cls:=.type "dict", data:=.dict #[] }).DictOf (bo prog w) s.heap.objs.size []:=Heap.DictOf.new s.heap
 have hl1:(s.heap.push { cls:=.type "dict", data:=.dict #[] }).get? l=some { cls:=.type "list", dict:=none,data:=.seq its.toArray n,slots:=#[] }:=Heap.get?_push_of_some _ hl
 have lS:l < s.heap.objs.size:=Heap.lt_size hl
 refine⟨hn.typeIs,PySem.F.args_dict_init_2 _ _,?_⟩
 unfold Builtin.«dict.__init__»
 refine wpAny_bind ?_
 unfold Builtin.Dict.selfAndRest
 refine wpAny_bind (wpAny_notOrdered_dict hn.typeIs ?_)
 refine wpAny_pure ?_
 show wpAny _ _ (Builtin.Dict.updateFrom "dict.__init__" s.heap.objs.size (.ref l) [] .none) _ _ _
 unfold Builtin.Dict.updateFrom
 refine wpAny_bind (wpAny_typeOf (T:="list") ⟨_,hl1,rfl⟩ ?_)
 rw [if_pos (by decide)]
 refine wpAny_bind (PySem.no_keys (by simp [hh]) hl1 λh2 tk2 k2=>?_)
 rw [if_pos (show (Option.isNone (none:Option Value))=true from rfl)]
 refine wpAny_bind (wpAny_rule ?_)
 have l2:h2.IsList l its.toArray:=⟨_,k2 _ _ hl1,rfl,n,rfl⟩
 refine wpAny_bind (wpAny_pyIter_list l2 ?_)
 have z2:s.heap.objs.size < h2.objs.size:=by
  obtain⟨o,_,_,e,_⟩:=hn
  exact Heap.lt_size (k2 _ _ e)
 have d1:l≠h2.objs.size:=Nat.ne_of_lt (Nat.lt_trans lS z2)
 have W:=(Walks.list (prog:=prog) (w:=w) (A:=A.in1.in1) (by simp [hh]) h2.objs.size l d1 its.toArray).toS
 have ez:its.toArray.size=kvs.length:=by rw [List.size_toArray,hk]
 rw [ez]at W
 refine wpAny_pure ⟨plainId_quiet gR _,?_⟩
 refine ut (hb:=s.heap) W s.heap.objs.size (λz=>?_) (λj v hv=>?_) hz (kvs.length - 0) 0 _ (by omega) (Nat.zero_le _) ⟨⟨_,Heap.get?_push_size _ rfl,rfl,rfl⟩,l2.push _⟩ ?_ (λb o hb e=>?_) λs' mv dd=>?_
 ·rcases List.mem_cons.mp z with z | z
  ·exact Nat.ne_of_lt z2 z
  ·exact Nat.ne_of_gt lS (List.mem_singleton.mp z)
 ·obtain⟨y,x,p,u,e1,e2,e3,e4⟩:=tp j v (by simpa using hv)
  have lp:p < s.heap.objs.size:=by
   obtain⟨o,e,_⟩:=e3
   exact Heap.lt_size e
  exact⟨y,x,p,u,e1,e2,Nat.ne_of_lt lp,λz=>Nat.ne_of_lt (Nat.lt_trans lp z2) (List.mem_singleton.mp z),e3,e4⟩
 ·exact(hn.at λo e=>k2 _ _ e).push _
 ·exact Heap.get?_push_of_some _ (k2 _ _ (Heap.get?_push_of_some _ e))
 ·obtain⟨h',g',d',tk',os'⟩:=s'
  obtain rfl:g'=s.gens:=mv.gens
  obtain rfl:d'=s.drawn:=mv.drawn
  obtain rfl:os'=s.os:=mv.os
  refine⟨rfl,q h' tk' dd λa o e=>mv.heap a o (λz=>?_) (Heap.get?_push_of_some _ (k2 _ _ (Heap.get?_push_of_some _ e)))⟩
  have la:=Heap.lt_size e
  rcases List.mem_cons.mp z with z | z
  ·exact Nat.ne_of_lt la z
  ·exact Nat.ne_of_lt (Nat.lt_trans la z2) (List.mem_singleton.mp z)
end
theorem lh {X:Cx} (hc:X.calm=true):dq X (.type "dict") (λxs H Q=>∃(l:Addr) (ps:List Addr) (kvs:List (Key × V)),xs=[.ref l]/\H l=some (.lst (ps.map V.ref))/\Paired (λp (kv:Key × V)=>H p=some (.tup [kV kv.1,kv.2])) ps kvs/\(kvs.map (·.1)).Nodup/\kvs.length<=1000/\
  ∀p,H p=none->Q (.ref p) (upd H p (.dK kvs))):=by
 intro pins s Y H xs us Q I r h
 obtain⟨l,ps,kvs,rfl,hl,hp,nd,hz,q⟩:=h
 obtain⟨u,rfl,ru⟩:=fR r
 cases (show u=Value.ref l from ru)
 obtain⟨its,n,rv,ho,hzz⟩:=I.lst hl
 clear hzz
 obtain rfl:=lK rv
 have key:∃vs:List (Key × Value),KV kvs vs/\∀(j:Nat) (p:Addr),ps[j]?=some p->∃y x u,vs[j]?=some (y,x)/\IsTup s.heap p #[u,x]/\(bo X.prog X.w).is y u=true:=by
  clear ho rv q hl nd hz
  induction hp with
  | nil=>exact⟨[],.nil,λj p e=>by simp at e⟩
  | @cons p kv ps kvs e _ ih=>
   obtain⟨vs,rk,hv⟩:=ih
   obtain⟨_,ts,rt,it⟩:=(show bw X.prog X.w H s.heap p (.tup [kV kv.1,kv.2]) from I.hok p _ e)
   obtain⟨u1,u2,rfl,r1,r2⟩:=lM rt
   refine⟨(kv.1,u2)::vs,.cons ⟨rfl,r2⟩ rk,λj p' e'=>?_⟩
   cases j with
   | zero=>
    cases (show some p=some p' from e')
    exact⟨kv.1,u2,u1,rfl,it,jd r1⟩
   | succ j=>exact hv j p' e'
 obtain⟨vs,rk,hv⟩:=key
 have hlen:vs.length=kvs.length:=(Paired.length rk).symm
 have hpl:ps.length=kvs.length:=Paired.length hp
 have big:sysModules < s.heap.objs.size:=I.big
 refine jh (kvs:=vs) (its:=ps.map Value.ref) (I.ok.hd hc) ho (λj v e=>?_) (by rw [List.length_map];omega) (by omega) λh' tk dd kp=>?_
 ·rw [List.getElem?_map]at e
  cases ep:ps[j]? with
  | none=>rw [ep]at e;cases e
  | some p=>
   rw [ep]at e
   cases e
   obtain⟨y,x,u,e1,e2,e3⟩:=hv j p ep
   exact⟨y,x,p,u,e1,rfl,e2,e3⟩
 ·have nd2:(vs.map (·.1)).Nodup:=by rw [<- KV.keys rk];exact nd
  rw [merged_nil_of_nodup vs nd2]at dd
  refine⟨.ref s.heap.objs.size,_,I.laid (o:=.dK kvs) (t':=tk) (h':=h') kp (Nat.le_refl _) (oi (by rw [sizeLine_eq];omega) (beq_eq_false_iff_ne.mpr (Ne.symm (Nat.ne_of_lt big))) rk dd),rfl,q _ (I.hok.fresh (Nat.le_refl _))⟩
end L2
namespace L2
open PySem PySem.Spec PyProof.Rows PySem.Builtin PySem.Builtin.ObjectAttr
noncomputable abbrev lB:List Value:=[.type "ValueError", .type "Exception", .type "BaseException", .type "object"]
noncomputable abbrev jf (C U:Addr):List Value:=.ref C::.ref U::lB
theorem uH (self:Value) (C U:Addr):refuseLoop self "__setattr__" (jf C U)=pure ():=by
 rw [refuseLoop_ref,refuseLoop_ref]
 exact PySem.F.store_ValueError.passes self
section
variable {prog:Program}{w:World}{A:Around}{E:Value->Shared->Prop}{s:Shared}{K:PySem.W.Frag}{x C U:Addr}{ox:Obj}{od:Option Obj}{cd:ClassData}{name:Str}{v:Value}
theorem AT {R:Result->Shared->Prop}{tk:Tok} (X:K.In s.heap) (I:PySem.W.InstAt s.heap x ox C od) (hc:PySem.W.clsIn K C=some cd) (hm:cd.mro=jf C U) (ha:PySem.W.findIn K (.ref C) name=some none)
  (h:∀b,wpAny (model prog w) A.in1 (storeInOwnDict (.ref x) (.ref C) (.str name tk) name v b)
   (λfin s'=>match fin with | .done f=>R (.ok f) s' | .again c'=>c'.quiet=true/\codeAny (model prog w) A c' R s') (λe s'=>R (.error e) s') s) :
  codeAny (model prog w) A (.call (.builtin "object.__setattr__") ⟨[.ref x,.str name tk,v],[]⟩) R s:=by
 have O:=PySem.F.store_object
 have sub:PySem.W.Looks (model prog w) s.heap (isInstance (.ref x) (.type "object")) true:=I.type.andThen (PySem.W.looks_mroIn X (by unfold PySem.W.mroIn;rw [hc,Option.bind_some,hm];rfl))
 have hmr:PySem.W.Looks (model prog w) s.heap (mroOf (.ref C)) cd.mro:=(PySem.W.looks_clsIn X hc).andThen .now
 refine codeAny_call_builtin O.slot.plain O.entry (@PySem.W.check_slot (model prog w) _ _ s "object.__setattr__" "object" "__setattr__" (.ref x) [.str name tk,v] [] _ O.kind O.split sub (O.args _ _ _) ?_)
 rw [PySem.W.osa_eq,refuse_eq]
 refine wpAny_bind (wpAny_bind (I.type.here (wpAny_bind (hmr.here ?_))))
 rw [hm,uH]
 exact wpAny_pure (wpAny_bind (I.type.here (wpAny_bind ((PySem.W.looks_findIn X ha).here (wpAny_bind (wpAny_pure (h _)))))))
theorem AS {Q:Unit->Shared->Prop}{vs:Array Value} (X:K.In s.heap) (hx:s.heap.get? x=some { cls:=.ref C,data:=.fields vs }) (hs:PySem.W.findIn K (.ref C) "__setattr__" = some (some (.builtin "object.__setattr__")))
  (hc:PySem.W.clsIn K C=some cd) (hm:cd.mro=jf C U) (hd:cd.hasDict=true) (ha:PySem.W.findIn K (.ref C) name=some none)
  (h:∀h',h'.get? x=some { cls:=.ref C,dict:=some s.heap.objs.size,data:=.fields vs }->h'.Ns1 s.heap.objs.size (λy=>if y=name then some v else none)->(∀b o,b≠x->s.heap.get? b=some o->h'.get? b=some o)->∀tk,Q () { s with heap:=h',toks:=tk }) :
  wpAny (model prog w) A (setAttr (.ref x) name v) Q E s:=by
 have I:PySem.W.InstAt s.heap x { cls:=.ref C,data:=.fields vs } C none:=⟨hx,rfl,rfl,True.intro⟩
 refine PySem.W.set_plain X I hs (AT (s:={ s with toks:=s.toks+1 }) X I hc hm ha λb=>?_)
 have hxs:x≠s.heap.objs.size:=Nat.ne_of_lt (Heap.lt_size hx)
 refine wpAny_bind (wpAny_pure (wpAny_bind ?_))
 show wpAny _ _ (instanceDict x true) _ _ _
 unfold instanceDict
 refine wpAny_bind (wpAny_loadPart hx (wpAny_bind (PySem.W.Looks.here (s:={ s with toks:=s.toks+1 }) (PySem.W.looks_clsIn X hc) ?_)))
 rw [hd]
 dsimp only
 rw [if_neg (by decide),if_neg (by simp [typeHasDict])]
 refine wpAny_bind (wpAny_alloc (wpAny_bind (wpAny_update (Heap.get?_push_of_some _ hx) (wpAny_pure ?_))))
 generalize eh:(s.heap.push { cls:=.type "dict", data:=.dict #[] }).update x (λo=>{ cls:=o.cls,dict:=some s.heap.objs.size,data:=o.data,slots:=o.slots })=h1
 have hx1:h1.get? x=some { cls:=.ref C,dict:=some s.heap.objs.size,data:=.fields vs }:=by
  rw [<- eh]
  exact Heap.get?_update_self _ (Heap.get?_push_of_some _ hx) rfl
 have hd1:h1.get? s.heap.objs.size=some { cls:=.type "dict", data:=.dict #[] }:=by
  rw [<- eh,Heap.get?_update_ne _ _ _ _ (Ne.symm hxs)]
  exact Heap.get?_push_size _ rfl
 have keep1:∀b o,b≠x->s.heap.get? b=some o->h1.get? b=some o:=λb o hb e=>by
  rw [<- eh,Heap.get?_update_ne _ _ _ _ hb]
  exact Heap.get?_push_of_some _ e
 have n1:h1.Ns1 s.heap.objs.size (λ_=>none):=Heap.Ns1.of_empty ⟨_,#[],_,hd1,rfl,λe he=>absurd he (by simp),λ_=>rfl⟩
 show wpAny _ _ (storeInDict s.heap.objs.size (.str name s.toks) name v) _ _ { s with heap:=h1,toks:=s.toks+1 }
 unfold storeInDict newKeyGuard
 refine wpAny_bind (wpAny_pure (wpAny_bind (wpAny_nsSet1 (s:={ s with heap:=h1,toks:=s.toks+1 }) n1 λh2 n2 sb=>?_)))
 have sb:Heap.SameBut s.heap.objs.size h1 h2:=sb
 obtain⟨o2,es2,ep2,ho2,hd2,hc2⟩:=n2.count (PySem.Within.cons name v PySem.Within.nil)
 refine wpAny_bind (wpAny_lookBehind ho2 (by rw [hd2];exact pastItsLine_dict (Nat.le_trans hc2 (by rw [List.length_cons,List.length_nil,sizeLine_eq];omega))) ?_)
 exact wpAny_pure (h h2 ((sb.2 x hxs).trans hx1) n2 (λb o hb e=>(sb.2 b (Nat.ne_of_lt (Heap.lt_size e))).trans (keep1 b o hb e)) _)
theorem AU {Q:Value->Shared->Prop}{expr:Bool} (X:K.In s.heap) (I:PySem.W.InstAt s.heap x ox C od) (hc:PySem.W.clsIn K C=some cd) (hm:cd.mro=jf C U)
  (hga:PySem.W.findIn K (.ref C) "__getattribute__" = some (some (.builtin "BaseException.__getattribute__"))) (hgn:PySem.W.findIn K (.ref C) "__getattr__" = some none)
  (hf:PySem.W.findObj K C od name=some (.value v)) (hv:PySem.W.handedIn v=true) (h:Q v { s with toks:=s.toks+1 }):wpAny (model prog w) A (getAttr (.ref x) name expr) Q E s:=by
 obtain⟨hh,g,d,t,os⟩:=s
 have L0:=I.type (M:=model prog w)
 have L1:=PySem.W.looks_findIn (M:=model prog w) X hga
 have L2:=PySem.W.looks_findIn (M:=model prog w) X hgn
 have L3:=PySem.W.looks_find (M:=model prog w) X I hf
 have sub:PySem.W.Looks (model prog w) hh (isInstance (.ref x) (.type "BaseException")) true:=I.type.andThen (PySem.W.looks_mroIn X (by unfold PySem.W.mroIn;rw [hc,Option.bind_some,hm];rfl))
 unfold getAttr getAttrBy
 refine wpAny_bind (wpAny_mkText (wpAny_holding (wpAny_bind (L0.at (wpAny_bind (L1.at ?_))))))
 show wpAny _ _ (getAttrByItsOwn _ _ _ _ _ _) _ _ _
 unfold getAttrByItsOwn hookBefore
 rw [if_pos (show onTheHeap (Value.ref C)=true from rfl)]
 refine wpAny_bind (L2.at (wpAny_bind (wpAny_attempt (wpAny_holding ?_))))
 have e1:(expr && onTheHeap (Value.builtin "BaseException.__getattribute__"))=false:=by cases expr <;> rfl
 unfold callGetattribute
 rw [e1,if_neg Bool.false_ne_true]
 unfold boundAndCalled
 rw [PySem.F.attr_ValueError.ga.bind]
 refine wpAny_bind (wpAny_pure (wpAny_call (codeAny_call_builtin PySem.F.attr_ValueError.ga.plain PySem.F.entry_bexc_ga (@PySem.W.check_slot (model prog w) _ _ _ "BaseException.__getattribute__" "BaseException" "__getattribute__" (.ref x) _ [] _ (by decide +kernel) (by decide +kernel) sub (PySem.F.args_bexc_ga _ _) ?_))))
 unfold Builtin.«object.__getattribute__»
 refine wpAny_bind (wpAny_pure (wpAny_bind (wpAny_pure (wpAny_bind (L0.at (wpAny_bind (L3.at (wpAny_pure ?_))))))))
 show wpAny (model prog w) _ (handedOut v) _ _ _
 rw [PySem.W.handedOut_of hv]
 exact wpAny_pure h
theorem AV {Q:Option Value->Shared->Prop} (X:K.In s.heap) (I:PySem.W.InstAt s.heap x ox C od) (hc:PySem.W.clsIn K C=some cd) (hm:cd.mro=jf C U)
  (hga:PySem.W.findIn K (.ref C) "__getattribute__" = some (some (.builtin "BaseException.__getattribute__"))) (hgn:PySem.W.findIn K (.ref C) "__getattr__" = some none)
  (hf:PySem.W.findObj K C od "__class__" = some (.bind (.builtin "getset_descriptor.__get__") (.builtin "object.__class__"))) (h:Q (some (.ref C)) { s with toks:=s.toks+1 }):wpAny (model prog w) A (getAttr? (.ref x) "__class__") Q E s:=by
 obtain⟨hh,g,d,t,os⟩:=s
 have L0:=I.type (M:=model prog w)
 have L1:=PySem.W.looks_findIn (M:=model prog w) X hga
 have L2:=PySem.W.looks_findIn (M:=model prog w) X hgn
 have L3:=PySem.W.looks_find (M:=model prog w) X I hf
 have hmo:PySem.W.mroIn K C (.type "object")=some true:=by unfold PySem.W.mroIn;rw [hc,Option.bind_some,hm];rfl
 have sub:PySem.W.Looks (model prog w) hh (isInstance (.ref x) (.type "BaseException")) true:=I.type.andThen (PySem.W.looks_mroIn X (by unfold PySem.W.mroIn;rw [hc,Option.bind_some,hm];rfl))
 unfold getAttr? getAttrBy?
 refine wpAny_bind (wpAny_mkText (wpAny_bind (wpAny_attempt ?_)))
 unfold getAttrBy
 refine wpAny_holding (wpAny_bind (L0.at (wpAny_bind (L1.at ?_))))
 show wpAny _ _ (getAttrByItsOwn _ _ _ _ _ _) _ _ _
 unfold getAttrByItsOwn hookBefore
 rw [if_pos (show onTheHeap (Value.ref C)=true from rfl)]
 refine wpAny_bind (L2.at (wpAny_bind (wpAny_attempt (wpAny_holding ?_))))
 unfold callGetattribute
 rw [show (false && onTheHeap (Value.builtin "BaseException.__getattribute__"))=false from rfl,if_neg Bool.false_ne_true]
 unfold boundAndCalled
 rw [PySem.F.attr_ValueError.ga.bind]
 refine wpAny_bind (wpAny_pure (wpAny_call (codeAny_call_builtin PySem.F.attr_ValueError.ga.plain PySem.F.entry_bexc_ga (@PySem.W.check_slot (model prog w) _ _ _ "BaseException.__getattribute__" "BaseException" "__getattribute__" (.ref x) _ [] _ (by decide +kernel) (by decide +kernel) sub (PySem.F.args_bexc_ga _ _) ?_))))
 unfold Builtin.«object.__getattribute__»
 refine wpAny_bind (wpAny_pure (wpAny_bind (wpAny_pure (wpAny_bind (L0.at (wpAny_bind (L3.at ?_)))))))
 show wpAny (model prog w) A.in1 (holding [.builtin "object.__class__"] (call (.builtin "getset_descriptor.__get__") [.builtin "object.__class__", .ref x,.ref C]) >>= ret) _ _ _
 refine wpAny_bind (wpAny_holding (wpAny_call (PySem.W.class_get (s:=⟨hh,g,d,t+1,os⟩) X I hmo ?_)))
 exact wpAny_pure (wpAny_pure (wpAny_pure h))
end
section
variable {prog:Program}{w:World}{A:Around}{E:Value->Shared->Prop}{h:Heap}{g:Array GenState}{d:Drawn}{t:Nat}{os:OsState}
variable {nm q:Str}{C N f:Addr}{bs bm bmB bmN:List Value}{hdct:Bool}{sn:List Str}{sub:List Value}{ab:Bool}{col:Option Bool}{dd:Option Addr}{k0 k1 k2 k3 k5:Option Value}{B Bn newId nid initId inN:String}
theorem uI (Fn:ExcBaseFacts Bn newId inN bmN) (hBn:bmB.contains (.type Bn)=true) (F:ExcBaseFacts B nid initId bmB) (T:OwnTail h bmB bm){rest:List Value}{init:Value}{Q:Value->Shared->Prop}
  (hC:h.get? C=some (excClassObj nm q C N bs bm hdct sn sub ab col dd k0 k1 k2 k3 k5 newId)) (hi:PySem.W.Looks (model prog w) h (typeLookup (.ref C) "__init__") (some init))
  (hb:∀self,PySem.W.Looks (model prog w) h (bindSpecial init self) (init,[self])) (hrest:rest.length<=sizeLine)
  (hq:wpAny (model prog w) (A.under (.builtin "type.__call__" ⟨.ref C::rest,[]⟩)) (call init (.ref (h.objs.size+1)::rest)) (λr s'=>r=.none/\Q (.ref (h.objs.size+1)) s') E
   ⟨(h.push { cls:=.type "tuple", data:=.seq rest.toArray }).push { cls:=.ref C,data:=.fields #[.ref h.objs.size,.none,.none,.none,.bool false,.none] },g,d,t,os⟩) :
  wpAny (model prog w) A (call (.ref C) rest) Q E ⟨h,g,d,t,os⟩:=by
 have a1:=tc_lookup
 have a2:=tc_bind (.ref C)
 have a3:(⟨h,g,d,t,os⟩:Shared).TypeIs (.ref C) "type":=⟨_,hC,rfl⟩
 refine wpAny_call (codeAny_of_tree ?_)
 show wpAny (model prog w) _ (callAny (.ref C) _) _ _ _
 repeat (any_goals (first | with_reducible refine wpAny_loadPart_at hC ?_ | assumption | wp_step))
 refine⟨rfl,codeAny_call_builtin_at (Code.quiet_builtin _ (by decide +kernel)) entry_typeCall (wpAny_check_type_call_sub hC ?_)⟩
 repeat (first | with_reducible refine wpAny_madeBy_exc hC ?_ | with_reducible refine wpAny_loadPart_at hC ?_ | wp_step)
 refine codeAny_call_builtin_code (Code.quiet_builtin _ Fn.quiet) (wpAny_check_new_subU Fn hBn T hC (codeAny_exc_new_subU Fn hBn F T hC ?_ hrest))
 show wpAny (model prog w) _ _ _ _ ⟨(h.push { cls:=.type "tuple", data:=.seq rest.toArray }).push { cls:=.ref C,data:=.fields #[.ref h.objs.size,.none,.none,.none,.bool false,.none] },g,d,t,os⟩
 have hCC:(Value.ref C::bm).contains (.ref C)=true:=by simp
 have kp:∀b o,h.get? b=some o->((h.push { cls:=.type "tuple", data:=.seq rest.toArray }).push { cls:=.ref C,data:=.fields #[.ref h.objs.size,.none,.none,.none,.bool false,.none] }).get? b=some o:=λb o e=>
  Heap.get?_push_of_some _ (Heap.get?_push_of_some _ e)
 have hE:((h.push { cls:=.type "tuple", data:=.seq rest.toArray }).push { cls:=.ref C,data:=.fields #[.ref h.objs.size,.none,.none,.none,.bool false,.none] }).get? (h.objs.size+1)=some { cls:=.ref C,data:=.fields #[.ref h.objs.size,.none,.none,.none,.bool false,.none] }:=by heap_get
 have hT:((h.push { cls:=.type "tuple", data:=.seq rest.toArray }).push { cls:=.ref C,data:=.fields #[.ref h.objs.size,.none,.none,.none,.bool false,.none] }).get? h.objs.size=some { cls:=.type "tuple", data:=.seq rest.toArray }:=Heap.get?_push_of_some _ (Heap.get?_push_at rfl rfl)
 have hC2:=kp _ _ hC
 unfold isInstance
 repeat (first | (with_reducible refine wpAny_isSubtype_exc hC2 ?_;rw [hCC]) | with_reducible refine wpAny_loadPart_at hE ?_ | wp_step)
 show wpAny (model prog w) _ (typeLookup (.ref C) _) _ _ _
 refine hi _ _ _ _ kp (wpAny_holding (wpAny_bind (hb _ _ _ _ _ kp (wpAny_bind (thn hq λr s' hr=>?_)))))
 obtain⟨rfl,hQ⟩:=hr
 wp_walk
 exact hQ
end
end L2
namespace L2
open PySem PySem.Spec PyProof.Rows
noncomputable def XOn (n:Bool) (C e:Addr) (D:Option Addr):HO:=.ext λh=>∃vs,h.get? e=some { cls:=.ref C,dict:=D,data:=.fields vs }/\(n=true->vs[1]?=some .none)
noncomputable abbrev XO:Addr->Addr->Option Addr->HO:=XOn true
theorem uF {P:Program}{w:World}{H:Hp}{h:Heap}{n:Bool}{C e:Addr}{D:Option Addr}{vs:Array Value} (q:h.get? e=some { cls:=.ref C,dict:=D,data:=.fields vs }) (h1:n=true->vs[1]?=some .none):bw P w H h e (XOn n C e D):=
 ⟨⟨vs,q,h1⟩,⟨_,q⟩,λh1 h2 ⟨us,z,z1⟩ k=>⟨us,k _ z,z1⟩⟩
theorem uG {P:Program}{w:World}{H:Hp}{h:Heap}{C e:Addr}{D:Option Addr}{vs:Array Value} (q:h.get? e=some { cls:=.ref C,dict:=D,data:=.fields vs }) (h1:vs[1]?=some .none):bw P w H h e (XO C e D):=uF q λ_=>h1
theorem hX {X:Cx}{pins:List (Addr × Obj)}{Y:St}{H:Hp}{s:Shared}{n:Bool}{C e:Addr}{D:Option Addr} (I:Inv X pins Y H s) (q:H e=some (XOn n C e D)):∃vs,s.heap.get? e=some { cls:=.ref C,dict:=D,data:=.fields vs }/\(n=true->vs[1]?=some .none):=(I.hok e _ q).1
noncomputable def xIn (K:PySem.W.Frag) (C U:Addr):Bool:=match K.lookup C with
 | some ⟨.type "type", _,.cls cd,sl⟩=>(match sl.toList with
  | [_,_,_,_,some (.builtin n),_]=>n == "ValueError.__new__" && cd.mro == jf C U && !cd.hasDel && cd.hasDict && PySem.W.tailIn K lB (.ref U::lB)
  | _=>false)
 | _=>false
structure XCls (K:PySem.W.Frag) (C U:Addr):Prop where
 ex:xIn K C U=true
 ga:PySem.W.findIn K (.ref C) "__getattribute__" = some (some (.builtin "BaseException.__getattribute__"))
 gn:PySem.W.findIn K (.ref C) "__getattr__" = some none
 cl:PySem.W.findIn K (.ref C) "__class__" = some (some (.builtin "object.__class__"))
 sp:PySem.W.specialIn K (.builtin "object.__class__") "__get__" = some (some (.builtin "getset_descriptor.__get__"))
 tk:PySem.W.takesIn K (.builtin "object.__class__")=some true
 sa:PySem.W.findIn K (.ref C) "__setattr__" = some (some (.builtin "object.__setattr__"))
 kp:PySem.W.keepIn K (.ref C)=true
theorem lA {K:PySem.W.Frag}{h:Heap}{C U:Addr} (X:K.In h) (q:xIn K C U=true):(∃cd,PySem.W.clsIn K C=some cd/\cd.mro=jf C U/\cd.hasDict=true)/\OwnTail h lB (.ref U::lB)/\
  ∃nm qn N bs hdct sn sub ab col dd k0 k1 k2 k3 k5,h.get? C=some (excClassObj nm qn C N bs (.ref U::lB) hdct sn sub ab col dd k0 k1 k2 k3 k5 "ValueError.__new__"):=by
 unfold xIn at q
 split at q
 ·rename_i dd cd sl ho
  split at q
  ·rename_i k0 k1 k2 k3 n k5 hs
   simp only [Bool.and_eq_true,beq_iff_eq,Bool.not_eq_true']at q
   obtain⟨⟨⟨⟨rfl,hm⟩,hdel⟩,hd⟩,ht⟩:=q
   refine⟨⟨cd,by unfold PySem.W.clsIn;rw [ho],hm,hd⟩,PySem.W.tail_of_in X ht,?_⟩
   obtain⟨nm,bs,mro,ns,qn,hdc,sn,sub,ab,col,del⟩:=cd
   dsimp only at hm hdel
   subst hm hdel
   have e:sl = #[k0,k1,k2,k3,some (.builtin "ValueError.__new__"),k5]:=by
    obtain⟨l⟩:=sl
    simp only at hs
    rw [hs]
   subst e
   exact⟨nm,qn,ns,bs,hdc,sn,sub,ab,col,dd,k0,k1,k2,k3,k5,X _ _ ho⟩
  ·cases q
 ·cases q
section
variable {X:Cx}{pins:List (Addr × Obj)}{Y:St}{H:Hp}{s:Shared}
theorem kK {K:PySem.W.Frag}{x C U:Addr}{ox:Obj}{od:Option Obj} (T:XCls K C U):PySem.W.KitX K (.ref x) (.ref C) (λh=>PySem.W.InstAt h x ox C od) where
 ty:=λ_ _ _ I=>I.type
 it:=λ_ h XK _=>by
  obtain⟨_,_,nm,qn,N,bs,hdct,sn,sub,ab,col,dd,k0,k1,k2,k3,k5,hC⟩:=lA XK T.ex
  intro A' Q' E' s' k q
  unfold isType loadHead
  exact wpAny_bind (wpAny_loadPart (k _ _ hC) (wpAny_pure q))
 ne:=λh tp dd its n sl XK htp=>by
  obtain⟨_,_,nm,qn,N,bs,hdct,sn,sub,ab,col,d2,k0,k1,k2,k3,k5,hC⟩:=lA XK T.ex
  refine Bool.eq_false_iff.mpr λq=>?_
  have e:C=tp:=Value.ref.inj (beq_iff_eq.mp q)
  subst e
  rw [hC]at htp
  have z:Value.type "type" = Value.type "tuple":=congrArg Obj.cls (Option.some.inj htp)
  exact absurd z (by decide)
 ca:=λXK I k=>by
  obtain⟨⟨cd,hc,hm,hd⟩,_⟩:=lA XK T.ex
  refine AV XK I hc hm T.ga T.gn ?_ k
  unfold PySem.W.findObj
  rw [hc,Option.bind_some,T.cl,Option.bind_some]
  dsimp only
  rw [T.sp,Option.bind_some]
  dsimp only
  rw [T.tk,Option.bind_some]
theorem yG {n:Bool}{C e:Addr}{D:Option Addr} (I:Inv X pins Y H s) (q:H e=some (XOn n C e D)) (hD:∀d,D=some d->∃fs,H d=some (.xd fs)):∃ox od,PySem.W.InstAt s.heap e ox C od:=by
 obtain⟨vs,hx,_⟩:=hX I q
 cases D with
 | none=>exact⟨_,none,hx,rfl,rfl,True.intro⟩
 | some d=>
  obtain⟨fs,hd⟩:=hD d rfl
  obtain⟨mA,⟨o,es,ep,ho,_⟩,_⟩:=(show bw X.prog X.w H s.heap d (.xd fs) from I.hok d _ hd)
  exact⟨_,some o,hx,rfl,rfl,ho⟩
def XAt (H:Hp) (e C:Addr) (fs:List (Str × V)):Prop:=∃n D,H e=some (XOn n C e D)/\((D=none/\fs=[])\/∃d,D=some d/\H d=some (.xd fs))
theorem XAt.inst {C e:Addr}{fs:List (Str × V)} (I:Inv X pins Y H s) (q:XAt H e C fs):∃ox od,PySem.W.InstAt s.heap e ox C od:=by
 obtain⟨n,D,h1,h2⟩:=q
 refine yG I h1 λd e=>?_
 rcases h2 with⟨z,_⟩ | ⟨d',z,hd⟩
 ·rw [z]at e;cases e
 ·rw [z]at e;cases e;exact⟨fs,hd⟩
end
section
variable {X:Cx}
theorem iR:dq X (.builtin "isinstance") (λxs H Q=>∃(e C U:Addr) (fs:List (Str × V)) (c:V) (b:Bool),xs=[.ref e,c]/\XAt H e C fs/\XCls X.K C U/\
  ((∃D,c=.ref D/\PySem.W.kitOne X.K (.ref C) (.ref D)=some b)\/∃n,c=.ty n/\PySem.W.kitOne X.K (.ref C) (.type n)=some b)/\Q (.bl b) H):=by
 intro pins s Y H xs us Q I r h
 obtain⟨e,C,U,fs,c,b,rfl,xa,T,hk,q⟩:=h
 obtain⟨u,u2,rfl,rx,rt⟩:=lM r
 cases (show u=Value.ref e from rx)
 obtain⟨ox,od,J⟩:=xa.inst I
 rcases hk with⟨D,rfl,hk⟩ | ⟨n,rfl,hk⟩
 ·cases (show u2=Value.ref D from rt)
  exact PySem.W.kia_one (kK T) I.kIn J hk (λz=>nomatch z) λtk=>⟨.bl b,H,I.tok _,rfl,q⟩
 ·cases (show u2=Value.type n from rt)
  exact PySem.W.kia_one (kK T) I.kIn J hk (λz=>nomatch z) λtk=>⟨.bl b,H,I.tok _,rfl,q⟩
def yV (K:PySem.W.Frag) (f:Str) (ta:TE):TE:=λY H Q=>ta Y H λx H1=>∃(e C U:Addr) (fs:List (Str × V)) (v:V),x=.ref e/\XAt H1 e C fs/\XCls K C U/\PySem.W.findIn K (.ref C) f=some none/\fs.lookup f=some v/\Q v H1
theorem BY {K:PySem.W.Frag}{h:Heap}{C U:Addr} (XK:K.In h) (T:XCls K C U):PySem.W.hasDictIn K C=true:=by
 obtain⟨⟨cd,hc,hm,hd⟩,_⟩:=lA XK T.ex
 unfold PySem.W.hasDictIn
 rw [hc]
 exact hd
theorem iK {o:Expr}{ta:TE}{f:Str}{pos:Pos} (he:PE X o ta) (hb:attributeBase o f X.env (eval o X.env)=eval o X.env:=by rfl):PE X (.Attribute o f pos) (yV X.K f ta):=by
 intro pins s Y H Q I h
 refine t8 hb (thn (he pins s Y H _ I h) λu s1 ⟨x,H1,I1,rx,e,C,U,fs,v,ex,xa,T,hn,hl,q⟩=>?_)
 subst ex
 obtain rfl:u=Value.ref e:=rx
 obtain⟨_,D,h1,h2⟩:=xa
 rcases h2 with⟨_,rfl⟩ | ⟨d,rfl,hd⟩
 ·cases hl
 ·obtain⟨vs,hx,_⟩:=hX I1 h1
  obtain⟨mA,n1,rel⟩:=(show bw X.prog X.w H1 s1.heap d (.xd fs) from I1.hok d _ hd)
  obtain⟨od,ho,look⟩:=my n1
  obtain⟨u',hu,ru⟩:=eJ.some_of (v:=v) (o:=mA f) (by rw [<- hl];exact rel f)
  obtain⟨⟨cd,hc,hm,hdct⟩,_⟩:=lA I1.kIn T.ex
  exact AU I1.kIn (ox:={ cls:=.ref C,dict:=some d,data:=.fields vs }) (od:=some od) ⟨hx,rfl,rfl,ho⟩ hc hm T.ga T.gn (PySem.W.findObj_own (BY I1.kIn T) hn rfl (by rw [look,hu])) (mD ru) ⟨v,H1,I1.tok _,ru,q⟩
def Bo (K:PySem.W.Frag) (ta tv:TE) (f:Str):TS:=λD Y H=>tv Y H λy H1=>ta Y H1 λx H2=>∃(e C U:Addr),x=.ref e/\H2 e=some (XO C e none)/\XCls K C U/\PySem.W.findIn K (.ref C) f=some none/\
 ∀d,H2 d=none->D.nx Y (upd (upd H2 d (.xd [(f,y)])) e (XO C e (some d)))
theorem gP {o value:Expr}{ta tv:TE}{f:Str}{pos pos':Pos} (ha:PE X o ta) (hv:PE X value tv) (hs:swapsWith value (some (.Attribute o f pos')) pos.line X.env=pure false):PS X (.Assign [.Attribute o f pos'] value pos) (Bo X.K ta tv f):=by
 intro pins s Y H D I h
 refine plainObj_wpAny_Assign_Attribute (thn (hv pins s Y H _ I h) λu s1 ⟨y,H1,I1,ry,q⟩=>thn (ha pins s1 Y H1 _ I1 q) λov s2 ⟨x,H2,I2,rx,e,C,U,ex,h1,T,hn,q2⟩=>?_) hs
 subst ex
 obtain rfl:ov=Value.ref e:=rx
 obtain⟨vs,hx,hv1⟩:=hX I2 h1
 obtain⟨⟨cd,hc,hm,hdct⟩,_⟩:=lA I2.kIn T.ex
 refine AS I2.kIn hx T.sa hc hm hdct hn λh' hx' n' keep tk=>?_
 have nd:H2 s2.heap.objs.size=none:=I2.hok.fresh (Nat.le_refl _)
 have ed:e≠s2.heap.objs.size:=al h1 nd
 obtain⟨od,es,ep,hod,hrest⟩:=id n'
 have Ia:=I2.laid (t':=tk) (a:=s2.heap.objs.size) (o:=.dK []) (h':=s2.heap.push { cls:=.type "dict", data:=.dict #[] }) (λ_ _ z=>Heap.get?_push_of_some _ z) (Nat.le_refl _) (kW s2.heap I2.big)
 have hfr:od.isFreed=false:=(Heap.get?_some_iff.mp hod).2
 have g1:((s2.heap.push { cls:=.type "dict", data:=.dict #[] }).update s2.heap.objs.size λ_=>od).get? s2.heap.objs.size=some od:=Heap.get?_update_self _ (Heap.get?_push_size _ rfl) hfr
 have Ib:=Ia.write (t':=tk) (x:=s2.heap.objs.size) (e:=s2.heap.objs.size) (o:=.xd [(f,y)]) (h':=(s2.heap.push { cls:=.type "dict", data:=.dict #[] }).update s2.heap.objs.size λ_=>od) (by rw [ag];exact True.intro) (.inl rfl)
  (λb z hb e0=>(Heap.get?_update_ne _ _ _ _ hb).trans e0) ⟨od,g1⟩ ⟨λg=>if g=f then some u else none,n'.at λo z=>by rw [hod]at z;cases z;exact g1,λg=>by
   show eJ (List.lookup g [(f,y)]) (if g=f then some u else none)
   by_cases c:g=f
   ·rw [if_pos c,c]
    show eJ (List.lookup f [(f,y)]) _
    rw [List.lookup_cons,beq_self_eq_true]
    exact ry
   ·rw [if_neg c]
    show eJ (List.lookup g [(f,y)]) _
    rw [List.lookup_cons,beq_eq_false_iff_ne.mpr c]
    exact True.intro⟩
 rw [ix]at Ib
 have Ic:=Ib.write (t':=tk) (x:=e) (e:=e) (o:=XO C e (some s2.heap.objs.size)) (h':=h') (by rw [aj ed,h1];exact True.intro) (.inl rfl)
  (λb z hb e0=>by
   by_cases c:b=s2.heap.objs.size
   ·subst c
    have e0:((s2.heap.push { cls:=.type "dict", data:=.dict #[] }).update s2.heap.objs.size λ_=>od).get? s2.heap.objs.size=some z:=e0
    rw [g1]at e0
    cases e0
    exact hod
   ·exact keep b z hb ((Heap.get?_push_ne _ b _ c).symm.trans ((Heap.get?_update_ne _ _ _ _ c).symm.trans e0))) ⟨_,hx'⟩ (uG hx' (hv1 rfl))
 exact⟨Y,_,Ic,q2 _ nd⟩
def qg (C:Addr) (sp:Sp) (E:XK) (t:TA):TE:=λY H Q=>t Y H λvs H1=>∀x,H1 x=none->sp (.ref x::vs) (upd H1 x (XO C x none)) (λv H2=>v=.non/\Q (.ref x) H2) E
theorem tH {CX:CXT}{k:Nat}{f C U:Addr}{fd:FuncData}{ps:List Str}{sp:Sp}{E:XK}{pins:List (Addr × Obj)}{Y:St}{H:Hp}{s:Shared}{Q:VK}{us:List Value}{vs:List V} (T:XCls X.K C U) (hi:PySem.W.findIn X.K (.ref C) "__init__" = some (some (.ref f))) (hf:PySem.W.isFn X.K (.ref f)=true)
  (F:FnOk X.prog X.w X.K X.mg X.base CX k f fd ps sp) (hr:Room (k+1) X.A) (hb:cu X.K fd ps []) (hx:dC CX X E) (I:Inv X pins Y H s) (r:aP vs us) (hl:us.length<=sizeLine)
  (h:∀x,H x=none->sp (.ref x::vs) (upd H x (XO C x none)) (λv H2=>v=.non/\Q (.ref x) H2) E):wpAny (model X.prog X.w) X.A (call (.ref C) us) (EP X pins Y Q) X.xe s:=by
 obtain⟨_,OT,nm,qn,N,bs,hdct,sn,sub,ab,col,dd,k0,k1,k2,k3,k5,hC⟩:=lA I.kIn T.ex
 have hq:=h (s.heap.objs.size+1) (I.hok.fresh (Nat.le_succ _))
 obtain⟨hp,g,d,t,os⟩:=s
 refine uI PySem.F.excBase_ValueError (by decide) PySem.F.excBase_ValueError OT hC (PySem.W.looks_findIn I.kIn hi) (λself=>PySem.W.bind_fn I.kIn self (beq_iff_eq.mp hf)) hl ?_
 have I2:Inv X pins Y (upd H (hp.objs.size+1) (XO C (hp.objs.size+1) none)) ⟨(hp.push { cls:=.type "tuple", data:=.seq us.toArray }).push { cls:=.ref C,data:=.fields #[.ref hp.objs.size,.none,.none,.none,.bool false,.none] },g,d,t,os⟩:=
  I.laid (h':=(hp.push { cls:=.type "tuple", data:=.seq us.toArray }).push { cls:=.ref C,data:=.fields #[.ref hp.objs.size,.none,.none,.none,.bool false,.none] }) (t':=t) (λb o e=>Heap.get?_push_of_some _ (Heap.get?_push_of_some _ e)) (Nat.le_succ _) (uG (by heap_get) rfl)
 have r2:aP (V.ref (hp.objs.size+1)::vs) (Value.ref (hp.objs.size+1)::us):=.cons rfl r
 have hln:((Value.ref (hp.objs.size+1)::us)++[]).length=ps.length:=by
  have e:=r2.length
  rw [F.len _ _ _ _ hq]at e
  rw [List.append_nil]
  exact e.symm
 refine wpAny_call (codeAny_mono (F.run _ X.stack _ _ ⟨Value.ref (hp.objs.size+1)::us,[]⟩ (Value.ref (hp.objs.size+1)::us) _ _ E (hr.make C us []) (I2.env0.make C us []) (by have:=hb _ (Value.ref (hp.objs.size+1)::us) I2.kIn hln;rw [List.append_nil]at this;exact this) r2 hq) λrr s' hq'=>?_)
 cases rr with
 | error e=>exact hx pins Y _ _ e s' I2 hq'
 | ok fl=>
  cases fl with
  | ret u=>
   obtain⟨v,H',I3,rv,ev,q3⟩:=I2.after hq'
   subst ev
   exact⟨rv,⟨V.ref (hp.objs.size+1),H',I3,rfl,q3⟩⟩
  | next=>exact False.elim hq'
  | brk=>exact False.elim hq'
  | cont=>exact False.elim hq'
theorem wg {CX:CXT}{k:Nat}{f C U:Addr}{fd:FuncData}{ps:List Str}{sp:Sp}{E:XK}{x:Str}{p pos:Pos}{e:Expr}{es:List Expr}{t:TA} (T:XCls X.K C U) (hi:PySem.W.findIn X.K (.ref C) "__init__" = some (some (.ref f))) (hf:PySem.W.isFn X.K (.ref f)=true)
  (F:FnOk X.prog X.w X.K X.mg X.base CX k f fd ps sp) (hr:Room (k+1) X.A) (hg:Gl X x) (hm:X.mg x=some (.ref C)) (hb:cu X.K fd ps []) (hx:dC CX X E) (hsm:∀vs H Q E,sp vs H Q E->vs.length<=100)
  (ha:PA X (e::es) t) (hdb:(x == ("__debug__" : Str))=false:=by decide) (he:starEach (e::es) X.env=(false,eval e X.env)::starEach es X.env:=by rfl) (hpl:(backTo pos (starEach es X.env)).any (·.1)=false:=by rfl) :
  PE X (.Call (.Name x p) (e::es) [] pos) (qg C sp E t):=by
 intro pins s Y H Q I h
 refine wpAny_Call_Name_kw (fH I hg hm ?_ hdb)
 refine PySem.W.callWith_K (h₀:=X.base) I.ok.mod.kin T.kp (thn (ha pos pins s Y H _ I h) λus s1 ⟨vs,H1,I1,r,q⟩=>⟨I1.kIn,?_⟩) he hpl
 have hl:us.length<=sizeLine:=by
  have e1:=hsm _ _ _ _ (q _ (I1.hok.fresh (Nat.le_refl _)))
  rw [List.length_cons]at e1
  have e2:=r.length
  exact Nat.le_trans (show us.length<=100 by omega) (by decide)
 exact tH T hi hf F hr hb hx I1 r hl q
def mV (C:Addr):TE:=λ_ H Q=>∀x,H x=none->Q (.ref x) (upd H x (XO C x none))
theorem tO {C U:Addr}{x:Str}{p pos:Pos} (T:XCls X.K C U) (hi:PySem.W.findIn X.K (.ref C) "__init__" = some (some (.builtin "ValueError.__init__"))) (hg:Gl X x) (hm:X.mg x=some (.ref C)) (hdb:(x == ("__debug__" : Str))=false:=by decide) :
  PE X (.Call (.Name x p) [] [] pos) (mV C):=by
 intro pins s Y H Q I h
 refine wpAny_Call_Name_kw (fH I hg hm ?_ hdb)
 refine PySem.W.callWith_K0 I.kIn T.kp ?_
 obtain⟨_,OT,nm,qn,N,bs,hdct,sn,sub,ab,col,dd,k0,k1,k2,k3,k5,hC⟩:=lA I.kIn T.ex
 have hq:=h (s.heap.objs.size+1) (I.hok.fresh (Nat.le_succ _))
 obtain⟨hp,g,d,t,os⟩:=s
 have F:=PySem.F.excBase_ValueError
 refine uI F (by decide) F OT hC (PySem.W.looks_findIn I.kIn hi) (λself=>PySem.W.Looks.of_pure (F.init.bind self)) (Nat.zero_le _) ?_
 have kp:∀b o,hp.get? b=some o->((hp.push { cls:=.type "tuple", data:=.seq ([]:List Value).toArray }).push { cls:=.ref C,data:=.fields #[.ref hp.objs.size,.none,.none,.none,.bool false,.none] }).get? b=some o:=λb o e=>Heap.get?_push_of_some _ (Heap.get?_push_of_some _ e)
 have hE:((hp.push { cls:=.type "tuple", data:=.seq ([]:List Value).toArray }).push { cls:=.ref C,data:=.fields #[.ref hp.objs.size,.none,.none,.none,.bool false,.none] }).get? (hp.objs.size+1)=some { cls:=.ref C,data:=.fields #[.ref hp.objs.size,.none,.none,.none,.bool false,.none] }:=by heap_get
 refine wpAny_call (codeAny_call_builtin F.init.plain F.initEntry (wpAny_check_init_subU F (OT.keeps kp) (kp _ _ hC) hE rfl ?_))
 wp_walk
 refine⟨rfl,.ref (hp.objs.size+1),_,I.laid (t':=t) (a:=hp.objs.size+1) (o:=XO C (hp.objs.size+1) none) (λb o e=>?_) (Nat.le_succ _) (uG (Heap.get?_update_self _ (Heap.get?_push_of_some _ hE) rfl) rfl),rfl,hq⟩
 exact(Heap.get?_update_ne _ _ _ _ (Nat.ne_of_lt (Nat.lt_succ_of_lt (Heap.lt_size e)))).trans (Heap.get?_push_of_some _ (kp b o e))
end
end L2
namespace L2
open PySem PySem.Spec PyProof.Rows
structure FunD (K:PySem.W.Frag) (x qual:Str) (st:Stmt) (dV:Value) (f:Addr) (fd:FuncData):Prop where
 ex:∃(oc:Value) (od:Option Addr) (kV doc pm:Value) (an:Option Addr) (cdv ct:Value) (osl:Array (Option Value)),
  fd=PySem.W.fnOf x qual (cN st) (bX st) (ao st) dV kV doc pm an cdv ct/\K.lookup f=some ⟨oc,od,.func fd,osl⟩/\PySem.W.codeIn K cdv qual=true
 kp:PySem.W.keepIn K (.ref f)=true
section
variable {P:Program}{w:World}{K:PySem.W.Frag}{mg:Str->Option Value}{base:Heap}
theorem FunD.ok {x qual:Str}{st:Stmt}{dV:Value}{f:Addr}{fd:FuncData}{N ps:List Str}{k:Nat}{sp:Sp} (F:FunD K x qual st dV f fd) (S:FnScope N ps (ao st)) (len:∀vs H Q E,sp vs H Q E->vs.length=ps.length)
  (body:∀(cdv:Value) (A:Around) (outer:List Env) (s:Shared) (H:Hp) (vs:List V) (Q:VK) (E:XK),Room k (A.deeper (envOfC qual (ao st) s.heap.objs.size f cdv))->sp vs H Q E->
   ∃t,PSs (eU CX0 P w K mg base N qual (ao st) f cdv A outer s H E).nox (bX st) t/\t { nx:=λ_ H'=>Q .non H',rt:=Q } (eX N vs) H):FnOk P w K mg base CX0 (k+1) f fd ps sp:=by
 obtain⟨oc,od,kV,doc,pm,an,cdv,ct,osl,rfl,lk,hcd⟩:=F.ex
 refine pK lk hcd S len λA outer s H vs Q E hr hsp=>?_
 obtain⟨t,h,q⟩:=body cdv A outer s H vs Q E hr hsp
 exact⟨t,h.nox,q⟩
theorem FunD.mk' {x qual:Str}{st:Stmt}{dV:Value}{f:Addr}{oc:Value}{od an:Option Addr}{osl:Array (Option Value)}{kV doc pm cdv ct:Value} (l:K.lookup f=some ⟨oc,od,.func (PySem.W.fnOf x qual (cN st) (bX st) (ao st) dV kV doc pm an cdv ct),osl⟩)
  (c:PySem.W.codeIn K cdv qual=true) (k:PySem.W.keepIn K (.ref f)=true):FunD K x qual st dV f (PySem.W.fnOf x qual (cN st) (bX st) (ao st) dV kV doc pm an cdv ct):=⟨⟨oc,od,kV,doc,pm,an,cdv,ct,osl,rfl,l,c⟩,k⟩
theorem FunD.binds {x qual:Str}{st:Stmt}{T:Addr}{o:Obj}{n:Nat}{f:Addr}{fd:FuncData}{ps:List Str}{ds us0:List Value} (F:FunD K x qual st (.ref T) f fd) (ho:K.lookup T=some o) (hs:o.data=.seq #[Value.none] n)
  (h:∀(kV doc pm:Value) (an:Option Addr) (cdv ct:Value) (us:List Value),(us++ds).length=ps.length->∃k,bindArgs (PySem.W.fnOf x qual (cN st) (bX st) (ao st) (.ref T) kV doc pm an cdv ct) ⟨us,[]⟩=seqItems? (.ref T) >>= k/\k (some #[Value.none])=pure (ps.zip (us++ds))):cu K fd ps ds:=by
 obtain⟨oc,od,kV,doc,pm,an,cdv,ct,osl,rfl,lk,hcd⟩:=F.ex
 intro s us X hl
 obtain⟨k,h1,h2⟩:=h kV doc pm an cdv ct us hl
 exact PySem.W.binds_K X rfl ho hs h1 h2
end
end L2
namespace L2
open PySem PySem.Spec PyProof.Rows
noncomputable abbrev Fnd:=Str × Int × Int × Int × Int
noncomputable def oJ (r:Fnd):List V:=[.str r.1,.int r.2.1,.int r.2.2.1,.int r.2.2.2.1,.int r.2.2.2.2]
noncomputable abbrev jj:=Str × Int
noncomputable def uP (d:jj):List V:=[.str d.1,.int d.2]
structure Bk where
 ks:List Str
 fs:List Fnd
 gs:List (Key × V)
 ds:List jj
noncomputable def eC (gs:List (Key × V)) (n:Nat):Int:=match valV gs (Sum.inl (n:Int)) with
 | some (.int t)=>t
 | _=>99
noncomputable def hJ (gs:List (Key × V)) (k:Str) (t d:Int) (n:Nat) (f:Fnd):Bool:=decide (f.1=k) && (decide (f.2.2.2.2<=t) && (decide (t < eC gs n) && (decide (f.2.1<=d) && decide (d<=f.2.2.1))))
noncomputable def cX (fs:List Fnd) (c:Nat->Fnd->Bool):Nat->Option Int
 | 0=>none
 | i+1=>match fs[i]? with
  | some f=>if c i f=true then some (i:Int) else cX fs c i
  | none=>cX fs c i
noncomputable def Bk.spk (B:Bk) (k:Str) (t d:Int):Option Int:=cX B.fs (hJ B.gs k t d) B.fs.length
theorem cW {fs gs:List Fnd}{c c':Nat->Fnd->Bool}:∀{i:Nat},(∀j,j < i->fs[j]?=gs[j]?)->(∀j f,j < i->fs[j]?=some f->c j f=c' j f)->cX fs c i=cX gs c' i
 | 0,_,_=>rfl
 | i+1,h,g=>by
  unfold cX
  rw [<- h i (Nat.lt_succ_self i)]
  have ih:=cW (i:=i) (λj hj=>h j (Nat.lt_succ_of_lt hj)) λj f hj e=>g j f (Nat.lt_succ_of_lt hj) e
  cases e:fs[i]? with
  | none=>exact ih
  | some f=>
   dsimp only
   rw [g i f (Nat.lt_succ_self i) e,ih]
theorem kJ (fs:List Fnd) (f:Fnd) (c:Nat->Fnd->Bool):cX (fs++[f]) c (fs++[f]).length=if c fs.length f=true then some (fs.length:Int) else cX fs c fs.length:=by
 rw [List.length_append]
 show cX (fs++[f]) c (fs.length+1)=_
 conv=>lhs;unfold cX
 have e:(fs++[f])[fs.length]?=some f:=by simp
 rw [e]
 dsimp only
 rw [cW (fs:=fs++[f]) (gs:=fs) (c:=c) (c':=c) (λj hj=>by rw [List.getElem?_append_left hj]) λ_ _ _ _=>rfl]
structure Bk.Ok (B:Bk):Prop where
 nd:B.ks.Nodup
 k1:1<=B.ks.length
 k8:B.ks.length<=8
 nm:∀k∈B.ks,Nm k
 fin:∀f∈B.fs,f.1∈B.ks/\0<=f.2.1/\f.2.1<=f.2.2.1/\f.2.2.1 < 400/\1<=f.2.2.2.2/\f.2.2.2.2<=B.ds.length
 gin:∀n v,valV B.gs n=some v->∃(i:Nat) (t:Int),n=Sum.inl (i:Int)/\v=.int t/\i < B.fs.length/\1<=t/\t<=B.ds.length
 gsz:B.gs.length<=B.ds.length
 fsz:B.fs.length<=B.ds.length
 dsz:B.ds.length<=60
 dw:∀d∈B.ds,Nm d.1
 cf:(B.ds.filter λd=>decide (d.1=Str.ofString "find")).length=B.fs.length
noncomputable def Bk.new (ks:List Str):Bk:=⟨ks,[],[],[]⟩
theorem Bk.new_ok {ks:List Str} (nd:ks.Nodup) (k1:1<=ks.length) (k8:ks.length<=8) (nm:∀k∈ks,Nm k):(Bk.new ks).Ok:=
 ⟨nd,k1,k8,nm,(λ_ h=>nomatch h),λn v h=>by simp [Bk.new,valV]at h,Nat.le_refl _,Nat.le_refl _,Nat.zero_le _,(λ_ h=>nomatch h),rfl⟩
noncomputable def j9:Str:=Str.ofString "find"
noncomputable def fQ:Str:=Str.ofString "withdraw"
noncomputable def Bk.find (B:Bk) (k:Str) (f l v:Int):Bk:=⟨B.ks,B.fs++[(k,f,l,v,(B.ds.length:Int)+1)],B.gs,B.ds++[(j9,(B.fs.length:Int))]⟩
noncomputable def Bk.withd (B:Bk) (n:Nat):Bk:=⟨B.ks,B.fs,cQ B.gs (Sum.inl (n:Int)) (.int ((B.ds.length:Int)+1)),B.ds++[(fQ,(n:Int))]⟩
theorem Bk.Ok.find {B:Bk} (O:B.Ok){k:Str}{f l v:Int} (hk:k∈B.ks) (h0:0<=f) (h1:f<=l) (h2:l < 400) (hr:B.ds.length < 60):(B.find k f l v).Ok:=by
 have el:((B.find k f l v).ds.length:Int)=(B.ds.length:Int)+1:=by simp [Bk.find]
 have elf:(B.find k f l v).fs.length=B.fs.length+1:=by simp [Bk.find]
 have eld:(B.find k f l v).ds.length=B.ds.length+1:=by simp [Bk.find]
 refine⟨O.nd,O.k1,O.k8,O.nm,λx hx=>?_,λn v' e=>?_,?_,?_,?_,λd hd=>?_,?_⟩
 ·rcases List.mem_append.mp (show x∈B.fs++[(k,f,l,v,(B.ds.length:Int)+1)] from hx) with hx | hx
  ·obtain⟨a,b,c,d,e,g⟩:=O.fin x hx
   exact⟨a,b,c,d,e,by rw [el];omega⟩
  ·rw [List.mem_singleton.mp hx,el]
   exact⟨hk,h0,h1,h2,by show 1<=(B.ds.length:Int)+1;omega,Int.le_refl _⟩
 ·obtain⟨i,t,a,b,c,d,e'⟩:=O.gin n v' e
  exact⟨i,t,a,b,by omega,d,by rw [el];omega⟩
 ·rw [eld];exact Nat.le_succ_of_le O.gsz
 ·rw [elf,eld];exact Nat.succ_le_succ O.fsz
 ·rw [eld];exact hr
 ·rcases List.mem_append.mp hd with hd | hd
  ·exact O.dw d hd
  ·rw [List.mem_singleton.mp hd]
   show (j9.cps.all (· < 0x110000))=true
   decide +kernel
 ·rw [elf]
  show ((B.ds++[(j9,(B.fs.length:Int))]).filter _).length=_
  rw [List.filter_append,List.length_append,O.cf]
  rfl
theorem Bk.Ok.withd {B:Bk} (O:B.Ok){n:Nat} (hn:n < B.fs.length) (hr:B.ds.length < 60):(B.withd n).Ok:=by
 have el:((B.withd n).ds.length:Int)=(B.ds.length:Int)+1:=by simp [Bk.withd]
 have eld:(B.withd n).ds.length=B.ds.length+1:=by simp [Bk.withd]
 refine⟨O.nd,O.k1,O.k8,O.nm,λx hx=>?_,λm v' e=>?_,?_,?_,?_,λd hd=>?_,?_⟩
 ·obtain⟨a,b,c,d,e,g⟩:=O.fin x hx
  exact⟨a,b,c,d,e,by rw [el];omega⟩
 ·have e':valV (cQ B.gs (Sum.inl (n:Int)) (.int ((B.ds.length:Int)+1))) m=some v':=e
  rw [fS]at e'
  split at e'
  ·rename_i hm
   cases e'
   exact⟨n,_,hm,rfl,hn,by omega,by rw [el];exact Int.le_refl _⟩
  ·obtain⟨i,t,a,b,c,d,g⟩:=O.gin m v' e'
   exact⟨i,t,a,b,c,d,by rw [el];omega⟩
 ·rw [eld]
  exact Nat.le_trans (dI _ _ _) (Nat.succ_le_succ O.gsz)
 ·rw [eld];exact Nat.le_succ_of_le O.fsz
 ·rw [eld];exact hr
 ·rcases List.mem_append.mp hd with hd | hd
  ·exact O.dw d hd
  ·rw [List.mem_singleton.mp hd]
   show (fQ.cps.all (· < 0x110000))=true
   decide +kernel
 ·show ((B.ds++[(fQ,(n:Int))]).filter _).length=_
  rw [List.filter_append,List.length_append,O.cf,show ([(fQ,(n:Int))].filter λd:jj=>decide (d.1=Str.ofString "find"))=[] from by rw [List.filter_cons,show decide (fQ=Str.ofString "find")=false from by decide +kernel];rfl]
  rfl
theorem Bk.Ok.gone {B:Bk} (O:B.Ok) (n:Nat):(valV B.gs (Sum.inl (n:Int))=none/\eC B.gs n=99)\/∃t:Int,valV B.gs (Sum.inl (n:Int))=some (.int t)/\eC B.gs n=t/\1<=t/\t<=B.ds.length:=by
 cases e:valV B.gs (Sum.inl (n:Int)) with
 | none=>exact .inl ⟨rfl,by unfold eC;rw [e]⟩
 | some v=>
  obtain⟨i,t,a,rfl,c,d,g⟩:=O.gin _ v e
  exact .inr ⟨t,rfl,by unfold eC;rw [e],d,g⟩
theorem Bk.Ok.find_old {B:Bk} (O:B.Ok){k:Str}{f l v:Int}{t:Int} (ht:t<=B.ds.length) (key:Str) (d:Int):(B.find k f l v).spk key t d=B.spk key t d:=by
 unfold Bk.spk Bk.find
 rw [kJ]
 have:hJ B.gs key t d B.fs.length (k,f,l,v,(B.ds.length:Int)+1)=false:=by
  unfold hJ
  rw [decide_eq_false (show ¬(B.ds.length:Int)+1<=t by omega)]
  simp
 rw [this]
 rfl
theorem Bk.Ok.find_now {B:Bk} (O:B.Ok){k:Str}{f l v:Int} (key:Str) (d:Int) :
  (B.find k f l v).spk key ((B.ds.length:Int)+1) d=if k=key/\f<=d/\d<=l then some (B.fs.length:Int) else B.spk key B.ds.length d:=by
 have z:=O.dsz
 unfold Bk.spk Bk.find
 rw [kJ]
 have g0:eC B.gs B.fs.length=99:=by
  rcases O.gone B.fs.length with⟨_,e⟩ | ⟨t,e,_⟩
  ·exact e
  ·obtain⟨i,t',a,b,c,_⟩:=O.gin _ _ e
   have:(B.fs.length:Int)=(i:Int):=Sum.inl.inj a
   omega
 have e1:hJ B.gs key ((B.ds.length:Int)+1) d B.fs.length (k,f,l,v,(B.ds.length:Int)+1)=decide (k=key/\f<=d/\d<=l):=by
  unfold hJ
  rw [g0,decide_eq_true (show (B.ds.length:Int)+1<=(B.ds.length:Int)+1 from Int.le_refl _),decide_eq_true (show (B.ds.length:Int)+1 < 99 by omega),Bool.eq_iff_iff]
  simp
 have e2:cX B.fs (hJ B.gs key ((B.ds.length:Int)+1) d) B.fs.length=cX B.fs (hJ B.gs key B.ds.length d) B.fs.length:=cW (λ_ _=>rfl) λj x hj e=>by
  obtain⟨_,_,_,_,_,tl⟩:=O.fin x (List.mem_of_getElem? e)
  unfold hJ
  have a1:decide (x.2.2.2.2<=(B.ds.length:Int)+1)=decide (x.2.2.2.2<=(B.ds.length:Int)):=by rw [decide_eq_true (show x.2.2.2.2<=(B.ds.length:Int)+1 by omega),decide_eq_true tl]
  have a2:decide ((B.ds.length:Int)+1 < eC B.gs j)=decide ((B.ds.length:Int) < eC B.gs j):=by
   rcases O.gone j with⟨_,e⟩ | ⟨t,_,e,_,_⟩
   ·rw [e,decide_eq_true (show (B.ds.length:Int)+1 < 99 by omega),decide_eq_true (show (B.ds.length:Int) < 99 by omega)]
   ·rw [e,decide_eq_false (show ¬(B.ds.length:Int)+1 < t by omega),decide_eq_false (show ¬(B.ds.length:Int) < t by omega)]
  rw [a1,a2]
 rw [e1,e2]
 by_cases hc:k=key/\f<=d/\d<=l
 ·rw [if_pos hc,if_pos (decide_eq_true hc)]
 ·rw [if_neg hc,if_neg (by rw [decide_eq_false hc];decide)]
theorem ul (gs:List (Key × V)) (n j:Nat) (t:Int):eC (cQ gs (Sum.inl (n:Int)) (.int t)) j=if j=n then t else eC gs j:=by
 unfold eC
 rw [fS]
 by_cases h:j=n
 ·subst h;rw [if_pos rfl,if_pos rfl]
 ·rw [if_neg (λz=>h (by have:=Sum.inl.inj z;omega)),if_neg h]
theorem Bk.Ok.withd_old {B:Bk} (O:B.Ok){n:Nat} (hg:valV B.gs (Sum.inl (n:Int))=none){t:Int} (ht:t<=B.ds.length) (key:Str) (d:Int):(B.withd n).spk key t d=B.spk key t d:=by
 have z:=O.dsz
 unfold Bk.spk Bk.withd
 refine cW (λ_ _=>rfl) λj x hj e=>?_
 unfold hJ
 have a2:decide (t < eC (cQ B.gs (Sum.inl (n:Int)) (.int ((B.ds.length:Int)+1))) j)=decide (t < eC B.gs j):=by
  rw [ul]
  by_cases h:j=n
  ·subst h
   have g0:eC B.gs j=99:=by unfold eC;rw [hg]
   rw [if_pos rfl,g0,decide_eq_true (show t < (B.ds.length:Int)+1 by omega),decide_eq_true (show t < 99 by omega)]
  ·rw [if_neg h]
 rw [a2]
noncomputable def lH (gs:List (Key × V)) (k:Str) (d:Int) (n:Nat) (f:Fnd):Bool:=decide (f.1=k) && ((valV gs (Sum.inl (n:Int))).isNone && (decide (f.2.1<=d) && decide (d<=f.2.2.1)))
theorem Bk.Ok.now {B:Bk} (O:B.Ok) (key:Str) (d:Int):B.spk key B.ds.length d=cX B.fs (lH B.gs key d) B.fs.length:=by
 have z:=O.dsz
 unfold Bk.spk
 refine cW (λ_ _=>rfl) λj x hj e=>?_
 obtain⟨_,_,_,_,_,tl⟩:=O.fin x (List.mem_of_getElem? e)
 unfold hJ lH
 rw [decide_eq_true tl]
 rcases O.gone j with⟨e1,e2⟩ | ⟨t,e1,e2,_,_⟩
 ·rw [e1,e2,decide_eq_true (show (B.ds.length:Int) < 99 by omega)];rfl
 ·rw [e1,e2,decide_eq_false (show ¬(B.ds.length:Int) < t by omega)];rfl
theorem Bk.Ok.withd_other {B:Bk} (O:B.Ok){n:Nat}{f:Fnd} (hf:B.fs[n]?=some f) (hr:B.ds.length < 60){key:Str} (hk:key≠f.1) (d:Int):(B.withd n).spk key ((B.ds.length:Int)+1) d=B.spk key B.ds.length d:=by
 have O':=O.withd (List.getElem?_eq_some_iff.mp hf).1 hr
 have el:((B.withd n).ds.length:Int)=(B.ds.length:Int)+1:=by simp [Bk.withd]
 rw [<- el,O'.now,O.now]
 refine cW (λ_ _=>rfl) λj x hj e=>?_
 unfold lH
 by_cases h:j=n
 ·subst h
  have e':B.fs[j]?=some x:=e
  rw [hf]at e'
  cases e'
  rw [decide_eq_false (λz=>hk z.symm)]
  rfl
 ·have:valV (B.withd n).gs (Sum.inl (j:Int))=valV B.gs (Sum.inl (j:Int)):=by
   show valV (cQ _ _ _) _=_
   rw [fS,if_neg (λz=>h (by have:=Sum.inl.inj z;omega))]
  rw [this]
end L2
namespace L2
open PySem PySem.Spec PyProof.Rows
def cI (rs:List bF):Prop:=∀r∈rs,0<=r.1/\r.1<=r.2.1/\r.2.1 < 400
theorem cI.snoc {cs:List bF}{r:bF} (h:cI cs) (h1:0<=r.1) (h2:r.1<=r.2.1) (h3:r.2.1 < 400):cI (cs++[r]):=λc hc=>by
 rcases List.mem_append.mp hc with hc | hc
 ·exact h c hc
 ·rw [List.mem_singleton.mp hc];exact⟨h1,h2,h3⟩
structure BA where
 n:Addr
 f:Addr
 w:Addr
 d:Addr
 t:Addr
noncomputable def dJ (a:BA):List (Str × V):=[("names", V.ref a.n),("findings", V.ref a.f),("withdrawals", V.ref a.w),("deeds", V.ref a.d),("tables", V.ref a.t)]
theorem AL (a:BA):(dJ a).lookup ("names" : Str)=some (.ref a.n):=rfl
theorem ii {x y:Str} (h:decide (x=y)=false):(x == y)=false:=by
 have:¬x=y:=of_decide_eq_false h
 simpa [beq_eq_false_iff_ne] using this
theorem pW (a:BA):(dJ a).lookup ("findings" : Str)=some (.ref a.f):=by
 unfold dJ
 rw [List.lookup_cons,ii (by decide +kernel)]
 rfl
theorem xw (a:BA):(dJ a).lookup ("withdrawals" : Str)=some (.ref a.w):=by
 unfold dJ
 rw [List.lookup_cons,ii (by decide +kernel),List.lookup_cons,ii (by decide +kernel)]
 rfl
theorem AM (a:BA):(dJ a).lookup ("deeds" : Str)=some (.ref a.d):=by
 unfold dJ
 rw [List.lookup_cons,ii (by decide +kernel),List.lookup_cons,ii (by decide +kernel),List.lookup_cons,ii (by decide +kernel)]
 rfl
theorem xx (a:BA):(dJ a).lookup ("tables" : Str)=some (.ref a.t):=by
 unfold dJ
 rw [List.lookup_cons,ii (by decide +kernel),List.lookup_cons,ii (by decide +kernel),List.lookup_cons,ii (by decide +kernel),List.lookup_cons,ii (by decide +kernel)]
 rfl
theorem bi (a:BA){m:Str} (h1:decide (m = "names")=false) (h2:decide (m = "findings")=false) (h3:decide (m = "withdrawals")=false) (h4:decide (m = "deeds")=false) (h5:decide (m = "tables")=false):(dJ a).lookup m=none:=by
 unfold dJ
 rw [List.lookup_cons,ii h1,List.lookup_cons,ii h2,List.lookup_cons,ii h3,List.lookup_cons,ii h4,List.lookup_cons,ii h5]
 rfl
theorem AK (a:BA):bf "tables" (.ref a.t) (bf "deeds" (.ref a.d) (bf "withdrawals" (.ref a.w) (bf "findings" (.ref a.f) (bf "names" (.ref a.n) []))))=dJ a:=by
 have e1:¬(("names" : Str) = "findings"):=by decide +kernel
 have e2:¬(("names" : Str) = "withdrawals"):=by decide +kernel
 have e3:¬(("findings" : Str) = "withdrawals"):=by decide +kernel
 have e4:¬(("names" : Str) = "deeds"):=by decide +kernel
 have e5:¬(("findings" : Str) = "deeds"):=by decide +kernel
 have e6:¬(("withdrawals" : Str) = "deeds"):=by decide +kernel
 have e7:¬(("names" : Str) = "tables"):=by decide +kernel
 have e8:¬(("findings" : Str) = "tables"):=by decide +kernel
 have e9:¬(("withdrawals" : Str) = "tables"):=by decide +kernel
 have e10:¬(("deeds" : Str) = "tables"):=by decide +kernel
 simp only [bf,dJ,e1,e2,e3,e4,e5,e6,e7,e8,e9,e10,if_false]
def BA.M (a:BA) (b:Addr):Prop:=b=a.f\/b=a.w\/b=a.d\/b=a.t
structure RowT (H:Hp) (a:BA) (F:Addr->Prop) (B:Bk) (ra:Addr) (rs:List bF) (k:Str) (i:Nat):Prop where
 fp:F ra
 nm:¬a.M ra
 rl:cm H ra rs
 td:Strip.Tidy rs
 i4:cI rs
 dy:∀x,Strip.dayOf rs x=(B.spk k i x).map V.int
structure TabAt (H:Hp) (a:BA) (F:Addr->Prop) (B:Bk) (x:Addr) (i:Nat):Prop where
 fp:F x
 nm:¬a.M x
 ex:∃kvs:List (Key × V),H x=some (.dK kvs)/\kvs.length<=8+i/\∀k∈B.ks,∃ra rs,valV kvs (Sum.inr k)=some (.ref ra)/\RowT H a F B ra rs k i
abbrev oE (H:Hp):List Addr->List Fnd->Prop:=Paired λp r=>H p=some (.tup (oJ r))
abbrev gH (H:Hp):List Addr->List jj->Prop:=Paired λp r=>H p=some (.tup (uP r))
structure BkAt (C:Addr) (H:Hp) (p:Addr) (a:BA) (F:Addr->Prop) (B:Bk):Prop where
 ob:∃dx,H p=some (.ins C dx (dJ a))
 hn:H a.n=some (.lst (B.ks.map V.str))
 hf:∃ps,H a.f=some (.lst (ps.map V.ref))/\oE H ps B.fs
 hw:H a.w=some (.dK B.gs)
 hd:∃ps,H a.d=some (.lst (ps.map V.ref))/\gH H ps B.ds
 ht:∃ts:List Addr,H a.t=some (.lst (ts.map V.ref))/\ts.length=B.ds.length+1/\∀(i:Nat) (x:Addr),ts[i]?=some x->TabAt H a F B x i
 fa:F a.n/\F a.f/\F a.w/\F a.d/\F a.t
 nn:¬a.M a.n
 fd:a.f≠a.d
 ft:a.f≠a.t
 dt:a.d≠a.t
 ok:B.Ok
structure Keep (H H':Hp) (F:Addr->Prop):Prop where
 own:∀b o,F b->H b=some o->H' b=some o
 tup:∀b xs,H b=some (.tup xs)->H' b=some (.tup xs)
 ins:∀b C dx fs,H b=some (.ins C dx fs)->H' b=some (.ins C dx fs)
theorem RowT.keep {H H':Hp}{a:BA}{F:Addr->Prop}{B:Bk}{ra:Addr}{rs:List bF}{k:Str}{i:Nat} (h:RowT H a F B ra rs k i) (g:Keep H H' F):RowT H' a F B ra rs k i:=
 ⟨h.fp,h.nm,dA h.rl (λxs e=>g.own _ _ h.fp e) g.tup,h.td,h.i4,h.dy⟩
theorem TabAt.keep {H H':Hp}{a:BA}{F:Addr->Prop}{B:Bk}{x:Addr}{i:Nat} (h:TabAt H a F B x i) (g:Keep H H' F):TabAt H' a F B x i:=by
 obtain⟨kvs,e,hl,hk⟩:=h.ex
 refine⟨h.fp,h.nm,kvs,g.own _ _ h.fp e,hl,λk hk'=>?_⟩
 obtain⟨ra,rs,e1,e2⟩:=hk k hk'
 exact⟨ra,rs,e1,e2.keep g⟩
theorem oE.keep {H H':Hp}{F:Addr->Prop} (g:Keep H H' F){ps:List Addr}{fs:List Fnd} (h:oE H ps fs):oE H' ps fs:=Paired.mapP h λ_ _ e=>g.tup _ _ e
theorem gH.keep {H H':Hp}{F:Addr->Prop} (g:Keep H H' F){ps:List Addr}{fs:List jj} (h:gH H ps fs):gH H' ps fs:=Paired.mapP h λ_ _ e=>g.tup _ _ e
theorem BkAt.keep {C:Addr}{H H':Hp}{p:Addr}{a:BA}{F:Addr->Prop}{B:Bk} (h:BkAt C H p a F B) (g:Keep H H' F):BkAt C H' p a F B:=by
 obtain⟨f1,f2,f3,f4,f5⟩:=h.fa
 obtain⟨dx,e0⟩:=h.ob
 obtain⟨ps,e1,r1⟩:=h.hf
 obtain⟨qs,e2,r2⟩:=h.hd
 obtain⟨ts,e3,l3,r3⟩:=h.ht
 exact⟨⟨dx,g.ins _ _ _ _ e0⟩,g.own _ _ f1 h.hn,⟨ps,g.own _ _ f2 e1,r1.keep g⟩,g.own _ _ f3 h.hw,⟨qs,g.own _ _ f4 e2,r2.keep g⟩,⟨ts,g.own _ _ f5 e3,l3,λi x e=>(r3 i x e).keep g⟩,h.fa,h.nn,h.fd,h.ft,h.dt,h.ok⟩
theorem BkAt.tab {C:Addr}{H:Hp}{p:Addr}{a:BA}{F:Addr->Prop}{B:Bk} (h:BkAt C H p a F B){i:Nat} (hi:i<=B.ds.length){k:Str} (hk:k∈B.ks) :
  ∃(ts:List Addr) (x:Addr) (kvs:List (Key × V)) (ra:Addr) (rs:List bF),H a.t=some (.lst (ts.map V.ref))/\ts[i]?=some x/\H x=some (.dK kvs)/\valV kvs (Sum.inr k)=some (.ref ra)/\RowT H a F B ra rs k i/\ts.length=B.ds.length+1:=by
 obtain⟨ts,e3,l3,r3⟩:=h.ht
 have hx:ts[i]?=some ts[i]:=List.getElem?_eq_getElem (by omega)
 obtain⟨kvs,e,_,q⟩:=(r3 i _ hx).ex
 obtain⟨ra,rs,e1,e2⟩:=q k hk
 exact⟨ts,ts[i],kvs,ra,rs,e3,hx,e,e1,e2,l3⟩
theorem oC {H:Hp}{ps:List Addr}{fs:List Fnd} (h:oE H ps fs){i:Nat}{f:Fnd} (e:fs[i]?=some f):∃q,ps[i]?=some q/\H q=some (.tup (oJ f)):=by
 have hl:ps.length=fs.length:=Paired.length h
 have hi:i < ps.length:=by rw [hl];exact(List.getElem?_eq_some_iff.mp e).1
 have eq:ps[i]?=some ps[i]:=List.getElem?_eq_getElem hi
 obtain⟨r,e1,e2⟩:=dB h eq
 rw [e]at e1
 cases e1
 exact⟨_,eq,e2⟩
theorem pZ {H:Hp}{ps:List Addr}{fs:List jj} (h:gH H ps fs){i:Nat}{f:jj} (e:fs[i]?=some f):∃q,ps[i]?=some q/\H q=some (.tup (uP f)):=by
 have hl:ps.length=fs.length:=Paired.length h
 have hi:i < ps.length:=by rw [hl];exact(List.getElem?_eq_some_iff.mp e).1
 have eq:ps[i]?=some ps[i]:=List.getElem?_eq_getElem hi
 obtain⟨r,e1,e2⟩:=dB h eq
 rw [e]at e1
 cases e1
 exact⟨_,eq,e2⟩
structure BkT (C:Addr) (H:Hp) (p:Addr) (a:BA) (F:Addr->Prop) (B:Bk):Prop where
 ob:∃dx,H p=some (.ins C dx (dJ a))
 hn:H a.n=some (.lst (B.ks.map V.str))
 hd:∃ps,H a.d=some (.lst (ps.map V.ref))/\gH H ps B.ds
 ht:∃ts:List Addr,H a.t=some (.lst (ts.map V.ref))/\ts.length=B.ds.length+1/\∀(i:Nat) (x:Addr),ts[i]?=some x->TabAt H a F B x i
theorem BkAt.toT {C:Addr}{H:Hp}{p:Addr}{a:BA}{F:Addr->Prop}{B:Bk} (h:BkAt C H p a F B):BkT C H p a F B:=⟨h.ob,h.hn,h.hd,h.ht⟩
theorem BkT.tab {C:Addr}{H:Hp}{p:Addr}{a:BA}{F:Addr->Prop}{B:Bk} (h:BkT C H p a F B){i:Nat} (hi:i<=B.ds.length){k:Str} (hk:k∈B.ks) :
  ∃(ts:List Addr) (x:Addr) (kvs:List (Key × V)) (ra:Addr) (rs:List bF),H a.t=some (.lst (ts.map V.ref))/\ts[i]?=some x/\H x=some (.dK kvs)/\valV kvs (Sum.inr k)=some (.ref ra)/\RowT H a F B ra rs k i/\ts.length=B.ds.length+1:=by
 obtain⟨ts,e3,l3,r3⟩:=h.ht
 have hx:ts[i]?=some ts[i]:=List.getElem?_eq_getElem (by omega)
 obtain⟨kvs,e,_,q⟩:=(r3 i _ hx).ex
 obtain⟨ra,rs,e1,e2⟩:=q k hk
 exact⟨ts,ts[i],kvs,ra,rs,e3,hx,e,e1,e2,l3⟩
structure KeepM (H H':Hp) (a:BA):Prop where
 own:∀b o,¬a.M b->H b=some o->H' b=some o
theorem KeepM.tup {H H':Hp}{a:BA} (g:KeepM H H' a) (M:∀b xs,H b=some (.tup xs)->¬a.M b):∀b xs,H b=some (.tup xs)->H' b=some (.tup xs):=λb xs e=>g.own b _ (M b xs e) e
theorem RowT.keepM {H H':Hp}{a:BA}{F:Addr->Prop}{B:Bk}{ra:Addr}{rs:List bF}{k:Str}{i:Nat} (h:RowT H a F B ra rs k i) (g:KeepM H H' a) (M:∀b xs,H b=some (.tup xs)->¬a.M b):RowT H' a F B ra rs k i:=
 ⟨h.fp,h.nm,dA h.rl (λxs e=>g.own _ _ h.nm e) (g.tup M),h.td,h.i4,h.dy⟩
theorem TabAt.keepM {H H':Hp}{a:BA}{F:Addr->Prop}{B:Bk}{x:Addr}{i:Nat} (h:TabAt H a F B x i) (g:KeepM H H' a) (M:∀b xs,H b=some (.tup xs)->¬a.M b):TabAt H' a F B x i:=by
 obtain⟨kvs,e,hl,hk⟩:=h.ex
 refine⟨h.fp,h.nm,kvs,g.own _ _ h.nm e,hl,λk hk'=>?_⟩
 obtain⟨ra,rs,e1,e2⟩:=hk k hk'
 exact⟨ra,rs,e1,e2.keepM g M⟩
theorem TabAt.other {H:Hp}{a:BA}{F F':Addr->Prop}{B B':Bk}{x:Addr}{i:Nat} (h:TabAt H a F B x i) (hF:∀b,F b->F' b) (ek:B'.ks=B.ks) (es:∀k d,B'.spk k i d=B.spk k i d):TabAt H a F' B' x i:=by
 obtain⟨kvs,e,hl,hk⟩:=h.ex
 refine⟨hF _ h.fp,h.nm,kvs,e,hl,λk hk'=>?_⟩
 obtain⟨ra,rs,e1,e2⟩:=hk k (by rw [<- ek];exact hk')
 exact⟨ra,rs,e1,hF _ e2.fp,e2.nm,e2.rl,e2.td,e2.i4,λx=>by rw [es];exact e2.dy x⟩
structure MC (P:Program) (w:World) (K:PySem.W.Frag) (mg:Str->Option Value) (base:Heap) (C:Addr) (m:Str) (k:Nat) (ps:List Str) (ds:List Value) (dvs:List V) (sp:Sp) (f:Addr) (fd:FuncData):Prop where
 cl:Cls K C
 mt:Meth K C m f
 ok:FnOk P w K mg base CX0 k f fd ps sp
 bd:cu K fd ps ds
 dv:aP dvs ds
structure BkC (K:PySem.W.Frag) (C:Addr):Prop where
 cl:Cls K C
 n1:NoAttr K C "names"
 n2:NoAttr K C "findings"
 n3:NoAttr K C "withdrawals"
 n4:NoAttr K C "deeds"
 n5:NoAttr K C "tables"
theorem p6 {rs:List bF} (u:Strip.Rising rs) (i:cI rs):rs.length<=400:=by
 have key:∀(n:Nat) (rs:List bF) (lo:Int),rs.length=n->Strip.Rising rs->(∀r∈rs,lo<=r.1/\r.2.1 < 400)->(n:Int)<=max 0 (400 - lo):=by
  intro n
  induction n with
  | zero=>intro rs lo _ _ _;omega
  | succ n ih=>
   intro rs lo hl u h
   cases rs with
   | nil=>simp at hl
   | cons r t=>
    have hr:=h r List.mem_cons_self
    have hle:=u.le r List.mem_cons_self
    have:=ih t (r.2.1+1) (by simpa using hl) ⟨(List.pairwise_cons.mp u.lt).2,λx hx=>u.le x (List.mem_cons_of_mem _ hx)⟩ λx hx=>⟨by have:r.2.1 < x.1:=(List.pairwise_cons.mp u.lt).1 x hx;omega,(h x (List.mem_cons_of_mem _ hx)).2⟩
    omega
 have:=key rs.length rs 0 rfl u λr hr=>⟨(i r hr).1,(i r hr).2.2⟩
 omega
end L2
namespace Mine
open PySem L2
variable {P:Program}{w:World}{K:PySem.W.Frag}{mg:Str->Option Value}{base:Heap}
noncomputable def top (i:Nat):Stmt:=PySem.Challenge.pw_unsaybook_k12_deeds_refused.main.body.getD i (.Pass ⟨0,0,0,0⟩)
noncomputable abbrev cY:Stmt:=top 16
noncomputable abbrev nR:Stmt:=top 17
noncomputable abbrev nO:Stmt:=top 18
noncomputable abbrev vK:Stmt:=top 19
noncomputable abbrev nY:Stmt:=top 20
theorem qr:∀{x y:V},de x->de y->zG x y=true
 | .non,.non,_,_=>rfl
 | .non,.int _,_,_=>rfl
 | .int _,.non,_,_=>rfl
 | .int _,.int _,_,_=>rfl
inductive oR (vs:List V) (H:Hp) (Q:VK) (E:XK):Prop
 | mk (p:Addr) (r:bF) (first:Int) (mark:V) (h1:vs=[.ref p,.int first,mark]) (h2:H p=some (.tup (dr r))) (h3:de r.2.2) (h4:de mark) (h5:∀k:Bool,(k=true↔(r.2.1+1=first/\r.2.2=mark))->Q (.bl k) H)
theorem vE:FnScope ["row", "first", "mark"] ["row", "first", "mark"] (ao nR):=aZ
theorem tZ (F:Fun K "goes_on" "goes_on" nR f fd):FnOk P w K mg base CX0 1 f fd ["row", "first", "mark"] oR:=by
 refine F.ok vE (λvs H Q E h=>?_) (λcdv A outer s H vs Q E hr h=>?_)
 ·obtain⟨p,r,first,mark,rfl,_⟩:=h
  rfl
 ·obtain⟨p,r,first,mark,rfl,hp,m1,m2,hq⟩:=h
  refine⟨_,am (aB (dL (fA dk (aD bL (aH be (pv 0) ah (λ_ _=>rfl)) ah) (pv 1) (b9 _)) (eR (fA dk (aH be (pv 0) ah (λ_ _=>rfl)) (pv 2) (b9 _))))),?_⟩
  refine⟨_,rfl,p,_,1,.int r.2.1,rfl,rfl,SqT.of hp,rfl,_,_,rfl,rfl,_,rfl,rfl,_,rfl,?_⟩
  refine iN (λh1=>?_) (λh1=>?_)
  ·have h1:=of_decide_eq_true h1
   injection h1 with h1
   refine⟨_,rfl,p,_,2,r.2.2,rfl,rfl,SqT.of hp,rfl,_,rfl,qr m1 m2,hq _ ?_⟩
   rw [decide_eq_true_iff]
   exact⟨λz=>⟨h1,z⟩,λz=>z.2⟩
  ·refine hq _ ⟨(λz=>by cases z),λz=>?_⟩
   exact absurd (decide_eq_true (show V.int (r.2.1+1)=V.int first by rw [z.1])) h1
noncomputable abbrev fJ:Pos:=⟨51,46,51,64⟩
noncomputable abbrev dG:Str:=("joined" : Str)++".<locals>."++"<lambda>"
inductive jI (T:Addr) (vs:List V) (H:Hp) (Q:VK) (E:XK):Prop
 | mk (a:Addr) (rs:List bF) (h1:vs=[.ref a]) (h2:eV T fJ dG H) (h3:cm H a rs) (h4:Strip.Disj rs) (h5:rs.length<=most) (h6:∀(b:Addr) (ss acc:List bF) (H':Hp),H b=none->Go T fJ dG H H'->cm H' b acc->ss.Perm rs->Strip.Joining ss acc->Q (.ref b) H')
theorem fW:FnScope ["rows", "strip", "first", "last", "mark"] ["rows"] (ao cY):=aZ
theorem tY {f g c T:Addr}{fdg:FuncData}{oc kV doc pm ct:Value}{od an:Option Addr}{osl:Array (Option Value)}
  (lk:K.lookup f=some ⟨oc,od,.func (PySem.W.fnOf "joined" "joined" (cN cY) (bX cY) (ao cY) .none kV doc pm an (.ref c) ct),osl⟩) (hcd:PySem.W.codeIn K (.ref c) "joined" = true)
  (hC:PySem.W.CodeHd base c T) (hB:base.BuiltinsAt mg T) (hs:mg "sorted" = none) (Gg:FnOk P w K mg base CX0 1 g fdg ["row", "first", "mark"] oR) (mgg:mg "goes_on" = some (.ref g)) (kpg:PySem.W.keepIn K (.ref g)=true) (bg:cu K fdg ["row", "first", "mark"] []) :
  FnOk P w K mg base CX0 3 f (PySem.W.fnOf "joined" "joined" (cN cY) (bX cY) (ao cY) .none kV doc pm an (.ref c) ct) ["rows"] (jI T):=by
 refine pK (CX:=CX0) (k:=2) lk hcd fW (λvs H Q E h=>?_) (λA outer s H vs Q E hr h=>?_)
 ·obtain⟨a,rs,rfl,_⟩:=h
  rfl
 ·obtain⟨a,rs,rfl,L,⟨ps,ha,hp⟩,hd,hlen,hq⟩:=h
  have hr1:Room 1 _:=hr.mono (by decide)
  refine⟨_,PSs.nox (ai (aF (i:=1) fW.nd rfl (Or.inl rfl) (aM af))
   (ai (dX PassesOwn.never rfl (cc (yc (pa:=⟨51,53,51,56⟩) (p1:=⟨51,58,51,61⟩) (p2:=⟨51,62,51,63⟩) (p3:=⟨51,58,51,64⟩) (j:=0) (q:=dG) (scope:={ kind:=.function,names:=[(PySem.Str.ofString "row", .local)],isGenerator:=false,isCoroutine:=false,more:=[] }) hr rfl hs (ae (pv 0) af) (yb (Ad rfl hC hB rfl rfl) A8) rfl rfl rfl rfl))
     (gx rfl (bB (bp (i:=2) fW.nd rfl (Or.inl rfl)) (bB (bp (i:=3) fW.nd rfl (Or.inl rfl)) (bB (bp (i:=4) fW.nd rfl (Or.inl rfl)) eN))))
     (am (aO (PW.pt (o7 (wb (pv 1) (λ_=>rfl)) (js (bH (gS Gg hr1 rfl mgg kpg bg .nil iL (ae (aH aR (pv 1) (hV eO ah) (λ_ _=>rfl)) (ae (pv 2) (ae (pv 4) af))))))))
      (am (we (az (ae (aH be (aH aR (pv 1) (hV eO ah) (λ_ _=>rfl)) ah (λ_ _=>rfl)) (ae (pv 3) (ae (pv 4) af)))) (Ab (pv 1) (hV eO ah) vq)))
      (am (aJ (dO PySem.F.plainAttrs_list PySem.F.slot_list_append PySem.F.type_list_append bN (pv 1) (ae (az (ae (pv 2) (ae (pv 3) (ae (pv 4) af)))) af)))))))
   (am (aB (pv 1))))),?_⟩
  refine⟨Nat.zero_le _,λst nst=>?_⟩
  have g0:Go T fJ dG H (upd H st (.lst [])):=Go.new L nst
  have L0:=g0.lam
  refine⟨_,rfl,L0,λH1 f c1 g1 nf hc1 hf1=>?_⟩
  have ha1:H1 a=some (.lst (ps.map V.ref)):=g1.lst L0 (g0.lst L ha)
  have hp1:bY H1 ps rs:=cO hp λp xs e=>g1.tup L0 (g0.tup L e)
  have hst1:H1 st=some (.lst []):=g1.lst L0 ag
  have hlp:=cU hp
  refine⟨a,f,c1,ps,rs.map (·.1),rfl,rfl,ha1,by omega,?pk,hc1,hf1,λD zs pz sz nD=>?_⟩
  case pk=>
   clear hq hd hlen ha ha1 hlp hp
   unfold bY at hp1
   induction hp1 with
   | nil=>exact .nil
   | cons e _ ih=>exact .cons ⟨_,e.1,by show 2 < 1000;decide⟩ ih
  obtain⟨qs,ss,hq1,pss,srt,ex⟩:=p5 hp1 pz sz
  rw [ex]
  have up:Strip.Rising ss:=Strip.rising_of_sorted (hd.perm pss) srt
  have sD:st≠D:=al hst1 nD
  have gD:Go T fJ dG H1 (upd H1 D (.lst (qs.map V.ref))):=Go.new g1.lam nD
  have gA:Go T fJ dG H (upd H1 D (.lst (qs.map V.ref))):=(g0.trans g1).trans gD
  have hls:=cU hq1
  refine⟨D,rfl,⟨_,SqL.of ag⟩,dc (K:=K) (a:=D) (xs:=qs.map V.ref) (λi Y H2=>∃(acc:List bF) (v1 v2 v3:Option V),Y=[some (.ref a),some (.ref st),v1,v2,v3]/\Go T fJ dG H H2/\H2 D=some (.lst (qs.map V.ref))/\
    (∀p xs,H1 p=some (.tup xs)->H2 p=some (.tup xs))/\cm H2 st acc/\Strip.Joining (ss.take i) acc)
   ⟨[],none,none,none,rfl,gA,ag,λp xs e=>gD.tup g1.lam e,gN (by rw [aj sD];exact hst1),by rw [List.take_zero];exact Strip.Joining.nil⟩ (λi Y H2 _ hh=>?_) ?_ ?_⟩
  ·obtain⟨_,_,_,_,_,_,hD,_⟩:=hh
   exact SqL.of hD
  ·rintro i y Y H2 hi ⟨acc,v1,v2,v3,rfl,g2,hD,kt,⟨as,hst,hrs⟩,J⟩
   rw [List.getElem?_map]at hi
   cases ep:qs[i]? with
   | none=>rw [ep]at hi;cases hi
   | some p=>
    rw [ep]at hi
    cases hi
    obtain⟨r,er,ht1,hmk⟩:=iX hq1 ep
    have ht:=kt p _ ht1
    have hil:i < ss.length:=(List.getElem?_eq_some_iff.mp er).1
    have et:ss.take (i+1)=ss.take i++[r]:=by rw [List.take_add_one,er];rfl
    have hrle:r.1<=r.2.1:=up.le r (List.mem_of_getElem? er)
    have hlast:∀t∈ss.take i,t.2.1 < r.1:=λt ht=>by
     have h1:Strip.Rising (ss.take (i+1)):=⟨up.lt.sublist (List.take_sublist _ _),λt ht=>up.le t (List.mem_of_mem_take ht)⟩
     rw [et]at h1
     exact h1.last t ht
    have hla:=cU hrs
    have hJl:=J.len
    have hsz:as.length < sizeLine:=by
     rw [List.length_take]at hJl
     have:as.length<=most:=by have:=pss.length_eq;omega
     exact Nat.lt_of_le_of_lt this (by unfold most;decide)
    refine⟨p,_,rfl,SqT.of ht,rfl,_,_,rfl,_,_,rfl,_,_,rfl,rfl,?_⟩
    have nD2:D≠st:=sD.symm
    have sT:∀{b:Addr}{xs:List V},H2 b=some (.tup xs)->b≠st:=λe=>aS e hst (by intro z;cases z)
    have app:(∀t,acc[acc.length - 1]?=some t->¬Strip.Beside t r)->∀p',H2 p'=none->∃(acc:List bF) (v1 v2 v3:Option V),[some (V.ref a),some (V.ref st),some (V.int r.1),some (V.int r.2.1),some r.2.2]=[some (V.ref a),some (V.ref st),v1,v2,v3]/\
      Go T fJ dG H (upd (upd H2 p' (.tup (dr r))) st (.lst (as.map V.ref++[V.ref p'])))/\upd (upd H2 p' (.tup (dr r))) st (.lst (as.map V.ref++[V.ref p'])) D=some (.lst (qs.map V.ref))/\
      (∀p xs,H1 p=some (.tup xs)->upd (upd H2 p' (.tup (dr r))) st (.lst (as.map V.ref++[V.ref p'])) p=some (.tup xs))/\cm (upd (upd H2 p' (.tup (dr r))) st (.lst (as.map V.ref++[V.ref p']))) st acc/\Strip.Joining (ss.take (i+1)) acc:=λhn p' np=>by
     obtain⟨x1,x2⟩:=p9 hst hrs np hmk
     refine⟨acc++[r],_,_,_,rfl,⟨λb o n e=>x2 b o (al e nst) (g2.same b o n e),g2.lam.row hst np⟩,x2 D _ nD2 hD,λb xs e=>x2 b _ (sT (kt b xs e)) (kt b xs e),x1,?_⟩
     rw [et]
     exact J.put hrle hlast hn
    have sz3:(as.map V.ref).length < sizeLine:=by rw [List.length_map];exact hsz
    rcases List.eq_nil_or_concat acc with e0 | ⟨ini,l,e0⟩
    ·-- the strip is empty yet
     subst e0
     have as0:as=[]:=List.length_eq_zero_iff.mp hla
     refine⟨_,rfl,false,.inl ⟨_,SqL.of hst,by rw [as0];rfl⟩,aX (aX ?_)⟩
     refine⟨_,rfl,.inl ⟨rfl,_,SqL.of hst⟩,_,rfl,_,rfl,_,rfl,by show 3<=sizeLine;decide,λp' np=>?_⟩
     exact⟨st,_,_,rfl,rfl,by rw [aj (al hst np)];exact hst,sz3,app (λt ht=>by simp at ht) p' np⟩
    ·rw [List.concat_eq_append]at e0
     subst e0
     obtain⟨qs2,pl,rfl,hrs2,hpl,ml⟩:=jX hrs
     have eL:(ini++[l])[(ini++[l]).length - 1]?=some l:=by simp
     have elm:(qs2++[pl]).map V.ref=qs2.map V.ref++[V.ref pl]:=by rw [List.map_append];rfl
     have at1:atI ((qs2++[pl]).map V.ref) (-1)=some (V.ref pl):=by rw [elm];exact li _ _
     refine⟨_,rfl,true,.inl ⟨_,SqL.of hst,by rw [elm];cases qs2 <;> rfl⟩,bG ?_⟩
     refine⟨_,rfl,_,rfl,st,_,-1,V.ref pl,rfl,rfl,SqL.of hst,at1,_,rfl,_,rfl,pl,l,r.1,r.2.2,rfl,hpl,ml,hmk,λkk hkk=>⟨_,rfl,?_⟩⟩
     cases kk with
     | true=>
      have hb:Strip.Beside l r:=hkk.mp rfl
      refine bG ?_
      refine⟨_,rfl,_,rfl,st,_,-1,V.ref pl,rfl,rfl,SqL.of hst,at1,pl,_,0,V.int l.1,rfl,rfl,SqT.of hpl,rfl,_,rfl,_,rfl,by show 3<=sizeLine;decide,λp' np=>?_⟩
      refine⟨_,rfl,_,rfl,st,_,-1,qs2.length,rfl,rfl,by rw [aj (al hst np)];exact hst,by rw [List.length_map,List.length_append];exact x6 _,?_⟩
      obtain⟨x1,x2⟩:=uV (r:=(l.1,r.2.1,r.2.2)) hst hrs2 np hmk
      refine⟨ini++[(l.1,r.2.1,r.2.2)],_,_,_,rfl,⟨λb o n e=>x2 b o (al e nst) (g2.same b o n e),g2.lam.row hst np⟩,x2 D _ nD2 hD,λb xs e=>x2 b _ (sT (kt b xs e)) (kt b xs e),x1,?_⟩
      rw [et]
      exact J.grow hrle hb
     | false=>
      have hb:¬Strip.Beside l r:=λz=>by have:=hkk.mpr z;cases this
      refine aX ?_
      refine⟨_,rfl,.inl ⟨rfl,_,SqL.of hst⟩,_,rfl,_,rfl,_,rfl,by show 3<=sizeLine;decide,λp' np=>?_⟩
      exact⟨st,_,_,rfl,rfl,by rw [aj (al hst np)];exact hst,sz3,app (λt ht=>by rw [eL]at ht;cases ht;exact hb) p' np⟩
  ·rintro Y H2 ⟨acc,v1,v2,v3,rfl,g2,hD,kt,hrs,J⟩
   refine⟨_,rfl,hq st ss acc H2 nst g2 hrs pss ?_⟩
   rw [<- List.take_length (l:=ss)]
   have e:(qs.map V.ref).length=ss.length:=by rw [List.length_map];exact hls
   rw [e]at J
   exact J
abbrev Lm (T:Addr) (H:Hp):Prop:=eV T fJ dG H
abbrev Gm (T:Addr) (H H':Hp):Prop:=Go T fJ dG H H'
theorem wa {T:Addr}{H H2:Hp}{st p:Addr}{as:List Addr}{cs:List bF}{r:bF} (nst:H st=none) (g2:Gm T H H2) (hst:H2 st=some (.lst (as.map V.ref))) (hrs:bY H2 as cs) (np:H2 p=none) (hm:de r.2.2) :
  Gm T H (upd (upd H2 p (.tup (dr r))) st (.lst (as.map V.ref++[V.ref p])))/\cm (upd (upd H2 p (.tup (dr r))) st (.lst (as.map V.ref++[V.ref p]))) st (cs++[r])/\
   ∀b o,b≠st->H2 b=some o->upd (upd H2 p (.tup (dr r))) st (.lst (as.map V.ref++[V.ref p])) b=some o:=by
 obtain⟨y1,y2⟩:=p9 hst hrs np hm
 exact⟨⟨λb o n e=>y2 b o (al e nst) (g2.same b o n e),g2.lam.row hst np⟩,y1,y2⟩
theorem Gm.free {T:Addr}{H H2:Hp} (g:Gm T H H2){b:Addr} (nb:H2 b=none):H b=none:=by
 refine g.none nb λz=>?_
 obtain⟨ts,et⟩:=g.lam.tbl
 rw [z,et]at nb;cases nb
structure Cal (P:Program) (w:World) (K:PySem.W.Frag) (mg:Str->Option Value) (base:Heap) (x:Str) (k:Nat) (ps:List Str) (sp:Sp) (f:Addr) (fd:FuncData):Prop where
 ok:FnOk P w K mg base CX0 k f fd ps sp
 nm:mg x=some (.ref f)
 kp:PySem.W.keepIn K (.ref f)=true
 bd:cu K fd ps []
theorem aW {X:Cx}{x:Str}{k m:Nat}{ps:List Str}{sp:Sp}{f:Addr}{fd:FuncData}{p pos:Pos}{e:Expr}{es:List Expr}{t:TA} (C:Cal X.prog X.w X.K X.mg X.base x k ps sp f fd) (hr:Room m X.A) (ha:PA X (e::es) t) (hk:k<=m:=by decide) (hg:Gl X x:=by exact rfl) (hdb:(x == ("__debug__" : Str))=false:=by decide)
  (he:starEach (e::es) X.env=(false,eval e X.env)::starEach es X.env:=by rfl) (hpl:(backTo pos (starEach es X.env)).any (·.1)=false:=by rfl):PE X (.Call (.Name x p) (e::es) [] pos) (fU sp [] E0 t):=gS C.ok (hr.mono hk) hg C.nm C.kp C.bd .nil iL ha hdb he hpl
theorem Bz {X:Cx}{x:Str}{k m:Nat}{ps:List Str}{sp:Sp}{f:Addr}{fd:FuncData}{p pos:Pos} (C:Cal X.prog X.w X.K X.mg X.base x k ps sp f fd) (hr:Room m X.A) (hk:k<=m:=by decide) (hg:Gl X x:=by exact rfl) (hdb:(x == ("__debug__" : Str))=false:=by decide):PE X (.Call (.Name x p) [] [] pos) (fU sp [] E0 bT):=wm C.ok (hr.mono hk) hg C.nm C.kp C.bd .nil iL hdb
theorem fw {X:Cx}{C:Addr}{m:Str}{k n:Nat}{ps:List Str}{ds:List Value}{dvs:List V}{sp:Sp}{f:Addr}{fd:FuncData}{apos pos:Pos}{o e:Expr}{es:List Expr}{ta:TE}{t:TA}{pl:Sem Bool} (ho:PE X o ta) (M:MC X.prog X.w X.K X.mg X.base C m k ps ds dvs sp f fd) (hr:Room n X.A) (ha:PA X (e::es) t) (hk:k<=n:=by decide)
  (hst:starEach (e::es) X.env=(false,eval e X.env)::starEach es X.env:=by rfl) (hpl:(backTo pos (starEach es X.env)).any (·.1)=false:=by rfl)
  (ht:eval (.Call (.Attribute o m apos) (e::es) [] pos) X.env=(do
   let ov <- eval o X.env
   standAt apos.atName
   let (f,first) <- holding [ov] (getMethod ov m pl)
   callWith pos f first (backTo pos (starEach (e::es) X.env)) (backToKw pos (keywordEach [] X.env))):=by rfl) :
  PE X (.Call (.Attribute o m apos) (e::es) [] pos) (rC C m sp dvs E0 ta t):=ce ho M.cl M.mt M.ok (hr.mono hk) M.bd M.dv iL ha hst hpl ht
theorem dH {X:Cx}{C:Addr}{m:Str}{k n:Nat}{ps:List Str}{ds:List Value}{dvs:List V}{sp:Sp}{f:Addr}{fd:FuncData}{apos pos:Pos}{o:Expr}{ta:TE}{pl:Sem Bool} (ho:PE X o ta) (M:MC X.prog X.w X.K X.mg X.base C m k ps ds dvs sp f fd) (hr:Room n X.A) (hk:k<=n:=by decide)
  (ht:eval (.Call (.Attribute o m apos) [] [] pos) X.env=(do
   let ov <- eval o X.env
   standAt apos.atName
   let (f,first) <- holding [ov] (getMethod ov m pl)
   callWith pos f first (backTo pos (starEach [] X.env)) (backToKw pos (keywordEach [] X.env))):=by rfl) :
  PE X (.Call (.Attribute o m apos) [] [] pos) (rC C m sp dvs E0 ta bT):=ki ho M.cl M.mt M.ok (hr.mono hk) M.bd M.dv iL ht
structure Free (mg:Str->Option Value):Prop where
 «len»:mg "len" = none
 «range»:mg "range" = none
 «sorted»:mg "sorted" = none
 «isinstance»:mg "isinstance" = none
 «int»:mg "int" = none
 «bool»:mg "bool" = none
 «str»:mg "str" = none
 «list»:mg "list" = none
 «tuple»:mg "tuple" = none
 «dict»:mg "dict" = none
 «set»:mg "set" = none
 «max»:mg "max" = none
 «min»:mg "min" = none
 «all»:mg "all" = none
 «enumerate»:mg "enumerate" = none
theorem uh {ss acc rs:List bF} (J:Strip.Joining ss acc) (p:ss.Perm rs) (h:cI rs):cI acc:=λr hr=>
 ⟨J.hi 0 (λt ht=>(h t (p.mem_iff.mp ht)).1) r hr,J.tidy.up.le r hr,J.lo 400 (λt ht=>(h t (p.mem_iff.mp ht)).2.2) r hr⟩
theorem qV {ss acc rs:List bF} (J:Strip.Joining ss acc) (p:ss.Perm rs) (d:Strip.Disj rs) (n:Int):Strip.dayOf acc n=Strip.dayOf rs n:=by rw [J.day,Strip.dayOf_perm d p]
inductive jN (T:Addr) (vs:List V) (H:Hp) (Q:VK) (E:XK):Prop
 | mk (a:Addr) (f l:Int) (rs:List bF) (h1:vs=[.ref a,.int f,.int l]) (h2:Lm T H) (h3:cm H a rs) (h4:Strip.Disj rs) (h5:cI rs) (h6:rs.length<=400) (h7:0<=f) (h8:f<=l) (h9:l < 400) (h10:∀(b:Addr) (cs:List bF) (H':Hp),H b=none->Gm T H H'->cm H' b cs->Strip.DG cs (Strip.holeG rs f l)->cI cs->cs.length<=rs.length+1->Q (.ref b) H')
theorem fX:FnScope ["rows", "first", "last", "kept", "start", "end", "mark"] ["rows", "first", "last"] (ao nY):=aZ
theorem ua {T:Addr} (F:Fun K "around" "around" nY f fd) (hmin:mg "min" = none) (hmax:mg "max" = none):FnOk P w K mg base CX0 3 f fd ["rows", "first", "last"] (jN T):=by
 refine okF F fX λcdv A outer s H vs Q E hr h=>?_
 ·obtain⟨a,f,l,rs,rfl,L,⟨ps,ha,hp⟩,dj,hin,hlen,hf0,hfl,hl4,hq⟩:=h
  refine⟨_,(ai (aF (i:=3) fX.nd rfl (Or.inl rfl) (aM af))
   (ai (dX PassesOwn.never rfl (cc (pv 0)) (gx rfl (bB (bp (i:=4) fX.nd rfl (Or.inl rfl)) (bB (bp (i:=5) fX.nd rfl (Or.inl rfl)) (bB (bp (i:=6) fX.nd rfl (Or.inl rfl)) eN)))) (ai (aO (aY sE (pv 4) (pv 1) (b9 _)) (am (aJ (dO PySem.F.plainAttrs_list PySem.F.slot_list_append PySem.F.type_list_append bN (pv 3) (ae (az (ae (pv 4) (ae (aA (mK rfl) (by rfl) hmin PyProof.Rows.Boot.«min» (ae (pv 5) (ae (aD cJ (pv 1) ah) af))) (ae (pv 6) af)))) af)))) aE)
   (am (aO (aY sE (pv 2) (pv 5) (b9 _)) (am (aJ (dO PySem.F.plainAttrs_list PySem.F.slot_list_append PySem.F.type_list_append bN (pv 3) (ae (az (ae (aA (uC rfl) (by rfl) hmax PyProof.Rows.Boot.«max» (ae (pv 4) (ae (aD bL (pv 2) ah) af))) (ae (pv 5) (ae (pv 6) af)))) af)))) aE))))
   (am (aB (pv 3))))),?_⟩
  refine⟨Nat.zero_le _,λst nst0=>?_⟩
  have g0:Gm T H (upd H st (.lst [])):=Go.new L nst0
  have hlp:=cU hp
  refine⟨_,rfl,a,rfl,⟨_,SqL.of (g0.lst L ha)⟩,dc (K:=K) (a:=a) (xs:=ps.map V.ref) (λi Y H2=>∃(cs:List bF) (v5 v6 v7:Option V),Y=[some (.ref a),some (.int f),some (.int l),some (.ref st),v5,v6,v7]/\Gm T H H2/\cm H2 st cs/\
    Strip.DG cs (Strip.holeG (rs.take i) f l)/\cI cs/\(cs.length<=i\/(cs.length<=i+1/\∃r∈rs.take i,Strip.Has r f)))
   ⟨[],none,none,none,rfl,g0,gN ag,(Strip.hole_start (f:=f) (l:=l)).eq λn=>by rw [List.take_zero],(λ_ h=>nomatch h),.inl (Nat.le_refl _)⟩ (λi Y H2 _ hh=>?_) ?_ ?_⟩
  ·obtain⟨_,_,_,_,_,g,_⟩:=hh
   exact SqL.of (g.lst L ha)
  ·rintro i y Y H2 hi ⟨cs,v5,v6,v7,rfl,g2,⟨as,hst,hrs⟩,D,hi4,hln⟩
   rw [List.getElem?_map]at hi
   cases ep:ps[i]? with
   | none=>rw [ep]at hi;cases hi
   | some p=>
    rw [ep]at hi
    cases hi
    obtain⟨r,er,ht0,hmk⟩:=iX hp ep
    have ht:=g2.tup L ht0
    have hil:i < rs.length:=(List.getElem?_eq_some_iff.mp er).1
    obtain⟨r0,r1,r2⟩:=hin r (List.mem_of_getElem? er)
    have hsz:cs.length<=i+2:=by rcases hln with h | h <;> omega
    have old:∀q∈rs.take i,Strip.Has q f->Strip.Has r f->False:=λq hq h1 h2=>by
     have:=dj.ahead er h2
     have d2:Strip.Disj (rs.take i):=⟨dj.ap.sublist (List.take_sublist _ _),λt ht=>dj.le t (List.mem_of_mem_take ht)⟩
     rw [Strip.dayOf_mem d2 hq h1]at this
     cases this
    refine⟨p,_,rfl,SqT.of ht,rfl,_,_,rfl,_,_,rfl,_,_,rfl,rfl,?_⟩
    have sz:∀{as2:List Addr}{cs2:List bF}{H3:Hp},bY H3 as2 cs2->cs2.length<=i+3->(as2.map V.ref).length < sizeLine:=λh1 h2=>by
     rw [List.length_map,cU h1]
     exact Nat.lt_of_lt_of_le (show _ < 900 by omega) (by decide)
    have mem:∀q,q∈rs.take i->q∈rs.take (i+1):=λq hq=>by rw [Strip.take_snoc er];exact List.mem_append_left _ hq
    have memr:r∈rs.take (i+1):=by rw [Strip.take_snoc er];exact List.mem_append_right _ (List.mem_singleton.mpr rfl)
    have noR:∀(cs2:List bF) (H3:Hp),¬l < r.2.1->Gm T H H3->cm H3 st cs2->Strip.DG cs2 (Strip.midH (rs.take i) f l r)->cI cs2->(cs2.length<=i+1\/(cs2.length<=i+1+1/\∃r∈rs.take (i+1),Strip.Has r f))->∃(cs:List bF) (v5 v6 v7:Option V),[some (V.ref a),some (V.int f),some (V.int l),some (V.ref st),some (V.int r.1),some (V.int r.2.1),some r.2.2]=[some (.ref a),some (.int f),some (.int l),some (.ref st),v5,v6,v7]/\Gm T H (H3)/\cm (H3) st cs/\Strip.DG cs (Strip.holeG (rs.take (i+1)) f l)/\cI cs/\(cs.length<=i+1\/(cs.length<=i+1+1/\∃r∈rs.take (i+1),Strip.Has r f)):=λcs2 H3 h g3 hr3 D3 i3 l3=>
     ⟨cs2,_,_,_,rfl,g3,hr3,Strip.hole_noRight er h D3,i3,l3⟩
    have doR:∀(cs2:List bF) (as2:List Addr) (H3:Hp),l < r.2.1->Gm T H H3->H3 st=some (.lst (as2.map V.ref))->bY H3 as2 cs2->Strip.DG cs2 (Strip.midH (rs.take i) f l r)->cI cs2->(cs2.length<=i\/(cs2.length<=i+1/\∃r∈rs.take (i+1),Strip.Has r f))->∀p',H3 p'=none->∃(cs:List bF) (v5 v6 v7:Option V),[some (V.ref a),some (V.int f),some (V.int l),some (V.ref st),some (V.int r.1),some (V.int r.2.1),some r.2.2]=[some (.ref a),some (.int f),some (.int l),some (.ref st),v5,v6,v7]/\Gm T H (upd (upd H3 p' (.tup (dr (if l+1 > r.1 then l+1 else r.1,r.2.1,r.2.2)))) st (.lst (as2.map V.ref++[V.ref p'])))/\cm (upd (upd H3 p' (.tup (dr (if l+1 > r.1 then l+1 else r.1,r.2.1,r.2.2)))) st (.lst (as2.map V.ref++[V.ref p']))) st cs/\Strip.DG cs (Strip.holeG (rs.take (i+1)) f l)/\cI cs/\(cs.length<=i+1\/(cs.length<=i+1+1/\∃r∈rs.take (i+1),Strip.Has r f)):=λcs2 as2 H3 h g3 hst3 hr3 D3 i3 l3 p' np=>by
     obtain⟨D4,a1⟩:=Strip.hole_right dj er hfl h rfl D3
     have a2:(if l+1 > r.1 then l+1 else r.1)<=r.2.1:=by split <;> omega
     obtain⟨z1,z2,z3⟩:=wa (r:=(if l+1 > r.1 then l+1 else r.1,r.2.1,r.2.2)) nst0 g3 hst3 hr3 np hmk
     refine⟨_,_,_,_,rfl,z1,z2,D4,i3.snoc (by show 0<=if l+1 > r.1 then l+1 else r.1;omega) a2 r2,?_⟩
     rw [List.length_append]
     simp only [List.length_singleton]
     rcases l3 with l3 | ⟨l3,q⟩
     ·exact .inl (by omega)
     ·exact .inr ⟨by omega,q⟩
    refine⟨_,rfl,_,rfl,_,_,rfl,rfl,_,rfl,iN (λh=>?_) (λh=>?_)⟩
    ·have h:r.1 < f:=of_decide_eq_true h
     obtain⟨D2,b1⟩:=Strip.hole_left dj er h rfl D
     have b2:r.1<=(if f - 1 < r.2.1 then f - 1 else r.2.1):=by split <;> omega
     refine⟨_,rfl,.inl ⟨rfl,_,SqL.of hst⟩,_,rfl,_,rfl,_,rfl,_,_,rfl,rfl,_,_,rfl,_,rfl,by show 3<=sizeLine;decide,λp1 np1=>?_⟩
     refine⟨st,_,_,rfl,rfl,by rw [aj (al hst np1)];exact hst,sz hrs (by omega),?_⟩
     obtain⟨z1,⟨as3,z2,z2'⟩,z3⟩:=wa (r:=(r.1,if f - 1 < r.2.1 then f - 1 else r.2.1,r.2.2)) nst0 g2 hst hrs np1 hmk
     have i3:=hi4.snoc (r:=(r.1,if f - 1 < r.2.1 then f - 1 else r.2.1,r.2.2)) r0 b2 (by show (if f - 1 < r.2.1 then f - 1 else r.2.1) < 400;omega)
     have l5:(cs++[(r.1,if f - 1 < r.2.1 then f - 1 else r.2.1,r.2.2)]).length=cs.length+1:=by rw [List.length_append];rfl
     refine⟨_,rfl,_,rfl,_,_,rfl,rfl,_,rfl,iN (λh2=>?_) (λh2=>?_)⟩
     ·have h2:l < r.2.1:=of_decide_eq_true h2
      refine⟨_,rfl,.inl ⟨rfl,_,SqL.of z2⟩,_,rfl,_,rfl,_,_,rfl,rfl,_,_,rfl,_,rfl,_,rfl,by show 3<=sizeLine;decide,λp2 np2=>?_⟩
      refine⟨st,_,_,rfl,rfl,by rw [aj (al z2 np2)];exact z2,sz z2' (by omega),?_⟩
      have hf:Strip.Has r f:=⟨by omega,by omega⟩
      refine doR _ as3 _ h2 z1 z2 z2' D2 i3 ?_ p2 np2
      rw [l5]
      rcases hln with q | ⟨q,t,ht,htf⟩
      ·exact .inr ⟨by omega,r,memr,hf⟩
      ·exact(old t ht htf hf).elim
     ·refine noR _ _ (λz=>h2 (decide_eq_true z)) z1 ⟨as3,z2,z2'⟩ D2 i3 ?_
      rw [l5]
      rcases hln with q | ⟨q,t,ht,htf⟩
      ·exact .inl (by omega)
      ·exact .inr ⟨by omega,t,mem t ht,htf⟩
    ·have D2:=Strip.hole_noLeft (λz=>h (decide_eq_true z)) D
     refine⟨_,rfl,_,rfl,_,_,rfl,rfl,_,rfl,iN (λh2=>?_) (λh2=>?_)⟩
     ·have h2:l < r.2.1:=of_decide_eq_true h2
      refine⟨_,rfl,.inl ⟨rfl,_,SqL.of hst⟩,_,rfl,_,rfl,_,_,rfl,rfl,_,_,rfl,_,rfl,_,rfl,by show 3<=sizeLine;decide,λp2 np2=>?_⟩
      refine⟨st,_,_,rfl,rfl,by rw [aj (al hst np2)];exact hst,sz hrs (by omega),?_⟩
      refine doR cs as H2 h2 g2 hst hrs D2 hi4 ?_ p2 np2
      rcases hln with q | ⟨q,t,ht,htf⟩
      ·exact .inl q
      ·exact .inr ⟨by omega,t,mem t ht,htf⟩
     ·refine noR cs H2 (λz=>h2 (decide_eq_true z)) g2 ⟨as,hst,hrs⟩ D2 hi4 ?_
      rcases hln with q | ⟨q,t,ht,htf⟩
      ·exact .inl (by omega)
      ·exact .inr ⟨by omega,t,mem t ht,htf⟩
  ·rintro Y H2 ⟨cs,v5,v6,v7,rfl,g2,hrs,D,hi4,hln⟩
   have e:(ps.map V.ref).length=rs.length:=by rw [List.length_map];exact hlp
   rw [e]at D hln
   rw [List.take_length]at D
   have hsz:cs.length<=rs.length+1:=by rcases hln with h | h <;> omega
   exact⟨_,rfl,hq st cs H2 nst0 g2 hrs D hi4 hsz⟩
inductive jH (T:Addr) (vs:List V) (H:Hp) (Q:VK) (E:XK):Prop
 | mk (a:Addr) (f l m:Int) (rs:List bF) (h1:vs=[.ref a,.int f,.int l,.int m]) (h2:Lm T H) (h3:cm H a rs) (h4:Strip.Disj rs) (h5:cI rs) (h6:rs.length<=400) (h7:0<=f) (h8:f<=l) (h9:l < 400) (h10:∀(b:Addr) (acc:List bF) (H':Hp),H b=none->Gm T H H'->cm H' b acc->Strip.Tidy acc->(∀n,Strip.dayOf acc n=Strip.laidG (.int m) rs f l n)->cI acc->acc.length<=rs.length+2->Q (.ref b) H')
theorem zH:FnScope ["strip", "first", "last", "mark"] ["strip", "first", "last", "mark"] (ao vK):=aZ
theorem yi {T:Addr} (F:Fun K "laid" "laid" vK f fd) (CJ:Cal P w K mg base "joined" 3 ["rows"] (jI T) f1 fd1) (CA:Cal P w K mg base "around" 3 ["rows", "first", "last"] (jN T) f2 fd2):FnOk P w K mg base CX0 4 f fd ["strip", "first", "last", "mark"] (jH T):=by
 refine okF F zH λcdv A outer s H vs Q E hr h=>?_
 ·obtain⟨a,f,l,m,rs,rfl,L,hrs0,dj,hin,hlen,hf0,hfl,hl4,hq⟩:=h
  refine⟨_,(am (aB (gS CJ.ok hr rfl CJ.nm CJ.kp CJ.bd .nil iL (ae (aD dM (gS CA.ok hr rfl CA.nm CA.kp CA.bd .nil iL (ae (pv 0) (ae (pv 1) (ae (pv 2) af)))) (aM (ae (az (ae (pv 1) (ae (pv 2) (ae (pv 3) af)))) af))) af)))),?_⟩
  refine⟨_,rfl,_,rfl,_,rfl,a,f,l,rs,rfl,L,hrs0,dj,hin,hlen,hf0,hfl,hl4,λb cs H1 nb g1 ⟨qs,hb,hqs⟩ D i1 l1=>?_⟩
  refine⟨_,rfl,_,rfl,_,rfl,by show 3<=sizeLine;decide,λp0 np0=>?_⟩
  have g2:Gm T H1 (upd H1 p0 (.tup (dr (f,l,V.int m)))):=Go.new g1.lam np0
  refine⟨by show 1<=sizeLine;decide,λst nst=>?_⟩
  have g3:Gm T (upd H1 p0 (.tup (dr (f,l,V.int m)))) (upd (upd H1 p0 (.tup (dr (f,l,V.int m)))) st (.lst [V.ref p0])):=Go.new g2.lam nst
  have g23:=g2.trans g3
  have hlq:=cU hqs
  refine⟨b,st,_,_,rfl,rfl,g23.lst g1.lam hb,ag,?_,λd nd=>?_⟩
  ·rw [List.length_map]
   exact Nat.le_trans (show qs.length+1<=900 by omega) (by decide)
  have g4:Gm T (upd (upd H1 p0 (.tup (dr (f,l,V.int m)))) st (.lst [V.ref p0])) (upd (upd (upd H1 p0 (.tup (dr (f,l,V.int m)))) st (.lst [V.ref p0])) d (.lst (qs.map V.ref++[V.ref p0]))):=Go.new g3.lam nd
  have gB:=g23.trans g4
  have gA:=g1.trans gB
  have DD:=Strip.hole_laid (m:=V.int m) hfl D
  refine⟨d,cs++[(f,l,V.int m)],rfl,gA.lam,⟨qs++[p0],?_,fi (g4.tup g3.lam (g3.tup g2.lam ag)) trivial (cO hqs λp xs e=>gB.tup g1.lam e)⟩,DD.dj,?_,λb2 ss acc H3 nb2 g5 hacc pss J=>?_⟩
  ·rw [ag,List.map_append];rfl
  ·rw [List.length_append];show cs.length+1<=most;unfold most;omega
  ·have i2:cI (cs++[(f,l,V.int m)]):=i1.snoc hf0 hfl hl4
   refine hq b2 acc H3 (Gm.free gA nb2) (gA.trans g5) hacc J.tidy (λn=>?_) (uh J pss i2) ?_
   ·rw [qV J pss DD.dj,DD.day]
   ·have h1:=J.len
    have h2:=pss.length_eq
    rw [List.length_append]at h2
    have h3:cs.length+1=cs.length+[(f,l,V.int m)].length:=rfl
    omega
inductive oQ (vs:List V) (H:Hp) (Q:VK) (E:XK):Prop
 | mk (a:Addr) (rs:List bF) (day:Int) (h1:vs=[.ref a,.int day]) (h2:cm H a rs) (h3:Q ((Strip.markOn rs day).getD .non) H)
theorem iF:FnScope ["strip", "day", "first", "last", "mark"] ["strip", "day"] (ao nO):=aZ
theorem tX (F:Fun K "mark_on" "mark_on" nO f fd):FnOk P w K mg base CX0 1 f fd ["strip", "day"] oQ:=by
 refine F.ok iF (λvs H Q E h=>?_) (λcdv A outer s H vs Q E hr h=>?_)
 ·obtain⟨a,rs,day,rfl,_⟩:=h
  rfl
 ·obtain⟨a,rs,day,rfl,⟨ps,ha,hp⟩,hq⟩:=h
  refine⟨_,ai (dX PassesOwn.never rfl (cc (pv 0)) (gx rfl (bB (bp (i:=2) iF.nd rfl (Or.inl rfl)) (bB (bp (i:=3) iF.nd rfl (Or.inl rfl)) (bB (bp (i:=4) iF.nd rfl (Or.inl rfl)) eN))))
    (am (aO (kg fO fO (pv 2) (pv 1) (pv 3)) (am (aB (pv 4))) aE)))
   (am (aB dZ)),?_⟩
  refine⟨_,rfl,a,rfl,⟨_,SqL.of ha⟩,dc (K:=K) (a:=a) (xs:=ps.map V.ref) (λi Y H2=>∃(v1 v2 v3:Option V),Y=[some (.ref a),some (.int day),v1,v2,v3]/\H2=H/\Strip.markOn rs day=Strip.markOn (rs.drop i) day)
   ⟨none,none,none,rfl,rfl,by rw [List.drop_zero]⟩ (λi Y H2 _ hh=>?_) ?_ ?_⟩
  ·obtain⟨_,_,_,_,rfl,_⟩:=hh
   exact SqL.of ha
  ·rintro i y Y H2 hi ⟨v1,v2,v3,rfl,rfl,hm⟩
   rw [List.getElem?_map]at hi
   cases ep:ps[i]? with
   | none=>rw [ep]at hi;cases hi
   | some p=>
    rw [ep]at hi
    cases hi
    obtain⟨r,er,ht,hmk⟩:=iX hp ep
    have ed:rs.drop i=r::rs.drop (i+1):=by
     obtain⟨hlt,e⟩:=List.getElem?_eq_some_iff.mp er
     rw [List.drop_eq_getElem_cons hlt,e]
    refine⟨p,_,rfl,SqT.of ht,rfl,_,_,rfl,_,_,rfl,_,_,rfl,rfl,?_⟩
    have no:¬Strip.Has r day->∃(v1 v2 v3:Option V),[some (V.ref a),some (V.int day),some (V.int r.1),some (V.int r.2.1),some r.2.2]=[some (V.ref a),some (V.int day),v1,v2,v3]/\H2=H2/\Strip.markOn rs day=Strip.markOn (rs.drop (i+1)) day:=λhn=>by
     refine⟨_,_,_,rfl,rfl,?_⟩
     rw [hm,ed]
     exact if_neg hn
    refine⟨_,rfl,_,rfl,_,_,rfl,rfl,_,rfl,?_⟩
    refine iN (λh1=>?_) (λh1=>?_)
    ·have h1:=of_decide_eq_true h1
     refine⟨_,rfl,_,_,rfl,rfl,_,rfl,?_⟩
     refine iN (λh2=>?_) (λh2=>?_)
     ·have h2:=of_decide_eq_true h2
      refine⟨_,rfl,?_⟩
      have e:Strip.markOn rs day=some r.2.2:=by
       rw [hm,ed]
       exact if_pos ⟨h1,h2⟩
      rw [e]at hq
      exact hq
     ·exact no λz=>h2 (decide_eq_true z.2)
    ·exact⟨_,rfl,aX (no λz=>h1 (decide_eq_true z.1))⟩
  ·rintro Y H2 ⟨v1,v2,v3,rfl,rfl,hm⟩
   have e:(ps.map V.ref).length=rs.length:=by rw [List.length_map];exact cU hp
   rw [e,List.drop_length]at hm
   have hm:Strip.markOn rs day=none:=hm
   rw [hm]at hq
   exact hq
noncomputable abbrev vR:Stmt:=top 37
noncomputable abbrev zT:Stmt:=top 38
noncomputable abbrev vO:Stmt:=top 39
noncomputable abbrev qt:Stmt:=top 40
noncomputable abbrev jU:Stmt:=top 43
noncomputable abbrev fY:Stmt:=top 25
noncomputable abbrev nQ:Stmt:=top 26
noncomputable abbrev p4:Stmt:=top 27
noncomputable abbrev zU:Stmt:=top 28
noncomputable abbrev iI:Stmt:=top 34
noncomputable abbrev nV:Stmt:=top 35
def aq (H H':Hp):Prop:=∀b o,H b=some o->H' b=some o
theorem aq.refl {H:Hp}:aq H H:=λ_ _ e=>e
theorem aq.trans {H H1 H2:Hp} (g:aq H H1) (g':aq H1 H2):aq H H2:=λb o e=>g' b o (g b o e)
theorem aq.new {H:Hp}{a:Addr}{o:HO} (n:H a=none):aq H (upd H a o):=λb o e=>by rw [aj (al e n)];exact e
theorem aq.free {H H':Hp} (g:aq H H'){a:Addr} (n:H' a=none):H a=none:=by
 cases e:H a with
 | none=>rfl
 | some o=>rw [g a o e]at n;cases n
noncomputable abbrev fG:Str:=Str.ofString "abcdefghijklmnopqrstuvwxyz"
structure Con (mg:Str->Option Value):Prop where
 letters:∃t,mg "LETTERS" = some (.str fG t)
 eight:∃t,mg "MOST_LETTERS" = some (.int 8 t)
 lastday:∃t,mg "LAST_DAY" = some (.int 399 t)
 keys:∃t,mg "MOST_KEYS" = some (.int 8 t)
 deeds:∃t,mg "MOST_DEEDS" = some (.int 60 t)
 value:∃t,mg "MOST_VALUE" = some (.int 1000000000 t)
inductive vm (K:PySem.W.Frag) (vs:List V) (H:Hp) (Q:VK) (E:XK):Prop
 | mk (a:Addr) (ns:List Int) (k:Int) (h1:vs=[.ref a,.int k]) (h2:SqL K H a (ns.map V.int)) (h3:0<=k) (h4:∀n:Int,Q (.int n) H)
theorem zJ:FnScope ["_law_script", "_law_k"] ["_law_script", "_law_k"] (ao vR):=aZ
theorem yr (F:Fun K "_law_cell" "_law_cell" vR f fd) (N:Free mg):FnOk P w K mg base CX0 1 f fd ["_law_script", "_law_k"] (vm K):=by
 refine okF F zJ λcdv A outer s H vs Q E hr h=>?_
 ·obtain⟨a,ns,k,rfl,hS,hk,q⟩:=h
  refine⟨_,(ai (aO (aY sE (pv 1) (aA aG (by rfl) N.len PySem.boot_len (ae (pv 0) af)) (b9 _)) (am (aB (aH aR (pv 0) (pv 1) (λ_ _=>rfl)))) aE)
   (am (aB (aD bL (aD eS ah (pv 1)) ah)))),?_⟩
  refine⟨_,rfl,_,rfl,a,_,rfl,.inl hS,_,_,rfl,rfl,_,rfl,?_⟩
  refine iN (λhlt=>?_) (λ_=>?_)
  ·have hlt:k < ((ns.map V.int).length:Int):=of_decide_eq_true hlt
   rw [List.length_map]at hlt
   obtain⟨j,rfl⟩:∃j:Nat,k=(j:Int):=⟨k.toNat,by omega⟩
   have hk2:j < ns.length:=by omega
   refine⟨_,rfl,_,rfl,a,_,(j:Int),.int ns[j],rfl,rfl,hS,cq ?_,q _⟩
   rw [List.getElem?_map,List.getElem?_eq_getElem hk2]
   rfl
  ·exact⟨_,rfl,_,_,rfl,rfl,.inl ⟨by decide,by decide⟩,_,_,rfl,rfl,q _⟩
inductive rJ (vs:List V) (H:Hp) (Q:VK) (E:XK):Prop
 | mk (c k:Int) (h1:vs=[.int c,.int k]) (h2:0<=k) (h3:k<=1000) (h4:∀n:Int,0<=n->n < 2147483587->Q (.int n) H)
inductive nA (vs:List V) (H:Hp) (Q:VK) (E:XK):Prop
 | mk (c k m:Int) (h1:vs=[.int c,.int k,.int m]) (h2:0<=k) (h3:k<=1000) (h4:0 < m) (h5:∀n:Int,0<=n->n < m->Q (.int n) H)
inductive rG (vs:List V) (H:Hp) (Q:VK) (E:XK):Prop
 | mk (i:Int) (h1:vs=[.int i]) (h2:Q (.bl true) H)
theorem vC:FnScope ["_law_cell_here", "_law_k", "_law_number"] ["_law_cell_here", "_law_k"] (ao zT):=aZ
theorem Am (F:Fun K "_law_mix" "_law_mix" zT f fd)  : FnOk P w K mg base CX0 1 f fd ["_law_cell_here", "_law_k"] rJ:=by
 refine okF F vC λcdv A outer s H vs Q E hr h=>?_
 ·obtain⟨c,k,rfl,hk,hk2,q⟩:=h
  refine⟨_,(ai (aF (i:=2) vC.nd rfl (Or.inl rfl) (aD eT (aD eS (aD bL (aD eT (pv 0) ah) (aD eS ah (pv 1))) ah) ah))
   (ai (aF (i:=2) vC.nd rfl (Or.inl rfl) (aD eT (aD eS (pv 2) (pv 2)) ah))
   (am (aB (aD eT (aD bL (aD bL (aD eS (pv 2) (pv 2)) (aD eS ah (pv 2))) (pv 1)) ah))))),?_⟩
  have small:∀(x:Int){m:Int},0 < m->m < 2 ^ 64->-(2 ^ 64) < x % m/\x % m < 2 ^ 64:=λx m h1 h2=>by
   have a:=Int.emod_nonneg x (Int.ne_of_gt h1)
   have b:=Int.emod_lt_of_pos x h1
   omega
  refine⟨_,rfl,_,_,rfl,rfl,(by show (0:Int) < 2147483647;decide),_,rfl,_,_,rfl,rfl,.inl ⟨by decide,by decide⟩,_,_,rfl,rfl,_,_,rfl,rfl,.inr ⟨by decide,by decide⟩,_,_,rfl,rfl,(by show (0:Int) < 2147483647;decide),?_⟩
  refine⟨_,rfl,_,rfl,_,_,rfl,rfl,.inl (small _ (by decide) (by decide)),_,_,rfl,rfl,(by show (0:Int) < 2147483629;decide),?_⟩
  refine⟨_,rfl,_,rfl,_,_,rfl,rfl,.inl (small _ (by decide) (by decide)),_,rfl,_,_,rfl,rfl,.inl ⟨by decide,by decide⟩,_,_,rfl,rfl,_,rfl,_,_,rfl,rfl,_,_,rfl,rfl,(by show (0:Int) < 2147483587;decide),?_⟩
  exact q _ (Int.emod_nonneg _ (by decide)) (Int.emod_lt_of_pos _ (by decide))
theorem zI:FnScope ["_law_cell_here", "_law_k", "_law_many"] ["_law_cell_here", "_law_k", "_law_many"] (ao vO):=aZ
theorem yo (F:Fun K "_law_draw" "_law_draw" vO f fd) (CM:Cal P w K mg base "_law_mix" 1 ["_law_cell_here", "_law_k"] rJ f1 fd1):FnOk P w K mg base CX0 2 f fd ["_law_cell_here", "_law_k", "_law_many"] nA:=by
 refine okF F zI λcdv A outer s H vs Q E hr h=>?_
 ·obtain⟨c,k,m,rfl,hk,hk2,hm,q⟩:=h
  refine⟨_,(ai (aO (PW.pt (o7 (aY wv (pv 0) (aD cR ah ah) (b9 _)) (js (aY wu (aD wq (pv 0) (aD eS ah (pv 1))) ah (b9 _))))) (am (aB (aD eT (aD eT (aD wq (pv 0) (aD eS ah (pv 1))) (aD cR ah ah)) (pv 2)))) aE)
   (am (aB (aD eT (aW CM hr (ae (pv 0) (ae (pv 1) af))) (pv 2))))),?_⟩
  have hk0:(0:Int)<=40 * k:=by omega
  have fin:∀x:Int,0<=x % m/\x % m < m:=λx=>⟨Int.emod_nonneg x (by omega),Int.emod_lt_of_pos x hm⟩
  refine⟨_,rfl,10,18,rfl,rfl,⟨by decide,by decide,by decide⟩,_,_,rfl,rfl,_,rfl,?_⟩
  refine iN (λ_=>?_) (λ_=>aX ?_)
  ·refine⟨_,rfl,_,rfl,_,_,rfl,rfl,.inl ⟨by decide,by decide⟩,_,_,rfl,rfl,hk0,_,_,rfl,rfl,_,rfl,?_⟩
   refine iN (λ_=>?_) (λ_=>?_)
   ·exact⟨_,rfl,_,rfl,_,_,rfl,rfl,.inl ⟨by decide,by decide⟩,_,_,rfl,rfl,hk0,2,40,rfl,rfl,⟨by decide,by decide,by decide⟩,_,_,rfl,rfl,(by show (0:Int) < 2 ^ Int.toNat 40;decide),_,rfl,_,_,rfl,rfl,hm,q _ (fin _).1 (fin _).2⟩
   ·exact⟨_,rfl,_,rfl,c,k,rfl,hk,hk2,λn _ _=>⟨_,rfl,_,_,rfl,rfl,hm,q _ (fin _).1 (fin _).2⟩⟩
  ·exact⟨_,rfl,_,rfl,c,k,rfl,hk,hk2,λn _ _=>⟨_,rfl,_,_,rfl,rfl,hm,q _ (fin _).1 (fin _).2⟩⟩
theorem xV:FnScope ["_law_found"] ["_law_found"] (ao qt):=aZ
theorem wx (F:Fun K "_law_whole" "_law_whole" qt f fd) (N:Free mg):FnOk P w K mg base CX0 1 f fd ["_law_found"] rG:=by
 refine okF F xV λcdv A outer s H vs Q E hr h=>?_
 ·obtain⟨i,rfl,q⟩:=h
  refine⟨_,(am (aB (dL (aA bS (by rfl) N.isinstance PyProof.Rows.Boot.«isinstance» (ae (pv 0) (ae (cZ (v:=.ty "int") (by rfl) N.int PyProof.Rows.Boot.«int» rfl) af))) (eR (qE (aA bS (by rfl) N.isinstance PyProof.Rows.Boot.«isinstance» (ae (pv 0) (ae (cZ (v:=.ty "bool") (by rfl) N.bool PyProof.Rows.Boot.«bool» rfl) af)))))))),?_⟩
  exact⟨_,rfl,.int i,"int", _,true,rfl,.int i,by rfl,_,rfl,bG ⟨_,rfl,.int i,"bool", _,false,rfl,.int i,by rfl,_,rfl,q⟩⟩
theorem uQ (s:Int){d:Int} (h0:0<=d) (h1:d < 3) (hs:0 < s):∃m:Int,0 < m/\atI [V.int 1,V.int 5,V.int s] d=some (V.int m):=by
 rcases (show d=0\/d=1\/d=2 by omega) with rfl | rfl | rfl
 ·exact⟨1,by decide,rfl⟩
 ·exact⟨5,by decide,rfl⟩
 ·exact⟨s,hs,rfl⟩
inductive lQ (vs:List V) (H:Hp) (Q:VK) (E:XK):Prop
 | mk (c k s:Int) (h1:vs=[.int c,.int k,.int s]) (h2:0<=k) (h3:k<=900) (h4:0 < s) (h5:s<=400) (h6:∀(p:Addr) (x y:Int) (H':Hp),aq H H'->H' p=some (.tup [.int x,.int y])->0<=x->x<=y->y < 400->Q (.ref p) H')
theorem lY:FnScope ["_law_cell_here", "_law_k", "_law_span", "_law_first"] ["_law_cell_here", "_law_k", "_law_span"] (ao jU):=aZ
noncomputable abbrev Ab1 (P w K mg base f fd):=Cal P w K mg base "_law_draw" 2 ["_law_cell_here", "_law_k", "_law_many"] nA f fd
theorem qF (F:Fun K "_law_stretch" "_law_stretch" jU f fd) (N:Free mg) (CD:Ab1 P w K mg base f1 fd1):FnOk P w K mg base CX0 3 f fd ["_law_cell_here", "_law_k", "_law_span"] lQ:=by
 refine okF F lY λcdv A outer s H vs Q E hr h=>?_
 ·obtain⟨c,k,s,rfl,k0,k9,s0,s4,q⟩:=h
  refine⟨_,(ai (aO (aY dk (aW CD hr (ae (pv 0) (ae (pv 1) (ae ah af)))) ah (b9 _)) (am (aB (az (ae ah (ae ah af))))) aE)
   (ai (aF (i:=3) lY.nd rfl (Or.inl rfl) (aW CD hr (ae (pv 0) (ae (aD bL (pv 1) ah) (ae (pv 2) af)))))
   (am (aB (az (ae (pv 3) (ae (aA (mK rfl) (by rfl) N.min PyProof.Rows.Boot.«min» (ae (aD bL (pv 3) (aW CD hr (ae (pv 0) (ae (aD bL (pv 1) ah) (ae (aH aR (aM (ae ah (ae ah (ae (pv 2) af)))) (aW CD hr (ae (pv 0) (ae (aD bL (pv 1) ah) (ae ah af)))) (λ_ _=>rfl)) af))))) (ae (aD cJ (pv 2) ah) af))) af))))))),?_⟩
  refine⟨_,rfl,_,rfl,c,k,12,rfl,k0,by omega,by decide,λn _ _=>⟨rfl,_,rfl,iN (λ_=>?_) (λ_=>?_)⟩⟩
  ·exact⟨by show 2<=sizeLine;decide,λp np=>q p 0 399 _ (aq.new np) ag (by decide) (by decide) (by decide)⟩
  ·refine⟨_,rfl,_,rfl,_,_,rfl,rfl,_,rfl,c,_,s,rfl,by omega,by omega,s0,λx x0 x1=>?_⟩
   refine⟨_,rfl,_,rfl,_,rfl,_,rfl,_,_,rfl,rfl,_,rfl,by show 3<=sizeLine;decide,λl nl=>?_⟩
   refine⟨_,rfl,_,rfl,_,_,rfl,rfl,c,_,3,rfl,by omega,by omega,by decide,λd d0 d1=>?_⟩
   obtain⟨m,m0,em⟩:=uQ s d0 d1 s0
   refine⟨l,_,d,V.int m,rfl,rfl,SqL.of ag,em,c,_,m,rfl,by omega,by omega,m0,λy y0 y1=>?_⟩
   refine⟨_,_,rfl,rfl,_,rfl,_,_,rfl,rfl,_,_,rfl,by show 2<=sizeLine;decide,λp np=>?_⟩
   exact q p x _ _ ((aq.new nl).trans (aq.new np)) ag x0 (by split <;> omega) (by split <;> omega)
noncomputable def inZ (z:Str) (c:Nat):Bool:=decide (c∈z.cps.toList)
noncomputable def ip (x z:Str) (m:Int):Bool:=decide (1<=(x.length:Int)) && (decide ((x.length:Int)<=m) && x.cps.toList.all (inZ z))
inductive rN (vs:List V) (H:Hp) (Q:VK) (E:XK):Prop
 | mk (x z:Str) (m:Int) (h1:vs=[.str x,.str z,.int m]) (h2:x.length < sizeLine) (h3:∀H',aq H H'->Q (.bl (ip x z m)) H')
theorem uT {Y:St}{H:Hp}{Q:VK}{x z:Str} (e0:Y[0]?=some (some (.str x))) (e1:Y[1]?=some (some (.str z))) (hl:x.length < sizeLine)
  (hq:∀(D:Addr) (H':Hp),H D=none->aq H H'->H' D=some (.lst ((x.cps.toList.map (inZ z)).map V.bl))->Q (.ref D) H') :
  ja (BG (cr 0)) [1] (λ_ H Q=>Q true H) (tOp (λx y H Q=>∃i j,x=.str i/\y=.str j/\Q (.bl (!(Builtin.Str.occurrences j i 0 j.length 1).isEmpty)) H) (cr 0) (cr 1)) Y H Q:=by
 have es:cj [1] Y=[some (.str z)]:=by
  show [(Y[1]?).join]=_
  rw [e1];rfl
 refine⟨_,e0,x,rfl,λD nD=>xq (x:=x) (sub:=[1]) (tt:=λ_ H Q=>Q true H) (te:=tOp (λx y H Q=>∃i j,x=.str i/\y=.str j/\Q (.bl (!(Builtin.Str.occurrences j i 0 j.length 1).isEmpty)) H) (cr 0) (cr 1)) (Q:=Q) (Y:=Y)
  (λi ys H2=>ys=((x.cps.toList.take i).map (inZ z)).map V.bl/\H2=upd H D (.lst ys)) ⟨rfl,rfl⟩ (λi c ys H2 hi hh=>?_) λys H2 hh=>?_⟩
 ·obtain⟨rfl,rfl⟩:=hh
  rw [es]
  show (if true=true then _ else _)
  rw [if_pos rfl]
  have hi':x.cps.toList[i]?=some c:=by simpa using hi
  have hil:i < x.cps.size:=(Array.getElem?_eq_some_iff.mp hi).1
  refine⟨_,rfl,_,rfl,_,_,rfl,rfl,ag,?_,?_,?_⟩
  ·rw [List.length_map,List.length_map,List.length_take]
   have:x.length < sizeLine:=hl
   have e:x.cps.toList.length=x.length:=by simp [Str.length]
   rw [e]
   omega
  ·rw [List.take_add_one,hi',List.map_append,List.map_append,PySem.StrLaws.found_one]
   rfl
  ·rw [ix]
 ·obtain⟨rfl,rfl⟩:=hh
  refine hq D _ nD (aq.new nD) ?_
  rw [ag,List.take_of_length_le (by simp)]
theorem Bl:FnScope ["text", "signs", "most"] ["text", "signs", "most"] (ao zU):=aZ
theorem Ao (F:Fun K "has_only" "has_only" zU f fd) (N:Free mg):FnOk P w K mg base CX0 1 f fd ["text", "signs", "most"] rN:=by
 refine okF F Bl λcdv A outer s H vs Q E hr h=>?_
 ·obtain⟨x,z,m,rfl,hl,hq⟩:=h
  refine⟨_,am (aB (dL (kr fO fO ah (aA iQ (by rfl) N.len PySem.boot_len (ae (pv 0) af)) (pv 2))
   (eR (aA (j8 rfl) (by rfl) N.all PyProof.Rows.Boot.«all» (ae (wl (y:="signs") (i:=1) rfl (A9 (pv 0)) rfl rfl (by decide) (by decide) rfl (by decide) rfl (.inr (.inl rfl)) (by show (some NameKind.cell)≠some NameKind.local;decide) (.inl rfl) rfl (λC fp s H=>cM) (λC fp s H=>fA tQ (pv 0) (pv 1) (by with_unfolding_all rfl))) af))))),?_⟩
  have gr:∀{b},ip x z m=b->Q (.bl b) H:=λ{b} e=>by rw [<- e];exact hq H aq.refl
  refine⟨_,rfl,x,rfl,Nat.le_of_lt hl,_,_,rfl,rfl,_,rfl,iN (λh1=>?_) λh1=>⟨_,rfl,aX (gr ?_)⟩⟩
  ·refine⟨_,rfl,_,_,rfl,rfl,_,rfl,iN (λh2=>?_) λh2=>gr ?_⟩
   ·unfold tCB aV
    refine uT rfl rfl hl λD H' nD g hD=>⟨D,_,rfl,SqL.of hD,?_⟩
    have e:ip x z m=(x.cps.toList.map (inZ z)).all id:=by
     unfold ip
     rw [h1,h2,Bool.true_and,Bool.true_and,List.all_map];rfl
    rw [<- e]
    exact hq H' g
   ·unfold ip
    rw [Bool.eq_false_iff.mpr h2,Bool.false_and,Bool.and_false]
  ·unfold ip
   rw [Bool.eq_false_iff.mpr h1,Bool.false_and]
inductive lR (vs:List V) (H:Hp) (Q:VK) (E:XK):Prop
 | mk (i lo hi:Int) (h1:vs=[.int i,.int lo,.int hi]) (h2:Q (.bl (decide (lo<=i) && decide (i<=hi))) H)
inductive rL (vs:List V) (H:Hp) (Q:VK) (E:XK):Prop
 | mk (i:Int) (h1:vs=[.int i]) (h2:Q (.bl (decide (0<=i) && decide (i<=399))) H)
inductive mZ (vs:List V) (H:Hp) (Q:VK) (E:XK):Prop
 | mk (x:Str) (h1:vs=[.str x]) (h2:x.length < sizeLine) (h3:∀H',aq H H'->Q (.bl (ip x fG 8)) H')
inductive nB (vs:List V) (H:Hp) (Q:VK) (E:XK):Prop
 | mk (f l:Int) (h1:vs=[.int f,.int l]) (h2:0<=f) (h3:f<=l) (h4:l < 400) (h5:Q .non H)
theorem lZ:FnScope ["thing", "low", "high"] ["thing", "low", "high"] (ao fY):=aZ
theorem kC (F:Fun K "is_whole" "is_whole" fY f fd) (N:Free mg):FnOk P w K mg base CX0 1 f fd ["thing", "low", "high"] lR:=by
 refine okF F lZ λcdv A outer s H vs Q E hr h=>?_
 ·obtain⟨i,lo,hi,rfl,q⟩:=h
  refine⟨_,(am (aB (dL (aA bS (by rfl) N.isinstance PyProof.Rows.Boot.«isinstance» (ae (pv 0) (ae (cZ (v:=.ty "int") (by rfl) N.int PyProof.Rows.Boot.«int» rfl) af))) (dL (qE (aA bS (by rfl) N.isinstance PyProof.Rows.Boot.«isinstance» (ae (pv 0) (ae (cZ (v:=.ty "bool") (by rfl) N.bool PyProof.Rows.Boot.«bool» rfl) af)))) (eR (kr fO fO (pv 1) (pv 0) (pv 2))))))),?_⟩
  refine⟨_,rfl,.int i,"int", _,true,rfl,.int i,by rfl,_,rfl,bG ⟨_,rfl,.int i,"bool", _,false,rfl,.int i,by rfl,_,rfl,_,rfl,bG ?_⟩⟩
  refine⟨_,rfl,_,rfl,_,_,rfl,rfl,_,rfl,iN (λh1=>⟨_,rfl,_,_,rfl,rfl,?_⟩) λh1=>?_⟩
  ·rw [h1,Bool.true_and]at q
   exact q
  ·rw [Bool.eq_false_iff.mpr h1,Bool.false_and]at q
   exact q
theorem rX:FnScope ["thing"] ["thing"] (ao nQ):=aZ
noncomputable abbrev Ab2 (P w K mg base f fd):=Cal P w K mg base "is_whole" 1 ["thing", "low", "high"] lR f fd
theorem wF (F:Fun K "is_day" "is_day" nQ f fd) (N:Con mg) (CW:Ab2 P w K mg base f1 fd1):FnOk P w K mg base CX0 2 f fd ["thing"] rL:=by
 obtain⟨t1,c1⟩:=N.lastday
 refine okF F rX λcdv A outer s H vs Q E hr h=>?_
 ·obtain⟨i,rfl,q⟩:=h
  refine⟨_,(am (aB (aW CW hr (ae (pv 0) (ae ah (ae (bR (v:=.int 399) (by rfl) c1 ⟨_,rfl⟩) af)))))),?_⟩
  exact⟨_,rfl,i,0,399,rfl,q⟩
theorem vy:FnScope ["thing"] ["thing"] (ao p4):=aZ
theorem sG (F:Fun K "is_name" "is_name" p4 f fd) (N:Free mg) (C:Con mg) (CH:Cal P w K mg base "has_only" 1 ["text", "signs", "most"] rN f1 fd1):FnOk P w K mg base CX0 2 f fd ["thing"] mZ:=by
 obtain⟨t1,c1⟩:=C.letters
 obtain⟨t2,c2⟩:=C.eight
 refine okF F vy λcdv A outer s H vs Q E hr h=>?_
 ·obtain⟨x,rfl,hl,hq⟩:=h
  refine⟨_,(am (aB (dL (aA bS (by rfl) N.isinstance PyProof.Rows.Boot.«isinstance» (ae (pv 0) (ae (cZ (v:=.ty "str") (by rfl) N.str PyProof.Rows.Boot.«str» rfl) af))) (eR (aW CH hr (ae (pv 0) (ae (bR (v:=.str fG) (by rfl) c1 ⟨_,rfl⟩) (ae (bR (v:=.int 8) (by rfl) c2 ⟨_,rfl⟩) af)))))))),?_⟩
  exact⟨_,rfl,.str x,"str", _,true,rfl,.str x,by rfl,_,rfl,bG ⟨_,rfl,x,fG,8,rfl,hl,hq⟩⟩
theorem rZ:FnScope ["first", "last"] ["first", "last"] (ao nV):=aZ
theorem pj (F:Fun K "check_stretch" "check_stretch" nV f fd) (N:Con mg) (CW:Ab2 P w K mg base f1 fd1) (CY:Cal P w K mg base "is_day" 2 ["thing"] rL f2 fd2):FnOk P w K mg base CX0 3 f fd ["first", "last"] nB:=by
 obtain⟨t1,c1⟩:=N.lastday
 refine okF F rZ λcdv A outer s H vs Q E hr h=>?_
 ·obtain⟨f,l,rfl,h0,h1,h2,q⟩:=h
  refine⟨_,(ai (aO (bQ (bH (aW CY hr (ae (pv 0) af)))) (am cK) aE)
   (am (aO (bQ (bH (aW CW hr (ae (pv 1) (ae (pv 0) (ae (bR (v:=.int 399) (by rfl) c1 ⟨_,rfl⟩) af)))))) (am cK) aE))),?_⟩
  refine⟨_,rfl,f,rfl,_,rfl,?_⟩
  rw [show (decide (0<=f) && decide (f<=399))=true from by rw [decide_eq_true h0,decide_eq_true (show f<=399 by omega)];rfl]
  refine aX ⟨_,rfl,_,rfl,l,f,399,rfl,_,rfl,?_⟩
  rw [show (decide (f<=l) && decide (l<=399))=true from by rw [decide_eq_true h1,decide_eq_true (show l<=399 by omega)];rfl]
  exact aX q
end Mine
namespace L2
open PySem PySem.Spec PyProof.Rows
theorem cE {α β:Type}{F:α->β->Prop}:∀{xs:List α}{ys:List β}{x:α}{y:β},Paired F xs ys->F x y->Paired F (xs++[x]) (ys++[y])
 | _,_,_,_,.nil,h=>.cons h .nil
 | _,_,_,_,.cons a t,h=>.cons a (cE t h)
section
variable {D:Ends}{Y:St}{H:Hp}{Q:VK}
theorem aI (h:D.nx Y H):oN D Y H:=h
theorem bj {te:TE} (h:te Y H D.rt):B3 te D Y H:=h
theorem bE {te:TE} (h:te Y H λ_ H1=>D.nx Y H1):yW te D Y H:=h
theorem au {t u:TS} (h:t { D with nx:=u D } Y H):B2 t u D Y H:=h
theorem o6 {ta tb:TE} (h:ta Y H λx H1=>∃c,x=.bl c/\if c=true then tb Y H1 Q else Q (.bl false) H1):yY ta tb Y H Q:=h
theorem sq {r:List V->Hp->VK->Prop}{t:TA} (h:t Y H λvs H1=>r vs H1 Q):tCB r t Y H Q:=h
theorem fq {ta:TE}{tr:TA}{R:List V->Hp->Prop} (h:ta Y H λx H1=>tr Y H1 λxs H2=>R (x::xs) H2):aV ta tr Y H R:=h
theorem jY {r:R2}{ta tb:TE} (h:ta Y H λx H1=>tb Y H1 λy H2=>r x y H2 Q):tOp r ta tb Y H Q:=h
theorem A0 {K:PySem.W.Frag}{ta tv:TE}{f:Str} (h:tv Y H λy H1=>ta Y H1 λx H2=>∃a C dx fs,x=.ref a/\H2 a=some (.ins C dx fs)/\Cls K C/\NoAttr K C f/\fs.length < 1000/\D.nx Y (upd H2 a (.ins C dx (bf f y fs)))):Bp K ta tv f D Y H:=h
theorem vX {t:TA} (h:t Y H λxs H1=>xs.length<=sizeLine/\∀p,H1 p=none->Q (.ref p) (upd H1 p (.lst xs))):gY t Y H Q:=h
theorem kb {K:PySem.W.Frag}{T:String}{r:V->List V->Hp->VK->Prop}{to:TE}{t:TA} (h:to Y H λx H1=>tyV K T x H1/\t Y H1 λxs H2=>r x xs H2 Q):tBM K T r to t Y H Q:=h
theorem aK {te:TE}{g:TG} (h:te Y H λx H1=>g x Y H1 D.nx):qk te g D Y H:=h
end
end L2
namespace L2
open PySem PySem.Spec PyProof.Rows
theorem dP (x:Str):x.length=x.cps.toList.length:=by simp [Str.length]
theorem ze {x:Str}{n:Nat} (h:n<=x.length):(Txt.slice x none (some (n:Int))).cps.toList=x.cps.toList.take n:=by
 rw [eq_of_beq (slice_to_min_closes (x:=x) (n:=(n:Int)) (m:=if (x.length:Int) < n then (x.length:Int) else n) (by omega) rfl),if_neg (by omega)]
 show (x.cps.toList.drop 0).take ((n:Int) - 0).toNat=_
 rw [List.drop_zero,Int.sub_zero,Int.toNat_natCast]
theorem xT {x:Str}{n:Nat} (h:n<=x.length):(Txt.slice x (some (n:Int)) none).cps.toList=x.cps.toList.drop n:=by
 rw [slice_from_eq (x:=x) (i:=(n:Int)) (b:=x.length) (by omega) (by omega) rfl]
 show (x.cps.toList.drop (n:Int).toNat).take _=_
 rw [Int.toNat_natCast,List.take_of_length_le]
 rw [List.length_drop,<- dP]
 omega
theorem fM (x y:Str):(x++y).cps.toList=x.cps.toList++y.cps.toList:=by
 show (x.cps++y.cps).toList=_
 rw [Array.toList_append]
theorem wY (zs:List Str):(Str.join (Str.ofString "") zs).cps.toList=(zs.map λz=>z.cps.toList).flatten:=by
 induction zs with
 | nil=>rfl
 | cons z zs ih=>
  cases zs with
  | nil=>simp [Str.join]
  | cons y ys=>
   show (z++Str.ofString ""++Str.join (Str.ofString "") (y::ys)).cps.toList=_
   rw [fM,fM,ih,List.map_cons (l:=y::ys),List.flatten_cons,show (Str.ofString "").cps.toList=[] from rfl,List.append_nil]
theorem BF (zs:List Str):(Txt.join (Str.ofString "") zs).cps.toList=(zs.map λz=>z.cps.toList).flatten:=by
 show (Builtin.Str.glued (Str.ofString "") zs).cps.toList=_
 rw [StrLaws.glued_eq_join]
 exact wY zs
theorem xP {x y:Str} (h:x.cps.toList=y.cps.toList):x=y:=by
 cases x;cases y
 congr 1
 exact Array.toList_inj.mp h
noncomputable def kL (b:List Nat) (at_ s k:Nat):List Nat:=b.take at_++(s::b.drop at_)++List.replicate (k % 3) 122
theorem sP {b:List Nat}{at_ s k:Nat} (h:at_<=b.length):(kL b at_ s k)[at_]?=some s:=by
 unfold kL
 rw [List.append_assoc,List.getElem?_append_right (by rw [List.length_take];omega),List.length_take,Nat.min_eq_left h,Nat.sub_self]
 rfl
theorem wW {b:List Nat}{at_ s k:Nat} (h:at_<=b.length):(kL b at_ s k).length=b.length+1+k % 3:=by
 unfold kL
 rw [List.length_append,List.length_append,List.length_cons,List.length_take,List.length_drop,List.length_replicate,Nat.min_eq_left h]
 omega
theorem wV {b:List Nat}{at_ s k:Nat}{P:Nat->Prop} (hb:∀c∈b,P c) (hs:P s) (hz:P 122):∀c∈kL b at_ s k,P c:=λc hc=>by
 unfold kL at hc
 rcases List.mem_append.mp hc with hc | hc
 ·rcases List.mem_append.mp hc with hc | hc
  ·exact hb c (List.mem_of_mem_take hc)
  ·rcases List.mem_cons.mp hc with hc | hc
   ·rw [hc];exact hs
   ·exact hb c (List.mem_of_mem_drop hc)
 ·rw [(List.mem_replicate.mp hc).2];exact hz
theorem xQ {f s k k':Int} (hs:s=1\/s=5\/s=7\/s=9\/s=25) (h0:0<=k) (h1:k < 8) (h2:0<=k') (h3:k' < 8) (e:(f+s * k) % 26=(f+s * k') % 26):k=k':=by
 rcases hs with rfl | rfl | rfl | rfl | rfl <;> omega
theorem rQ {P:Nat->Prop}:∀{ys:List V},(∀(i:Nat) (y:V),ys[i]?=some y->∃d:Nat,P d/\y=V.str ⟨#[d]⟩)->∃ds:List Nat,ys=(ds.map λd=>(⟨#[d]⟩:Str)).map V.str/\(∀d∈ds,P d)/\ds.length=ys.length
 | [],_=>⟨[],rfl,(λ_ h=>nomatch h),rfl⟩
 | y::ys,h=>by
  obtain⟨d,h1,h2⟩:=h 0 y rfl
  obtain⟨ds,e1,e2,e3⟩:=rQ (ys:=ys) λi z e=>h (i+1) z (by simpa using e)
  refine⟨d::ds,by rw [h2,List.map_cons,List.map_cons,<- e1],λx hx=>?_,by rw [List.length_cons,List.length_cons,e3]⟩
  rcases List.mem_cons.mp hx with hx | hx
  ·rw [hx];exact h1
  ·exact e2 x hx
theorem iO:∀ds:List Nat,((ds.map λd=>(⟨#[d]⟩:Str)).map λz=>z.cps.toList).flatten=ds
 | []=>rfl
 | d::ds=>by rw [List.map_cons,List.map_cons,List.flatten_cons,iO ds];rfl
theorem jb:∀ds:List Nat,((ds.map λd=>(⟨#[d]⟩:Str)).map (·.length)).sum=ds.length
 | []=>rfl
 | d::ds=>by rw [List.map_cons,List.map_cons,List.sum_cons,jb ds,List.length_cons];show 1+_=_;omega
theorem wQ {α β:Type}{f:Nat->β}{g:β->α}{n:Nat}{ys:List α} (hl:ys.length=n) (h:∀(i:Nat) (y:α),ys[i]?=some y->y=g (f i)):ys=((List.range n).map f).map g:=by
 apply List.ext_getElem?
 intro i
 rw [List.map_map,List.getElem?_map]
 by_cases hi:i < n
 ·rw [List.getElem?_range hi]
  have e:=List.getElem?_eq_getElem (l:=ys) (i:=i) (by omega)
  rw [e,h i _ e]
  rfl
 ·rw [List.getElem?_eq_none (by omega),List.getElem?_eq_none (by rw [List.length_range];omega)]
  rfl
end L2
namespace L2
open PySem PySem.Spec PyProof.Rows
def mR (J:It) (sub:List Nat) (tt:TT) (te:TE) (Y:St) (Q:VK) (H1:Hp):Prop:=∀D,H1 D=none->∃W:Nat->Nat->List V->Hp->Prop,(∃m,W 0 m [] (upd H1 D (.lst [])))/\∀i m ys H2,W i m ys H2->
 (J.stop i H2/\Q (.ref D) H2)\/(J.go i H2/\∃N:List V->Hp->Prop,(∀ys' H',N ys' H'->∃m',m' < m/\W (i+1) m' ys' H')/\∀v H3,J.yld i H2 v H3->tt (some v::cj sub Y) H3 λb H4=>if b=true then
  te (some v::cj sub Y) H4 λy H5=>H5 D=some (.lst ys)/\ys.length < sizeLine/\N (ys++[y]) (upd H5 D (.lst (ys++[y])))
  else N ys H4)
def xG (K:PySem.W.Frag) (J:It) (sub:List Nat) (tt:TT) (te:TE) (Y:St) (Q:VK) (H1:Hp):Prop:=∀D,H1 D=none->∃W:Nat->Nat->List V->Hp->Prop,(∃m,W 0 m [] (upd H1 D (.lst [])))/\∀i m ys H2,W i m ys H2->
 (J.stop i H2/\Q (.ref D) H2)\/(J.go i H2/\∃N:List V->Hp->Prop,(∀ys' H',N ys' H'->∃m',m' < m/\W (i+1) m' ys' H')/\∀v H3,J.yld i H2 v H3->∃(t:Addr) (a b:V),v=.ref t/\SqT K H3 t [a,b]/\tt (some a::some b::cj sub Y) H3 λc H4=>if c=true then
  te (some a::some b::cj sub Y) H4 λy H5=>H5 D=some (.lst ys)/\ys.length < sizeLine/\N (ys++[y]) (upd H5 D (.lst (ys++[y])))
  else N ys H4)
section
variable {wi:TI}{sub:List Nat}{tt:TT}{te:TE}{Y:St}{H:Hp}{Q:VK}{K:PySem.W.Frag}
theorem eK (h:wi Y H λJ H1=>mR J sub tt te Y Q H1):ja wi sub tt te Y H Q:=h
theorem vY (h:wi Y H λJ H1=>xG K J sub tt te Y Q H1):qj K wi sub tt te Y H Q:=h
theorem je {n:Nat} (P:Nat->V->Prop) (hn:n<=1000) (hte:∀(i:Nat) (H2:Hp) (R:VK),i < n->(∀y,P i y->R y H2)->te (some (.int (0+(i:Int)))::cj sub Y) H2 R)
  (hq:∀(D:Addr) (ys:List V),H D=none->ys.length=n->(∀(i:Nat) (y:V),ys[i]?=some y->P i y)->Q (.ref D) (upd H D (.lst ys))):mR (Itr 0 n) sub (λ_ H Q=>Q true H) te Y Q H:=by
 intro D nD
 refine ir (lo:=0) (n:=n) (sub:=sub) (tt:=λ_ H Q=>Q true H) (te:=te) (Q:=Q) (Y:=Y) (λi ys H2=>ys.length=i/\(∀(j:Nat) (y:V),ys[j]?=some y->P j y)/\H2=upd H D (.lst ys)) ⟨rfl,(λj y e=>by simp at e),rfl⟩ (λi ys H2 hi hh=>?_) λys H2 hh=>?_
 ·obtain⟨e1,e2,rfl⟩:=hh
  refine bG (hte i _ _ hi λy hy=>⟨ag,bq (by omega),by rw [List.length_append,e1];rfl,λj z ez=>?_,ix⟩)
  by_cases hj:j < ys.length
  ·rw [List.getElem?_append_left hj]at ez
   exact e2 j z ez
  ·have hj2:j=i:=by
    have:=(List.getElem?_eq_some_iff.mp ez).1
    rw [List.length_append]at this
    have:j < ys.length+1:=this
    omega
   rw [List.getElem?_append_right (by omega),hj2,e1,Nat.sub_self]at ez
   cases (show some y=some z from ez)
   rw [hj2]
   exact hy
 ·obtain⟨e1,e2,rfl⟩:=hh
  exact hq D ys nD e1 e2
theorem oo {n:Nat}{c:Nat->Bool} (hn:n<=1000) (htt:∀(i:Nat) (H2:Hp) (R:Bool->Hp->Prop),i < n->(∀b o,H b=some o->H2 b=some o)->R (c i) H2->tt (some (.int (0+(i:Int)))::cj sub Y) H2 R)
  (hte:∀(i:Nat) (H2:Hp) (R:VK),i < n->R (.int (i:Int)) H2->te (some (.int (0+(i:Int)))::cj sub Y) H2 R)
  (hq:∀(D:Addr),H D=none->Q (.ref D) (upd H D (.lst (((List.range n).filter c).map λi:Nat=>V.int (i:Int))))):mR (Itr 0 n) sub tt te Y Q H:=by
 intro D nD
 refine ir (lo:=0) (n:=n) (sub:=sub) (tt:=tt) (te:=te) (Q:=Q) (Y:=Y) (λi ys H2=>ys=((List.range i).filter c).map (λi:Nat=>V.int (i:Int))/\H2=upd H D (.lst ys)) ⟨rfl,rfl⟩ (λi ys H2 hi hh=>?_) λys H2 hh=>?_
 ·obtain⟨rfl,rfl⟩:=hh
  refine htt i _ _ hi (λb o e=>by rw [aj (al e nD)];exact e) ?_
  have lf:(((List.range i).filter c).map λi:Nat=>V.int (i:Int)).length<=i:=by
   rw [List.length_map]
   have:=List.length_filter_le c (List.range i)
   rw [List.length_range]at this
   exact this
  cases hc:c i with
  | true=>
   refine bG (hte i _ _ hi ⟨ag,bq (by omega),?_,ix⟩)
   rw [List.range_succ,List.filter_append,List.map_append,List.filter_cons,hc];rfl
  | false=>
   refine aX ⟨?_,?_⟩
   ·rw [List.range_succ,List.filter_append,List.map_append,List.filter_cons,hc];simp
   ·rfl
 ·obtain⟨rfl,rfl⟩:=hh
  exact hq D nD
theorem r8 {a:Addr}{xs:List V} (P:Nat->V->Prop) (ha:H a=some (.lst xs)) (hn:xs.length<=1000) (hte:∀(i:Nat) (x:V) (H2:Hp) (R:VK),xs[i]?=some x->(∀y,P i y->R y H2)->te (some (.int (i:Int))::some x::cj sub Y) H2 R)
  (hq:∀(D:Addr) (ys:List V) (H':Hp),H D=none->(∀b o,H b=some o->H' b=some o)->H' D=some (.lst ys)->ys.length=xs.length->(∀(i:Nat) (y:V),ys[i]?=some y->P i y)->Q (.ref D) H'):xG K (Ite K a) sub (λ_ H Q=>Q true H) te Y Q H:=by
 intro D nD
 refine uz (K:=K) (a:=a) (xs:=xs) (sub:=sub) (tt:=λ_ H Q=>Q true H) (te:=te) (Q:=Q) (Y:=Y) (λi ys H2=>ys.length=i/\(∀(j:Nat) (y:V),ys[j]?=some y->P j y)/\(∀b o,H b=some o->H2 b=some o)/\H2 D=some (.lst ys))
  ⟨rfl,(λj y e=>by simp at e),(λb o e=>by rw [aj (al e nD)];exact e),ag⟩ (λi ys H2 _ hh=>SqL.of (hh.2.2.1 _ _ ha)) (λi x ys H2 t hx hh nt=>?_) λys H2 hh=>?_
 ·obtain⟨e1,e2,g,hD⟩:=hh
  have hi:=(List.getElem?_eq_some_iff.mp hx).1
  have hD2:upd H2 t (.tup [.int (i:Int),x]) D=some (.lst ys):=by rw [aj (al hD nt)];exact hD
  refine bG (hte i x _ _ hx λy hy=>⟨hD2,bq (by omega),by rw [List.length_append,e1];rfl,λj z ez=>?_,λb o e=>?_,ag⟩)
  ·by_cases hj:j < ys.length
   ·rw [List.getElem?_append_left hj]at ez
    exact e2 j z ez
   ·have hj2:j=i:=by
     have:=(List.getElem?_eq_some_iff.mp ez).1
     rw [List.length_append]at this
     have:j < ys.length+1:=this
     omega
    rw [List.getElem?_append_right (by omega),hj2,e1,Nat.sub_self]at ez
    cases (show some y=some z from ez)
    rw [hj2]
    exact hy
  ·rw [aj (al e nD),aj (al (g _ _ e) nt)]
   exact g _ _ e
 ·obtain⟨e1,e2,g,hD⟩:=hh
  exact hq D ys H2 nD g hD e1 e2
end
end L2
namespace Mine
open PySem L2
variable {P:Program}{w:World}{K:PySem.W.Frag}{mg:Str->Option Value}{base:Heap}
noncomputable abbrev vM:Stmt:=top 41
theorem wR {i:Int} (h0:0<=i) (h1:i < 26):atI fG.cps.toList i=some (97+i.toNat):=by
 obtain⟨j,rfl⟩:∃j:Nat,i=(j:Int):=⟨i.toNat,by omega⟩
 refine cq ?_
 have hj:j < 26:=by omega
 rw [Int.toNat_natCast]
 have:∀j,j < 26->fG.cps.toList[j]?=some (97+j):=by decide +kernel
 exact this j hj
theorem xi {d:Int} (h0:0<=d) (h1:d < 5):∃s:Int,(s=1\/s=5\/s=7\/s=9\/s=25)/\atI [V.int 1,V.int 5,V.int 7,V.int 9,V.int 25] d=some (V.int s):=by
 rcases (show d=0\/d=1\/d=2\/d=3\/d=4 by omega) with rfl | rfl | rfl | rfl | rfl
 ·exact⟨1,by simp,rfl⟩
 ·exact⟨5,by simp,rfl⟩
 ·exact⟨7,by simp,rfl⟩
 ·exact⟨9,by simp,rfl⟩
 ·exact⟨25,by simp,rfl⟩
def oB (c:Nat):Prop:=97<=c/\c<=122
theorem yA {c:Nat} (h:oB c):inZ fG c=true:=by
 unfold inZ
 refine decide_eq_true ?_
 have:∀c,c < 123->97<=c->c∈fG.cps.toList:=by decide +kernel
 exact this c (by unfold oB at h;omega) h.1
structure KeyOk (k:Str):Prop where
 has:ip k fG 8=true
 len:k.length < sizeLine
 nm:Nm k
 l7:k.length<=7
theorem wX {k:Str} (h1:1<=k.length) (h2:k.length<=7) (hc:∀c∈k.cps.toList,oB c):KeyOk k:=by
 refine⟨?_,Nat.lt_of_le_of_lt h2 (by decide),?_,h2⟩
 ·unfold ip
  rw [decide_eq_true (show (1:Int)<=k.length by omega),decide_eq_true (show (k.length:Int)<=8 by omega),Bool.true_and,Bool.true_and,List.all_eq_true]
  exact λc hcc=>yA (hc c hcc)
 ·unfold Nm
  rw [<- Array.all_toList,List.all_eq_true]
  intro c hcc
  have:=hc c hcc
  unfold oB at this
  exact decide_eq_true (by omega)
inductive vg (vs:List V) (H:Hp) (Q:VK) (E:XK):Prop
 | mk (c:Int) (h1:vs=[.int c]) (h2:∀(l:Addr) (ks:List Str) (H':Hp),H l=none->aq H H'->H' l=some (.lst (ks.map V.str))->1<=ks.length->ks.length<=8->ks.Nodup->(∀k∈ks,KeyOk k)->Q (.ref l) H')
theorem fV:FnScope ["_law_cell_here", "_law_letters", "_law_base", "_law_at", "_law_first", "_law_step", "_law_many", "_law_signs"] ["_law_cell_here"] (ao vM):=aZ
theorem yk (F:Fun K "_law_keys" "_law_keys" vM f fd) (N:Free mg) (CD:Ab1 P w K mg base f1 fd1) (CM:Cal P w K mg base "_law_mix" 1 ["_law_cell_here", "_law_k"] rJ f2 fd2):FnOk P w K mg base CX0 3 f fd ["_law_cell_here"] vg:=by
 refine okF F fV λcdv A outer s H vs Q E hr h=>?_
 ·obtain⟨c,rfl,q⟩:=h
  refine⟨_,(ai (aF (i:=1) fV.nd rfl (Or.inr rfl) ay)
   (ai (aF (i:=2) fV.nd rfl (Or.inr rfl) (dO PySem.F.plainAttrs_str PySem.F.slot_str_join PySem.F.type_str_join yx ay (ae (gz (bW rfl (eY rfl N.range (ae (aW CD hr (ae (pv 0) (ae ah (ae ah af)))) af)) rfl rfl (by show ∀p∈_,gI [Str.ofString "_law_letters", Str.ofString "_law_cell_here"] p;decide) (by decide) rfl (by show ([Str.ofString "_law_j", Str.ofString "_law_letters", Str.ofString "_law_cell_here"]:List Str).Nodup;decide) (.cons (i:=1) rfl (.inr (.inl rfl)) (by show (some NameKind.cell)≠some NameKind.local;decide) (.inl rfl) rfl (.cons (i:=0) rfl (.inr (.inl rfl)) (by show (some NameKind.cell)≠some NameKind.local;decide) (.inl rfl) rfl .nil)) (λC fp s H=>cM) (λC fp s H=>(aH wZ (pv 1) (aD eT (aW CM hr (ae (pv 2) (ae (aD bL ah (pv 0)) af))) ah) (λ_ _=>rfl))))) af)))
   (ai (aF (i:=3) fV.nd rfl (Or.inr rfl) (aW CD hr (ae (pv 0) (ae ah (ae (aD bL (aA iQ (by rfl) N.len PySem.boot_len (ae (pv 2) af)) ah) af)))))
   (ai (aF (i:=4) fV.nd rfl (Or.inr rfl) (aW CD hr (ae (pv 0) (ae ah (ae ah af)))))
   (ai (aF (i:=5) fV.nd rfl (Or.inr rfl) (aH aR (aM (ae ah (ae ah (ae ah (ae ah (ae ah af)))))) (aW CD hr (ae (pv 0) (ae ah (ae ah af)))) (λ_ _=>rfl)))
   (ai (aF (i:=6) fV.nd rfl (Or.inl rfl) (aD bL ah (aW CD hr (ae (pv 0) (ae ah (ae ah af))))))
   (ai (o8 (i:=7) fV.nd rfl (Or.inl rfl) (bW rfl (eY rfl N.range (ae (pv 6) af)) rfl rfl (by show ∀p∈_,gI [Str.ofString "_law_step", Str.ofString "_law_letters", Str.ofString "_law_first"] p;decide) (by decide) rfl (by show ([Str.ofString "_law_k", Str.ofString "_law_step", Str.ofString "_law_letters", Str.ofString "_law_first"]:List Str).Nodup;decide) (.cons (i:=5) rfl (.inr (.inl rfl)) (by show (some NameKind.cell)≠some NameKind.local;decide) (.inl rfl) rfl (.cons (i:=1) rfl (.inr (.inl rfl)) (by show (some NameKind.cell)≠some NameKind.local;decide) (.inl rfl) rfl (.cons (i:=4) rfl (.inr (.inl rfl)) (by show (some NameKind.cell)≠some NameKind.local;decide) (.inl rfl) rfl .nil))) (λC fp s H=>cM) (λC fp s H=>(aH wZ (pv 2) (aD eT (aD bL (pv 3) (aD eS (pv 1) (pv 0))) ah) (λ_ _=>rfl)))))
   (am (aB (gz (qD rfl (sA rfl N.enumerate (ae (pv 7) af)) rfl rfl (by show ∀p∈_,gI [Str.ofString "_law_base", Str.ofString "_law_at"] p;decide) (by decide) rfl rfl (by show ([Str.ofString "_law_k", Str.ofString "_law_sign", Str.ofString "_law_base", Str.ofString "_law_at"]:List Str).Nodup;decide) (.cons (i:=2) rfl (.inr (.inl rfl)) (by show (some NameKind.cell)≠some NameKind.local;decide) (.inl rfl) rfl (.cons (i:=3) rfl (.inr (.inl rfl)) (by show (some NameKind.cell)≠some NameKind.local;decide) (.inl rfl) rfl .nil)) (λC fp s H=>cM) (λC fp s H=>(aD ig (aD ig (aD ig (dY qp (pv 2) gQ (eM (pv 3))) (pv 1)) (dY qp (pv 2) (eM (pv 3)) gQ)) (dY qp ay gQ (eM (aD eT (pv 0) ah)))))))))))))))),?_⟩
  refine au (aK ?_)
  dsimp only [tC,aN]
  refine au (aK (kb ⟨rfl,fq (eK ?_)⟩))
  refine⟨_,rfl,c,1,5,rfl,by decide,by decide,by decide,λm m0 m1=>⟨m,rfl,by omega,by omega,?_⟩⟩
  refine je (λ_ y=>∃d:Nat,oB d/\y=V.str ⟨#[d]⟩) (by omega) (λi H2 R hi hR=>?_) λD ys nD hl hy=>?_
  ·refine⟨_,rfl,_,rfl,_,rfl,_,_,rfl,rfl,c,50+(0+(i:Int)),rfl,by omega,by omega,λx x0 x1=>⟨_,_,rfl,rfl,(by show (0:Int) < 26;decide),fG,x % 26,_,rfl,rfl,by decide,wR (Int.emod_nonneg _ (by decide)) (Int.emod_lt_of_pos _ (by decide)),hR _ ⟨_,?_,rfl⟩⟩⟩
   have h1:=Int.emod_nonneg x (show (26:Int)≠0 by decide)
   have h2:=Int.emod_lt_of_pos x (show (0:Int) < 26 by decide)
   unfold oB
   omega
  obtain⟨ds,rfl,hds,ld⟩:=rQ hy
  have ld4:ds.length<=4:=by omega
  refine⟨Str.ofString "", D,ds.map λd=>(⟨#[d]⟩:Str),rfl,rfl,ag,?_,?_⟩
  ·rw [jb,List.length_map,show (Str.ofString "").length=0 from rfl];omega
  have zc:(Txt.join (Str.ofString "") (ds.map λd=>(⟨#[d]⟩:Str))).cps.toList=ds:=by rw [BF,iO]
  generalize Txt.join (Str.ofString "") (ds.map λd=>(⟨#[d]⟩:Str))=z at zc
  have zl:z.length=ds.length:=by rw [dP,zc]
  have zs:z.length<=sizeLine:=Nat.le_trans (show z.length<=4 by omega) (by decide)
  dsimp only [aN]
  refine⟨_,rfl,_,rfl,z,rfl,zs,_,_,rfl,rfl,c,2,(z.length:Int)+1,rfl,by decide,by decide,by omega,λav a0 a1=>?_⟩
  obtain⟨at_,rfl⟩:∃j:Nat,av=(j:Int):=⟨av.toNat,by omega⟩
  refine⟨_,rfl,c,3,26,rfl,by decide,by decide,by decide,λf f0 f1=>?_⟩
  refine⟨by show 5<=sizeLine;decide,λl nl=>⟨_,rfl,c,4,5,rfl,by decide,by decide,by decide,λd d0 d1=>?_⟩⟩
  obtain⟨st,hst,es⟩:=xi d0 d1
  refine⟨l,_,d,V.int st,rfl,rfl,SqL.of ag,es,?_⟩
  refine⟨_,rfl,c,0,8,rfl,by decide,by decide,by decide,λmm mm0 mm1=>⟨_,_,rfl,rfl,?_⟩⟩
  have g2:aq H (upd (upd H D (.lst ((ds.map λd=>(⟨#[d]⟩:Str)).map V.str))) l (.lst [V.int 1,V.int 5,V.int 7,V.int 9,V.int 25])):=(aq.new nD).trans (aq.new nl)
  dsimp only
  refine au (aK (eK ?_))
  refine⟨_,rfl,1+mm,rfl,by omega,by omega,?_⟩
  refine je (λi y=>y=V.str ⟨#[97+((f+st * (i:Int)) % 26).toNat]⟩) (by omega) (λi H2 R hi hR=>?_) λD2 ys nD2 hl2 hy2=>?_
  ·refine⟨_,rfl,_,rfl,_,rfl,_,rfl,_,_,rfl,rfl,.inl (by rcases hst with rfl | rfl | rfl | rfl | rfl <;> decide),_,_,rfl,rfl,_,_,rfl,rfl,(by show (0:Int) < 26;decide),fG,_,_,rfl,rfl,by decide,wR (Int.emod_nonneg _ (by decide)) (Int.emod_lt_of_pos _ (by decide)),hR _ ?_⟩
   rw [Int.zero_add]
  have e2:=wQ (f:=λi:Nat=>(⟨#[97+((f+st * (i:Int)) % 26).toNat]⟩:Str)) (g:=V.str) hl2 hy2
  dsimp only [aN]
  refine bj (vY ?_)
  refine⟨_,rfl,D2,rfl,⟨_,SqL.of ag⟩,?_⟩
  have hmm:(1+mm).toNat<=8:=by omega
  refine r8 (λi y=>y=V.str ⟨(kL ds at_ (97+((f+st * (i:Int)) % 26).toNat) i).toArray⟩) ag (by omega) (λi x H2 R hx hR=>?_) λD3 ys3 H3 nD3 g3 hD3 hl3 hy3=>?_
  ·have hx2:=hy2 i x hx
   subst hx2
   have hil:=(List.getElem?_eq_some_iff.mp hx).1
   have s1:(Txt.slice z none (some (at_:Int))).cps.toList=ds.take at_:=by rw [ze (by omega),zc]
   have s2:(Txt.slice z (some (at_:Int)) none).cps.toList=ds.drop at_:=by rw [xT (by omega),zc]
   have l1:(Txt.slice z none (some (at_:Int))).length<=4:=by rw [dP,s1,List.length_take];omega
   have l2:(Txt.slice z (some (at_:Int)) none).length<=4:=by rw [dP,s2,List.length_drop];omega
   have s3:(Txt.slice (Str.ofString "zz") none (some ((i:Int) % 3))).cps.toList=List.replicate (i % 3) 122:=by
    rw [show ((i:Int) % 3)=((i % 3:Nat):Int) by omega,ze (by show i % 3<=2;omega)]
    rcases (show i % 3=0\/i % 3=1\/i % 3=2 by omega) with e | e | e <;> rw [e] <;> rfl
   have l3:(Txt.slice (Str.ofString "zz") none (some ((i:Int) % 3))).length<=2:=by rw [dP,s3,List.length_replicate];omega
   have la:∀x y:Str,(x++y).length=x.length+y.length:=λx y=>by rw [dP,fM,List.length_append,<- dP,<- dP]
   have big:∀n,n<=1000->n<=sizeLine:=λn h=>Nat.le_trans h (by decide)
   refine⟨_,rfl,_,rfl,_,rfl,z,rfl,zs,_,rfl,_,_,rfl,rfl,big _ (by show _+1<=1000;omega),_,rfl,_,rfl,_,rfl,z,rfl,zs,_,_,rfl,rfl,big _ ?_,_,rfl,_,_,rfl,rfl,(by show (0:Int) < 3;decide),_,rfl,Str.ofString "zz", rfl,by decide,_,_,rfl,rfl,big _ ?_,hR _ ?_⟩
   ·rw [la];show _+1+_<=1000;omega
   ·rw [la,la];show _+1+_+_<=1000;omega
   ·congr 1
    apply xP
    rw [fM,fM,fM,s1,s2,s3]
    unfold kL
    simp
  have e3:=wQ (f:=λi:Nat=>(⟨(kL ds at_ (97+((f+st * (i:Int)) % 26).toNat) i).toArray⟩:Str)) (g:=V.str) (hl3.trans (by rw [hl2])) hy3
  have mlt:∀i:Nat,(0:Int)<=(f+st * (i:Int)) % 26/\(f+st * (i:Int)) % 26 < 26:=λi=>⟨Int.emod_nonneg _ (by decide),Int.emod_lt_of_pos _ (by decide)⟩
  refine q D3 ((List.range (1+mm).toNat).map λi:Nat=>(⟨(kL ds at_ (97+((f+st * (i:Int)) % 26).toNat) i).toArray⟩:Str)) H3 ?_ ((g2.trans (aq.new nD2)).trans g3) (by rw [hD3,e3]) (by rw [List.length_map,List.length_range];omega) (by rw [List.length_map,List.length_range];exact hmm) ?_ λk hk=>?_
  ·exact(g2.trans (aq.new nD2)).free nD3
  ·unfold List.Nodup
   rw [List.pairwise_map]
   refine List.pairwise_lt_range.imp_of_mem λ{i j} hi hj hij he=>?_
   have hi:=List.mem_range.mp hi
   have hj:=List.mem_range.mp hj
   have he2:=congrArg (λs:Str=>s.cps.toList[at_]?) he
   dsimp only at he2
   rw [sP (by omega),sP (by omega)]at he2
   have he3:=Option.some.inj he2
   have:=xQ (f:=f) (s:=st) (k:=(i:Int)) (k':=(j:Int)) hst (by omega) (by omega) (by omega) (by omega) (by have:=mlt i;have:=mlt j;omega)
   omega
  ·obtain⟨i,hi,rfl⟩:=List.mem_map.mp hk
   have hl:(⟨(kL ds at_ (97+((f+st * (i:Int)) % 26).toNat) i).toArray⟩:Str).length=ds.length+1+i % 3:=by
    rw [dP]
    exact wW (by omega)
   refine wX (by omega) (by omega) (wV (P:=oB) hds (by have:=mlt i;unfold oB;omega) (by unfold oB;omega))
end Mine
namespace L2
open PySem PySem.Spec PyProof.Rows
structure SA where
 d:Addr
 k:Addr
 f:Addr
 g:Addr
 e:Addr
def SA.At (s:SA) (b:Addr):Prop:=b=s.d\/b=s.k\/b=s.f\/b=s.g\/b=s.e
noncomputable def sD (s:SA):List (Key × V):=[(Sum.inr (Str.ofString "keys"),.ref s.k),(Sum.inr (Str.ofString "found"),.ref s.f),(Sum.inr (Str.ofString "gone"),.ref s.g),(Sum.inr (Str.ofString "deeds"),.ref s.e)]
theorem vQ (s:SA):j4 [] (sD s)=sD s:=by rfl
theorem Ca (s:SA):valV (sD s) (Sum.inr (Str.ofString "keys"))=some (.ref s.k):=by rfl
theorem zV (s:SA):valV (sD s) (Sum.inr (Str.ofString "found"))=some (.ref s.f):=by rfl
theorem Bq (s:SA):valV (sD s) (Sum.inr (Str.ofString "gone"))=some (.ref s.g):=by rfl
theorem zW (s:SA):valV (sD s) (Sum.inr (Str.ofString "deeds"))=some (.ref s.e):=by rfl
structure StAt (H:Hp) (s:SA) (B:Bk):Prop where
 dd:H s.d=some (.dK (sD s))
 hk:H s.k=some (.lst (B.ks.map V.str))
 hf:∃ps,H s.f=some (.lst (ps.map V.ref))/\oE H ps B.fs
 hg:H s.g=some (.dK B.gs)
 he:∃ps,H s.e=some (.lst (ps.map V.ref))/\gH H ps B.ds
 fe:s.f≠s.e
 kf:s.k≠s.f
 ke:s.k≠s.e
 dg:s.d≠s.g
theorem StAt.keep {H H':Hp}{s:SA}{B:Bk} (h:StAt H s B) (g:∀b o,s.At b->H b=some o->H' b=some o) (t:∀b xs,H b=some (.tup xs)->H' b=some (.tup xs)):StAt H' s B:=by
 obtain⟨ps,e1,r1⟩:=h.hf
 obtain⟨qs,e2,r2⟩:=h.he
 exact⟨g _ _ (.inl rfl) h.dd,g _ _ (.inr (.inl rfl)) h.hk,⟨ps,g _ _ (.inr (.inr (.inl rfl))) e1,Paired.mapP r1 λ_ _ e=>t _ _ e⟩,g _ _ (.inr (.inr (.inr (.inl rfl)))) h.hg,⟨qs,g _ _ (.inr (.inr (.inr (.inr rfl)))) e2,Paired.mapP r2 λ_ _ e=>t _ _ e⟩,h.fe,h.kf,h.ke,h.dg⟩
theorem StAt.d_k {H:Hp}{s:SA}{B:Bk} (h:StAt H s B):cL H s.d (.str "keys") (some (.ref s.k)):=by rw [<- Ca s];exact cL.k (k:=Sum.inr _) h.dd
theorem StAt.d_f {H:Hp}{s:SA}{B:Bk} (h:StAt H s B):cL H s.d (.str "found") (some (.ref s.f)):=by rw [<- zV s];exact cL.k (k:=Sum.inr _) h.dd
theorem StAt.d_g {H:Hp}{s:SA}{B:Bk} (h:StAt H s B):cL H s.d (.str "gone") (some (.ref s.g)):=by rw [<- Bq s];exact cL.k (k:=Sum.inr _) h.dd
theorem StAt.d_e {H:Hp}{s:SA}{B:Bk} (h:StAt H s B):cL H s.d (.str "deeds") (some (.ref s.e)):=by rw [<- zW s];exact cL.k (k:=Sum.inr _) h.dd
theorem StAt.kind {H:Hp}{s:SA}{B:Bk} (h:StAt H s B){b:Addr} (hb:s.At b):(∃xs,H b=some (.lst xs))\/∃xs,H b=some (.dK xs):=by
 obtain⟨ps,e1,r1⟩:=h.hf
 obtain⟨qs,e2,r2⟩:=h.he
 rcases hb with rfl | rfl | rfl | rfl | rfl
 ·exact .inr ⟨_,h.dd⟩
 ·exact .inl ⟨_,h.hk⟩
 ·exact .inl ⟨_,e1⟩
 ·exact .inr ⟨_,h.hg⟩
 ·exact .inl ⟨_,e2⟩
theorem StAt.not_tup {H:Hp}{s:SA}{B:Bk} (h:StAt H s B){b:Addr}{xs:List V} (e:H b=some (.tup xs)):¬s.At b:=λz=>by
 rcases h.kind z with⟨ys,q⟩ | ⟨ys,q⟩ <;> rw [e]at q <;> cases q
theorem StAt.not_ins {H:Hp}{s:SA}{B:Bk} (h:StAt H s B){b C dx:Addr}{fs:List (Str × V)} (e:H b=some (.ins C dx fs)):¬s.At b:=λz=>by
 rcases h.kind z with⟨ys,q⟩ | ⟨ys,q⟩ <;> rw [e]at q <;> cases q
theorem StAt.not_none {H:Hp}{s:SA}{B:Bk} (h:StAt H s B){b:Addr} (e:H b=none):¬s.At b:=λz=>by
 rcases h.kind z with⟨ys,q⟩ | ⟨ys,q⟩ <;> rw [e]at q <;> cases q
theorem BkAt.dom {C:Addr}{H:Hp}{p:Addr}{a:BA}{F:Addr->Prop}{B:Bk} (h:BkAt C H p a F B):BkAt C H p a (λb=>F b/\H b≠none) B:=by
 obtain⟨ps,e1,r1⟩:=id h.hf
 obtain⟨qs,e2,r2⟩:=id h.hd
 obtain⟨ts,e3,l3,r3⟩:=id h.ht
 obtain⟨f1,f2,f3,f4,f5⟩:=h.fa
 have nn:∀{b:Addr}{o:HO},H b=some o->H b≠none:=λe z=>by rw [e]at z;cases z
 refine⟨h.ob,h.hn,h.hf,h.hw,h.hd,⟨ts,e3,l3,λi x e=>?_⟩,⟨⟨f1,nn h.hn⟩,⟨f2,nn e1⟩,⟨f3,nn h.hw⟩,⟨f4,nn e2⟩,⟨f5,nn e3⟩⟩,h.nn,h.fd,h.ft,h.dt,h.ok⟩
 obtain⟨kvs,q1,q2,q3⟩:=(r3 i x e).ex
 refine⟨⟨(r3 i x e).fp,nn q1⟩,(r3 i x e).nm,kvs,q1,q2,λk hk=>?_⟩
 obtain⟨ra,rs,q4,q5⟩:=q3 k hk
 obtain⟨ws,w1,w2⟩:=id q5.rl
 exact⟨ra,rs,q4,⟨q5.fp,nn w1⟩,q5.nm,q5.rl,q5.td,q5.i4,q5.dy⟩
theorem BkAt.M_F {C:Addr}{H:Hp}{p:Addr}{a:BA}{F:Addr->Prop}{B:Bk} (h:BkAt C H p a F B){b:Addr} (m:a.M b):F b:=by
 obtain⟨f1,f2,f3,f4,f5⟩:=h.fa
 rcases m with rfl | rfl | rfl | rfl <;> assumption
structure Pair (C L:Addr) (H:Hp) (p:Addr) (a:BA) (F:Addr->Prop) (s:SA) (B:Bk):Prop where
 bk:BkAt C H p a F B
 st:StAt H s B
 fd:∀b,F b->H b≠none/\b≠L
 sf:∀b,s.At b->¬F b
theorem yZ {H H':Hp} (g:∀b o,H b=some o->H' b=some o){b:Addr} (n:H b≠none):H' b≠none:=λz=>by
 cases e:H b with
 | none=>exact n e
 | some o=>
  rw [g b o e]at z
  cases z
theorem Pair.grow {C L:Addr}{H H':Hp}{p:Addr}{a:BA}{F:Addr->Prop}{s:SA}{B:Bk} (h:Pair C L H p a F s B) (g:∀b o,H b=some o->H' b=some o):Pair C L H' p a F s B:=
 ⟨h.bk.keep ⟨λb o _ e=>g b o e,λb xs e=>g b _ e,λb c dx fs e=>g b _ e⟩,h.st.keep (λb o _ e=>g b o e) λb xs e=>g b _ e,λb f=>⟨yZ g (h.fd b f).1,(h.fd b f).2⟩,h.sf⟩
noncomputable def cw (B:Bk):List Nat:=(List.range B.fs.length).filter λi=>(valV B.gs (Sum.inl (i:Int))).isNone
theorem jD {B:Bk}{i:Nat}{n:Nat} (e:(cw B)[i]?=some n):n < B.fs.length/\valV B.gs (Sum.inl (n:Int))=none:=by
 have h:=List.mem_of_getElem? e
 obtain⟨h1,h2⟩:=List.mem_filter.mp h
 exact⟨List.mem_range.mp h1,Option.isNone_iff_eq_none.mp h2⟩
theorem Pair.keeps {C L:Addr}{H H':Hp}{p:Addr}{a:BA}{F:Addr->Prop}{s:SA}{B:Bk} (h:Pair C L H p a F s B) (g:∀b o,H b=some o->¬s.At b->H' b=some o):BkAt C H' p a F B:=
 h.bk.keep ⟨λb o f e=>g b o e λz=>h.sf b z f,λb xs e=>g b _ e (h.st.not_tup e),λb c dx fs e=>g b _ e (h.st.not_ins e)⟩
theorem StAt.find {H:Hp}{s:SA}{B:Bk} (h:StAt H s B){k:Str}{f l v:Int}{y z:Addr}{ps qs:List Addr} (e1:H s.f=some (.lst (ps.map V.ref))) (r1:oE H ps B.fs) (e2:H s.e=some (.lst (qs.map V.ref))) (r2:gH H qs B.ds)
  (ny:H y=none){H1 H2:Hp} (E1:H1=upd (upd H y (.tup [.str j9,.int (B.fs.length:Int)])) s.e (.lst (qs.map V.ref++[.ref y]))) (nz:H1 z=none)
  (E2:H2=upd (upd H1 z (.tup [.str k,.int f,.int l,.int v,.int ((B.ds.length:Int)+1)])) s.f (.lst (ps.map V.ref++[.ref z]))) :
  StAt H2 s (B.find k f l v)/\∀b o,H b=some o->¬s.At b->H2 b=some o:=by
 have yn:=λ{b:Addr}{o:HO} (e:H b=some o)=>al e ny
 have k1:∀b o,H b=some o->b≠s.e->H1 b=some o:=λb o e n=>by rw [E1,aj n,aj (yn e)];exact e
 have k2:∀b o,H1 b=some o->b≠s.f->H2 b=some o:=λb o e n=>by rw [E2,aj n,aj (al e nz)];exact e
 have tp:∀b xs,H b=some (.tup xs)->H2 b=some (.tup xs):=λb xs e=>k2 b _ (k1 b _ e (aS e e2 (by intro z;cases z))) (aS e e1 (by intro z;cases z))
 have ey:H1 y=some (.tup [.str j9,.int (B.fs.length:Int)]):=by rw [E1,aj (yn e2).symm,ag]
 have ee:H1 s.e=some (.lst (qs.map V.ref++[.ref y])):=by rw [E1,ag]
 refine⟨⟨k2 _ _ (k1 _ _ h.dd (aS h.dd e2 (by intro z;cases z))) (aS h.dd e1 (by intro z;cases z)),k2 _ _ (k1 _ _ h.hk h.ke) h.kf,⟨ps++[z],by rw [E2,ag,List.map_append];rfl,?_⟩,k2 _ _ (k1 _ _ h.hg (aS h.hg e2 (by intro z;cases z))) (aS h.hg e1 (by intro z;cases z)),⟨qs++[y],?_,?_⟩,h.fe,h.kf,h.ke,h.dg⟩,λb o e n=>k2 b o (k1 b o e λz=>n (.inr (.inr (.inr (.inr z))))) λz=>n (.inr (.inr (.inl z)))⟩
 ·refine cE (Paired.mapP r1 λ_ _ e=>tp _ _ e) ?_
  rw [E2,aj (al (k1 _ _ e1 h.fe) nz).symm,ag]
  rfl
 ·rw [k2 _ _ ee h.fe.symm,List.map_append];rfl
 ·exact cE (Paired.mapP r2 λ_ _ e=>tp _ _ e) (k2 _ _ ey (yn e1).symm)
theorem StAt.withd {H:Hp}{s:SA}{B:Bk} (h:StAt H s B){n:Nat}{y:Addr}{qs:List Addr} (e2:H s.e=some (.lst (qs.map V.ref))) (r2:gH H qs B.ds)
  (ny:H y=none){H1 H2:Hp} (E1:H1=upd (upd H y (.tup [.str fQ,.int (n:Int)])) s.e (.lst (qs.map V.ref++[.ref y])))
  (E2:H2=upd H1 s.g (.dK (cQ B.gs (Sum.inl (n:Int)) (.int ((B.ds.length:Int)+1))))) :
  StAt H2 s (B.withd n)/\∀b o,H b=some o->¬s.At b->H2 b=some o:=by
 have yn:=λ{b:Addr}{o:HO} (e:H b=some o)=>al e ny
 obtain⟨ps,e1,r1⟩:=id h.hf
 have k1:∀b o,H b=some o->b≠s.e->H1 b=some o:=λb o e n=>by rw [E1,aj n,aj (yn e)];exact e
 have k2:∀b o,H1 b=some o->b≠s.g->H2 b=some o:=λb o e n=>by rw [E2,aj n];exact e
 have tp:∀b xs,H b=some (.tup xs)->H2 b=some (.tup xs):=λb xs e=>k2 b _ (k1 b _ e (aS e e2 (by intro z;cases z))) (aS e h.hg (by intro z;cases z))
 have ey:H1 y=some (.tup [.str fQ,.int (n:Int)]):=by rw [E1,aj (yn e2).symm,ag]
 have ee:H1 s.e=some (.lst (qs.map V.ref++[.ref y])):=by rw [E1,ag]
 refine⟨⟨k2 _ _ (k1 _ _ h.dd (aS h.dd e2 (by intro z;cases z))) h.dg,k2 _ _ (k1 _ _ h.hk h.ke) (aS h.hk h.hg (by intro z;cases z)),⟨ps,k2 _ _ (k1 _ _ e1 h.fe) (aS e1 h.hg (by intro z;cases z)),Paired.mapP r1 λ_ _ e=>tp _ _ e⟩,by rw [E2,ag];rfl,⟨qs++[y],?_,?_⟩,h.fe,h.kf,h.ke,h.dg⟩,λb o e n=>k2 b o (k1 b o e λz=>n (.inr (.inr (.inr (.inr z))))) λz=>n (.inr (.inr (.inr (.inl z))))⟩
 ·rw [k2 _ _ ee (aS e2 h.hg (by intro z;cases z)),List.map_append];rfl
 ·exact cE (Paired.mapP r2 λ_ _ e=>tp _ _ e) (k2 _ _ ey (yn h.hg).symm)
theorem Pair.after {C L:Addr}{H H3 H':Hp}{p:Addr}{a:BA}{F F':Addr->Prop}{s:SA}{B B':Bk}{ps:Array Value} (h:Pair C L H p a F s B) (h3:StAt H3 s B') (k3:∀b o,H b=some o->¬s.At b->H3 b=some o) (hL:H3 L=some (.tbl ps))
  (f1:∀b,F' b->F b\/H3 b=none) (g:∀b o,H3 b=some o->b≠L->¬a.M b->H' b=some o) (hb:BkAt C H' p a F' B') :
  Pair C L H' p a (λb=>F' b/\H' b≠none) s B'/\(∀b,(F' b/\H' b≠none)->F b\/H b=none)/\∀b o,H b=some o->b≠L->¬a.M b->¬s.At b->H' b=some o:=by
 have sM:∀b,s.At b->¬a.M b:=λb z m=>h.sf b z (h.bk.M_F m)
 have sL:∀b,s.At b->b≠L:=λb z=>by
  rcases h3.kind z with⟨ys,q⟩ | ⟨ys,q⟩
  ·exact aS q hL (by intro z;cases z)
  ·exact aS q hL (by intro z;cases z)
 have tM:∀b xs,H3 b=some (.tup xs)->H' b=some (.tup xs):=λb xs e=>by
  refine g b _ e (aS e hL (by intro z;cases z)) λm=>?_
  have hF:=h.bk.M_F m
  have hn:=(h.fd b hF).1
  obtain⟨q1,q2,q3,q4⟩:=(⟨h.bk.hf,h.bk.hw,h.bk.hd,h.bk.ht⟩:_/\_/\_/\_)
  obtain⟨w1,x1,_⟩:=q1
  obtain⟨w3,x3,_⟩:=q3
  obtain⟨w4,x4,_,_⟩:=q4
  have nS:¬s.At b:=λz=>h.sf b z hF
  rcases m with m | m | m | m
  ·rw [m]at e nS;rw [k3 _ _ x1 nS]at e;cases e
  ·rw [m]at e nS;rw [k3 _ _ q2 nS]at e;cases e
  ·rw [m]at e nS;rw [k3 _ _ x3 nS]at e;cases e
  ·rw [m]at e nS;rw [k3 _ _ x4 nS]at e;cases e
 refine⟨⟨hb.dom,h3.keep (λb o z e=>g b o e (sL b z) (sM b z)) tM,λb hf=>⟨hf.2,?_⟩,λb z hf=>?_⟩,λb hf=>?_,λb o e n1 n2 n3=>g b o (k3 b o e n3) n1 n2⟩
 ·rcases f1 b hf.1 with q | q
  ·exact(h.fd b q).2
  ·exact(al hL q).symm
 ·rcases f1 b hf.1 with q | q
  ·exact h.sf b z q
  ·exact h3.not_none q z
 ·rcases f1 b hf.1 with q | q
  ·exact .inl q
  ·refine .inr ?_
   cases e:H b with
   | none=>rfl
   | some o=>
    by_cases z:s.At b
    ·exact absurd z (h3.not_none q)
    ·rw [k3 b o e z]at q;cases q
theorem y9 {D:Ends}{Y:St}{H:Hp}{k:Nat}{v:Int} (hY:Y[k]?=some (some (.int v))) (h:∀v':Int,(v'=v/\v<=1000000000\/v'=1000000000)->D.nx (Y.set k (some (.int v'))) H) :
  qi (fT (tOp (rI0 λi j=>V.bl (decide (j < i))) (cr k) (tOp (rI q8 λi j=>V.int (i ^ j.toNat)) (tC (V.int 10)) (tC (V.int 9))))) (qk (tOp (rI q8 λi j=>V.int (i ^ j.toNat)) (tC (V.int 10)) (tC (V.int 9))) (aN k)) oN D Y H:=by
 have cp:q8 10 9:=⟨by decide,by decide,by decide⟩
 refine⟨_,hY,10,9,rfl,rfl,cp,v,_,rfl,rfl,_,rfl,?_⟩
 by_cases hv:(10:Int) ^ (9:Int).toNat < v
 ·rw [decide_eq_true hv]
  refine bG ⟨10,9,rfl,rfl,cp,h _ (.inr (by decide))⟩
 ·rw [decide_eq_false hv]
  refine aX ?_
  have z:(10:Int) ^ (9:Int).toNat=1000000000:=by decide
  rw [z]at hv
  have:=h v (.inl ⟨rfl,by omega⟩)
  have e:Y.set k (some (.int v))=Y:=by
   obtain⟨hk,e⟩:=List.getElem?_eq_some_iff.mp hY
   rw [<- e]
   exact List.set_getElem_self hk
  rw [e]at this
  exact this
end L2
namespace Mine
open PySem L2
variable {P:Program}{w:World}{K:PySem.W.Frag}{mg:Str->Option Value}{base:Heap}
noncomputable abbrev qv:Stmt:=top 42
noncomputable abbrev qw:Stmt:=top 44
theorem ck {H:Hp}{a b:Addr}{o:HO} (h:upd H a o b=none):b≠a/\H b=none:=by
 have n:b≠a:=λz=>by rw [z,ag]at h;cases h
 rw [aj n]at h
 exact⟨n,h⟩
inductive rH (vs:List V) (H:Hp) (Q:VK) (E:XK):Prop
 | mk (kl:Addr) (ks:List Str) (h1:vs=[.ref kl]) (h2:H kl=some (.lst (ks.map V.str))) (h3:∀(s:SA) (H':Hp),s.k=kl->aq H H'->(∀b,s.At b->b≠kl->H b=none)->StAt H' s (Bk.new ks)->Q (.ref s.d) H')
inductive mY (vs:List V) (H:Hp) (Q:VK) (E:XK):Prop
 | mk (s:SA) (B:Bk) (h1:vs=[.ref s.d]) (h2:StAt H s B) (h3:B.fs.length<=60) (h4:∀D,H D=none->Q (.ref D) (upd H D (.lst ((cw B).map λi:Nat=>V.int (i:Int)))))
theorem xW:FnScope ["_law_keys_here"] ["_law_keys_here"] (ao qv):=aZ
theorem wA (F:Fun K "_law_state" "_law_state" qv f fd) (N:Free mg):FnOk P w K mg base CX0 1 f fd ["_law_keys_here"] rH:=by
 refine okF F xW λcdv A outer s H vs Q E hr h=>?_
 ·obtain⟨kl,ks,rfl,hk,q⟩:=h
  refine⟨_,(am (aB (sC (gt ay (pv 0) (gt ay (aM af) (gt ay kj (gt ay (aM af) sy)))) rfl rfl (by decide) (by decide)))),?_⟩
  refine bj ?_
  intro d nd
  refine⟨_,rfl,Nat.zero_le _,λlf nf g ng=>⟨Nat.zero_le _,λle ne=>⟨?_,sD ⟨d,kl,lf,g,le⟩,rfl,(by show 4<=15;decide),?_⟩⟩⟩
  all_goals
   obtain⟨f1,f2⟩:=ck nf
   obtain⟨g1,g2⟩:=ck ng
   obtain⟨g3,g4⟩:=ck g2
   obtain⟨i1,i2⟩:=ck ne
   obtain⟨i3,i4⟩:=ck i2
   obtain⟨i5,i6⟩:=ck i4
  ·rw [aj i5.symm,aj g3.symm,aj f1.symm,ag]
  ·rw [vQ]
   have nk:∀{b:Addr},H b=none->kl≠b:=λe z=>by rw [<- z,hk]at e;cases e
   refine q ⟨d,kl,lf,g,le⟩ _ rfl ?_ (λb hb n=>?_) ⟨ag,?_,⟨[],?_,.nil⟩,?_,⟨[],?_,.nil⟩,i3.symm,nk f2,nk i6,g3.symm⟩
   ·intro b o e
    rw [aj (al e nd),aj (al e i6),aj (al e g4),aj (al e f2),aj (al e nd)]
    exact e
   ·rcases hb with rfl | rfl | rfl | rfl | rfl
    ·exact nd
    ·exact absurd rfl n
    ·exact f2
    ·exact g4
    ·exact i6
   ·show upd _ d _ kl=_
    rw [aj (nk nd),aj (nk i6),aj (nk g4),aj (nk f2),aj (nk nd)]
    exact hk
   ·show upd _ d _ lf=_
    rw [aj f1,aj i3.symm,aj g1.symm,ag];rfl
   ·show upd _ d _ g=_
    rw [aj g3,aj i1.symm,ag];rfl
   ·show upd _ d _ le=_
    rw [aj i5,ag];rfl
theorem xX:FnScope ["_law_state_here"] ["_law_state_here"] (ao qw):=aZ
theorem wB (F:Fun K "_law_standing" "_law_standing" qw f fd) (N:Free mg):FnOk P w K mg base CX0 1 f fd ["_law_state_here"] mY:=by
 refine okF F xX λcdv A outer s H vs Q E hr h=>?_
 ·obtain⟨s,B,rfl,h,h60,q⟩:=h
  have hu:=eB hr
  refine⟨_,(am (aB (gz (bW rfl (eY rfl N.range (ae (aA aG (by rfl) N.len PySem.boot_len (ae (bJ hu (pv 0) ay (λ_ _=>rfl)) af)) af)) rfl rfl (by show ∀p∈_,gI [Str.ofString "_law_state_here"] p;decide) (by decide) rfl (by show ([Str.ofString "_law_number", Str.ofString "_law_state_here"]:List Str).Nodup;decide) (.cons (i:=0) rfl (.inr (.inl rfl)) (by show (some NameKind.cell)≠some NameKind.local;decide) (.inl rfl) rfl .nil) (λC fp s H=>(sx (gp (mn hu (pv 0) (bJ hu (pv 1) ay (λ_ _=>rfl)))))) (λC fp s H=>(pv 0)))))),?_⟩
  refine bj (eK ?_)
  obtain⟨ps,e1,r1⟩:=id h.hf
  have lps:ps.length=B.fs.length:=Paired.length r1
  refine⟨_,rfl,s.d,_,rfl,h.d_f,s.f,_,rfl,.inl (SqL.of e1),?_⟩
  rw [List.length_map,lps]
  refine⟨_,rfl,by omega,by omega,?_⟩
  rw [Int.toNat_natCast]
  refine oo (c:=λi=>(valV B.gs (Sum.inl (i:Int))).isNone) (by omega) (λi H2 R hi g hR=>?_) (λi H2 R hi hR=>⟨_,rfl,?_⟩) λD nD=>q D nD
  ·have h2:=StAt.keep h (λb o _ e=>g b o e) (λb xs e=>g b _ e)
   refine⟨_,rfl,_,rfl,s.d,_,rfl,h2.d_g,s.g,_,rfl,cL.k (k:=Sum.inl _) h2.hg,_,rfl,?_⟩
   rw [Int.zero_add,Option.not_isSome]
   exact hR
  ·rw [Int.zero_add]
   exact hR
inductive lX (vs:List V) (H:Hp) (Q:VK) (E:XK):Prop
 | mk (a:Addr) (ks:List Str) (h1:vs=[.ref a]) (h2:H a=some (.lst (ks.map V.str))) (h3:1<=ks.length) (h4:ks.length<=8) (h5:ks.Nodup) (h6:(∀k∈ks,ip k fG 8=true/\k.length < sizeLine)) (h7:∀H',aq H H'->Q (.bl true) H')
theorem oM {K:PySem.W.Frag}{E:XK}{Y:St}{H:Hp}{Q:VK}{a:Addr}{ks:List Str} (e0:Y[0]?=some (some (.ref a))) (ha:H a=some (.lst (ks.map V.str))) (hk:∀k∈ks,ip k fG 8=true/\k.length < sizeLine) (hl:ks.length<=8)
  (hq:∀(D:Addr) (H':Hp),H D=none->aq H H'->H' D=some (.lst ((List.replicate ks.length true).map V.bl))->Q (.ref D) H') :
  ja (sR K (cr 0)) [] (λ_ H Q=>Q true H) (fU mZ [] E (aV (cr 0) bT)) Y H Q:=by
 refine⟨_,e0,a,rfl,⟨_,SqL.of ha⟩,λD nD=>ff (K:=K) (a:=a) (xs:=ks.map V.str) (sub:=[]) (tt:=λ_ H Q=>Q true H) (te:=fU mZ [] E (aV (cr 0) bT)) (Q:=Q) (Y:=Y)
  (λi ys H2=>ys=(List.replicate i true).map V.bl/\aq H H2/\H2 D=some (.lst ys)) ⟨rfl,aq.new nD,ag⟩ (λi ys H2 _ hh=>?_) (λi x ys H2 hi hh=>?_) λys H2 hh=>?_⟩
 ·exact SqL.of (hh.2.1 _ _ ha)
 ·obtain⟨rfl,g,hD⟩:=hh
  rw [List.getElem?_map]at hi
  cases ek:ks[i]? with
  | none=>rw [ek]at hi;cases hi
  | some k=>
   rw [ek]at hi
   cases hi
   have hil:=(List.getElem?_eq_some_iff.mp ek).1
   obtain⟨k1,k2⟩:=hk k (List.mem_of_getElem? ek)
   refine bG ⟨_,rfl,k,rfl,k2,λH3 g3=>⟨g3 _ _ hD,?_,?_,?_,?_⟩⟩
   ·rw [List.length_map,List.length_replicate]
    exact bq (by omega)
   ·rw [k1,List.replicate_succ',List.map_append];rfl
   ·intro b o e
    rw [aj (al e nD)]
    exact g3 _ _ (g _ _ e)
   ·exact ag
 ·obtain⟨rfl,g,hD⟩:=hh
  rw [List.length_map]at hD
  exact hq D H2 nD g hD
theorem md:FnScope ["thing"] ["thing"] (ao iI):=aZ
theorem qM (F:Fun K "are_keys" "are_keys" iI f fd) (N:Free mg) (C:Con mg) (CN:Cal P w K mg base "is_name" 2 ["thing"] mZ f1 fd1):FnOk P w K mg base CX0 3 f fd ["thing"] lX:=by
 obtain⟨t1,c1⟩:=C.keys
 refine okF F md λcdv A outer s H vs Q E hr h=>?_
 ·obtain⟨a,ks,rfl,ha,k1,k8,nd,hk,hq⟩:=h
  refine⟨_,(ai (aO (PW.pt (mi (bQ (bH (aA bS (by rfl) N.isinstance PyProof.Rows.Boot.«isinstance» (ae (pv 0) (ae (cZ (v:=.ty "list") (by rfl) N.list PyProof.Rows.Boot.«list» rfl) af))))) (iY (bQ (kg fO fO ah (aA aG (by rfl) N.len PySem.boot_len (ae (pv 0) af)) (bR (v:=.int 8) (by rfl) c1 ⟨_,rfl⟩)))))) (am (aB da)) aE)
   (am (aB (dL (aA (j8 rfl) (by rfl) N.all PyProof.Rows.Boot.«all» (ae (gz (bW rfl (cc (pv 0)) rfl rfl (by show ∀p∈_,gI [] p;decide) (by decide) rfl (by show ([Str.ofString "key"]:List Str).Nodup;decide) .nil (λC fp s H=>cM) (λC fp s H=>(aW CN hr (ae (pv 0) af))))) af)) (eR (fA dk (aA mL (by rfl) N.len PySem.boot_len (ae (bU (mJ rfl) (by rfl) N.set PyProof.Rows.Boot.«set» (ae (pv 0) af)) af)) (aA aG (by rfl) N.len PySem.boot_len (ae (pv 0) af)) (b9 _))))))),?_⟩
  have hS:SqL K H a (ks.map V.str):=SqL.of ha
  refine⟨_,rfl,.ref a,"list", _,true,rfl,.lst ha,by rfl,_,rfl,aX ?_⟩
  refine⟨_,rfl,a,_,rfl,.inl hS,_,_,rfl,rfl,_,rfl,?_⟩
  rw [List.length_map,decide_eq_true (show (1:Int)<=ks.length by omega)]
  refine bG ⟨_,_,rfl,rfl,_,rfl,?_⟩
  rw [decide_eq_true (show (ks.length:Int)<=8 by omega)]
  refine aX ?_
  refine aI ?_
  dsimp only
  refine bj (o6 (sq (fq ?_)))
  refine oM rfl ha hk k8 ?_
  intro D H' nD g hD
  refine⟨D,_,rfl,SqL.of hD,_,rfl,?_⟩
  rw [show (List.replicate ks.length true).all id=true from by simp]
  refine bG ?_
  refine⟨_,rfl,a,ks,rfl,SqL.of (g _ _ ha),by omega,λp np=>?_⟩
  refine⟨p,ks,rfl,ag,_,rfl,a,_,rfl,.inl (SqL.of (by rw [aj (al (g _ _ ha) np)];exact g _ _ ha)),rfl,?_⟩
  rw [List.length_map,mI nd _ (Nat.le_refl _),decide_eq_true rfl]
  exact hq _ (g.trans (aq.new np))
noncomputable abbrev zS:Stmt:=bK (top 33) 2
noncomputable abbrev jq:Stmt:=bK (top 33) 10
noncomputable abbrev jp:Stmt:=bK (top 33) 11
noncomputable abbrev iH:Stmt:=bK (top 33) 12
noncomputable abbrev nN:Stmt:=bK (top 33) 13
noncomputable abbrev nK:Stmt:=bK (top 33) 9
noncomputable abbrev zX:Stmt:=bK (top 33) 1
noncomputable abbrev jo:Stmt:=bK (top 33) 5
noncomputable abbrev nU:Stmt:=bK (top 33) 6
noncomputable abbrev nM:Stmt:=bK (top 33) 7
noncomputable abbrev qu:Stmt:=bK (top 33) 8
theorem yH {k:Str}{ks:List Str} (h:k∈ks):inV (.str k) (ks.map V.str)=true:=by
 unfold inV
 rw [List.any_map,List.any_eq_true]
 exact⟨k,h,by show eqV (.str k) (.str k)=true;simp [eqV]⟩
theorem uq (ks:List Str):(ks.map V.str).all dl=true:=by
 rw [List.all_map,List.all_eq_true]
 intro x _
 rfl
inductive z0 (C:Addr) (vs:List V) (H:Hp) (Q:VK) (E:XK):Prop
 | mk (p:Addr) (a:BA) (F:Addr->Prop) (B:Bk) (h1:vs=[.ref p]) (h2:BkT C H p a F B) (h3:Q (.int (B.ds.length:Int)) H)
inductive iD (C:Addr) (vs:List V) (H:Hp) (Q:VK) (E:XK):Prop
 | mk (p:Addr) (a:BA) (F:Addr->Prop) (B:Bk) (k:Str) (h1:vs=[.ref p,.str k]) (h2:BkT C H p a F B) (h3:k∈B.ks) (h4:Q .non H)
inductive iC (C:Addr) (vs:List V) (H:Hp) (Q:VK) (E:XK):Prop
 | mk (p:Addr) (a:BA) (F:Addr->Prop) (B:Bk) (n:Nat) (h1:vs=[.ref p,.int (n:Int)]) (h2:BkAt C H p a F B) (h3:n < B.fs.length) (h4:Q .non H)
inductive gJ (C:Addr) (vs:List V) (H:Hp) (Q:VK) (E:XK):Prop
 | mk (p:Addr) (a:BA) (F:Addr->Prop) (B:Bk) (h1:vs=[.ref p]) (h2:BkT C H p a F B) (h3:B.ds.length < 60) (h4:Q .non H)
inductive ni (C:Addr) (vs:List V) (H:Hp) (Q:VK) (E:XK):Prop
 | mk (p:Addr) (a:BA) (F:Addr->Prop) (B:Bk) (v:V) (t:Nat) (h1:vs=[.ref p,v]) (h2:BkT C H p a F B) (h3:t<=B.ds.length) (h4:((v=.non/\t=B.ds.length)\/v=.int (t:Int))) (h5:Q (.int (t:Int)) H)
inductive zd (C:Addr) (vs:List V) (H:Hp) (Q:VK) (E:XK):Prop
 | mk (p:Addr) (a:BA) (F:Addr->Prop) (B:Bk) (h1:vs=[.ref p]) (h2:BkAt C H p a F B) (h3:∀l,H l=none->Q (.ref l) (upd H l (.lst (B.ks.map V.str))))
inductive oS (C:Addr) (vs:List V) (H:Hp) (Q:VK) (E:XK):Prop
 | mk (p:Addr) (a:BA) (F:Addr->Prop) (B:Bk) (t:Nat) (d:jj) (h1:vs=[.ref p,.int ((t:Int)+1)]) (h2:BkAt C H p a F B) (h3:B.ds[t]?=some d) (h4:∀q,H q=some (.tup (uP d))->Q (.ref q) H)
inductive rO (C:Addr) (vs:List V) (H:Hp) (Q:VK) (E:XK):Prop
 | mk (p:Addr) (a:BA) (F:Addr->Prop) (B:Bk) (n:Nat) (r:Fnd) (h1:vs=[.ref p,.int (n:Int)]) (h2:BkAt C H p a F B) (h3:B.fs[n]?=some r) (h4:∀q H',aq H H'->H' q=some (.tup (oJ r++[(valV B.gs (Sum.inl (n:Int))).getD .non]))->Q (.ref q) H')
inductive jl (C:Addr) (vs:List V) (H:Hp) (Q:VK) (E:XK):Prop
 | mk (p:Addr) (a:BA) (F:Addr->Prop) (B:Bk) (k:Str) (v:V) (t:Nat) (h1:vs=[.ref p,.str k,v]) (h2:BkT C H p a F B) (h3:k∈B.ks) (h4:t<=B.ds.length) (h5:((v=.non/\t=B.ds.length)\/v=.int (t:Int))) (h6:∀(l:Addr) (ps:List Addr) (rs:List bF),H l=none->bY H ps rs->Strip.Tidy rs->cI rs->(∀x,Strip.dayOf rs x=(B.spk k t x).map V.int)->Q (.ref l) (upd H l (.lst (ps.map V.ref))))
theorem Bj:FnScope ["self"] ["self"] (ao zS):=aZ
theorem Al {C:Addr} (F:Fun K "now" "Book.now" zS f fd) (N:Free mg) (T:BkC K C):FnOk P w K mg base CX0 1 f fd ["self"] (z0 C):=by
 refine okF F Bj λcdv A outer s H vs Q E hr h=>?_
 ·obtain⟨p,a,F,B,rfl,h,q⟩:=h
  refine⟨_,(am (aB (aA aG (by rfl) N.len PySem.boot_len (ae (br (pv 0) rfl) af)))),?_⟩
  obtain⟨dx,ho⟩:=h.ob
  obtain⟨ps,e1,r1⟩:=h.hd
  refine⟨_,rfl,p,C,dx,_,_,rfl,ho,T.cl,T.n4,AM a,a.d,_,rfl,.inl (SqL.of e1),?_⟩
  rw [List.length_map,show ps.length=B.ds.length from Paired.length r1]
  exact q
theorem oZ:FnScope ["self", "key"] ["self", "key"] (ao jq):=aZ
theorem mw {C:Addr} (F:Fun K "check_key" "Book.check_key" jq f fd) (T:BkC K C):FnOk P w K mg base CX0 1 f fd ["self", "key"] (iD C):=by
 refine okF F oZ λcdv A outer s H vs Q E hr h=>?_
 ·obtain⟨p,a,F,B,k,rfl,h,hk,q⟩:=h
  refine⟨_,(am (aO (aY fB (pv 1) (br (pv 0) rfl) (by with_unfolding_all rfl)) (am cK) aE)),?_⟩
  obtain⟨dx,ho⟩:=h.ob
  refine⟨_,rfl,_,rfl,p,C,dx,_,_,rfl,ho,T.cl,T.n1,AL a,a.n,_,rfl,.inl (SqL.of h.hn),rfl,uq _,_,rfl,?_⟩
  rw [yH hk]
  exact aX q
theorem oY:FnScope ["self", "number"] ["self", "number"] (ao jp):=aZ
theorem mq {C:Addr} (F:Fun K "check_number" "Book.check_number" jp f fd) (N:Free mg) (T:BkC K C) (CW:Ab2 P w K mg base f1 fd1):FnOk P w K mg base CX0 2 f fd ["self", "number"] (iC C):=by
 refine okF F oY λcdv A outer s H vs Q E hr h=>?_
 ·obtain⟨p,a,F,B,n,rfl,h,hn,q⟩:=h
  refine⟨_,(am (aO (bQ (bH (aW CW hr (ae (pv 1) (ae ah (ae (aD cJ (aA aG (by rfl) N.len PySem.boot_len (ae (br (pv 0) rfl) af)) ah) af)))))) (am cK) aE)),?_⟩
  obtain⟨dx,ho⟩:=h.ob
  obtain⟨ps,e1,r1⟩:=h.hf
  refine⟨_,rfl,_,rfl,p,C,dx,_,_,rfl,ho,T.cl,T.n2,pW a,a.f,_,rfl,.inl (SqL.of e1),_,_,rfl,rfl,n,0,_,rfl,_,rfl,?_⟩
  rw [List.length_map,show ps.length=B.fs.length from Paired.length r1,decide_eq_true (show (0:Int)<=n by omega),decide_eq_true (show (n:Int)<=(B.fs.length:Int) - 1 by omega)]
  exact aX q
theorem ma:FnScope ["self"] ["self"] (ao iH):=aZ
noncomputable abbrev Ab4 (P w K mg base C f fd):=MC P w K mg base C "now" 1 ["self"] [] [] (z0 C) f fd
theorem kD {C:Addr} (F:Fun K "check_room" "Book.check_room" iH f fd) (N:Con mg) (T:BkC K C) (MN:Ab4 P w K mg base C f1 fd1):FnOk P w K mg base CX0 2 f fd ["self"] (gJ C):=by
 obtain⟨t1,c1⟩:=N.deeds
 refine okF F ma λcdv A outer s H vs Q E hr h=>?_
 ·obtain⟨p,a,F,B,rfl,h,hr6,q⟩:=h
  refine⟨_,(am (aO (aY wv (dH (pv 0) MN hr) (bR (v:=.int 60) (by rfl) c1 ⟨_,rfl⟩) (b9 _)) (am cK) aE)),?_⟩
  obtain⟨dx,ho⟩:=h.ob
  refine⟨_,rfl,p,dx,_,rfl,ho,bi a (by decide +kernel) (by decide +kernel) (by decide +kernel) (by decide +kernel) (by decide +kernel),p,a,F,B,rfl,h,_,_,rfl,rfl,_,rfl,?_⟩
  rw [decide_eq_false (show ¬(60:Int)<=B.ds.length by omega)]
  exact aX q
theorem rW:FnScope ["self", "turn"] ["self", "turn"] (ao nN):=aZ
theorem ph {C:Addr} (F:Fun K "turn_meant" "Book.turn_meant" nN f fd) (T:BkC K C) (MN:Ab4 P w K mg base C f1 fd1) (CW:Ab2 P w K mg base f2 fd2):FnOk P w K mg base CX0 2 f fd ["self", "turn"] (ni C):=by
 refine okF F rW λcdv A outer s H vs Q E hr h=>?_
 ·obtain⟨p,a,F,B,v,t,rfl,h,ht,hv,q⟩:=h
  refine⟨_,(ai (aO (gp (ku (pv 1))) (am (aB (dH (pv 0) MN hr))) aE)
   (ai (aO (bQ (bH (aW CW hr (ae (pv 1) (ae ah (ae (dH (pv 0) MN hr) af)))))) (am cK) aE)
   (am (aB (pv 1))))),?_⟩
  obtain⟨dx,ho⟩:=h.ob
  rcases hv with⟨rfl,rfl⟩ | rfl
  ·exact⟨_,rfl,_,rfl,bG ⟨_,rfl,p,dx,_,rfl,ho,bi a (by decide +kernel) (by decide +kernel) (by decide +kernel) (by decide +kernel) (by decide +kernel),p,a,F,B,rfl,h,q⟩⟩
  ·refine⟨_,rfl,_,rfl,aX ⟨_,rfl,_,rfl,p,dx,_,rfl,ho,bi a (by decide +kernel) (by decide +kernel) (by decide +kernel) (by decide +kernel) (by decide +kernel),p,a,F,B,rfl,h,t,0,_,rfl,_,rfl,?_⟩⟩
   rw [decide_eq_true (show (0:Int)<=t by omega),decide_eq_true (show (t:Int)<=B.ds.length by omega)]
   exact aX ⟨_,rfl,q⟩
theorem Bm:FnScope ["self"] ["self"] (ao zX):=aZ
theorem Ap {C:Addr} (F:Fun K "all_keys" "Book.all_keys" zX f fd) (N:Free mg) (T:BkC K C):FnOk P w K mg base CX0 1 f fd ["self"] (zd C):=by
 refine okF F Bm λcdv A outer s H vs Q E hr h=>?_
 ·obtain⟨p,a,F,B,rfl,h,q⟩:=h
  refine⟨_,(am (aB (bU cG (by rfl) N.list PyProof.Rows.Boot.«list» (ae (br (pv 0) rfl) af)))),?_⟩
  obtain⟨dx,ho⟩:=h.ob
  exact⟨_,rfl,p,C,dx,_,_,rfl,ho,T.cl,T.n1,AL a,a.n,_,rfl,.inl (SqL.of h.hn),λl nl=>q l nl⟩
theorem oX:FnScope ["self", "turn"] ["self", "turn"] (ao jo):=aZ
theorem u6 {C:Addr} (F:Fun K "deed_at" "Book.deed_at" jo f fd) (T:BkC K C) (MN:Ab4 P w K mg base C f1 fd1) (CW:Ab2 P w K mg base f2 fd2):FnOk P w K mg base CX0 2 f fd ["self", "turn"] (oS C):=by
 refine okF F oX λcdv A outer s H vs Q E hr h=>?_
 ·obtain⟨p,a,F,B,t,d,rfl,h,hd,q⟩:=h
  refine⟨_,(ai (aO (bQ (bH (aW CW hr (ae (pv 1) (ae ah (ae (dH (pv 0) MN hr) af)))))) (am cK) aE)
   (am (aB (aH aR (br (pv 0) rfl) (aD cJ (pv 1) ah) (λ_ _=>rfl))))),?_⟩
  obtain⟨dx,ho⟩:=h.ob
  obtain⟨ps,e1,r1⟩:=h.hd
  have ht:=(List.getElem?_eq_some_iff.mp hd).1
  obtain⟨x,ex,e2⟩:=pZ r1 hd
  refine⟨_,rfl,_,rfl,p,dx,_,rfl,ho,bi a (by decide +kernel) (by decide +kernel) (by decide +kernel) (by decide +kernel) (by decide +kernel),p,a,F,B,rfl,h.toT,(t:Int)+1,1,_,rfl,_,rfl,?_⟩
  rw [decide_eq_true (show (1:Int)<=(t:Int)+1 by omega),decide_eq_true (show (t:Int)+1<=B.ds.length by omega)]
  refine aX ⟨_,rfl,p,C,dx,_,_,rfl,ho,T.cl,T.n4,AM a,_,rfl,_,_,rfl,rfl,a.d,_,_,V.ref x,rfl,rfl,SqL.of e1,?_,q x e2⟩
  rw [show (t:Int)+1 - 1=(t:Int) by omega]
  exact cq (by rw [List.getElem?_map,ex];rfl)
theorem rY:FnScope ["self", "number"] ["self", "number"] (ao nU):=aZ
theorem wH {C:Addr} (F:Fun K "found" "Book.found" nU f fd) (T:BkC K C) (MK:MC P w K mg base C "check_number" 2 ["self", "number"] [] [] (iC C) f1 fd1):FnOk P w K mg base CX0 3 f fd ["self", "number"] (rO C):=by
 refine okF F rY λcdv A outer s H vs Q E hr h=>?_
 ·obtain⟨p,a,F,B,n,r,rfl,h,hr1,q⟩:=h
  have hu:=eB hr
  refine⟨_,(ai (aJ (fw (pv 0) MK hr (ae (pv 1) af)))
   (am (aB (aD sF (aH aR (br (pv 0) rfl) (pv 1) (λ_ _=>rfl)) (az (ae (pe hu (br (pv 0) rfl) (pv 1) ⟨rfl,rfl,rfl,rfl⟩) af)))))),?_⟩
  obtain⟨dx,ho⟩:=h.ob
  obtain⟨ps,e1,r1⟩:=h.hf
  have hn:=(List.getElem?_eq_some_iff.mp hr1).1
  obtain⟨x,ex,e2⟩:=oC r1 hr1
  refine⟨_,rfl,p,dx,_,rfl,ho,bi a (by decide +kernel) (by decide +kernel) (by decide +kernel) (by decide +kernel) (by decide +kernel),_,rfl,p,a,F,B,n,rfl,h,hn,?_⟩
  refine⟨_,rfl,p,C,dx,_,_,rfl,ho,T.cl,T.n2,pW a,_,rfl,a.f,_,_,V.ref x,rfl,rfl,SqL.of e1,cq (by rw [List.getElem?_map,ex];rfl),?_⟩
  refine⟨_,rfl,p,C,dx,_,_,rfl,ho,T.cl,T.n3,xw a,a.w,rfl,.inl ⟨_,.inl h.hw⟩,_,rfl,_,cL.k (k:=Sum.inl (n:Int)) h.hw,by show 1<=sizeLine;decide,λy ny=>?_⟩
  refine⟨x,y,_,_,rfl,rfl,SqT.of (by rw [aj (al e2 ny)];exact e2),SqT.of ag,(by intro z;cases z),by show 6<=sizeLine;decide,(λz=>by cases z),λ_ z nz=>?_⟩
  exact q z _ ((aq.new ny).trans (aq.new nz)) ag
theorem rV:FnScope ["self", "key", "turn"] ["self", "key", "turn"] (ao nK):=aZ
theorem wz {C:Addr}{dV:Value} (F:FunD K "table" "Book.table" nK dV f fd) (N:Free mg) (T:BkC K C) (MY:MC P w K mg base C "check_key" 1 ["self", "key"] [] [] (iD C) f1 fd1) (MT:MC P w K mg base C "turn_meant" 2 ["self", "turn"] [] [] (ni C) f2 fd2):FnOk P w K mg base CX0 3 f fd ["self", "key", "turn"] (jl C):=by
 refine F.ok (k:=2) rV (λvs H Q E h=>?_) (λcdv A outer s H vs Q E hr h=>?_)
 ·obtain⟨p,a,F,B,k,v,t,rfl,_⟩:=h
  rfl
 ·obtain⟨p,a,F,B,k,v,t,rfl,h,hk,ht,hv,q⟩:=h
  have hu:=eB hr
  refine⟨_,(ai (aJ (fw (pv 0) MY hr (ae (pv 1) af)))
   (am (aB (bU cG (by rfl) N.list PyProof.Rows.Boot.«list» (ae (bJ hu (aH aR (br (pv 0) rfl) (fw (pv 0) MT hr (ae (pv 2) af)) (λ_ _=>rfl)) (pv 1) (λ_ _=>rfl)) af))))),?_⟩
  obtain⟨dx,ho⟩:=h.ob
  obtain⟨ts,x,kvs,ra,rs,e1,e2,e3,e4,R,lt⟩:=h.tab ht hk
  obtain⟨ps,e5,r5⟩:=R.rl
  refine⟨_,rfl,p,dx,_,rfl,ho,bi a (by decide +kernel) (by decide +kernel) (by decide +kernel) (by decide +kernel) (by decide +kernel),_,rfl,p,a,F,B,k,rfl,h,hk,?_⟩
  refine⟨_,rfl,p,C,dx,_,_,rfl,ho,T.cl,T.n5,xx a,_,rfl,p,dx,_,rfl,ho,bi a (by decide +kernel) (by decide +kernel) (by decide +kernel) (by decide +kernel) (by decide +kernel),_,rfl,p,a,F,B,v,t,rfl,h,ht,hv,?_⟩
  refine⟨a.t,_,_,V.ref x,rfl,rfl,SqL.of e1,cq (by rw [List.getElem?_map,e2];rfl),_,rfl,x,V.ref ra,rfl,?_,?_⟩
  ·have:=cL.k (k:=Sum.inr k) e3
   rw [e4]at this
   exact this
  ·exact⟨ra,_,rfl,.inl (SqL.of e5),λl nl=>q l ps rs nl r5 R.td R.i4 R.dy⟩
noncomputable abbrev qx:Stmt:=bK (top 33) 14
noncomputable abbrev vI:Stmt:=bK (top 33) 15
noncomputable abbrev sg:Stmt:=bK (top 33) 3
noncomputable abbrev nJ:Stmt:=bK (top 33) 4
theorem kI {fs:List Fnd}{i:Nat}{f:Fnd} (e:fs[i]?=some f) (c:Nat->Fnd->Bool):cX fs c (i+1)=if c i f=true then some (i:Int) else cX fs c i:=by
 show (match fs[i]? with | some f=>if c i f=true then some (i:Int) else cX fs c i | none=>cX fs c i)=_
 rw [e]
inductive nj (C T:Addr) (vs:List V) (H:Hp) (Q:VK) (E:XK):Prop
 | mk (p:Addr) (a:BA) (k:Str) (fs:List Fnd) (gs:List (Key × V)) (dx:Addr) (ps:List Addr) (h1:vs=[.ref p,.str k]) (h2:H p=some (.ins C dx (dJ a))) (h3:H a.f=some (.lst (ps.map V.ref))) (h4:oE H ps fs) (h5:H a.w=some (.dK gs)) (h6:(∀f∈fs,0<=f.2.1/\f.2.1<=f.2.2.1/\f.2.2.1 < 400)) (h7:Lm T H) (h8:∀(l:Addr) (rs:List bF) (H':Hp),H l=none->Gm T H H'->cm H' l rs->Strip.Tidy rs->cI rs->(∀x,Strip.dayOf rs x=(cX fs (lH gs k x) fs.length).map V.int)->Q (.ref l) H')
theorem zi {T:Addr}{H H':Hp} (g:Gm T H H') (L:Lm T H){b:Addr}{o:HO} (e:H b=some o) (n:∀ps,o≠.tbl ps:=by intro _ z;cases z):H' b=some o:=g.at L e n
theorem iG:FnScope ["self", "key", "strip", "number", "finding"] ["self", "key"] (ao qx):=aZ
theorem wE {C L:Addr} (F:Fun K "table_of_known" "Book.table_of_known" qx f fd) (N:Free mg) (T:BkC K C) (CL:Cal P w K mg base "laid" 4 ["strip", "first", "last", "mark"] (jH L) f1 fd1):FnOk P w K mg base CX0 5 f fd ["self", "key"] (nj C L):=by
 refine okF F iG λcdv A outer s H vs Q E hr h=>?_
 ·obtain⟨p,a,k,fs,gs,dx,ps,rfl,ho,e1,r1,e2,hin,LL,q⟩:=h
  have hu:=eB hr
  refine⟨_,(ai (aF (i:=2) iG.nd rfl (Or.inl rfl) (aM af))
   (ai (dX PassesOwn.never rfl (sA rfl N.enumerate (ae (br (pv 0) rfl) af)) (gx rfl (bB (bp (i:=3) iG.nd rfl (Or.inl rfl)) (bB (bp (i:=4) iG.nd rfl (Or.inl rfl)) eN)))
   (am (aO (PW.pt (o7 (aY dk (aH be (pv 4) ah (λ_ _=>rfl)) (pv 1) (b9 _)) (js (gp (mn hu (pv 3) (br (pv 0) rfl)))))) (am (aF (i:=2) iG.nd rfl (Or.inl rfl) (aW CL hr (ae (pv 2) (ae (aH be (pv 4) ah (λ_ _=>rfl)) (ae (aH be (pv 4) ah (λ_ _=>rfl)) (ae (pv 3) af))))))) aE)))
   (am (aB (pv 2))))),?_⟩
  have hlp:ps.length=fs.length:=Paired.length r1
  refine⟨Nat.zero_le _,λst nst=>?_⟩
  have g0:Gm L H (upd H st (.lst [])):=Go.new LL nst
  have ho0:=zi g0 LL ho
  refine⟨_,rfl,p,C,dx,_,_,rfl,ho0,T.cl,T.n2,pW a,a.f,rfl,⟨_,SqL.of (g0.lst LL e1)⟩,xh (K:=K) (a:=a.f) (xs:=ps.map V.ref) (λi Y H2=>∃(l:Addr) (rs:List bF) (v3 v4:Option V),Y=[some (.ref p),some (.str k),some (.ref l),v3,v4]/\H l=none/\Gm L H H2/\cm H2 l rs/\Strip.Tidy rs/\cI rs/\∀x,Strip.dayOf rs x=(cX fs (lH gs k x) i).map V.int)
   ⟨st,[],none,none,rfl,nst,g0,gN ag,Strip.tidy_nil,(λ_ h=>nomatch h),λx=>rfl⟩ (λi Y H2 _ hh=>?_) ?_ ?_⟩
  ·obtain⟨_,_,_,_,_,_,g,_⟩:=hh
   exact SqL.of (g.lst LL e1)
  ·rintro i y Y H2 t hi ⟨l,rs,v3,v4,rfl,nl,g2,hrs,td,i4,dy⟩ nt
   rw [List.getElem?_map]at hi
   cases ep:ps[i]? with
   | none=>rw [ep]at hi;cases hi
   | some x=>
    rw [ep]at hi
    cases hi
    obtain⟨r,er,ht0⟩:=dB r1 ep
    have hil:i < fs.length:=(List.getElem?_eq_some_iff.mp er).1
    obtain⟨h0,h1,h2⟩:=hin r (List.mem_of_getElem? er)
    have few:=p6 td.up i4
    have g3:Gm L H2 (upd H2 t (.tup [.int (i:Int),.ref x])):=Go.new g2.lam nt
    have g23:=g2.trans g3
    have ht:=g23.tup LL ht0
    have hrs3:=g3.rows g2.lam hrs
    have ho3:=zi g23 LL ho
    have e23:=g23.dK LL e2
    refine⟨t,_,rfl,SqT.of ag,rfl,_,_,rfl,_,_,rfl,rfl,?_⟩
    have skip:(∀d,lH gs k d i r=false)->∃(l':Addr) (rs:List bF) (v3 v4:Option V),[some (V.ref p),some (.str k),some (.ref l),some (.int (i:Int)),some (.ref x)]=[some (.ref p),some (.str k),some (.ref l'),v3,v4]/\H l'=none/\Gm L H (upd H2 t (.tup [.int (i:Int),.ref x]))/\cm (upd H2 t (.tup [.int (i:Int),.ref x])) l' rs/\Strip.Tidy rs/\cI rs/\∀x,Strip.dayOf rs x=(cX fs (lH gs k x) (i+1)).map V.int:=λhn=>by
     refine⟨l,rs,_,_,rfl,nl,g23,hrs3,td,i4,λd=>?_⟩
     rw [kI er,hn d,if_neg (by decide)]
     exact dy d
    refine⟨_,rfl,x,_,0,V.str r.1,rfl,rfl,SqT.of ht,rfl,_,rfl,rfl,_,rfl,iN (λhk=>?_) (λhk=>aX (skip λd=>?_))⟩
    ·have hk:r.1=k:=by
      have:=of_decide_eq_true hk
      injection this
     refine⟨_,rfl,_,rfl,p,C,dx,_,_,rfl,ho3,T.cl,T.n3,xw a,a.w,_,rfl,cL.k (k:=Sum.inl (i:Int)) e23,_,rfl,?_⟩
     cases eg:valV gs (Sum.inl (i:Int)) with
     | some v=>
      refine aX (skip λd=>?_)
      unfold lH
      rw [eg,show (some v:Option V).isNone=false from rfl,Bool.false_and,Bool.and_false]
     | none=>
      refine bG ⟨_,rfl,_,rfl,x,_,1,V.int r.2.1,rfl,rfl,SqT.of ht,rfl,_,rfl,x,_,2,V.int r.2.2.1,rfl,rfl,SqT.of ht,rfl,_,rfl,?_⟩
      refine⟨l,r.2.1,r.2.2.1,(i:Int),rs,rfl,g23.lam,hrs3,td.up.disj,i4,few,h0,h1,h2,λc acc H4 nc g4 hacc td4 dy4 i44 _=>?_⟩
      refine⟨c,acc,_,_,rfl,Gm.free g23 nc,g23.trans g4,hacc,td4,i44,λd=>?_⟩
      rw [dy4,kI er]
      unfold Strip.laidG lH
      rw [eg,decide_eq_true hk,show (none:Option V).isNone=true from rfl,Bool.true_and,Bool.true_and]
      by_cases hd:r.2.1<=d/\d<=r.2.2.1
      ·rw [if_pos hd,decide_eq_true hd.1,decide_eq_true hd.2]
       rfl
      ·rw [if_neg hd,if_neg (by rw [<- Bool.decide_and,decide_eq_false hd];decide)]
       exact dy d
    ·have hk:¬r.1=k:=λz=>hk (decide_eq_true (by rw [z]))
     unfold lH
     rw [decide_eq_false hk,Bool.false_and]
  ·rintro Y H2 ⟨l,rs,v3,v4,rfl,nl,g2,hrs,td,i4,dy⟩
   rw [List.length_map,hlp]at dy
   exact⟨_,rfl,q l rs H2 nl g2 hrs td i4 dy⟩
structure Half (C:Addr) (H:Hp) (p:Addr) (a:BA) (F:Addr->Prop) (B B':Bk) (n:Nat) (r:Fnd) (word:Str):Prop where
 t:BkT C H p a F B
 hf:∃ps,H a.f=some (.lst (ps.map V.ref))/\oE H ps B'.fs
 hw:H a.w=some (.dK B'.gs)
 fa:F a.n/\F a.f/\F a.w/\F a.d/\F a.t
 nn:¬a.M a.n
 fd:a.f≠a.d
 ft:a.f≠a.t
 dt:a.d≠a.t
 ks:B'.ks=B.ks
 ds:B'.ds=B.ds++[(word,(n:Int))]
 ok:B'.Ok
 hr:B'.fs[n]?=some r
 old:∀k (t:Int) d,t<=B.ds.length->B'.spk k t d=B.spk k t d
 oth:∀k d,k≠r.1->B'.spk k ((B.ds.length:Int)+1) d=B.spk k B.ds.length d
theorem Half.tupM {C:Addr}{H:Hp}{p:Addr}{a:BA}{F:Addr->Prop}{B B':Bk}{n:Nat}{r:Fnd}{word:Str} (h:Half C H p a F B B' n r word):∀b xs,H b=some (.tup xs)->¬a.M b:=λb xs e z=>by
 obtain⟨ps,e1,_⟩:=h.hf
 obtain⟨qs,e2,_⟩:=h.t.hd
 obtain⟨ts,e3,_,_⟩:=h.t.ht
 rcases z with z | z | z | z
 ·rw [z,e1]at e;cases e
 ·rw [z,h.hw]at e;cases e
 ·rw [z,e2]at e;cases e
 ·rw [z,e3]at e;cases e
inductive v9 (C:Addr) (vs:List V) (H:Hp) (Q:VK) (E:XK):Prop
 | mk (p:Addr) (a:BA) (F:Addr->Prop) (B B':Bk) (n:Nat) (r:Fnd) (word:Str) (st:Addr) (rs:List bF) (h1:vs=[.ref p,.str word,.int (n:Int),.ref st]) (h2:Half C H p a F B B' n r word) (h3:cm H st rs) (h4:¬a.M st) (h5:Strip.Tidy rs) (h6:cI rs) (h7:(∀x,Strip.dayOf rs x=(B'.spk r.1 ((B.ds.length:Int)+1) x).map V.int)) (h8:∀(H':Hp) (F':Addr->Prop),(∀b,F b->F' b)->(∀b,F' b->F b\/b=st\/H b=none)->(∀b o,H b=some o->b≠a.d->b≠a.t->H' b=some o)->BkAt C H' p a F' B'->Q .non H')
theorem vw:FnScope ["self", "word", "number", "strip", "tables"] ["self", "word", "number", "strip"] (ao vI):=aZ
theorem yg {C:Addr} (F:Fun K "take_deed" "Book.take_deed" vI f fd) (N:Free mg) (T:BkC K C):FnOk P w K mg base CX0 1 f fd ["self", "word", "number", "strip"] (v9 C):=by
 refine okF F vw λcdv A outer s H vs Q E hr h=>?_
 ·obtain⟨p,a,F,B,B',n,r,word,st,rs,rfl,h,hrs,stM,td,i4,dy,q⟩:=h
  have hu:=eB hr
  refine⟨_,(ai (aF (i:=4) vw.nd rfl (Or.inl rfl) (bU ow (by rfl) N.dict PyProof.Rows.Boot.«dict» (ae (aH aR (br (pv 0) rfl) (hV eO ah) (λ_ _=>rfl)) af)))
   (ai (jt hu (pv 4) (aH be (aH aR (br (pv 0) rfl) (pv 2) (λ_ _=>rfl)) ah (λ_ _=>rfl)) (pv 3) rfl)
   (ai (aJ (dO PySem.F.plainAttrs_list PySem.F.slot_list_append PySem.F.type_list_append bN (br (pv 0) rfl) (ae (pv 4) af)))
   (am (aJ (dO PySem.F.plainAttrs_list PySem.F.slot_list_append PySem.F.type_list_append bN (br (pv 0) rfl) (ae (az (ae (pv 1) (ae (pv 2) af))) af))))))),?_⟩
  obtain⟨dx,ho⟩:=h.t.ob
  obtain⟨ps,e1,r1⟩:=h.hf
  obtain⟨qs,e2,r2⟩:=h.t.hd
  obtain⟨ts,e3,l3,r3⟩:=h.t.ht
  have z60:=h.ok.dsz
  rw [h.ds,List.length_append]at z60
  have z60:B.ds.length+1<=60:=z60
  obtain⟨t0,x,rfl⟩:∃t0 x,ts=t0++[x]:=by
   rcases List.eq_nil_or_concat ts with e | ⟨t0,x,e⟩
   ·rw [e]at l3;simp at l3
   ·exact⟨t0,x,by rw [e,List.concat_eq_append]⟩
  have l0:t0.length=B.ds.length:=by rw [List.length_append]at l3;simpa using l3
  have hx:(t0++[x])[B.ds.length]?=some x:=by rw [<- l0];simp
  have TX:=r3 _ x hx
  obtain⟨kvs,ex,kl,kk⟩:=TX.ex
  obtain⟨y0,ey,e4⟩:=oC r1 h.hr
  have elm:(t0++[x]).map V.ref=t0.map V.ref++[V.ref x]:=by rw [List.map_append];rfl
  refine⟨_,rfl,p,C,dx,_,_,rfl,ho,T.cl,T.n5,xx a,_,rfl,a.t,_,-1,V.ref x,rfl,rfl,SqL.of e3,by rw [elm];exact li _ _,x,kvs,rfl,ex,λy ny=>?_⟩
  have old:∀{b:Addr}{o o':HO},H b=some o->(upd H y o') b=some o:=λe=>by rw [aj (al e ny)];exact e
  refine⟨_,rfl,_,rfl,_,rfl,p,C,dx,_,_,rfl,old ho,T.cl,T.n2,pW a,_,rfl,a.f,_,_,V.ref y0,rfl,rfl,SqL.of (old e1),cq (by rw [List.getElem?_map,ey];rfl),y0,_,0,V.str r.1,rfl,rfl,SqT.of (old e4),rfl,y,_,rfl,rh.k (k:=Sum.inr r.1) ag (bq (by omega)),?_⟩
  rw [ix]
  refine⟨_,rfl,p,C,dx,_,_,rfl,old ho,T.cl,T.n5,xx a,.inl ⟨rfl,_,SqL.of (old e3)⟩,_,rfl,a.t,_,_,rfl,rfl,old e3,?_,?_⟩
  ·rw [List.length_map]
   exact bq (by rw [l3];omega)
  have dT:p≠a.t:=aS ho e3 (by intro z;cases z)
  have dD:p≠a.d:=aS ho e2 (by intro z;cases z)
  refine⟨_,rfl,p,C,dx,_,_,rfl,by rw [aj dT];exact old ho,T.cl,T.n4,AM a,.inl ⟨rfl,_,SqL.of (by rw [aj h.dt];exact old e2)⟩,_,rfl,_,rfl,by show 2<=sizeLine;decide,λw nw=>?_⟩
  have nw1:H w=none:=by
   by_cases z:w=a.t
   ·rw [z,ag]at nw;cases nw
   ·rw [aj z]at nw
    by_cases z2:w=y
    ·rw [z2,ag]at nw;cases nw
    ·rw [aj z2]at nw;exact nw
  have wy:w≠y:=λz=>by
   by_cases z':w=a.t
   ·rw [z',ag]at nw;cases nw
   ·rw [aj z',z,ag]at nw;cases nw
  have aw:a.d≠w:=λz=>by rw [<- z,e2]at nw1;cases nw1
  refine⟨a.d,_,_,rfl,rfl,by rw [aj aw,aj h.dt];exact old e2,?_,?_⟩
  ·rw [List.length_map,show qs.length=B.ds.length from Paired.length r2]
   exact bq (by omega)
  have st5:∀b o,H b=some o->b≠a.d->b≠a.t->upd (upd (upd (upd H y (.dK (cQ kvs (Sum.inr r.1) (.ref st)))) a.t (.lst ((t0++[x]).map V.ref++[V.ref y]))) w (.tup [.str word,.int (n:Int)])) a.d (.lst (qs.map V.ref++[V.ref w])) b=some o:=λb o e n1 n2=>by
   rw [aj n1,aj (al e nw1),aj n2]
   exact old e
  have M5:KeepM H _ a:=⟨λb o nb e=>st5 b o e (λz=>nb (.inr (.inr (.inl z)))) λz=>nb (.inr (.inr (.inr z)))⟩
  have tup5:=M5.tup h.tupM
  have yM:¬a.M y:=λz=>by
   rcases z with z | z | z | z
   ·rw [z,e1]at ny;cases ny
   ·rw [z,h.hw]at ny;cases ny
   ·rw [z,e2]at ny;cases ny
   ·rw [z,e3]at ny;cases ny
  have yd:y≠a.d:=λz=>yM (.inr (.inr (.inl z)))
  have yt:y≠a.t:=λz=>yM (.inr (.inr (.inr z)))
  obtain⟨f1,f2,f3,f4,f5⟩:=h.fa
  have wd:a.w≠a.d:=aS h.hw e2 (by intro z;cases z)
  have wt:a.w≠a.t:=aS h.hw e3 (by intro z;cases z)
  refine q _ (λb=>F b\/b=st\/b=y) (λb z=>.inl z) (λb z=>?_) st5 ⟨⟨dx,st5 _ _ ho dD dT⟩,by rw [h.ks];exact M5.own _ _ h.nn h.t.hn,⟨ps,st5 _ _ e1 h.fd h.ft,Paired.mapP r1 λ_ _ e=>tup5 _ _ e⟩,st5 _ _ h.hw wd wt,⟨qs++[w],?_,?_⟩,⟨t0++[x]++[y],?_,?_,λi z hz=>?_⟩,⟨.inl f1,.inl f2,.inl f3,.inl f4,.inl f5⟩,h.nn,h.fd,h.ft,h.dt,h.ok⟩
  ·rcases z with z | z | z
   ·exact .inl z
   ·exact .inr (.inl z)
   ·exact .inr (.inr (by rw [z];exact ny))
  ·rw [ag,List.map_append];rfl
  ·rw [h.ds]
   have hw5:upd (upd (upd (upd H y (.dK (cQ kvs (Sum.inr r.1) (.ref st)))) a.t (.lst ((t0++[x]).map V.ref++[V.ref y]))) w (.tup [.str word,.int (n:Int)])) a.d (.lst (qs.map V.ref++[V.ref w])) w=some (.tup (uP (word,(n:Int)))):=by
    rw [aj (Ne.symm aw),ag];rfl
   exact cE (Paired.mapP r2 λ_ _ e=>tup5 _ _ e) hw5
  ·rw [aj (Ne.symm h.dt),aj (λz=>by rw [<- z,e3]at nw1;cases nw1),ag,List.map_append (l₁:=t0++[x])];rfl
  ·rw [List.length_append,l3,h.ds,List.length_append];rfl
  ·by_cases hi:i < (t0++[x]).length
   ·rw [List.getElem?_append_left hi]at hz
    exact((r3 i z hz).keepM M5 h.tupM).other (λb z=>.inl z) h.ks λk d=>h.old k i d (by omega)
   ·have hi2:i=B.ds.length+1:=by
     have:=(List.getElem?_eq_some_iff.mp hz).1
     rw [List.length_append]at this
     have:i < (t0++[x]).length+1:=this
     omega
    have ez:z=y:=by
     rw [List.getElem?_append_right (by omega),hi2,l3,Nat.sub_self]at hz
     exact(Option.some.inj hz).symm
    subst ez hi2
    refine⟨.inr (.inr rfl),yM,cQ kvs (Sum.inr r.1) (.ref st),?_,?_,λk hk=>?_⟩
    ·rw [aj yd,aj (Ne.symm wy),aj yt,ag]
    ·have:=dI kvs (Sum.inr r.1) (V.ref st);omega
    ·rw [h.ks]at hk
     by_cases ek:k=r.1
     ·subst ek
      refine⟨st,rs,by rw [fS,if_pos rfl],.inr (.inl rfl),stM,dA hrs (λxs e=>M5.own _ _ stM e) tup5,td,i4,dy⟩
     ·obtain⟨ra,rs',e5,R⟩:=kk k hk
      have R5:=R.keepM M5 h.tupM
      refine⟨ra,rs',by rw [fS,if_neg (λz=>ek (Sum.inr.inj z))];exact e5,.inl R5.fp,R5.nm,R5.rl,R5.td,R5.i4,λd=>?_⟩
      have:=h.oth k d ek
      rw [R5.dy]
      exact congrArg (Option.map V.int) this.symm
theorem t6 {C:Addr}{H:Hp}{p:Addr}{a:BA}{F:Addr->Prop}{B:Bk} (h:BkAt C H p a F B):∀b xs,H b=some (.tup xs)->¬a.M b:=λb xs e z=>by
 obtain⟨ps,e1,_⟩:=h.hf
 obtain⟨qs,e2,_⟩:=h.hd
 obtain⟨ts,e3,_,_⟩:=h.ht
 rcases z with z | z | z | z
 ·rw [z,e1]at e;cases e
 ·rw [z,h.hw]at e;cases e
 ·rw [z,e2]at e;cases e
 ·rw [z,e3]at e;cases e
theorem yS {C:Addr}{H:Hp}{p:Addr}{a:BA}{F:Addr->Prop}{B:Bk} (h:BkAt C H p a F B):∀b c dx fs,H b=some (.ins c dx fs)->¬a.M b:=λb c dx fs e z=>by
 obtain⟨ps,e1,_⟩:=h.hf
 obtain⟨qs,e2,_⟩:=h.hd
 obtain⟨ts,e3,_,_⟩:=h.ht
 rcases z with z | z | z | z
 ·rw [z,e1]at e;cases e
 ·rw [z,h.hw]at e;cases e
 ·rw [z,e2]at e;cases e
 ·rw [z,e3]at e;cases e
theorem rc {C:Addr}{H:Hp}{p:Addr}{a:BA}{F:Addr->Prop}{B:Bk} (h:BkAt C H p a F B){b:Addr} (e:H b=none):¬a.M b:=λz=>by
 obtain⟨ps,e1,_⟩:=h.hf
 obtain⟨qs,e2,_⟩:=h.hd
 obtain⟨ts,e3,_,_⟩:=h.ht
 rcases z with z | z | z | z
 ·rw [z,e1]at e;cases e
 ·rw [z,h.hw]at e;cases e
 ·rw [z,e2]at e;cases e
 ·rw [z,e3]at e;cases e
theorem xu {C:Addr}{H H':Hp}{p:Addr}{a:BA}{F:Addr->Prop}{B:Bk} (h:BkAt C H p a F B) (g:KeepM H H' a) (ed:∀xs,H a.d=some (.lst xs)->H' a.d=some (.lst xs)) (et:∀xs,H a.t=some (.lst xs)->H' a.t=some (.lst xs)):BkT C H' p a F B:=by
 obtain⟨dx,e0⟩:=h.ob
 obtain⟨qs,e2,r2⟩:=h.hd
 obtain⟨ts,e3,l3,r3⟩:=h.ht
 exact⟨⟨dx,g.own _ _ (yS h _ _ _ _ e0) e0⟩,g.own _ _ h.nn h.hn,⟨qs,ed _ e2,Paired.mapP r2 λ_ _ e=>g.tup (t6 h) _ _ e⟩,⟨ts,et _ e3,l3,λi x e=>(r3 i x e).keepM g (t6 h)⟩⟩
theorem ci {T:Addr}{H H':Hp} (L:Lm T H) (k:∀b o,H b=some o->(∀xs,o≠.lst xs)->(∀xs,o≠.dK xs)->H' b=some o):Lm T H':=by
 rcases L with e | ⟨c,e1,e2⟩
 ·exact .inl (k _ _ e (by intro _ z;cases z) (by intro _ z;cases z))
 ·exact .inr ⟨c,k _ _ e1 (by intro _ z;cases z) (by intro _ z;cases z),k _ _ e2 (by intro _ z;cases z) (by intro _ z;cases z)⟩
inductive rF (C L:Addr) (vs:List V) (H:Hp) (Q:VK) (E:XK):Prop
 | mk (p:Addr) (a:BA) (F:Addr->Prop) (B:Bk) (n:Nat) (r:Fnd) (h1:vs=[.ref p,.int (n:Int)]) (h2:Lm L H) (h3:BkAt C H p a F B) (h4:B.fs[n]?=some r) (h5:valV B.gs (Sum.inl (n:Int))=none) (h6:B.ds.length < 60) (h7:∀(H':Hp) (F':Addr->Prop),Lm L H'->(∀b,F b->F' b)->(∀b,F' b->F b\/H b=none)->(∀b o,H b=some o->b≠L->¬a.M b->H' b=some o)->BkAt C H' p a F' (B.withd n)->Q .non H')
theorem rS:FnScope ["self", "number"] ["self", "number"] (ao nJ):=aZ
noncomputable abbrev Ab5 (P w K mg base C f fd):=MC P w K mg base C "take_deed" 1 ["self", "word", "number", "strip"] [] [] (v9 C) f fd
theorem ww {C L:Addr} (F:Fun K "withdraw" "Book.withdraw" nJ f fd) (T:BkC K C) (MK:MC P w K mg base C "check_number" 2 ["self", "number"] [] [] (iC C) f1 fd1) (MR:MC P w K mg base C "check_room" 2 ["self"] [] [] (gJ C) f2 fd2) (MN:Ab4 P w K mg base C f3 fd3) (MD:Ab5 P w K mg base C f4 fd4) (MW:MC P w K mg base C "table_of_known" 5 ["self", "key"] [] [] (nj C L) f5 fd5):FnOk P w K mg base CX0 6 f fd ["self", "number"] (rF C L):=by
 refine okF F rS λcdv A outer s H vs Q E hr h=>?_
 ·obtain⟨p,a,F,B,n,r,rfl,LL,h,hr1,hg,h60,q⟩:=h
  have hu:=eB hr
  refine⟨_,(ai (aJ (fw (pv 0) MK hr (ae (pv 1) af)))
   (ai (aO (gp (wo hu (pv 1) (br (pv 0) rfl))) (am cK) aE)
   (ai (aJ (dH (pv 0) MR hr))
   (ai (jt hu (br (pv 0) rfl) (pv 1) (aD bL (dH (pv 0) MN hr) ah) rfl)
   (am (aJ (fw (pv 0) MD hr (ae ay (ae (pv 1) (ae (fw (pv 0) MW hr (ae (aH be (aH aR (br (pv 0) rfl) (pv 1) (λ_ _=>rfl)) ah (λ_ _=>rfl)) af)) af)))))))))),?_⟩
  obtain⟨dx,ho⟩:=h.ob
  obtain⟨ps,e1,r1⟩:=h.hf
  obtain⟨qs,e2,r2⟩:=h.hd
  obtain⟨ts,e3,l3,r3⟩:=h.ht
  obtain⟨y0,ey,e4⟩:=oC r1 hr1
  have hn:=(List.getElem?_eq_some_iff.mp hr1).1
  have gsz:=h.ok.gsz
  refine⟨_,rfl,p,dx,_,rfl,ho,bi a (by decide +kernel) (by decide +kernel) (by decide +kernel) (by decide +kernel) (by decide +kernel),_,rfl,p,a,F,B,n,rfl,h,hn,?_⟩
  refine⟨_,rfl,_,rfl,p,C,dx,_,_,rfl,ho,T.cl,T.n3,xw a,a.w,_,rfl,cL.k (k:=Sum.inl (n:Int)) h.hw,_,rfl,?_⟩
  rw [hg]
  refine aX ⟨_,rfl,p,dx,_,rfl,ho,bi a (by decide +kernel) (by decide +kernel) (by decide +kernel) (by decide +kernel) (by decide +kernel),p,a,F,B,rfl,h.toT,h60,?_⟩
  refine⟨_,rfl,p,dx,_,rfl,ho,bi a (by decide +kernel) (by decide +kernel) (by decide +kernel) (by decide +kernel) (by decide +kernel),p,a,F,B,rfl,h.toT,_,_,rfl,rfl,_,rfl,p,C,dx,_,_,rfl,ho,T.cl,T.n3,xw a,_,rfl,a.w,_,rfl,rh.k (k:=Sum.inl (n:Int)) h.hw (bq (by omega)),?_⟩
  have ste1:∀b o,H b=some o->b≠a.w->upd H a.w (.dK (cQ B.gs (Sum.inl (n:Int)) (.int ((B.ds.length:Int)+1)))) b=some o:=λb o e n1=>by
   rw [aj n1];exact e
  have wp:p≠a.w:=aS ho h.hw (by intro z;cases z)
  have wf:a.f≠a.w:=aS e1 h.hw (by intro z;cases z)
  have wd:a.d≠a.w:=aS e2 h.hw (by intro z;cases z)
  have wt:a.t≠a.w:=aS e3 h.hw (by intro z;cases z)
  have L1:Lm L (upd H a.w (.dK (cQ B.gs (Sum.inl (n:Int)) (.int ((B.ds.length:Int)+1))))):=ci LL λb o e _ n1=>ste1 b o e λz=>by rw [z,h.hw]at e;exact n1 _ (Option.some.inj e).symm
  have tup1:∀b xs,H b=some (.tup xs)->upd H a.w (.dK (cQ B.gs (Sum.inl (n:Int)) (.int ((B.ds.length:Int)+1)))) b=some (.tup xs):=λb xs e=>ste1 _ _ e (aS e h.hw (by intro z;cases z))
  refine⟨_,rfl,p,dx,_,rfl,ste1 _ _ ho wp,bi a (by decide +kernel) (by decide +kernel) (by decide +kernel) (by decide +kernel) (by decide +kernel),_,rfl,_,rfl,p,dx,_,rfl,ste1 _ _ ho wp,bi a (by decide +kernel) (by decide +kernel) (by decide +kernel) (by decide +kernel) (by decide +kernel),_,rfl,p,C,dx,_,_,rfl,ste1 _ _ ho wp,T.cl,T.n2,pW a,_,rfl,a.f,_,_,V.ref y0,rfl,rfl,SqL.of (ste1 _ _ e1 wf),cq (by rw [List.getElem?_map,ey];rfl),y0,_,0,V.str r.1,rfl,rfl,SqT.of (tup1 _ _ e4),rfl,?_⟩
  refine⟨p,a,r.1,B.fs,cQ B.gs (Sum.inl (n:Int)) (.int ((B.ds.length:Int)+1)),dx,ps,rfl,ste1 _ _ ho wp,ste1 _ _ e1 wf,Paired.mapP r1 λ_ _ e=>tup1 _ _ e,ag,λx hx=>?_,L1,λst rs H3 nst g3 hrs td i4 dy=>?_⟩
  ·obtain⟨_,a1,a2,a3,_⟩:=h.ok.fin x hx
   exact⟨a1,a2,a3⟩
  have keep3:∀b o,H b=some o->b≠L->b≠a.w->H3 b=some o:=λb o e n1 n2=>g3.same b o n1 (ste1 b o e n2)
  have free1:∀b,H3 b=none->H b=none:=λb e=>by
   have e1':=Gm.free g3 e
   by_cases z:b=a.w
   ·rw [z,ag]at e1';cases e1'
   ·rw [aj z]at e1';exact e1'
  have nst1:H st=none:=by
   by_cases z:st=a.w
   ·rw [z,ag]at nst;cases nst
   ·rw [aj z]at nst;exact nst
  have noL:∀{b:Addr}{o:HO},H b=some o->(∀ps,o≠.tbl ps)->b≠L:=λe n z=>by
   obtain⟨us,eu⟩:=LL.tbl
   rw [z,eu]at e
   exact n us (Option.some.inj e).symm
  have tup3:∀b xs,H b=some (.tup xs)->H3 b=some (.tup xs):=λb xs e=>g3.tup L1 (tup1 b xs e)
  have O':=h.ok.withd hn h60
  have el:((B.withd n).ds.length:Int)=(B.ds.length:Int)+1:=by simp [Bk.withd]
  have T3:BkT C H3 p a F B:=by
   refine⟨⟨dx,keep3 _ _ ho (noL ho (by intro _ z;cases z)) wp⟩,keep3 _ _ h.hn (noL h.hn (by intro _ z;cases z)) (λz=>h.nn (.inr (.inl z))),⟨qs,keep3 _ _ e2 (noL e2 (by intro _ z;cases z)) wd,Paired.mapP r2 λ_ _ e=>tup3 _ _ e⟩,⟨ts,keep3 _ _ e3 (noL e3 (by intro _ z;cases z)) wt,l3,λi x e=>?_⟩⟩
   obtain⟨kvs,ex,kl,kk⟩:=(r3 i x e).ex
   refine⟨(r3 i x e).fp,(r3 i x e).nm,kvs,keep3 _ _ ex (noL ex (by intro _ z;cases z)) (λz=>(r3 i x e).nm (.inr (.inl z))),kl,λk' hk'=>?_⟩
   obtain⟨ra,rs',e5,R⟩:=kk k' hk'
   exact⟨ra,rs',e5,R.fp,R.nm,dA R.rl (λxs e=>keep3 _ _ e (noL e (by intro _ z;cases z)) λz=>R.nm (.inr (.inl z))) tup3,R.td,R.i4,R.dy⟩
  have HF:Half C H3 p a F B (B.withd n) n r fQ:=by
   refine⟨T3,⟨ps,keep3 _ _ e1 (noL e1 (by intro _ z;cases z)) wf,Paired.mapP r1 λ_ _ e=>tup3 _ _ e⟩,g3.dK L1 ag,h.fa,h.nn,h.fd,h.ft,h.dt,rfl,rfl,O',hr1,λk' t d ht=>h.ok.withd_old hg ht k' d,λk' d hk'=>h.ok.withd_other hr1 h60 hk' d⟩
  refine⟨p,a,F,B,B.withd n,n,r,fQ,st,rs,rfl,HF,hrs,rc h nst1,td,i4,λd=>?_,λH' F' hF hF2 st5 BK=>?_⟩
  ·have nw:=O'.now r.1 d
   rw [el]at nw
   rw [dy,nw]
   rfl
  ·refine q H' F' (ci g3.lam λb o e n1 n2=>st5 b o e (λz=>?_) λz=>?_) hF (λb z=>?_) (λb o e n1 n2=>st5 b o (keep3 b o e n1 λz=>n2 (.inr (.inl z))) (λz=>n2 (.inr (.inr (.inl z)))) λz=>n2 (.inr (.inr (.inr z)))) BK
   ·obtain⟨_,e4,_⟩:=T3.hd
    rw [z,e4]at e;exact n1 _ (Option.some.inj e).symm
   ·obtain⟨_,e4,_⟩:=T3.ht
    rw [z,e4]at e;exact n1 _ (Option.some.inj e).symm
   ·rcases hF2 b z with z | z | z
    ·exact .inl z
    ·exact .inr (by rw [z];exact nst1)
    ·exact .inr (free1 b z)
inductive qo (C L:Addr) (vs:List V) (H:Hp) (Q:VK) (E:XK):Prop
 | mk (p:Addr) (a:BA) (F:Addr->Prop) (B:Bk) (k:Str) (f l v:Int) (h1:vs=[.ref p,.str k,.int f,.int l,.int v]) (h2:Lm L H) (h3:BkAt C H p a F B) (h4:k∈B.ks) (h5:0<=f) (h6:f<=l) (h7:l < 400) (h8 : -1000000000<=v) (h9:v<=1000000000) (h10:B.ds.length < 60) (h11:∀(H':Hp) (F':Addr->Prop),Lm L H'->(∀b,F b->F' b)->(∀b,F' b->F b\/H b=none)->(∀b o,H b=some o->b≠L->¬a.M b->H' b=some o)->BkAt C H' p a F' (B.find k f l v)->Q (.int (B.fs.length:Int)) H')
theorem nI:FnScope ["self", "key", "first", "last", "value", "number"] ["self", "key", "first", "last", "value"] (ao sg):=aZ
theorem sH {C L:Addr} (F:Fun K "find" "Book.find" sg f fd) (N:Free mg) (Z:Con mg) (T:BkC K C) (MY:MC P w K mg base C "check_key" 1 ["self", "key"] [] [] (iD C) f1 fd1) (CC:Cal P w K mg base "check_stretch" 3 ["first", "last"] nB f2 fd2) (CW:Ab2 P w K mg base f3 fd3) (MR:MC P w K mg base C "check_room" 2 ["self"] [] [] (gJ C) f4 fd4) (MN:Ab4 P w K mg base C f5 fd5) (MD:Ab5 P w K mg base C f6 fd6) (MB:MC P w K mg base C "table" 3 ["self", "key", "turn"] [Value.none] [V.non] (jl C) f7 fd7) (CL:Cal P w K mg base "laid" 4 ["strip", "first", "last", "mark"] (jH L) f8 fd8):FnOk P w K mg base CX0 5 f fd ["self", "key", "first", "last", "value"] (qo C L):=by
 obtain⟨t1,c1⟩:=Z.value
 refine okF F nI λcdv A outer s H vs Q E hr h=>?_
 ·obtain⟨p,a,F,B,k,f,l,v,rfl,LL,h,hk,h0,h1,h2,v0,v1,h60,q⟩:=h
  refine⟨_,(ai (aJ (fw (pv 0) MY hr (ae (pv 1) af)))
   (ai (aJ (aW CC hr (ae (pv 2) (ae (pv 3) af))))
   (ai (aO (bQ (bH (aW CW hr (ae (pv 4) (ae (hV eO (bR (v:=.int 1000000000) (by rfl) c1 ⟨_,rfl⟩)) (ae (bR (v:=.int 1000000000) (by rfl) c1 ⟨_,rfl⟩) af)))))) (am cK) aE)
   (ai (aJ (dH (pv 0) MR hr))
   (ai (aF (i:=5) nI.nd rfl (Or.inl rfl) (aA aG (by rfl) N.len PySem.boot_len (ae (br (pv 0) rfl) af)))
   (ai (aJ (dO PySem.F.plainAttrs_list PySem.F.slot_list_append PySem.F.type_list_append bN (br (pv 0) rfl) (ae (az (ae (pv 1) (ae (pv 2) (ae (pv 3) (ae (pv 4) (ae (aD bL (dH (pv 0) MN hr) ah) af)))))) af)))
   (ai (aJ (fw (pv 0) MD hr (ae ay (ae (pv 5) (ae (aW CL hr (ae (fw (pv 0) MB hr (ae (pv 1) af)) (ae (pv 2) (ae (pv 3) (ae (pv 5) af))))) af)))))
   (am (aB (pv 5)))))))))),?_⟩
  obtain⟨dx,ho⟩:=h.ob
  obtain⟨ps,e1,r1⟩:=h.hf
  obtain⟨qs,e2,r2⟩:=h.hd
  obtain⟨ts,e3,l3,r3⟩:=h.ht
  have lps:ps.length=B.fs.length:=Paired.length r1
  have fsz:=h.ok.fsz
  refine⟨_,rfl,p,dx,_,rfl,ho,bi a (by decide +kernel) (by decide +kernel) (by decide +kernel) (by decide +kernel) (by decide +kernel),_,rfl,p,a,F,B,k,rfl,h.toT,hk,?_⟩
  refine⟨_,rfl,_,rfl,f,l,rfl,h0,h1,h2,?_⟩
  refine⟨_,rfl,_,rfl,v,-1000000000,1000000000,rfl,_,rfl,?_⟩
  rw [decide_eq_true v0,decide_eq_true v1]
  refine aX ⟨_,rfl,p,dx,_,rfl,ho,bi a (by decide +kernel) (by decide +kernel) (by decide +kernel) (by decide +kernel) (by decide +kernel),p,a,F,B,rfl,h.toT,h60,?_⟩
  refine⟨_,rfl,p,C,dx,_,_,rfl,ho,T.cl,T.n2,pW a,a.f,_,rfl,.inl (SqL.of e1),?_⟩
  rw [List.length_map,lps]
  refine⟨_,rfl,p,C,dx,_,_,rfl,ho,T.cl,T.n2,pW a,.inl ⟨rfl,_,SqL.of e1⟩,_,rfl,_,rfl,_,rfl,_,rfl,_,rfl,p,dx,_,rfl,ho,bi a (by decide +kernel) (by decide +kernel) (by decide +kernel) (by decide +kernel) (by decide +kernel),p,a,F,B,rfl,h.toT,_,_,rfl,rfl,by show 5<=sizeLine;decide,λy ny=>?_⟩
  refine⟨a.f,_,_,rfl,rfl,by rw [aj (al e1 ny)];exact e1,by rw [List.length_map];exact bq (by omega),?_⟩
  have yM:=rc h ny
  have ste1:∀b o,H b=some o->b≠a.f->upd (upd H y (.tup (oJ (k,f,l,v,(B.ds.length:Int)+1)))) a.f (.lst (ps.map V.ref++[V.ref y])) b=some o:=λb o e n1=>by
   rw [aj n1,aj (al e ny)];exact e
  have M1:KeepM H _ a:=⟨λb o nb e=>ste1 b o e λz=>nb (.inl z)⟩
  have T1:BkT C _ p a F B:=xu h M1 (λxs e=>ste1 _ _ e (Ne.symm h.fd)) λxs e=>ste1 _ _ e (Ne.symm h.ft)
  have pf:p≠a.f:=aS ho e1 (by intro z;cases z)
  have L1:Lm L (upd (upd H y (.tup (oJ (k,f,l,v,(B.ds.length:Int)+1)))) a.f (.lst (ps.map V.ref++[V.ref y]))):=ci LL λb o e n1 _=>ste1 b o e λz=>by rw [z,e1]at e;exact n1 _ (Option.some.inj e).symm
  refine⟨_,rfl,p,dx,_,rfl,ste1 _ _ ho pf,bi a (by decide +kernel) (by decide +kernel) (by decide +kernel) (by decide +kernel) (by decide +kernel),_,rfl,_,rfl,p,dx,_,rfl,ste1 _ _ ho pf,bi a (by decide +kernel) (by decide +kernel) (by decide +kernel) (by decide +kernel) (by decide +kernel),_,rfl,p,a,F,B,k,.non,B.ds.length,rfl,T1,hk,Nat.le_refl _,.inl ⟨rfl,rfl⟩,λls ps2 rs nls rp td i4 dy=>?_⟩
  have g2:Gm L (upd (upd H y (.tup (oJ (k,f,l,v,(B.ds.length:Int)+1)))) a.f (.lst (ps.map V.ref++[V.ref y]))) _:=Go.new (o:=.lst (ps2.map V.ref)) L1 nls
  refine⟨_,rfl,_,rfl,_,rfl,ls,f,l,(B.fs.length:Int),rs,rfl,g2.lam,⟨ps2,ag,cO rp λx xs e=>g2.tup L1 e⟩,td.up.disj,i4,p6 td.up i4,h0,h1,h2,λst acc H3 nst g3 hacc td3 dy3 i43 _=>?_⟩
  have g13:=g2.trans g3
  have keep3:∀b o,H b=some o->b≠L->b≠a.f->H3 b=some o:=λb o e n1 n2=>g13.same b o n1 (ste1 b o e n2)
  have free1:∀b,H3 b=none->H b=none:=λb e=>by
   have e1':=Gm.free g13 e
   by_cases z:b=a.f
   ·rw [z,ag]at e1';cases e1'
   ·rw [aj z]at e1'
    by_cases z2:b=y
    ·rw [z2];exact ny
    ·rw [aj z2]at e1';exact e1'
  have nst1:H st=none:=by
   have e1':=Gm.free g2 nst
   by_cases z:st=a.f
   ·rw [z,ag]at e1';cases e1'
   ·rw [aj z]at e1'
    by_cases z2:st=y
    ·rw [z2];exact ny
    ·rw [aj z2]at e1';exact e1'
  have noL:∀{b:Addr}{o:HO},H b=some o->(∀ps,o≠.tbl ps)->b≠L:=λe n z=>by
   obtain⟨us,eu⟩:=LL.tbl
   rw [z,eu]at e
   exact n us (Option.some.inj e).symm
  have tup3:∀b xs,H b=some (.tup xs)->H3 b=some (.tup xs):=λb xs e=>keep3 _ _ e (noL e (by intro _ z;cases z)) (aS e e1 (by intro z;cases z))
  have O':=h.ok.find (v:=v) hk h0 h1 h2 h60
  have T3:BkT C H3 p a F B:=by
   refine⟨⟨dx,keep3 _ _ ho (noL ho (by intro _ z;cases z)) pf⟩,keep3 _ _ h.hn (noL h.hn (by intro _ z;cases z)) (λz=>h.nn (.inl z)),⟨qs,keep3 _ _ e2 (noL e2 (by intro _ z;cases z)) (Ne.symm h.fd),Paired.mapP r2 λ_ _ e=>tup3 _ _ e⟩,⟨ts,keep3 _ _ e3 (noL e3 (by intro _ z;cases z)) (Ne.symm h.ft),l3,λi x e=>?_⟩⟩
   obtain⟨kvs,ex,kl,kk⟩:=(r3 i x e).ex
   refine⟨(r3 i x e).fp,(r3 i x e).nm,kvs,keep3 _ _ ex (noL ex (by intro _ z;cases z)) (λz=>(r3 i x e).nm (.inl z)),kl,λk' hk'=>?_⟩
   obtain⟨ra,rs',e5,R⟩:=kk k' hk'
   exact⟨ra,rs',e5,R.fp,R.nm,dA R.rl (λxs e=>keep3 _ _ e (noL e (by intro _ z;cases z)) λz=>R.nm (.inl z)) tup3,R.td,R.i4,R.dy⟩
  have f3:H3 a.f=some (.lst (ps.map V.ref++[V.ref y])):=g13.lst L1 ag
  have y3:H3 y=some (.tup (oJ (k,f,l,v,(B.ds.length:Int)+1))):=g13.tup L1 (by rw [aj (λz=>yM (.inl z)),ag])
  have HF:Half C H3 p a F B (B.find k f l v) B.fs.length (k,f,l,v,(B.ds.length:Int)+1) j9:=by
   refine⟨T3,⟨ps++[y],by rw [f3,List.map_append];rfl,cE (Paired.mapP r1 λ_ _ e=>tup3 _ _ e) y3⟩,keep3 _ _ h.hw (noL h.hw (by intro _ z;cases z)) (aS h.hw e1 (by intro z;cases z)),h.fa,h.nn,h.fd,h.ft,h.dt,rfl,rfl,O',?_,λk' t d ht=>h.ok.find_old ht k' d,λk' d hk'=>?_⟩
   ·show (B.fs++[(k,f,l,v,(B.ds.length:Int)+1)])[B.fs.length]?=_
    simp
   ·rw [h.ok.find_now,if_neg (λz=>hk' z.1.symm)]
  refine⟨p,a,F,B,B.find k f l v,B.fs.length,(k,f,l,v,(B.ds.length:Int)+1),j9,st,acc,rfl,HF,hacc,rc h nst1,td3,i43,λd=>?_,λH' F' hF hF2 st5 BK=>?_⟩
  ·rw [dy3,h.ok.find_now]
   unfold Strip.laidG
   by_cases hd:f<=d/\d<=l
   ·rw [if_pos hd,if_pos ⟨rfl,hd⟩];rfl
   ·rw [if_neg hd,if_neg (λz=>hd z.2)];exact dy d
  ·refine⟨_,rfl,q H' F' (ci g13.lam λb o e n1 n2=>st5 b o e (λz=>?_) λz=>?_) hF (λb z=>?_) (λb o e n1 n2=>st5 b o (keep3 b o e n1 λz=>n2 (.inl z)) (λz=>n2 (.inr (.inr (.inl z)))) λz=>n2 (.inr (.inr (.inr z)))) BK⟩
   ·obtain⟨_,e4,_⟩:=T3.hd
    rw [z,e4]at e;exact n1 _ (Option.some.inj e).symm
   ·obtain⟨_,e4,_⟩:=T3.ht
    rw [z,e4]at e;exact n1 _ (Option.some.inj e).symm
   ·rcases hF2 b z with z | z | z
    ·exact .inl z
    ·exact .inr (by rw [z];exact nst1)
    ·exact .inr (free1 b z)
noncomputable abbrev vP:Stmt:=top 45
theorem aQ {c:TT}{t u:TS}{D:Ends}{Y:St}{H:Hp} (h:c Y H λb H1=>if b=true then t D Y H1 else u D Y H1):qi c t u D Y H:=h
theorem uO {a b i:Int} (h0:0<=i) (h1:i < 2):∃s:Int,(s=a\/s=b)/\atI [V.int a,V.int b] i=some (V.int s):=by
 rcases (show i=0\/i=1 by omega) with rfl | rfl
 ·exact⟨a,.inl rfl,rfl⟩
 ·exact⟨b,.inr rfl,rfl⟩
theorem pQ {H:Hp}:∀xs:List Nat,DatVs H (xs.map λi:Nat=>V.int (i:Int)) (xs.map λi:Nat=>PySem.W.Dat.int (i:Int))
 | []=>.nil
 | x::xs=>.cons (.int _) (pQ xs)
theorem ur {Y:St}{H:Hp}{D:Addr}{c:Int}{xs:List Nat}{R:Bool->Hp->Prop} (h2:Y[2]?=some (some (.int c))) (h4:Y[4]?=some (some (.ref D))) (hD:H D=some (.lst (xs.map λi:Nat=>V.int (i:Int))))
  (h:∀(bb:Bool) (H1:Hp),aq H H1->(bb=true->xs≠[])->R bb H1) :
  Bb (fT (tOp rEq (fU nA [] E0 (aV (cr 2) (aV (tC (V.int 0)) (aV (tC (V.int 4)) bT)))) (tC (V.int 3)))) (fT (tOp (qC true) (cr 4) (gY bT))) Y H R:=by
 refine⟨_,h2,c,0,4,rfl,by decide,by decide,by decide,λn _ _=>⟨rfl,_,rfl,?_⟩⟩
 cases decide (V.int n=V.int 3) with
 | false=>exact aX (h _ _ aq.refl λz=>by cases z)
 | true=>
  refine bG ⟨_,h4,Nat.zero_le _,λp np=>?_⟩
  have hD2:upd H p (.lst []) D=some (.lst (xs.map λi:Nat=>V.int (i:Int))):=by rw [aj (al hD np)];exact hD
  refine⟨.list (xs.map λi:Nat=>PySem.W.Dat.int (i:Int)),.list [],.lst hD2 (pQ xs),.lst ag .nil,?_,rfl,decide (xs=[]),?_,_,rfl,h _ _ (aq.new np) λz=>?_⟩
  ·show (xs.map λi:Nat=>PySem.W.Dat.int (i:Int)).all (PySem.W.kqdOk 8)=true
   refine List.all_eq_true.mpr λd hd=>?_
   obtain⟨i,_,rfl⟩:=List.mem_map.mp hd
   rfl
  ·rw [decide_eq_true_iff]
   constructor
   ·intro e;rw [e];rfl
   ·intro e
    have:=PySem.W.Dat.list.inj e
    exact List.map_eq_nil_iff.mp this
  ·intro e
   rw [e]at z
   cases z
inductive vj (C L:Addr) (vs:List V) (H:Hp) (Q:VK) (E:XK):Prop
 | mk (p:Addr) (a:BA) (F:Addr->Prop) (s:SA) (B:Bk) (c span:Int) (h1:vs=[.ref p,.ref s.d,.int c,.int span]) (h2:Lm L H) (h3:Pair C L H p a F s B) (h4:0 < span) (h5:span<=400) (h6:B.ds.length < 60) (h7:∀(H':Hp) (F':Addr->Prop) (B':Bk),Lm L H'->Pair C L H' p a F' s B'->B'.ds.length=B.ds.length+1->1<=B'.fs.length->B'.ks=B.ks->(∀b,F' b->F b\/H b=none)->(∀b o,H b=some o->b≠L->¬a.M b->¬s.At b->H' b=some o)->Q (.bl true) H')
theorem dU:FnScope ["_law_book", "_law_state_here", "_law_cell_here", "_law_span", "_law_standing_here", "_law_number", "_law_key", "_law_first", "_law_last", "_law_value", "_law_told_here"] ["_law_book", "_law_state_here", "_law_cell_here", "_law_span"] (ao vP):=aZ
theorem yp {C L:Addr} (F:Fun K "_law_done" "_law_done" vP f fd) (N:Free mg) (CD:Ab1 P w K mg base f1 fd1) (CS:Cal P w K mg base "_law_standing" 1 ["_law_state_here"] mY f2 fd2) (CT:Cal P w K mg base "_law_stretch" 3 ["_law_cell_here", "_law_k", "_law_span"] lQ f3 fd3) (CW:Cal P w K mg base "_law_whole" 1 ["_law_found"] rG f4 fd4) (MF:MC P w K mg base C "find" 5 ["self", "key", "first", "last", "value"] [] [] (qo C L) f5 fd5) (MW:MC P w K mg base C "withdraw" 6 ["self", "number"] [] [] (rF C L) f6 fd6):FnOk P w K mg base CX0 7 f fd ["_law_book", "_law_state_here", "_law_cell_here", "_law_span"] (vj C L):=by
 refine okF F dU λcdv A outer s H vs Q E hr h=>?_
 ·obtain⟨p,a,F,s,B,c,span,rfl,LL,h,s0,s1,h60,q⟩:=h
  have hu:=eB hr
  refine⟨_,(ai (aF (i:=4) dU.nd rfl (Or.inl rfl) (aW CS hr (ae (pv 1) af)))
   (ai (aO (PW.pt (o7 (aY dk (aW CD hr (ae (pv 2) (ae ah (ae ah af)))) ah (b9 _)) (js (aY (eZ hr.units) (pv 4) (aM af) (b9 _))))) (ai (aF (i:=5) dU.nd rfl (Or.inl rfl) (aH aR (pv 4) (aW CD hr (ae (pv 2) (ae ah (ae (aA aG (by rfl) N.len PySem.boot_len (ae (pv 4) af)) af)))) (λ_ _=>rfl)))
   (ai (aJ (dO PySem.F.plainAttrs_list PySem.F.slot_list_append PySem.F.type_list_append bN (bJ hu (pv 1) ay (λ_ _=>rfl)) (ae (az (ae ay (ae (pv 5) af))) af)))
   (ai (jt hu (bJ hu (pv 1) ay (λ_ _=>rfl)) (pv 5) (aA aG (by rfl) N.len PySem.boot_len (ae (bJ hu (pv 1) ay (λ_ _=>rfl)) af)) rfl)
   (am (aB (Ae (ku (fw (pv 0) MW hr (ae (pv 5) af))))))))) aE)
   (ai (aF (i:=6) dU.nd rfl (Or.inl rfl) (aH aR (bJ hu (pv 1) ay (λ_ _=>rfl)) (aW CD hr (ae (pv 2) (ae ah (ae (aA aG (by rfl) N.len PySem.boot_len (ae (bJ hu (pv 1) ay (λ_ _=>rfl)) af)) af)))) (λ_ _=>rfl)))
   (ai (we (aW CT hr (ae (pv 2) (ae ah (ae (pv 3) af)))) (gx rfl (bB (bp (i:=7) dU.nd rfl (Or.inl rfl)) (bB (bp (i:=8) dU.nd rfl (Or.inl rfl)) eN))))
   (ai (aF (i:=9) dU.nd rfl (Or.inl rfl) (aW CD hr (ae (pv 2) (ae ah (ae (aH aR (aM (ae ah (ae (aD bL (aD eS ah (aD cR ah ah)) ah) af))) (aW CD hr (ae (pv 2) (ae ah (ae ah af)))) (λ_ _=>rfl)) af)))))
   (ai (aF (i:=9) dU.nd rfl (Or.inl rfl) (aH aR (aM (ae (pv 9) (ae (aD cJ (pv 9) (aD cR ah ah)) af))) (aW CD hr (ae (pv 2) (ae ah (ae ah af)))) (λ_ _=>rfl)))
   (ai (aO (aY wu (pv 9) (aD cR ah ah) (b9 _)) (am (aF (i:=9) dU.nd rfl (Or.inl rfl) (aD cR ah ah))) aE)
   (ai (aF (i:=5) dU.nd rfl (Or.inl rfl) (aA aG (by rfl) N.len PySem.boot_len (ae (bJ hu (pv 1) ay (λ_ _=>rfl)) af)))
   (ai (aJ (dO PySem.F.plainAttrs_list PySem.F.slot_list_append PySem.F.type_list_append bN (bJ hu (pv 1) ay (λ_ _=>rfl)) (ae (az (ae ay (ae (pv 5) af))) af)))
   (ai (aJ (dO PySem.F.plainAttrs_list PySem.F.slot_list_append PySem.F.type_list_append bN (bJ hu (pv 1) ay (λ_ _=>rfl)) (ae (az (ae (pv 6) (ae (pv 7) (ae (pv 8) (ae (pv 9) (ae (aA aG (by rfl) N.len PySem.boot_len (ae (bJ hu (pv 1) ay (λ_ _=>rfl)) af)) af)))))) af)))
   (ai (aF (i:=10) dU.nd rfl (Or.inl rfl) (fw (pv 0) MF hr (ae (pv 6) (ae (pv 7) (ae (pv 8) (ae (pv 9) af))))))
   (am (aB (dL (aW CW hr (ae (pv 10) af)) (eR (fA dk (pv 10) (pv 5) (b9 _))))))))))))))))),?_⟩
  obtain⟨dx,ho⟩:=h.bk.ob
  have fsz:=h.bk.ok.fsz
  have k1:=h.bk.ok.k1
  refine au (aK ?_)
  refine⟨_,rfl,s,B,rfl,h.st,by omega,λD nD=>?_⟩
  dsimp only [aN]
  have g1:aq H (upd H D (.lst ((cw B).map λi:Nat=>V.int (i:Int)))):=aq.new nD
  have eD:upd H D (.lst ((cw B).map λi:Nat=>V.int (i:Int))) D=some (.lst ((cw B).map λi:Nat=>V.int (i:Int))):=ag
  have L1:Lm L (upd H D (.lst ((cw B).map λi:Nat=>V.int (i:Int)))):=LL.upd_new nD
  generalize upd H D (.lst ((cw B).map λi:Nat=>V.int (i:Int)))=H1 at g1 eD L1
  have P1:=h.grow g1
  refine au (aQ (ur (xs:=cw B) rfl rfl eD λbb H2 g2 hb=>?_))
  have P2:=P1.grow g2
  have g12:=g1.trans g2
  have L2':Lm L H2:=ci L1 λb o e _ _=>g2 b o e
  obtain⟨pL,hL2⟩:=L2'.tbl
  have eD2:=g2 _ _ eD
  have ho2:=g12 _ _ ho
  obtain⟨ps,e1,r1⟩:=id P2.st.hf
  obtain⟨qs,e2,r2⟩:=id P2.st.he
  have lps:ps.length=B.fs.length:=Paired.length r1
  have lqs:qs.length=B.ds.length:=Paired.length r2
  dsimp only
  cases bb with
  | true=>
   refine bG (au (aK ?_))
   have hne:(cw B).length≠0:=λz=>hb rfl (List.eq_nil_of_length_eq_zero z)
   refine⟨_,rfl,_,rfl,_,rfl,D,_,rfl,.inl (SqL.of eD2),c,1,_,rfl,by decide,by decide,by rw [List.length_map];omega,λi i0 i1=>?_⟩
   rw [List.length_map]at i1
   obtain⟨i,rfl⟩:∃j:Nat,i=(j:Int):=⟨i.toNat,by omega⟩
   have ei:(cw B)[i]?=some ((cw B)[i]'(by omega)):=List.getElem?_eq_getElem (by omega)
   generalize (cw B)[i]'(by omega)=n at ei
   obtain⟨n1,n2⟩:=jD ei
   refine⟨D,_,(i:Int),V.int (n:Int),rfl,rfl,SqL.of eD2,cq (by rw [List.getElem?_map,ei];rfl),?_⟩
   dsimp only [aN]
   refine au (bE (kb ?_))
   refine⟨_,rfl,s.d,_,rfl,P2.st.d_e,.inl ⟨rfl,_,SqL.of e2⟩,_,rfl,by show 2<=sizeLine;decide,λy ny=>?_⟩
   have ne2:upd H2 y (.tup [.str fQ,.int (n:Int)]) s.e=some (.lst (qs.map V.ref)):=by rw [aj (al e2 ny)];exact e2
   refine⟨s.e,_,_,rfl,rfl,ne2,by rw [List.length_map];exact bq (by omega),?_⟩
   dsimp only
   generalize E1:upd (upd H2 y (.tup [.str "withdraw", .int (n:Int)])) s.e (.lst (qs.map V.ref++[.ref y]))=H3
   generalize E2:upd H3 s.g (.dK (cQ B.gs (Sum.inl (n:Int)) (.int ((B.ds.length:Int)+1))))=H4
   obtain⟨S4,K4⟩:=P2.st.withd e2 r2 ny E1.symm E2.symm
   have k3:∀b o,H2 b=some o->b≠s.e->H3 b=some o:=λb o e nb=>by rw [<- E1,aj nb,aj (al e ny)];exact e
   have d3:=k3 _ _ P2.st.dd (aS P2.st.dd e2 (by intro z;cases z))
   have g3:=k3 _ _ P2.st.hg (aS P2.st.hg e2 (by intro z;cases z))
   have e3:H3 s.e=some (.lst (qs.map V.ref++[.ref y])):=by rw [<- E1,ag]
   refine au ?_
   refine⟨_,rfl,s.d,_,rfl,by rw [<- zW s];exact cL.k (k:=Sum.inr _) d3,s.e,_,rfl,.inl (SqL.of e3),_,rfl,s.d,_,rfl,by rw [<- Bq s];exact cL.k (k:=Sum.inr _) d3,_,rfl,s.g,_,rfl,rh.k (k:=Sum.inl _) g3 (bq (by have:=h.bk.ok.gsz;omega)),?_⟩
   rw [show ((qs.map V.ref++[V.ref y]).length:Int)=(B.ds.length:Int)+1 by rw [List.length_append,List.length_map,lqs];rfl,E2]
   dsimp only
   have bk4:=P2.keeps K4
   have L4:Lm L H4:=ci L2' λb o e n1 n2=>K4 b o e λz=>by
    rcases P2.st.kind z with⟨ys,w⟩ | ⟨ys,w⟩
    ·rw [e]at w;exact n1 ys (Option.some.inj w)
    ·rw [e]at w;exact n2 ys (Option.some.inj w)
   obtain⟨pL4,hL4⟩:=L4.tbl
   have ho4:=K4 _ _ ho2 (P2.st.not_ins ho2)
   have hr1:B.fs[n]?=some (B.fs[n]'n1):=List.getElem?_eq_getElem n1
   refine bj ⟨_,rfl,p,dx,_,rfl,ho4,bi a (by decide +kernel) (by decide +kernel) (by decide +kernel) (by decide +kernel) (by decide +kernel),_,rfl,p,a,F,B,n,_,rfl,L4,bk4,hr1,n2,h60,λH' F' LH _ f1 gg bk'=>?_⟩
   obtain⟨A1,A2,A3⟩:=P2.after S4 K4 hL4 f1 gg bk'
   refine q H' _ _ LH A1 (by show (B.ds++[_]).length=_;rw [List.length_append];rfl) (by show 1<=B.fs.length;omega) rfl (λb hb=>(A2 b hb).imp_right g12.free) λb o e w1 w2 w3=>A3 b o (g12 b o e) w1 w2 w3
  | false=>
   refine aX (aI ?_)
   dsimp only
   refine au (aK ?_)
   refine⟨_,rfl,s.d,_,rfl,P2.st.d_k,_,rfl,_,rfl,s.d,_,rfl,P2.st.d_k,s.k,_,rfl,.inl (SqL.of P2.st.hk),c,2,_,rfl,by decide,by decide,by rw [List.length_map];omega,λi i0 i1=>?_⟩
   rw [List.length_map]at i1
   obtain⟨i,rfl⟩:∃j:Nat,i=(j:Int):=⟨i.toNat,by omega⟩
   have ei:B.ks[i]?=some (B.ks[i]'(by omega)):=List.getElem?_eq_getElem (by omega)
   generalize B.ks[i]'(by omega)=k at ei
   have hkk:=List.mem_of_getElem? ei
   refine⟨s.k,_,(i:Int),V.str k,rfl,rfl,SqL.of P2.st.hk,cq (by rw [List.getElem?_map,ei];rfl),?_⟩
   dsimp only [aN]
   refine au (aK ⟨_,rfl,_,rfl,c,3,span,rfl,by decide,by decide,s0,s1,λt x y H3 g3 et x0 xy y4=>?_⟩)
   refine⟨t,_,rfl,SqT.of et,rfl,_,_,rfl,_,_,rfl,rfl,?_⟩
   dsimp only
   have cp:q8 10 9:=⟨by decide,by decide,by decide⟩
   refine au (aK ⟨_,rfl,10,9,rfl,rfl,cp,2,_,rfl,rfl,.inl (by decide),_,_,rfl,rfl,by show 2<=sizeLine;decide,λl1 nl1=>⟨_,rfl,c,8,2,rfl,by decide,by decide,by decide,λj j0 j1=>?_⟩⟩)
   obtain⟨m,hm,em⟩:=uO (a:=4) (b:=2 * 10 ^ (9:Int).toNat+1) j0 j1
   have hm2:0 < m/\m<=2000000001:=by
    have z:(2 * 10 ^ (9:Int).toNat+1:Int)=2000000001:=by decide
    rw [z]at hm
    omega
   refine⟨l1,_,j,V.int m,rfl,rfl,SqL.of ag,em,c,7,m,rfl,by decide,by decide,hm2.1,λv v0 v1=>?_⟩
   dsimp only [aN]
   have g4:aq H3 (upd H3 l1 (.lst [.int 4,.int (2 * 10 ^ (9:Int).toNat+1)])):=aq.new nl1
   generalize upd H3 l1 (.lst [.int 4,.int (2 * 10 ^ (9:Int).toNat+1)])=H4 at g4
   refine au (aK ⟨_,rfl,_,rfl,10,9,rfl,rfl,cp,_,_,rfl,rfl,by show 2<=sizeLine;decide,λl2 nl2=>⟨_,rfl,c,9,2,rfl,by decide,by decide,by decide,λj j0 j1=>?_⟩⟩)
   obtain⟨m',hm',em'⟩:=uO (a:=v) (b:=v - 10 ^ (9:Int).toNat) j0 j1
   have hv2 : -1000000000<=m'/\m'<=2000000000:=by
    have z:(10 ^ (9:Int).toNat:Int)=1000000000:=by decide
    rw [z]at hm'
    omega
   refine⟨l2,_,j,V.int m',rfl,rfl,SqL.of ag,em',?_⟩
   dsimp only [aN]
   have g5:aq H4 (upd H4 l2 (.lst [.int v,.int (v - 10 ^ (9:Int).toNat)])):=aq.new nl2
   generalize upd H4 l2 (.lst [.int v,.int (v - 10 ^ (9:Int).toNat)])=H5 at g5
   refine au (y9 (k:=9) (v:=m') rfl λv' hv'=>?_)
   dsimp only
   have g25:=(g3.trans g4).trans g5
   have g15:=g12.trans g25
   have P5:=P2.grow g25
   have L5:Lm L H5:=ci L2' λb o e _ _=>g25 b o e
   have ho5:=g25 _ _ ho2
   clear r1 r2 e1 e2 lps lqs
   obtain⟨ps,e1,r1⟩:=id P5.st.hf
   obtain⟨qs,e2,r2⟩:=id P5.st.he
   have lps:ps.length=B.fs.length:=Paired.length r1
   have lqs:qs.length=B.ds.length:=Paired.length r2
   refine au (aK ⟨_,rfl,s.d,_,rfl,P5.st.d_f,s.f,_,rfl,.inl (SqL.of e1),?_⟩)
   rw [List.length_map,lps]
   dsimp only [aN]
   refine au (bE (kb ?_))
   refine⟨_,rfl,s.d,_,rfl,P5.st.d_e,.inl ⟨rfl,_,SqL.of e2⟩,_,rfl,by show 2<=sizeLine;decide,λy' ny=>?_⟩
   have ne2:upd H5 y' (.tup [.str j9,.int (B.fs.length:Int)]) s.e=some (.lst (qs.map V.ref)):=by rw [aj (al e2 ny)];exact e2
   refine⟨s.e,_,_,rfl,rfl,ne2,by rw [List.length_map];exact bq (by omega),?_⟩
   dsimp only
   generalize E1:upd (upd H5 y' (.tup [.str "find", .int (B.fs.length:Int)])) s.e (.lst (qs.map V.ref++[.ref y']))=H6
   have k6:∀b o,H5 b=some o->b≠s.e->H6 b=some o:=λb o e nb=>by rw [<- E1,aj nb,aj (al e ny)];exact e
   have d6:=k6 _ _ P5.st.dd (aS P5.st.dd e2 (by intro z;cases z))
   have f6':=k6 _ _ e1 P5.st.fe
   have e6:H6 s.e=some (.lst (qs.map V.ref++[.ref y'])):=by rw [<- E1,ag]
   have dg6:cL H6 s.d (.str "found") (some (.ref s.f)):=by rw [<- zV s];exact cL.k (k:=Sum.inr _) d6
   refine au (bE (kb ?_))
   refine⟨_,rfl,s.d,_,rfl,dg6,.inl ⟨rfl,_,SqL.of f6'⟩,_,rfl,_,rfl,_,rfl,_,rfl,_,rfl,s.d,_,rfl,by rw [<- zW s];exact cL.k (k:=Sum.inr _) d6,s.e,_,rfl,.inl (SqL.of e6),by show 5<=sizeLine;decide,λz nz=>?_⟩
   rw [show ((qs.map V.ref++[V.ref y']).length:Int)=(B.ds.length:Int)+1 by rw [List.length_append,List.length_map,lqs];rfl]
   refine⟨s.f,_,_,rfl,rfl,by rw [aj (al f6' nz)];exact f6',by rw [List.length_map];exact bq (by omega),?_⟩
   dsimp only
   generalize E2:upd (upd H6 z (.tup [.str k,.int x,.int y,.int v',.int ((B.ds.length:Int)+1)])) s.f (.lst (ps.map V.ref++[.ref z]))=H7
   obtain⟨S7,K7⟩:=P5.st.find e1 r1 e2 r2 ny E1.symm nz E2.symm
   have bk7:=P5.keeps K7
   have L7:Lm L H7:=ci L5 λb o e n1 n2=>K7 b o e λz=>by
    rcases P5.st.kind z with⟨ys,w⟩ | ⟨ys,w⟩
    ·rw [e]at w;exact n1 ys (Option.some.inj w)
    ·rw [e]at w;exact n2 ys (Option.some.inj w)
   obtain⟨pL7,hL7⟩:=L7.tbl
   have ho7:=K7 _ _ ho5 (P5.st.not_ins ho5)
   refine au (aK ⟨_,rfl,p,dx,_,rfl,ho7,bi a (by decide +kernel) (by decide +kernel) (by decide +kernel) (by decide +kernel) (by decide +kernel),_,rfl,_,rfl,_,rfl,_,rfl,p,a,F,B,k,x,y,v',rfl,L7,bk7,hkk,x0,xy,y4,by omega,by omega,h60,λH' F' LH _ f1 gg bk'=>?_⟩)
   obtain⟨A1,A2,A3⟩:=P5.after S7 K7 hL7 f1 gg bk'
   dsimp only [aN]
   refine bj (o6 ⟨_,rfl,_,rfl,_,rfl,bG ⟨_,rfl,_,rfl,rfl,?_⟩⟩)
   rw [decide_eq_true rfl]
   refine q H' _ _ LH A1 (by show (B.ds++[_]).length=_;rw [List.length_append];rfl) (by show 1<=(B.fs++[_]).length;rw [List.length_append];exact Nat.le_add_left _ _) rfl (λb hb=>(A2 b hb).imp_right g15.free) λb o e w1 w2 w3=>A3 b o (g15 b o e) w1 w2 w3
noncomputable abbrev se:Stmt:=bK (top 33) 0
theorem jx {C:Addr}{H:Hp}{x n dx:Addr}{o:HO}{fs fs':List (Str × V)} (hx:H x=some (.ins C dx fs)) (nn:H n=none) :
  upd H n o x=some (.ins C dx fs)/\upd (upd H n o) x (.ins C dx fs') x=some (.ins C dx fs')/\upd (upd H n o) x (.ins C dx fs') n=some o/\∀b u,H b=some u->b≠x->upd (upd H n o) x (.ins C dx fs') b=some u:=by
 have nx:x≠n:=al hx nn
 refine⟨by rw [aj nx];exact hx,ag,by rw [aj (Ne.symm nx),ag],λb u e h=>?_⟩
 rw [aj h,aj (al e nn)]
 exact e
theorem oK {K:PySem.W.Frag}{Y:St}{H:Hp}{Q:VK}{a:Addr}{ks:List Str} (e0:Y[1]?=some (some (.ref a))) (ha:H a=some (.lst (ks.map V.str))) (hl:ks.length<=8)
  (hq:∀(D:Addr) (H':Hp) (ps:List Addr) (kvs:List (Key × V)),H D=none->aq H H'->H' D=some (.lst (ps.map V.ref))->Paired (λp (kv:Key × V)=>H' p=some (.tup [kV kv.1,kv.2])) ps kvs->kvs.map (·.1)=ks.map Sum.inr->(∀kv∈kvs,∃l,kv.2=.ref l/\H' l=some (.lst [])/\H l=none/\l≠D)->Q (.ref D) H') :
  ja (sR K (cr 1)) [] (λ_ H Q=>Q true H) (hZ (aV (cr 0) (aV (gY bT) bT))) Y H Q:=by
 refine⟨_,e0,a,rfl,⟨_,SqL.of ha⟩,λD nD=>ff (K:=K) (a:=a) (xs:=ks.map V.str) (sub:=[]) (tt:=λ_ H Q=>Q true H) (te:=hZ (aV (cr 0) (aV (gY bT) bT))) (Q:=Q) (Y:=Y)
  (λi ys H2=>∃(ps:List Addr) (kvs:List (Key × V)),ys=ps.map V.ref/\aq H H2/\H2 D=some (.lst ys)/\Paired (λp (kv:Key × V)=>H2 p=some (.tup [kV kv.1,kv.2])) ps kvs/\kvs.map (·.1)=(ks.take i).map Sum.inr/\(∀kv∈kvs,∃l,kv.2=.ref l/\H2 l=some (.lst [])/\H l=none/\l≠D))
  ⟨[],[],rfl,aq.new nD,ag,.nil,rfl,(λ_ h=>nomatch h)⟩ (λi ys H2 _ hh=>?_) (λi x ys H2 hi hh=>?_) λys H2 hh=>?_⟩
 ·obtain⟨_,_,_,g,_⟩:=hh
  exact SqL.of (g _ _ ha)
 ·obtain⟨ps,kvs,rfl,g,hD,pk,km,kl⟩:=hh
  rw [List.getElem?_map]at hi
  cases ek:ks[i]? with
  | none=>rw [ek]at hi;cases hi
  | some k=>
   rw [ek]at hi
   cases hi
   have hil:=(List.getElem?_eq_some_iff.mp ek).1
   refine bG ⟨_,rfl,Nat.zero_le _,λl nl=>⟨by show 2<=sizeLine;decide,λt nt=>?_⟩⟩
   have lD:l≠D:=λz=>by rw [z,hD]at nl;cases nl
   have tl:t≠l:=λz=>by rw [z,ag]at nt;cases nt
   have nt2:H2 t=none:=by rw [aj tl]at nt;exact nt
   have tD:t≠D:=λz=>by rw [z,hD]at nt2;cases nt2
   have st:∀b o,H2 b=some o->b≠D->upd (upd (upd H2 l (.lst [])) t (.tup [.str k,.ref l])) D (.lst (ps.map V.ref++[V.ref t])) b=some o:=λb o e n=>by
    rw [aj n,aj (al e nt2),aj (al e nl)];exact e
   have hps:ps.length<=8:=by
    have h1:ps.length=kvs.length:=Paired.length pk
    have h2:=congrArg List.length km
    rw [List.length_map,List.length_map,List.length_take]at h2
    omega
   refine⟨by rw [aj (Ne.symm tD),aj (Ne.symm lD)];exact hD,by rw [List.length_map];exact bq (by omega),ps++[t],kvs++[(Sum.inr k,.ref l)],by rw [List.map_append];rfl,λb o e=>st b o (g _ _ e) (al e nD),by rw [ag],?_,?_,λkv hkv=>?_⟩
   ·refine cE (Paired.mapP pk λp kv e=>st p _ e (aS e hD (by intro z;cases z))) ?_
    rw [aj tD,ag];rfl
   ·rw [List.map_append,km,List.take_add_one,ek,List.map_append];rfl
   ·rcases List.mem_append.mp hkv with hkv | hkv
    ·obtain⟨l',e1,e2,e3,e4⟩:=kl kv hkv
     exact⟨l',e1,st _ _ e2 e4,e3,e4⟩
    ·rw [List.mem_singleton.mp hkv]
     refine⟨l,rfl,by rw [aj lD,aj (Ne.symm tl),ag],?_,lD⟩
     cases eh:H l with
     | none=>rfl
     | some o=>rw [g _ _ eh]at nl;cases nl
 ·obtain⟨ps,kvs,rfl,g,hD,pk,km,kl⟩:=hh
  rw [List.length_map,List.take_length]at km
  exact hq D H2 ps kvs nD g hD pk km kl
inductive vh (C:Addr) (vs:List V) (H:Hp) (Q:VK) (E:XK):Prop
 | mk (x dx kl:Addr) (ks:List Str) (h1:vs=[.ref x,.ref kl]) (h2:H x=some (.ins C dx [])) (h3:H kl=some (.lst (ks.map V.str))) (h4:1<=ks.length) (h5:ks.length<=8) (h6:ks.Nodup) (h7:(∀k∈ks,ip k fG 8=true/\k.length < sizeLine/\Nm k)) (h8:∀(a:BA) (F:Addr->Prop) (H':Hp),(∀b,F b->H b=none)->(∀b o,H b=some o->b≠x->H' b=some o)->BkAt C H' x a F (Bk.new ks)->Q .non H')
theorem xK {kvs:List (Key × V)}{ks:List Str} (km:kvs.map (·.1)=ks.map Sum.inr){k:Str} (hk:k∈ks) (P:V->Prop) (h:∀kv∈kvs,P kv.2):∃v,valV kvs (Sum.inr k)=some v/\P v:=by
 have:(Sum.inr k:Key)∈kvs.map (·.1):=by rw [km];exact List.mem_map.mpr ⟨k,hk,rfl⟩
 obtain⟨kv,hkv,e⟩:=List.mem_map.mp this
 cases ev:valV kvs (Sum.inr k) with
 | none=>
  have h1:=eW (Sum.inr k:Key) kvs
  rw [ev]at h1
  have:(kvs.any λkv=>decide (kv.1=(Sum.inr k:Key)))=true:=List.any_eq_true.mpr ⟨kv,hkv,decide_eq_true e⟩
  rw [this]at h1;cases h1
 | some v=>
  refine⟨v,rfl,?_⟩
  unfold valV at ev
  obtain⟨p,ep,e2⟩:=Option.map_eq_some_iff.mp ev
  rw [<- e2]
  exact h p (List.mem_of_find?_eq_some ep)
theorem vD:FnScope ["self", "keys"] ["self", "keys"] (ao se):=aZ
theorem yl {C:Addr} (F:Fun K "__init__" "Book.__init__" se f fd) (N:Free mg) (T:BkC K C) (CK:Cal P w K mg base "are_keys" 3 ["thing"] lX f1 fd1):FnOk P w K mg base CX0 4 f fd ["self", "keys"] (vh C):=by
 refine okF F vD λcdv A outer s H vs Q E hr h=>?_
 ·obtain⟨x,dx,kl,ks,rfl,hx,hkl,k1,k8,nd,hk,q⟩:=h
  refine⟨_,(ai (aO (bQ (bH (aW CK hr (ae (pv 1) af)))) (am cK) aE)
   (ai (eQ (pv 0) (bU cG (by rfl) N.list PyProof.Rows.Boot.«list» (ae (pv 1) af)) rfl)
   (ai (eQ (pv 0) (aM af) rfl)
   (ai (eQ (pv 0) kj rfl)
   (ai (eQ (pv 0) (aM af) rfl)
   (am (eQ (pv 0) (aM (ae (bU (lh rfl) (by rfl) N.dict PyProof.Rows.Boot.«dict» (ae (gz (bW rfl (cc (pv 1)) rfl rfl (by show ∀p∈_,gI [] p;decide) (by decide) rfl (by show ([Str.ofString "key"]:List Str).Nodup;decide) .nil (λC fp s H=>cM) (λC fp s H=>(az (ae (pv 0) (ae (aM af) af)))))) af)) af)) rfl))))))),?_⟩
  refine⟨_,rfl,kl,ks,rfl,hkl,k1,k8,nd,λk h=>⟨(hk k h).1,(hk k h).2.1⟩,λH0 g0=>⟨_,rfl,aX ?_⟩⟩
  have hx0:=g0 _ _ hx
  have hk0:=g0 _ _ hkl
  have kx:kl≠x:=aS hkl hx (by intro z;cases z)
  refine⟨_,rfl,kl,_,rfl,.inl (SqL.of hk0),λn nn=>?_⟩
  obtain⟨a0,a1,a2,a3⟩:=jx (fs':=bf "names" (.ref n) []) (o:=.lst (ks.map V.str)) hx0 nn
  refine⟨_,rfl,x,C,dx,_,rfl,a0,T.cl,T.n1,(by show 0 < 1000;decide),?_⟩
  have knx:n≠x:=λz=>by rw [z,hx0]at nn;cases nn
  have k1':=a3 _ _ hk0 kx
  generalize upd (upd H0 n (.lst (ks.map V.str))) x (.ins C dx (bf "names" (.ref n) []))=H1 at a1 a2 a3 k1' ⊢
  refine⟨Nat.zero_le _,λf nf=>?_⟩
  obtain⟨b0,b1,b2,b3⟩:=jx (fs':=bf "findings" (.ref f) (bf "names" (.ref n) [])) (o:=.lst []) a1 nf
  refine⟨_,rfl,x,C,dx,_,rfl,b0,T.cl,T.n2,(by show 1 < 1000;decide),?_⟩
  have kfx:f≠x:=λz=>by rw [z,a1]at nf;cases nf
  have k2':=b3 _ _ k1' kx
  have n2':=b3 _ _ a2 knx
  generalize upd (upd H1 f (.lst [])) x (.ins C dx (bf "findings" (.ref f) (bf "names" (.ref n) [])))=H2 at b1 b2 b3 k2' n2' ⊢
  intro w nw
  obtain⟨c0,c1,c2,c3⟩:=jx (fs':=bf "withdrawals" (.ref w) (bf "findings" (.ref f) (bf "names" (.ref n) []))) (o:=.dK []) b1 nw
  refine⟨_,rfl,x,C,dx,_,rfl,c0,T.cl,T.n3,?_,?_⟩
  ·have h1:=bM "findings" (V.ref f) (bf "names" (V.ref n) []);have h2:=bM "names" (V.ref n) [];simp only [List.length_nil]at h2;omega
  have kwx:w≠x:=λz=>by rw [z,b1]at nw;cases nw
  have k3':=c3 _ _ k2' kx
  have n3':=c3 _ _ n2' knx
  have f3':=c3 _ _ b2 kfx
  generalize upd (upd H2 w (.dK [])) x (.ins C dx (bf "withdrawals" (.ref w) (bf "findings" (.ref f) (bf "names" (.ref n) []))))=H3 at c1 c2 c3 k3' n3' f3' ⊢
  refine⟨Nat.zero_le _,λd nd'=>?_⟩
  obtain⟨d0,d1,d2,d3⟩:=jx (fs':=bf "deeds" (.ref d) (bf "withdrawals" (.ref w) (bf "findings" (.ref f) (bf "names" (.ref n) [])))) (o:=.lst []) c1 nd'
  refine⟨_,rfl,x,C,dx,_,rfl,d0,T.cl,T.n4,?_,?_⟩
  ·have h0:=bM "withdrawals" (V.ref w) (bf "findings" (V.ref f) (bf "names" (V.ref n) []));have h1:=bM "findings" (V.ref f) (bf "names" (V.ref n) []);have h2:=bM "names" (V.ref n) [];simp only [List.length_nil]at h2;omega
  have kdx:d≠x:=λz=>by rw [z,c1]at nd';cases nd'
  have k4':=d3 _ _ k3' kx
  have n4':=d3 _ _ n3' knx
  have f4':=d3 _ _ f3' kfx
  have w4':=d3 _ _ c2 kwx
  have fr4:∀b o,H b=some o->b≠x->upd (upd H3 d (.lst [])) x (.ins C dx (bf "deeds" (.ref d) (bf "withdrawals" (.ref w) (bf "findings" (.ref f) (bf "names" (.ref n) []))))) b=some o:=λb o e h=>d3 _ _ (c3 _ _ (b3 _ _ (a3 _ _ (g0 _ _ e) h) h) h) h
  generalize upd (upd H3 d (.lst [])) x (.ins C dx (bf "deeds" (.ref d) (bf "withdrawals" (.ref w) (bf "findings" (.ref f) (bf "names" (.ref n) [])))))=H4 at d1 d2 d3 k4' n4' f4' w4' fr4 ⊢
  have fr4n:∀b,H4 b=none->b≠x->H b=none:=λb e h=>by
   cases eh:H b with
   | none=>rfl
   | some o=>rw [fr4 b o eh h]at e;cases e
  dsimp only
  refine A0 (vX (fq (sq (fq ?_))))
  refine oK rfl k4' k8 ?_
  intro D H5 ps kvs nD g5 hD pk km kl'
  refine⟨D,ps,kvs,rfl,hD,pk,?_,?_,λt0 nt0=>?_⟩
  ·rw [km];exact List.Pairwise.map Sum.inr (λa b h z=>h (Sum.inr.inj z)) nd
  ·have:=congrArg List.length km
   rw [List.length_map,List.length_map]at this
   omega
  refine⟨by show 1<=sizeLine;decide,λt nt=>?_⟩
  have x5:=g5 _ _ d1
  have xt0:x≠t0:=al x5 nt0
  have tt0:t≠t0:=λz=>by rw [z,ag]at nt;cases nt
  have nt5:H5 t=none:=by rw [aj tt0]at nt;exact nt
  have xt:x≠t:=al x5 nt5
  refine⟨_,rfl,x,C,dx,_,rfl,by rw [aj xt,aj xt0];exact x5,T.cl,T.n5,?_,?_⟩
  ·have h00:=bM "deeds" (V.ref d) (bf "withdrawals" (V.ref w) (bf "findings" (V.ref f) (bf "names" (V.ref n) [])));have h0:=bM "withdrawals" (V.ref w) (bf "findings" (V.ref f) (bf "names" (V.ref n) []));have h1:=bM "findings" (V.ref f) (bf "names" (V.ref n) []);have h2:=bM "names" (V.ref n) [];simp only [List.length_nil]at h2;omega
  have st6:∀b o,H5 b=some o->b≠x->upd (upd (upd H5 t0 (.dK kvs)) t (.lst [V.ref t0])) x (.ins C dx (bf "tables" (.ref t) (bf "deeds" (.ref d) (bf "withdrawals" (.ref w) (bf "findings" (.ref f) (bf "names" (.ref n) [])))))) b=some o:=λb o e h=>by
   rw [aj h,aj (al e nt5),aj (al e nt0)];exact e
  have f5:=g5 _ _ f4'
  have n5:=g5 _ _ n4'
  have w5:=g5 _ _ w4'
  have d5:=g5 _ _ d2
  have bn:∀{b o},H5 b=some o->b≠t:=λe=>al e nt5
  have none4:∀b,H4 b=none->H b=none:=λb e=>fr4n b e λz=>by rw [z,d1]at e;cases e
  have none5:∀b,H5 b=none->H b=none:=λb e=>none4 b (by
   cases e4:H4 b with
   | none=>rfl
   | some o=>rw [g5 b o e4]at e;cases e)
  have newn:H n=none:=by
   cases e:H n with
   | none=>rfl
   | some o=>rw [g0 n o e]at nn;cases nn
  have newf:H f=none:=by
   cases e:H f with
   | none=>rfl
   | some o=>rw [a3 f o (g0 f o e) kfx]at nf;cases nf
  have neww:H w=none:=by
   cases e:H w with
   | none=>rfl
   | some o=>rw [b3 w o (a3 w o (g0 w o e) kwx) kwx]at nw;cases nw
  have newd:H d=none:=by
   cases e:H d with
   | none=>rfl
   | some o=>rw [c3 d o (b3 d o (a3 d o (g0 d o e) kdx) kdx) kdx]at nd';cases nd'
  have fn:n≠f:=al a2 nf
  have dn:n≠d:=al n3' nd'
  have df:f≠d:=al f3' nd'
  have e6:bf "tables" (V.ref t) (bf "deeds" (.ref d) (bf "withdrawals" (.ref w) (bf "findings" (.ref f) (bf "names" (.ref n) []))))=dJ ⟨n,f,w,d,t⟩:=AK ⟨n,f,w,d,t⟩
  have t06:upd (upd (upd H5 t0 (.dK kvs)) t (.lst [V.ref t0])) x (.ins C dx (bf "tables" (.ref t) (bf "deeds" (.ref d) (bf "withdrawals" (.ref w) (bf "findings" (.ref f) (bf "names" (.ref n) [])))))) t0=some (.dK kvs):=by rw [aj (Ne.symm xt0),aj (Ne.symm tt0),ag]
  refine q ⟨n,f,w,d,t⟩ (λb=>H b=none) _ (λb z=>z) (λb o e h=>st6 b o (g5 _ _ (fr4 b o e h)) h) ⟨⟨dx,by rw [ag,e6]⟩,st6 _ _ n5 knx,⟨[],st6 _ _ f5 kfx,.nil⟩,st6 _ _ w5 kwx,⟨[],st6 _ _ d5 kdx,.nil⟩,⟨[t0],?_,rfl,λi y hy=>?_⟩,⟨newn,newf,neww,newd,none5 t nt5⟩,λz=>?_,df,bn f5,bn d5,Bk.new_ok nd k1 k8 λk h=>(hk k h).2.2⟩
  ·show upd _ x _ t=_
   rw [aj (Ne.symm xt),ag];rfl
  ·have hi:i=0:=by
    have:=(List.getElem?_eq_some_iff.mp hy).1
    simp at this
    exact this
   subst hi
   cases (show some t0=some y from hy)
   refine⟨none5 t0 nt0,λz=>?_,kvs,t06,?_,λk hkk=>?_⟩
   ·rcases z with z | z | z | z
    ·exact(al f5 nt0) z.symm
    ·exact(al w5 nt0) z.symm
    ·exact(al d5 nt0) z.symm
    ·exact tt0 z.symm
   ·have:=congrArg List.length km
    rw [List.length_map,List.length_map]at this
    omega
   ·obtain⟨v,ev,l,rfl,e7,e8,e9⟩:=xK km hkk (λv=>∃l,v=.ref l/\H5 l=some (.lst [])/\H4 l=none/\l≠D) kl'
    have lx:l≠x:=aS e7 x5 (by intro z;cases z)
    refine⟨l,[],ev,none4 l e8,λz=>?_,gN (st6 _ _ e7 lx),Strip.tidy_nil,(λ_ h=>nomatch h),λd'=>rfl⟩
    rcases z with z | z | z | z
    ·exact(al f4' e8) z.symm
    ·exact(al w4' e8) z.symm
    ·exact(al d2 e8) z.symm
    ·exact(bn e7) z
  ·rcases z with z | z | z | z
   ·exact fn z
   ·exact(aS n5 w5 (by intro z;cases z)) z
   ·exact dn z
   ·exact(bn n5) z
end Mine
namespace L2
open PySem PySem.Spec PyProof.Rows
section
variable {M:Model}{A:Around}{E:Value->Shared->Prop}{s:Shared}
def Fly (h:Heap) (e:Addr):Prop:=∃oe vs T oT ts,h.get? e=some oe/\oe.data=.fields vs/\vs[1]?=some (.ref T)/\T≠e/\h.get? T=some oT/\oT.data=.fields ts/\ts[3]?=some .none
structure Noted (l:List Env) (e:Addr) (h h':Heap):Prop where
 keep:∀b o,b≠e->h.get? b=some o->b∉frs l->h'.get? b=some o
 slot:∀b o,b≠e->h.get? b=some o->∃sl,h'.get? b=some { o with slots:=sl }
 exc:∀oe vs,h.get? e=some oe->oe.data=.fields vs->∃vs',h'.get? e=some { oe with data:=.fields vs' }
 fly:Fly h' e
theorem BD {o:Obj}{vs:Array Value} (hd:o.data=.fields vs) (f:Array Value->Array Value):o.mapFields f={ o with data:=.fields (f vs) }:=by
 obtain⟨c,d,dt,sl⟩:=o
 cases hd
 rfl
theorem xl {base:Heap}{env:Env}{outer:List Env}{L e:Addr}{oe:Obj}{vs:Array Value}{head:Value}{hadNext:Bool}{Q:Unit->Shared->Prop}
  (hfr:A.frames=some (env::outer)) (hl:s.heap.FunFrames base (env::outer)) (hf:env.frame=some L)
  (he:s.heap.get? e=some oe) (hd:oe.data=.fields vs) (hsz:1 < vs.size)
  (h:∀h',Noted (env::outer) e s.heap h'->Q () { s with heap:=h' }) :
  wpAny M A (do let a <- frameOf env;let pl <- entryPlaceOf L hadNext;let b <- EntryCells.newEntry head a .none (rawInt L) .none pl;setField (.ref e) 1 b) (λ_ s'=>wpAny M A (setFlight (.ref e) none) Q E s') E s:=by
 have hene:e∉(env::outer).filterMap (·.frame):=λhm=>by
  obtain⟨_,o,ho,hnf⟩:=hl.mem hm
  rw [he]at ho;injection ho with ho;subst ho;exact hnf vs hd
 refine wpAny_bind (wpAny_frameOf_fun hfr hl hf λh₁ hs8=>?_)
 refine wpAny_bind (wpAny_entryPlaceOf λpl hpl=>?_)
 unfold EntryCells.newEntry newFields
 refine wpAny_bind (wpAny_newObj_type ?_ (hpl.sizeOk5 _ _ _ _ _))
 have he8:h₁.get? e=some oe:=(hs8.2.1 e hene).trans he
 generalize hT:({ cls:=.type "traceback", dict:=none,data:=.fields ([head,.ref L,.none,rawInt L,.none]++(if pl.isEmpty then List.replicate 6 Value.none else pl)).toArray }:Obj)=oT
 have he9:=Heap.get?_push_of_some (h:=h₁) oT he8
 refine wpAny_setField he9 hd hsz ?_
 have hTe:h₁.objs.size≠e:=Nat.ne_of_gt (Heap.lt_size he8)
 have hd8:=Obj.data_mapFields hd (·.setIfInBounds 1 (Value.ref h₁.objs.size))
 have he6:=Heap.get?_update_self (Obj.mapFields (·.setIfInBounds 1 (Value.ref h₁.objs.size))) he9 (Obj.isFreed_of_fields hd8)
 have hT8:=(Heap.get?_update_other (h₁.push oT) (Obj.mapFields (·.setIfInBounds 1 (Value.ref h₁.objs.size))) (Ne.symm hTe)).trans (Heap.get?_push_size h₁ (by rw [<- hT];rfl))
 have hdT:oT.data=.fields ([head,.ref L,.none,rawInt L,.none]++(if pl.isEmpty then List.replicate 6 Value.none else pl)).toArray:=by rw [<- hT]
 unfold setFlight
 refine wpAny_bind (wpAny_field he6 hd8 (x:=.ref h₁.objs.size) (by simp [hsz]) ?_)
 rw [if_pos (show (Value.ref h₁.objs.size != Value.none)=true from by simp)]
 refine wpAny_setField hT8 hdT (by simp only [List.size_toArray,List.length_append,List.length_cons,List.length_nil] <;> omega) (h _ ?_)
 have keep:∀b o,b≠e->h₁.get? b=some o->(((h₁.push oT).update e (Obj.mapFields (·.setIfInBounds 1 (Value.ref h₁.objs.size)))).update h₁.objs.size (Obj.mapFields (·.setIfInBounds 3 ((none:Option Addr).elim Value.none λf=>rawInt f)))).get? b=some o:=λb o hbe hb=>by
  have hbT:h₁.objs.size≠b:=Nat.ne_of_gt (Heap.lt_size hb)
  rw [Heap.get?_update_other _ _ hbT,Heap.get?_update_other _ _ (Ne.symm hbe)]
  exact Heap.get?_push_of_some _ hb
 have he₄:(((h₁.push oT).update e (Obj.mapFields (·.setIfInBounds 1 (Value.ref h₁.objs.size)))).update h₁.objs.size (Obj.mapFields (·.setIfInBounds 3 ((none:Option Addr).elim Value.none λf=>rawInt f)))).get? e=some (oe.mapFields (·.setIfInBounds 1 (Value.ref h₁.objs.size))):=by
  rw [Heap.get?_update_other _ _ hTe];exact he6
 refine⟨λb o hbe hb hn=>keep b o hbe ((hs8.2.1 b hn).trans hb),λb o hbe hb=>?_,λoe' vs' e1 e2=>?_,?_⟩
 ·obtain⟨sl,hs⟩:=hs8.2.2 b o hb
  exact⟨sl,keep b _ hbe hs⟩
 ·rw [he]at e1;cases e1
  exact⟨_,he₄.trans (by rw [BD hd])⟩
 ·exact⟨_,_,h₁.objs.size,_,_,he₄,hd8,by simp [hsz],hTe,Heap.get?_update_self _ hT8 (Obj.isFreed_of_fields (Obj.data_mapFields hdT _)),Obj.data_mapFields hdT _,by first | (simp;done) | (rcases hpl with rfl | ⟨_,_,_,_,_,_,_,rfl⟩ <;> simp)⟩
theorem iy {h:Heap}{T:Addr}{oT:Obj}{ts:Array Value} (hT:h.get? T=some oT) (hd:oT.data=.fields ts) (h3:ts[3]?=some .none) (b:Addr):(h.update T (Obj.mapFields (·.setIfInBounds 3 Value.none))).get? b=h.get? b:=by
 by_cases e:b=T
 ·subst e
  have hd':=Obj.data_mapFields hd (·.setIfInBounds 3 Value.none)
  rw [Heap.get?_update_self _ hT (Obj.isFreed_of_fields hd'),hT,BD hd]
  have:ts.setIfInBounds 3 Value.none=ts:=by
   obtain⟨h1,h2⟩:=Array.getElem?_eq_some_iff.mp h3
   rw [Array.setIfInBounds,dif_pos h1]
   conv=>lhs;rw [<- h2]
   simp
  rw [this]
  obtain⟨c,d,dt,sl⟩:=oT
  cases hd
  rfl
 ·exact Heap.get?_update_other _ _ (Ne.symm e)
theorem Ci {base h h':Heap} (k:∀b,h'.get? b=h.get? b){l:List Env} (hl:h.FunFrames base l):h'.FunFrames base l:=hl.of_keeps λb o ho _=>⟨o,(k b).trans ho,rfl⟩
theorem zh {base:Heap}{env:Env}{outer:List Env}{L e:Addr}{oe:Obj}{vs:Array Value}{Q:Unit->Shared->Prop}
  (hfr:A.frames=some (env::outer)) (hl:s.heap.FunFrames base (env::outer)) (hf:env.frame=some L)
  (he:s.heap.get? e=some oe) (hd:oe.data=.fields vs) (h1:vs[1]?=some .none\/Fly s.heap e)
  (h:∀h',Noted (env::outer) e s.heap h'->Q () { s with heap:=h' }) :
  wpAny M A (noteFrame (.ref e) env) (λ_ s'=>wpAny M A (setFlight (.ref e) none) Q E s') E s:=by
 unfold noteFrame
 simp only [hf]
 rcases h1 with h1 | ⟨oe',vs',T,oT,ts,e1,e2,h1,hTe,hT,hdT,h3⟩
 ·refine wpAny_bind (wpAny_field he hd h1 ?_)
  rw [if_neg (by decide)]
  exact xl hfr hl hf he hd (Array.getElem?_eq_some_iff.mp h1).1 h
 ·rw [he]at e1;cases e1
  rw [hd]at e2;cases e2
  refine wpAny_bind (wpAny_field he hd h1 ?_)
  rw [if_pos (show (Value.ref T != Value.none)=true from by simp)]
  refine wpAny_bind (wpAny_field hT hdT h3 ?_)
  rw [if_neg (show ¬((Value.none == rawInt L)=true) from by simp [rawInt])]
  refine wpAny_bind (wpAny_setField hT hdT (Array.getElem?_eq_some_iff.mp h3).1 ?_)
  have same:=iy hT hdT h3
  refine xl hfr (Ci same hl) hf ((same e).trans he) hd (Array.getElem?_eq_some_iff.mp h1).1 λh' N=>h h' ⟨λb o hb q=>N.keep b o hb ((same b).trans q),λb o hb q=>N.slot b o hb ((same b).trans q),λoe vs q=>N.exc oe vs ((same e).trans q),N.fly⟩
theorem As {base:Heap}{env:Env}{outer:List Env}{L e:Addr}{oe:Obj}{vs:Array Value}{Q:Unit->Shared->Prop}
  (hfr:A.frames=some (env::outer)) (hl:s.heap.FunFrames base (env::outer)) (hf:env.frame=some L)
  (he:s.heap.get? e=some oe) (hd:oe.data=.fields vs) (h1:vs[1]?=some .none\/Fly s.heap e)
  (h:∀h',Noted (env::outer) e s.heap h'->Q () { s with heap:=h' }):wpAny M A (leaving env (.ref e)) Q E s:=by
 unfold leaving
 exact wpAny_bind (zh hfr hl hf he hd h1 h)
end
end L2
namespace L2
open PySem PySem.Spec PyProof.Rows
section
variable {M:Model}{A:Around}{E:Value->Shared->Prop}{env:Env}
theorem mS {s:Shared}{x:Sem Value}{Q:Flow->Shared->Prop} (hh:A.handled=none)
  (h:wpAny M A x (λv s₁=>∃(e C:Addr) (D:Option Addr) (vs:Array Value),v=.ref e/\(∃(U:Addr) (nm qn:Str) (N:Addr) (bs:List Value) (hdct:Bool) (sn:List Str) (sub:List Value) (ab:Bool) (col:Option Bool) (dd:Option Addr) (k0 k1 k2 k3 k5:Option Value),s₁.heap.get? C=some (excClassObj nm qn C N bs (.ref U::lB) hdct sn sub ab col dd k0 k1 k2 k3 k5 "ValueError.__new__"))/\
   s₁.heap.get? e=some { cls:=.ref C,dict:=D,data:=.fields vs }/\vs[1]?=some .none/\E (.ref e) s₁) E s) :
  wpAny M A (raiseStmt env (some x) none) Q E s:=by
 unfold raiseStmt
 refine wpAny_bind (wpAny_mono h (λv s₁ h₁=>?_) λ_ _ x=>x)
 obtain⟨e,C,D,vs,rfl,⟨U,nm,qn,N,bs,hdct,sn,sub,ab,col,dd,k0,k1,k2,k3,k5,hC⟩,he,h1,hE⟩:=h₁
 have hcB:(Value.ref C::.ref U::lB).contains (.type "BaseException")=true:=by
  rw [List.contains_cons,List.contains_cons,show lB.contains (.type "BaseException")=true from by decide,Bool.or_true,Bool.or_true]
 obtain⟨hp,g,d,tk,os⟩:=s₁
 repeat (first | with_reducible refine wpAny_loadPart_at he ?_ | with_reducible refine wpAny_loadPart_at hC ?_ | (with_reducible refine wpAny_isSubtype_exc hC ?_;rw [hcB]) | (unfold setFlight;refine wpAny_bind (wpAny_bind (wpAny_field he rfl h1 ?_));rw [if_neg (by decide)];refine wpAny_pure ?_) | wp_step)
 exact wpAny_raiseNew_none hh hE
end
section
variable {M:Model}{A:Around}{E:Value->Shared->Prop}{env:Env}
theorem xI {s:Shared}{x:Expr}{pos:Pos}{Q:Flow->Shared->Prop} (hh:A.handled=none)
  (h:wpAny M A (eval x env) (λv s₁=>∃(e C:Addr) (D:Option Addr) (vs:Array Value),v=.ref e/\(∃(U:Addr) (nm qn:Str) (N:Addr) (bs:List Value) (hdct:Bool) (sn:List Str) (sub:List Value) (ab:Bool) (col:Option Bool) (dd:Option Addr) (k0 k1 k2 k3 k5:Option Value),s₁.heap.get? C=some (excClassObj nm qn C N bs (.ref U::lB) hdct sn sub ab col dd k0 k1 k2 k3 k5 "ValueError.__new__"))/\
   s₁.heap.get? e=some { cls:=.ref C,dict:=D,data:=.fields vs }/\vs[1]?=some .none/\E (.ref e) s₁) E s) :
  wpAny M A (exec (.Raise (some x) none pos) env) Q E s:=by
 rw [arm_exec_Raise]
 first
  | exact wpAny_bind (wpAny_standAt (mS hh (wpAny_bind (wpAny_mono h (λv s₁ h₁=>wpAny_bind (wpAny_standAt (wpAny_pure h₁))) λ_ _ x=>x))))
  | (simp only [evalOpt,Option.map];exact wpAny_bind (wpAny_standAt (mS hh (wpAny_bind (wpAny_mono h (λv s₁ h₁=>wpAny_bind (wpAny_standAt (wpAny_pure h₁))) λ_ _ x=>x)))))
  | (show wpAny M A (do standAt pos;raiseStmt env (some (do let v <- eval x env;standAt pos;pure v)) none) Q E s;exact wpAny_bind (wpAny_standAt (mS hh (wpAny_bind (wpAny_mono h (λv s₁ h₁=>wpAny_bind (wpAny_standAt (wpAny_pure h₁))) λ_ _ x=>x)))))
end
section
variable {P:Program}{w:World}{H:Hp}{h h':Heap}{l:List Env}{a C:Addr}{D:Option Addr}{n:Bool}
theorem iw {b:Addr}{o:HO} (hx:H a=some (XOn n C a D)) (e:H b=some o) (ho:∀p,o≠.ext p):b≠a:=λz=>by
 rw [z,hx]at e
 exact ho _ (Option.some.inj e).symm
theorem mx (ok:HOk P w H h) (N:Noted l a h h') (hx:H a=some (XOn n C a D)) (fr:∀b∈frs l,H b=none):HOk P w (upd H a (XOn false C a D)) h':=λb u q=>by
 obtain⟨vs,he,_⟩:=(ok a _ hx).1
 by_cases hb:b=a
 ·subst hb
  rw [ag]at q
  cases q
  obtain⟨vs',e'⟩:=N.exc _ _ he rfl
  exact uF e' λz=>by cases z
 ·rw [aj hb]at q
  refine(ok b u q).stay (λc v hc e=>?_) (λc e=>?_) λc xs e=>?_
  ·have hca:c≠a/\H c≠none:=by
    rcases hc with rfl | hc
    ·exact⟨hb,by rw [q];intro z;cases z⟩
    ·exact⟨iw hx hc (by intro p z;cases z),by rw [hc];intro z;cases z⟩
   exact N.keep c v hca.1 e λz=>hca.2 (fr c z)
  ·rw [aj (iw hx e (by intro p z;cases z))];exact e
  ·rw [aj (iw hx e (by intro p z;cases z))];exact e
theorem wL (N:Noted l a h h') (hx:H a=some (XOn n C a D)) (hth:∃o,h'.get? a=some o):Un (frs l) [] H (upd H a (XOn false C a D)) h h':=by
 have ne:∀{b:Addr},H b=none->b≠a:=λ{b} e z=>by rw [z,hx]at e;cases e
 refine⟨λb o e nb hb _=>N.keep b o (ne nb) e hb,λb o e nb hb _=>N.slot b o (ne nb) e,λb o e nb _=>by rw [aj (ne nb)];exact nb,λb o e _=>?_,λb xs e=>?_,λb o u e=>?_,λb ps e=>?_⟩
 ·by_cases z:b=a
  ·rw [z];exact hth
  ·obtain⟨sl,q⟩:=N.slot b o z e
   exact⟨_,q⟩
 ·rw [aj (iw hx e (by intro p z;cases z))];exact e
 ·rw [aj (iw hx e (by intro p z;cases z))];exact e
 ·exact⟨#[],by rw [aj (iw hx e (by intro p z;cases z)),e];simp⟩
end
def CXR (P:Program) (w:World):CXT:=λouter H s E e s'=>∃(a C:Addr) (D:Option Addr) (H':Hp),e=.ref a/\Fly s'.heap a/\H' a=some (XOn false C a D)/\s'.os=s.os/\AllBare s'.gens/\Un (frs outer) [] H H' s.heap s'.heap/\HOk P w H' s'.heap/\E (.ref C) (some a) H'
theorem oI {H:Hp}{a:Addr}{o:HO} (e:H a=some o):upd H a o=H:=by
 funext b
 by_cases z:b=a
 ·rw [z,ag,e]
 ·rw [aj z]
section
variable {P:Program}{w:World}{K:PySem.W.Frag}{mg:Str->Option Value}{base:Heap}{N:List Str}{qual:Str}{scope:Scope}{f:Addr}{cd:Value}{A:Around}{outer:List Env}{s:Shared}{H:Hp}{E:XK}
theorem sK {pins:List (Addr × Obj)}{Y:St}{H1:Hp}{s1:Shared}{n:Bool}{a C:Addr}{D:Option Addr} (I:Inv (eU (CXR P w) P w K mg base N qual scope f cd A outer s H E) pins Y H1 s1) (hx:H1 a=some (XOn n C a D)) (hn:n=true\/Fly s1.heap a)
  (e:E (.ref C) (some a) (upd H1 a (XOn false C a D))):(eU (CXR P w) P w K mg base N qual scope f cd A outer s H E).xe (.ref a) s1:=by
 obtain⟨vs,he,hv⟩:=hX I hx
 show wpAny (model P w) (A.deeper (envOfC qual scope s.heap.objs.size f cd)) (leaving (envOfC qual scope s.heap.objs.size f cd) (.ref a)) (λ_ s''=>CXR P w outer H s E (.ref a) s'') _ s1
 refine As (base:=base) (L:=s.heap.objs.size) I.ok.frames I.stack rfl he rfl (hn.imp (λz=>hv z) id) λh' Nt=>?_
 have ne:∀{b:Addr},H1 b=none->b≠a:=λ{b} e z=>by rw [z,hx]at e;cases e
 obtain⟨vs',ha'⟩:=Nt.exc _ _ he rfl
 have nex:∀b:Addr,b∉(eU (CXR P w) P w K mg base N qual scope f cd A outer s H E).ex:=λb z=>nomatch (show b∈([]:List Addr) from z)
 have nf:∀{b:Addr}{o:Obj},s.heap.get? b=some o->b∉frs outer->b∉frs (envOfC qual scope s.heap.objs.size f cd::outer):=λ{b o} e hb z=>by
  rcases List.mem_cons.mp (I.stkSub b z) with q | q
  ·exact Nat.lt_irrefl _ (show s.heap.objs.size < s.heap.objs.size by
    have:=Heap.lt_size e
    rw [q]at this
    exact this)
  ·exact hb q
 refine⟨a,C,D,_,rfl,Nt.fly,ag,I.os,I.bare,⟨λb o q nb hb _=>?_,λb o q nb hb _=>?_,λb o q nb _=>?_,λb o q _=>?_,λb xs q=>?_,λb o u q=>?_,λb ps q=>?_⟩,mx I.hok Nt hx I.stkFree,e⟩
 ·exact Nt.keep b o (ne (I.base.free b o q nb (nex b))) (I.base.keep b o q nb hb (nex b)) (nf q hb)
 ·obtain⟨sl,q1⟩:=I.base.slot b o q nb hb (nex b)
  obtain⟨sl',q2⟩:=Nt.slot b _ (ne (I.base.free b o q nb (nex b))) q1
  exact⟨sl',q2⟩
 ·have:=I.base.free b o q nb (nex b)
  rw [aj (ne this)]
  exact this
 ·obtain⟨o',q1⟩:=I.base.there b o q (nex b)
  by_cases z:b=a
  ·rw [z];exact⟨_,ha'⟩
  ·obtain⟨sl,q2⟩:=Nt.slot b o' z q1
   exact⟨_,q2⟩
 ·have:=I.base.tups b xs q
  rw [aj (iw hx this (by intro p z;cases z))];exact this
 ·have:=I.base.frzs b o u q
  rw [aj (iw hx this (by intro p z;cases z))];exact this
 ·obtain⟨more,this⟩:=I.base.tbls b ps q
  exact⟨more,by rw [aj (iw hx this (by intro p z;cases z))];exact this⟩
theorem db:dC (CXR P w) (eU (CXR P w) P w K mg base N qual scope f cd A outer s H E) E:=by
 rintro pins Y H1 s1 e s2 I ⟨a,C,D,H2,rfl,fl,hx,os,bare,un,hok,q⟩
 have I2:=I.call' os un hok bare λb z=>nomatch (show b∈([]:List Addr) from z)
 exact sK I2 hx (.inr fl) (by rw [oI hx];exact q)
def jB (K:PySem.W.Frag) (E:XK) (te:TE):TS:=λ_ Y H=>te Y H λx H1=>∃(a C U:Addr) (D:Option Addr),x=.ref a/\H1 a=some (XO C a D)/\XCls K C U/\E (.ref C) (some a) (upd H1 a (XOn false C a D))
theorem pb {x:Expr}{te:TE}{pos:Pos} (he:PE (eU (CXR P w) P w K mg base N qual scope f cd A outer s H E) x te):PS (eU (CXR P w) P w K mg base N qual scope f cd A outer s H E) (.Raise (some x) none pos) (jB K E te):=by
 intro pins s1 Y H1 D I h
 refine xI (I.ok.hd rfl) (thn (he pins s1 Y H1 _ I h) λv s2 ⟨y,H2,I2,ry,a,C,U,D',ey,hx,T,q⟩=>?_)
 subst ey
 obtain rfl:v=Value.ref a:=ry
 obtain⟨vs,ha,hv⟩:=hX I2 hx
 obtain⟨_,_,nm,qn,N',bs,hdct,sn,sub,ab,col,dd,k0,k1,k2,k3,k5,hC⟩:=lA I2.kIn T.ex
 exact⟨a,C,D',vs,rfl,⟨U,nm,qn,N',bs,hdct,sn,sub,ab,col,dd,k0,k1,k2,k3,k5,hC⟩,ha,hv rfl,sK I2 hx (.inl rfl) q⟩
end
end L2
namespace L2
open PySem PySem.Spec PyProof.Rows
section
variable {M:Model}{A:Around}{E:Value->Shared->Prop}
theorem xH {h:Heap}{g:Array GenState}{d:Drawn}{t:Nat}{os:OsState}{e C C':Addr}{oe:Obj}{Q:Bool->Shared->Prop}{nm q nm' q':Str}{N N':Addr}{bs bm bs' bm':List Value}{hdct hdct':Bool}{sn sn':List Str}{sub sub':List Value}{ab ab':Bool}{col col':Option Bool}{dd dd':Option Addr}{k0 k1 k2 k3 k5 l0 l1 l2 l3 l5:Option Value}{newId newId':String}
  (hC:h.get? C=some (excClassObj nm q C N bs bm hdct sn sub ab col dd k0 k1 k2 k3 k5 newId)) (hC':h.get? C'=some (excClassObj nm' q' C' N' bs' bm' hdct' sn' sub' ab' col' dd' l0 l1 l2 l3 l5 newId')) (he:h.get? e=some oe) (hcls:oe.cls=.ref C) (hbase:bm'.contains (.type "BaseException")=true)
  (hq:Q ((Value.ref C::bm).contains (.ref C')) ⟨h,g,d,t,os⟩):wpAny M A (excMatches (.ref e) (.ref C')) Q E ⟨h,g,d,t,os⟩:=by
 have hcB:(Value.ref C'::bm').contains (.type "BaseException")=true:=by rw [List.contains_cons,hbase,Bool.or_true]
 have f:=tc_notTuple
 unfold excMatches
 repeat (first | (with_reducible refine wpAny_loadPart_at he ?_;rw [hcls]) | with_reducible refine wpAny_loadPart_at hC' ?_ | (with_reducible refine wpAny_isSubtype_exc hC' ?_;rw [hcB]) | (with_reducible refine wpAny_isSubtype_exc hC ?_;generalize hb:(Value.ref C::bm).contains (.ref C')=b at hq ⊢) | wp_step)
 cases b <;> (wp_walk;exact hq)
end
noncomputable def hIn (K:PySem.W.Frag) (C:Addr):Bool:=match K.lookup C with
 | some ⟨.type "type", _,.cls cd,sl⟩=>(match sl.toList with
  | [_,_,_,_,some (.builtin _),_]=>cd.mro == .ref C::cd.mro.drop 1 && !cd.hasDel && (cd.mro.drop 1).contains (.type "BaseException")
  | _=>false)
 | _=>false
theorem Cf {K:PySem.W.Frag}{h:Heap}{C:Addr} (X:K.In h) (q:hIn K C=true) :
  ∃bm nm qn N bs hdct sn sub ab col dd k0 k1 k2 k3 k5 nid,h.get? C=some (excClassObj nm qn C N bs bm hdct sn sub ab col dd k0 k1 k2 k3 k5 nid)/\bm.contains (.type "BaseException")=true:=by
 unfold hIn at q
 split at q
 ·rename_i dd cd sl ho
  split at q
  ·rename_i k0 k1 k2 k3 n k5 hs
   simp only [Bool.and_eq_true,beq_iff_eq,Bool.not_eq_true']at q
   obtain⟨⟨hm,hdel⟩,hb⟩:=q
   obtain⟨nm,bs,mro,ns,qn,hdc,sn,sub,ab,col,del⟩:=cd
   dsimp only at hm hdel hb
   subst hdel
   have e:sl = #[k0,k1,k2,k3,some (.builtin n),k5]:=by
    obtain⟨l⟩:=sl
    simp only at hs
    rw [hs]
   subst e
   rw [hm]at ho
   exact⟨_,nm,qn,ns,bs,hdc,sn,sub,ab,col,dd,k0,k1,k2,k3,k5,n,X _ _ ho,hb⟩
  ·cases q
 ·cases q
noncomputable abbrev Cx.held (X:Cx) (a:Addr):Cx:={ X with A:=X.A.mark (some (.ref a)),calm:=false,xe:=λ_ _=>False }
noncomputable abbrev Cx.tried (X:Cx) (E:Value->Shared->Prop) (pn:List (Addr × Obj)):Cx:={ X with xe:=E,pn:=pn }
section
variable {X:Cx}{pins:List (Addr × Obj)}{Y:St}{H:Hp}{s:Shared}{E:Value->Shared->Prop}{a:Addr}
theorem Inv.hold (I:Inv X pins Y H s) (a:Addr):Inv (X.held a) pins Y H s:=
 ⟨⟨I.ok.mod,I.ok.kind,I.ok.glob,I.ok.blt,I.ok.above,I.ok.inj,I.ok.has,I.ok.cab,(λz=>by cases z),I.ok.frames,I.ok.stk,I.ok.exf,I.ok.bs,I.ok.bsz,I.ok.noex,I.ok.exfs,I.ok.funs,I.ok.frf⟩,I.os,I.bare,I.base,I.loc,I.cell,I.free,I.freeC,I.pin,I.hok,I.len⟩
theorem Inv.unhold (hd:X.calm=true->X.A.handled=none) (I:Inv (X.held a) pins Y H s):Inv X pins Y H s:=
 ⟨⟨I.ok.mod,I.ok.kind,I.ok.glob,I.ok.blt,I.ok.above,I.ok.inj,I.ok.has,I.ok.cab,hd,I.ok.frames,I.ok.stk,I.ok.exf,I.ok.bs,I.ok.bsz,I.ok.noex,I.ok.exfs,I.ok.funs,I.ok.frf⟩,I.os,I.bare,I.base,I.loc,I.cell,I.free,I.freeC,I.pin,I.hok,I.len⟩
theorem Inv.try' (I:Inv X pins Y H s) (E:Value->Shared->Prop):Inv (X.tried E (X.pn++pins)) [] Y H s:=
 ⟨⟨I.ok.mod,I.ok.kind,I.ok.glob,I.ok.blt,I.ok.above,I.ok.inj,I.ok.has,I.ok.cab,I.ok.hd,I.ok.frames,I.ok.stk,I.ok.exf,I.ok.bs,I.ok.bsz,I.ok.noex,I.ok.exfs,I.ok.funs,I.ok.frf⟩,I.os,I.bare,I.base,I.loc,I.cell,I.free,I.freeC,(by rw [List.append_nil];exact I.pin),I.hok,I.len⟩
theorem Inv.untry {pins':List (Addr × Obj)} (I:Inv (X.tried E (X.pn++pins)) pins' Y H s):Inv X pins Y H s:=
 ⟨⟨I.ok.mod,I.ok.kind,I.ok.glob,I.ok.blt,I.ok.above,I.ok.inj,I.ok.has,I.ok.cab,I.ok.hd,I.ok.frames,I.ok.stk,I.ok.exf,I.ok.bs,I.ok.bsz,I.ok.noex,I.ok.exfs,I.ok.funs,I.ok.frf⟩,I.os,I.bare,I.base,I.loc,I.cell,I.free,I.freeC,(λp hp=>I.pin p (List.mem_append_left _ hp)),I.hok,I.len⟩
theorem tu {M:Model}{A:Around}{E:Value->Shared->Prop}{i:Nat}{x:Str}{v:V}{Q:Unit->Shared->Prop} (I:Inv X pins Y H s) (hN:X.N.Nodup) (hi:X.N[i]?=some x) (hk:X.env.scope.names.lookup x=some .local) (hv:Y[i]?=some (some v))
  (h:∀s',Inv X pins (Y.set i none) H s'->Q () s'):wpAny M A (unbindName X.env x) Q E s:=by
 obtain⟨m,hn,hl⟩:=id I.loc
 have hcls:(X.env.scope.kind == .class || (X.env.scope.kind == .module && X.env.locals != X.env.globals))=false:=by rw [I.ok.kind];rfl
 have hiY:i < Y.length:=by rw [I.len];exact(List.getElem?_eq_some_iff.mp hi).1
 have cne:=I.cne
 obtain⟨u,ru,lu⟩:=hl i x v hi hv (.inl hk)
 have hmx:m x=some u:=by
  rcases lu with⟨_,e⟩ | ⟨k,_⟩
  ·exact e
  ·have:X.env.kindOf x=some .local:=hk
   rw [this]at k
   rcases k with k | k <;> cases k
 obtain⟨oL,_,_,hoL,_⟩:=id hn
 refine wpAny_unbindName_local hk hn hmx hcls λh' u' hn' hs=>h _ ⟨I.ok,I.os,I.bare,⟨λb o e n hb hx=>?_,λb o e n hb hx=>?_,I.base.free,λb o e hx=>?_,I.base.tups,I.base.frzs,I.base.tbls⟩,⟨_,hn',λj y v' e1 e2 e3=>?_⟩,λy c e=>?_,I.free,I.freeC,λp hp=>?_,λb ob e=>?_,by simpa using I.len⟩
 ·exact(hs.2 b (Nat.ne_of_lt (Nat.lt_of_lt_of_le (Heap.lt_size e) I.ok.above))).trans (I.base.keep b o e n hb hx)
 ·obtain⟨sl,e1⟩:=I.base.slot b o e n hb hx
  exact⟨sl,(hs.2 b (Nat.ne_of_lt (Nat.lt_of_lt_of_le (Heap.lt_size e) I.ok.above))).trans e1⟩
 ·obtain⟨o',e1⟩:=I.base.there b o e hx
  exact⟨o',(hs.2 b (Nat.ne_of_lt (Nat.lt_of_lt_of_le (Heap.lt_size e) I.ok.above))).trans e1⟩
 ·by_cases hj:j=i
  ·subst hj
   rw [List.getElem?_set_self hiY]at e2
   cases e2
  ·rw [List.getElem?_set_ne (Ne.symm hj)]at e2
   obtain⟨u2,r',q⟩:=hl j y v' e1 e2 e3
   refine⟨u2,r',?_⟩
   rcases q with⟨k,e⟩ | ⟨k,c,e,z⟩
   ·refine .inl ⟨k,?_⟩
    have:y≠x:=λe=>hj (kE hN e1 (e ▸ hi))
    simp [this,e]
   ·exact .inr ⟨k,c,e,z.sameBut hs (cne y c e)⟩
 ·obtain⟨w',z⟩:=I.cell y c e
  exact⟨w',z.sameBut hs (cne y c e)⟩
 ·obtain⟨e,n,ne,nf,d⟩:=I.pin p hp
  exact⟨(hs.2 p.1 ne).trans e,n,ne,nf,d⟩
 ·refine(I.hok b ob e).stay (λc w' hc q=>(hs.2 c ?_).trans q) (λ_ q=>q) λ_ _ q=>q
  rintro rfl
  rcases hc with rfl | hc
  ·rw [I.free]at e;cases e
  ·rw [I.free]at hc;cases hc
end
abbrev TH:=Addr->Addr->Ends->St->Hp->Prop
def PH (X:Cx) (hs:List ExceptHandler) (th:TH):Prop:=
 ∀(pins:List (Addr × Obj)) (s:Shared) (Y:St) (H:Hp) (D:Ends) (a C:Addr) (Dd:Option Addr),Inv X pins Y H s->H a=some (XOn false C a Dd)->Fly s.heap a->th a C D Y H->wpAny (model X.prog X.w) X.A (handleBy (.ref a) X.env hs) (SP X pins D) X.xe s
def B6:TH:=λ_ _ _ _ _=>False
theorem Aa {X:Cx}:PH X [] B6:=λ_ _ _ _ _ _ _ _ _ _ _ h=>h.elim
def tAs (K:PySem.W.Frag) (C':Addr) (i:Nat) (ts:Addr->TS) (tr:TH):TH:=λa C D Y H=>∃U,XCls K C U/\if (jf C U).contains (.ref C')=true then
 ts a { nx:=λY' H'=>D.nx (Y'.set i none) H',rt:=λv H'=>D.rt v H',bk:=λY' H'=>D.bk (Y'.set i none) H',ct:=λY' H'=>D.ct (Y'.set i none) H' } (Y.set i (some (.ref a))) H
 else tr a C D Y H
section
variable {X:Cx}
theorem zr {pins:List (Addr × Obj)}{s:Shared}{Y:St}{H:Hp}{a C U C':Addr}{Dd:Option Addr}{x:Str}{p pos:Pos}{R:Result->Shared->Prop} (I:Inv X pins Y H s) (hx:H a=some (XOn false C a Dd)) (T:XCls X.K C U) (hT:hIn X.K C'=true) (hg:Gl X x) (hm:X.mg x=some (.ref C')) (hdb:(x == ("__debug__" : Str))=false)
  (h:R (.ok (if (jf C U).contains (.ref C') then .brk else .next)) s):codeAny (model X.prog X.w) (X.A.mark (some (.ref a))) (.handlers (.ref a) [.ExceptHandler (some (.Name x p)) none [] pos] X.env) R s:=by
 have Im:=I.hold a
 obtain⟨vs,he,_⟩:=hX I hx
 obtain⟨_,_,nm,qn,N,bs,hdct,sn,sub,ab,col,dd,k0,k1,k2,k3,k5,hC⟩:=lA I.kIn T.ex
 obtain⟨bm,nm',qn',N',bs',hdct',sn',sub',ab',col',dd',l0,l1,l2,l3,l5,nid,hC',hbs⟩:=Cf I.kIn hT
 refine codeAny_handlers_test (fH (X:=X.held a) Im hg hm ?_ hdb)
 obtain⟨hp,g,d,tk,os⟩:=s
 exact xH hC hC' he rfl hbs h
theorem uJ {M:Model}{A:Around}{E:Value->Shared->Prop}{pins:List (Addr × Obj)}{s:Shared}{Y:St}{H:Hp}{a:Addr}{Q:Unit->Shared->Prop} (I:Inv X pins Y H s) (fl:Fly s.heap a) (h:∀s',Inv X pins Y H s'->Q () s'):wpAny M A (setFlight (.ref a) none) Q E s:=by
 obtain⟨oe,vs,T,oT,ts,he,hd,h1,hTe,hT,hdT,h3⟩:=fl
 refine wpAny_setFlight_none he hd h1 hT hdT (Array.getElem?_eq_some_iff.mp h3).1 (h _ (I.kept (t':=s.toks) λb u e=>?_))
 rw [iy hT hdT h3]
 exact e
theorem By {x n:Str}{p pos:Pos}{i:Nat}{C':Addr}{b₀:Stmt}{suite:List Stmt}{rest:List ExceptHandler}{ts:Addr->TS}{tr:TH} (hc:X.A.handled=none) (hT:hIn X.K C'=true) (hg:Gl X x) (hm:X.mg x=some (.ref C')) (hN:X.N.Nodup) (hi:X.N[i]?=some n) (hn:X.env.scope.names.lookup n=some .local)
  (hs:∀a,PSs (X.held a) (b₀::suite) (ts a)) (hr:PH X rest tr) (hdb:(x == ("__debug__" : Str))=false:=by decide):PH X (.ExceptHandler (some (.Name x p)) (some n) (b₀::suite) pos::rest) (tAs X.K C' i ts tr):=by
 intro pins s Y H D a C Dd I hx fl h
 obtain⟨U,T,h⟩:=h
 refine wpAny_handleBy_cons (zr I hx T hT hg hm hdb ?_) (by intro q;cases q)
 cases hb:(jf C U).contains (.ref C') with
 | false=>
  rw [hb,if_neg (by decide)]at h
  exact hr pins s Y H D a C Dd I hx fl h
 | true=>
  rw [hb,if_pos rfl]at h
  refine codeAny_handlers_suite_as (uJ (I.hold a) fl λs1 I1=>?_)
  refine iz (X:=X.held a) I1 hN hi (.inl hn) (v:=.ref a) rfl (λs2 I2=>?_) (.inr hn)
  refine wpAny_mono (hs a pins s2 _ H _ I2 h) (λf s3 q=>?_) λ_ _ z=>z.elim
  have un:∀{Y':St}{H':Hp}{R:Unit->Shared->Prop},Inv (X.held a) pins Y' H' s3->(∀s4,Inv X pins (Y'.set i none) H' s4->R () s4)->wpAny (model X.prog X.w) X.A (do bindName X.env n .none;unbindBehindTheSuite X.env n pos) R X.xe s3:=λ{Y' H' R} I3 hR=>by
   have I4:=I3.unhold λ_=>hc
   have hil:i < Y'.length:=by rw [I4.len];exact(List.getElem?_eq_some_iff.mp hi).1
   refine wpAny_bind (wpAny_bindName (iz I4 hN hi (.inl hn) (v:=.non) rfl (λs4 I5=>?_) (.inr hn)))
   unfold unbindBehindTheSuite
   refine wpAny_onRaise (tu I5 hN hi hn (v:=.non) (by rw [List.getElem?_set_self hil]) λs5 I6=>hR s5 ?_)
   rw [List.set_set]at I6
   exact I6
  cases f with
  | next=>
   obtain⟨Y',H',I3,q⟩:=q
   exact un I3 λs4 I4=>⟨_,_,I4,q⟩
  | brk=>
   obtain⟨Y',H',I3,q⟩:=q
   exact un I3 λs4 I4=>⟨_,_,I4,q⟩
  | cont=>
   obtain⟨Y',H',I3,q⟩:=q
   exact un I3 λs4 I4=>⟨_,_,I4,q⟩
  | ret u=>
   obtain⟨v,Y',H',I3,r,q⟩:=q
   exact un I3 λs4 I4=>⟨v,_,_,I4,r,q⟩
def BZ (tb:XK->TS) (th:TH):TS:=λD Y H=>∃E1:XK,tb E1 D Y H/\∀(C a:Addr) (Dd:Option Addr) (H':Hp) (Y':St),Y'.length=Y.length->H' a=some (XOn false C a Dd)->E1 (.ref C) (some a) H'->th a C D Y' H'
theorem A7 {body:List Stmt}{h₀:ExceptHandler}{hs:List ExceptHandler}{pos:Pos}{tb:XK->TS}{th:TH} (hst:X.stack=X.env::X.outer) (hf:X.env.frame=some X.env.locals)
  (hb:∀(E1:XK) (xe':Value->Shared->Prop) (pn:List (Addr × Obj)),dC (CXR X.prog X.w) (X.tried xe' pn) E1->PSs (X.tried xe' pn) body (tb E1)) (hh:PH X (h₀::hs) th):PS X (.Try body (h₀::hs) [] [] pos) (BZ tb th):=by
 intro pins s Y H D I h
 obtain⟨E1,hb',hh'⟩:=h
 refine wpAny_Try_except ?_
 have hp:dC (CXR X.prog X.w) (X.tried (λe s₁=>wpAny (model X.prog X.w) X.A (noteFrame e X.env) (λ_ s₂=>wpAny (model X.prog X.w) X.A (setFlight e none) (λ_ s₃=>wpAny (model X.prog X.w) X.A (handleBy e X.env (h₀::hs)) (SP X pins D) X.xe s₃) X.xe s₂) X.xe s₁) (X.pn++pins)) E1:=by
  rintro pins' Y' H1 s1 e s2 J ⟨a,C,Dd,H2,rfl,fl,hx,os,bare,un,hok,q⟩
  have J2:=J.call' os un hok bare λb z=>nomatch (show b∈([]:List Addr) from z)
  have J3:Inv X pins Y' H2 s2:=J2.untry
  obtain⟨vs,he,_⟩:=hX J3 hx
  show wpAny (model X.prog X.w) X.A (noteFrame (.ref a) X.env) _ _ s2
  refine zh (base:=X.base) (L:=X.env.locals) (outer:=X.outer) (by rw [<- hst];exact J3.ok.frames) (by rw [<- hst];exact J3.stack) hf he rfl (.inr fl) λh' Nt=>?_
  obtain⟨vs',ha'⟩:=Nt.exc _ _ he rfl
  rw [<- hst]at Nt
  have J4:=J3.call (h':=h') (g':=s2.gens) (d':=s2.drawn) (t':=s2.toks) (wL Nt hx ⟨_,ha'⟩) (mx J3.hok Nt hx J3.stkFree) J3.bare λb z=>nomatch (show b∈([]:List Addr) from z)
  rw [oI hx]at J4
  exact hh pins _ Y' H2 D a C Dd J4 hx Nt.fly (hh' C a Dd H2 Y' (J3.len.trans I.len.symm) hx q)
 refine wpAny_mono (hb E1 _ _ hp [] s Y H D (I.try' _) hb') (λf s1 q=>?_) λ_ _ z=>z
 cases f with
 | next=>obtain⟨Y',H',J,q⟩:=q;exact wpAny_execs_nil ⟨Y',H',J.untry,q⟩
 | brk=>obtain⟨Y',H',J,q⟩:=q;exact⟨Y',H',J.untry,q⟩
 | cont=>obtain⟨Y',H',J,q⟩:=q;exact⟨Y',H',J.untry,q⟩
 | ret u=>obtain⟨v,Y',H',J,r,q⟩:=q;exact⟨v,Y',H',J.untry,r,q⟩
end
end L2
namespace L2
open PySem PySem.Spec PyProof.Rows
section
variable {P:Program}{w:World}{K:PySem.W.Frag}{mg:Str->Option Value}{base:Heap}
theorem Fun.okX {x qual:Str}{st:Stmt}{f:Addr}{fd:FuncData}{N ps:List Str}{k:Nat}{sp:Sp} (F:Fun K x qual st f fd) (S:FnScope N ps (ao st)) (len:∀vs H Q E,sp vs H Q E->vs.length=ps.length)
  (hbody:∀(cdv:Value) (A:Around) (outer:List Env) (s:Shared) (H:Hp) (vs:List V) (Q:VK) (E:XK),Room k (A.deeper (envOfC qual (ao st) s.heap.objs.size f cdv))->sp vs H Q E->
   ∃t,PSs (eU (CXR P w) P w K mg base N qual (ao st) f cdv A outer s H E) (bX st) t/\t { nx:=λ_ H'=>Q .non H',rt:=Q } (eX N vs) H):FnOk P w K mg base (CXR P w) (k+1) f fd ps sp:=by
 obtain⟨oc,od,kV,doc,pm,an,cdv,ct,osl,rfl,lk,hcd⟩:=F.ex
 exact pK lk hcd S len λA outer s H vs Q E hr hsp=>hbody cdv A outer s H vs Q E hr hsp
theorem FunD.okX {x qual:Str}{st:Stmt}{dV:Value}{f:Addr}{fd:FuncData}{N ps:List Str}{k:Nat}{sp:Sp} (F:FunD K x qual st dV f fd) (S:FnScope N ps (ao st)) (len:∀vs H Q E,sp vs H Q E->vs.length=ps.length)
  (hbody:∀(cdv:Value) (A:Around) (outer:List Env) (s:Shared) (H:Hp) (vs:List V) (Q:VK) (E:XK),Room k (A.deeper (envOfC qual (ao st) s.heap.objs.size f cdv))->sp vs H Q E->
   ∃t,PSs (eU (CXR P w) P w K mg base N qual (ao st) f cdv A outer s H E) (bX st) t/\t { nx:=λ_ H'=>Q .non H',rt:=Q } (eX N vs) H):FnOk P w K mg base (CXR P w) (k+1) f fd ps sp:=by
 obtain⟨oc,od,kV,doc,pm,an,cdv,ct,osl,rfl,lk,hcd⟩:=F.ex
 exact pK lk hcd S len λA outer s H vs Q E hr hsp=>hbody cdv A outer s H vs Q E hr hsp
theorem FnOk.both {k:Nat}{f:Addr}{fd:FuncData}{ps:List Str}{sp sp':Sp} (F:FnOk P w K mg base CX0 k f fd ps sp) (G:FnOk P w K mg base (CXR P w) k f fd ps sp'):FnOk P w K mg base (CXR P w) k f fd ps (λvs H Q E=>sp vs H Q E\/sp' vs H Q E):=by
 refine⟨λvs H Q E h=>h.elim (F.len vs H Q E) (G.len vs H Q E),λA outer s H args us vs Q E hr he hb hv h=>?_⟩
 rcases h with h | h
 ·refine codeAny_mono (F.run A outer s H args us vs Q E hr he hb hv h) λr s' q=>?_
  cases r with
  | error e=>exact q.elim
  | ok f=>cases f <;> exact q
 ·exact G.run A outer s H args us vs Q E hr he hb hv h
end
def b8 (C:Addr) (fs:List (Str × V)) (H:Hp) (E:XK):Prop:=∀(a:Addr) (H':Hp),(∀b o,H b=some o->H' b=some o)->H a=none->XAt H' a C fs->E (.ref C) (some a) H'
end L2
namespace L2
open PySem PySem.Spec PyProof.Rows
inductive lC (K:PySem.W.Frag) (f:Str) (vs:List V) (H:Hp) (Q:VK) (E:XK):Prop
 | mk (e C U:Addr) (v:V) (h1:vs=[.ref e,v]) (h2:H e=some (XO C e none)) (h3:XCls K C U) (h4:PySem.W.findIn K (.ref C) f=some none) (h5:∀d,H d=none->Q .non (upd (upd H d (.xd [(f,v)])) e (XO C e (some d))))
structure Rf1 (P:Program) (w:World) (K:PySem.W.Frag) (mg:Str->Option Value) (base:Heap) (x:Str) (C U:Addr) (f:Str) (fI:Addr) (fd:FuncData):Prop where
 ok:FnOk P w K mg base CX0 1 fI fd ["self", f] (lC K f)
 nm:mg x=some (.ref C)
 init:PySem.W.findIn K (.ref C) "__init__" = some (some (.ref fI))
 fn:PySem.W.isFn K (.ref fI)=true
 bd:cu K fd ["self", f] []
 cl:XCls K C U
 nf:PySem.W.findIn K (.ref C) f=some none
structure Rf0 (K:PySem.W.Frag) (mg:Str->Option Value) (x:Str) (C U:Addr):Prop where
 nm:mg x=some (.ref C)
 init:PySem.W.findIn K (.ref C) "__init__" = some (some (.builtin "ValueError.__init__"))
 cl:XCls K C U
theorem zq {K:PySem.W.Frag}{f:Str}:∀vs H Q E,lC K f vs H Q E->vs.length<=100:=λvs H Q E h=>by
 obtain⟨e,C,U,v,rfl,_⟩:=h
 show 2<=100
 decide
theorem Bs {K:PySem.W.Frag}{C x d:Addr}{f:Str}{v:V}{H:Hp}{E:XK} (h:b8 C [(f,v)] H E) (nx:H x=none) (nd:upd H x (XO C x none) d=none) :
  E (.ref C) (some x) (upd (upd (upd (upd H x (XO C x none)) d (.xd [(f,v)])) x (XO C x (some d))) x (XOn false C x (some d))):=by
 have dx:d≠x:=λz=>by rw [z,ag]at nd;cases nd
 have nd':H d=none:=by rw [aj dx]at nd;exact nd
 refine h x _ (λb o e=>?_) nx ⟨false,some d,ag,.inr ⟨d,rfl,?_⟩⟩
 ·have bx:=al e nx
  have bd:=al e nd'
  rw [aj bx,aj bx,aj bd,aj bx]
  exact e
 ·rw [aj dx,aj dx,ag]
theorem zY {C x:Addr}{H:Hp}{E:XK} (h:b8 C [] H E) (nx:H x=none):E (.ref C) (some x) (upd (upd H x (XO C x none)) x (XOn false C x none)):=by
 refine h x _ (λb o e=>?_) nx ⟨false,none,ag,.inl ⟨rfl,rfl⟩⟩
 have bx:=al e nx
 rw [aj bx,aj bx]
 exact e
section
variable {P:Program}{w:World}{K:PySem.W.Frag}{mg:Str->Option Value}{base:Heap}{N:List Str}{qual:Str}{scope:Scope}{f:Addr}{cd:Value}{A:Around}{outer:List Env}{s:Shared}{H:Hp}{E:XK}
theorem fu {x fn:Str}{C U fI:Addr}{fd:FuncData}{e:Expr}{te:TE}{p cpos pos:Pos} (M:Rf1 P w K mg base x C U fn fI fd) (hr:Room 2 (A.deeper (envOfC qual scope s.heap.objs.size f cd))) (hg:Gl (eU (CXR P w) P w K mg base N qual scope f cd A outer s H E) x)
  (he:PE (eU (CXR P w) P w K mg base N qual scope f cd A outer s H E) e te) (hse:starEach [e] (envOfC qual scope s.heap.objs.size f cd)=[(false,eval e (envOfC qual scope s.heap.objs.size f cd))]:=by rfl) (hdb:(x == ("__debug__" : Str))=false:=by decide) :
  PS (eU (CXR P w) P w K mg base N qual scope f cd A outer s H E) (.Raise (some (.Call (.Name x p) [e] [] cpos)) none pos) (jB K E (qg C (lC K fn) E0 (aV te bT))):=
 pb (wg M.cl M.init M.fn M.ok hr hg M.nm M.bd iL zq (ae he af (hs:=hse)) hdb hse rfl)
theorem wc {x:Str}{C U:Addr}{p cpos pos:Pos} (M:Rf0 K mg x C U) (hg:Gl (eU (CXR P w) P w K mg base N qual scope f cd A outer s H E) x) (hdb:(x == ("__debug__" : Str))=false:=by decide) :
  PS (eU (CXR P w) P w K mg base N qual scope f cd A outer s H E) (.Raise (some (.Call (.Name x p) [] [] cpos)) none pos) (jB K E (mV C)):=
 pb (tO M.cl M.init hg M.nm hdb)
end
theorem fj {K:PySem.W.Frag}{E:XK}{C U:Addr}{fn:Str}{i:Nat}{v:V}{D:Ends}{Y:St}{H:Hp} (T:XCls K C U) (nf:PySem.W.findIn K (.ref C) fn=some none) (hv:Y[i]?=some (some v)) (h:b8 C [(fn,v)] H E):jB K E (qg C (lC K fn) E0 (aV (cr i) bT)) D Y H:=
 ⟨v,hv,λx nx=>⟨x,C,U,v,rfl,ag,T,nf,λd nd=>⟨rfl,x,C,U,some d,rfl,ag,T,Bs (K:=K) h nx nd⟩⟩⟩
theorem vW {K:PySem.W.Frag}{E:XK}{C U:Addr}{D:Ends}{Y:St}{H:Hp} (T:XCls K C U) (h:b8 C [] H E):jB K E (mV C) D Y H:=
 λx nx=>⟨x,C,U,none,rfl,ag,T,zY h nx⟩
end L2
namespace L2
open PySem PySem.Spec PyProof.Rows
def dN (H:Hp) (x:V) (ks:List Str):Prop:=(dl x=true/\inV x (ks.map V.str)=false)\/∃r,x=.ref r/\((∃xs,H r=some (.lst xs))\/∃xs,H r=some (.tup xs))
theorem rD:∀{ks:List Str}{us:List Value},aP (ks.map V.str) us->∀u∈us,∃x t,u=.str x t
 | [],_,r,u,h=>by cases r;cases h
 | k::ks,_,r,u,h=>by
  rw [List.map_cons]at r
  cases r with
  | cons a t=>
   rcases List.mem_cons.mp h with rfl | h
   ·obtain⟨tk,rfl⟩:=a
    exact⟨k,tk,rfl⟩
   ·exact rD t u h
theorem pX (ks:List Str):(ks.map V.str).all dl=true:=by
 rw [List.all_map,List.all_eq_true]
 intro x _
 rfl
theorem tP {X:Cx} (hu:X.A.units+1 < cLine):OpR X (compareOp .NotIn) (λx y H Q=>∃p ks,y=.ref p/\SqL X.K H p (ks.map V.str)/\((dN H x ks/\Q (.bl true) H)\/∃k,x=.str k/\k∈ks/\Q (.bl false) H)):=by
 intro pins s Y H x y v u Q I rx ry h
 obtain⟨p,ks,rfl,hq,h⟩:=h
 rcases h with⟨h,q⟩ | ⟨k,rfl,hk,q⟩
 ·rcases h with⟨fx,hn⟩ | ⟨r,rfl,hr⟩
  ·exact fB pins s Y H x (.ref p) v u Q I rx ry ⟨p,_,rfl,.inl hq,fx,pX ks,by rw [hn];exact q⟩
  ·cases ry
   cases rx
   obtain⟨its,rv,pl,hz⟩:=I.list hq
   refine SeqAt.notIn_listAt (λ_=>false) pl.isList (λw' hw=>?_) ⟨.bl _,H,I,rfl,?_⟩
   ·obtain⟨x,t,rfl⟩:=rD rv w' (by simpa using hw)
    have hu':X.A.in1.units < cLine:=hu
    rcases hr with⟨xs,hr⟩ | ⟨xs,hr⟩
    ·obtain⟨i2,r2,p2,_⟩:=I.list (SqL.of hr)
     exact SeqAt.EqAt.str_list x t p2.isList hu'
    ·obtain⟨i2,r2,p2,_⟩:=I.tuple (SqT.of hr)
     exact SeqAt.EqAt.str_tuple x t p2 hu'
   ·rw [show its.toArray.any (λ_=>false)=false by simp]
    exact q
 ·refine fB pins s Y H _ (.ref p) v u Q I rx ry ⟨p,_,rfl,.inl hq,rfl,pX ks,?_⟩
  have:inV (.str k) (ks.map V.str)=true:=by
   unfold inV
   rw [List.any_map,List.any_eq_true]
   exact⟨k,hk,by show eqV (.str k) (.str k)=true;simp [eqV]⟩
  rw [this]
  exact q
end L2
namespace Mine
open PySem L2
variable {P:Program}{w:World}{K:PySem.W.Frag}{mg:Str->Option Value}{base:Heap}
def re (H:Hp) (v:V):Prop:=v=.non\/(∃c,v=.bl c)\/(∃x,v=.str x)\/(∃r xs,v=.ref r/\H r=some (.lst xs))\/∃r xs,v=.ref r/\H r=some (.tup xs)
def cy (H:Hp) (lo hi:Int) (v:V):Prop:=re H v\/∃i,v=.int i/\(decide (lo<=i) && decide (i<=hi))=false
theorem re.grow {H H':Hp}{v:V} (h:re H v) (g:aq H H'):re H' v:=by
 rcases h with h | h | h | ⟨r,xs,e,h⟩ | ⟨r,xs,e,h⟩
 ·exact .inl h
 ·exact .inr (.inl h)
 ·exact .inr (.inr (.inl h))
 ·exact .inr (.inr (.inr (.inl ⟨r,xs,e,g _ _ h⟩)))
 ·exact .inr (.inr (.inr (.inr ⟨r,xs,e,g _ _ h⟩)))
theorem cy.grow {H H':Hp}{lo hi:Int}{v:V} (h:cy H lo hi v) (g:aq H H'):cy H' lo hi v:=h.imp (·.grow g) id
theorem or0 {P:Program}{w:World}{K:PySem.W.Frag}{mg:Str->Option Value}{base:Heap}{CX:CXT}{k:Nat}{f:Addr}{fd:FuncData}{ps:List Str}{sp sp':Sp} (F:FnOk P w K mg base CX k f fd ps sp) (G:FnOk P w K mg base CX k f fd ps sp'):FnOk P w K mg base CX k f fd ps (λvs H Q E=>sp vs H Q E\/sp' vs H Q E):=
 ⟨λvs H Q E h=>h.elim (F.len vs H Q E) (G.len vs H Q E),λA outer s H args us vs Q E hr he hb hv h=>h.elim (F.run A outer s H args us vs Q E hr he hb hv) (G.run A outer s H args us vs Q E hr he hb hv)⟩
structure CalX (P:Program) (w:World) (K:PySem.W.Frag) (mg:Str->Option Value) (base:Heap) (x:Str) (k:Nat) (ps:List Str) (sp:Sp) (f:Addr) (fd:FuncData):Prop where
 ok:FnOk P w K mg base (CXR P w) k f fd ps sp
 nm:mg x=some (.ref f)
 kp:PySem.W.keepIn K (.ref f)=true
 bd:cu K fd ps []
structure MCX (P:Program) (w:World) (K:PySem.W.Frag) (mg:Str->Option Value) (base:Heap) (C:Addr) (m:Str) (k:Nat) (ps:List Str) (ds:List Value) (dvs:List V) (sp:Sp) (f:Addr) (fd:FuncData):Prop where
 cl:Cls K C
 mt:Meth K C m f
 ok:FnOk P w K mg base (CXR P w) k f fd ps sp
 bd:cu K fd ps ds
 dv:aP dvs ds
inductive v8 (vs:List V) (H:Hp) (Q:VK) (E:XK):Prop
 | mk (v l h:V) (h1:vs=[v,l,h]) (h2:re H v) (h3:Q (.bl false) H)
inductive iB (vs:List V) (H:Hp) (Q:VK) (E:XK):Prop
 | mk (v:V) (lo hi:Int) (h1:vs=[v,.int lo,.int hi]) (h2:((∃i,v=.int i/\Q (.bl (decide (lo<=i) && decide (i<=hi))) H)\/(re H v/\Q (.bl false) H)))
theorem fg {H:Hp}{lo hi:Int}{v:V}{Q:VK}{E:XK} (h:cy H lo hi v) (q:Q (.bl false) H):iB [v,.int lo,.int hi] H Q E:=by
 rcases h with h | ⟨i,rfl,e⟩
 ·exact⟨v,lo,hi,rfl,.inr ⟨h,q⟩⟩
 ·exact⟨_,lo,hi,rfl,.inl ⟨i,rfl,by rw [e];exact q⟩⟩
theorem qX {H:Hp}{lo hi i:Int}{Q:VK}{E:XK} (h0:lo<=i) (h1:i<=hi) (q:Q (.bl true) H):iB [.int i,.int lo,.int hi] H Q E:=
 ⟨_,lo,hi,rfl,.inl ⟨i,rfl,by rw [decide_eq_true h0,decide_eq_true h1];exact q⟩⟩
theorem tS (F:Fun K "is_whole" "is_whole" fY f fd) (N:Free mg):FnOk P w K mg base CX0 1 f fd ["thing", "low", "high"] v8:=by
 refine okF F lZ λcdv A outer s H vs Q E hr h=>?_
 ·obtain⟨v,l,h,rfl,hv,q⟩:=h
  refine⟨_,(am (aB (dL (aA bS (by rfl) N.isinstance PyProof.Rows.Boot.«isinstance» (ae (pv 0) (ae (cZ (v:=.ty "int") (by rfl) N.int PyProof.Rows.Boot.«int» rfl) af))) (dL (qE (aA bS (by rfl) N.isinstance PyProof.Rows.Boot.«isinstance» (ae (pv 0) (ae (cZ (v:=.ty "bool") (by rfl) N.bool PyProof.Rows.Boot.«bool» rfl) af)))) (eR (kr fO fO (pv 1) (pv 0) (pv 2))))))),?_⟩
  rcases hv with rfl | ⟨c,rfl⟩ | ⟨x,rfl⟩ | ⟨r,xs,rfl,hx⟩ | ⟨r,xs,rfl,hx⟩
  ·exact⟨_,rfl,.non,"int", _,false,rfl,.non,by rfl,_,rfl,aX q⟩
  ·exact⟨_,rfl,.bl c,"int", _,true,rfl,.bl c,by rfl,_,rfl,bG ⟨_,rfl,.bl c,"bool", _,true,rfl,.bl c,by rfl,_,rfl,_,rfl,aX q⟩⟩
  ·exact⟨_,rfl,.str x,"int", _,false,rfl,.str x,by rfl,_,rfl,aX q⟩
  ·exact⟨_,rfl,.ref r,"int", _,false,rfl,.lst hx,by rfl,_,rfl,aX q⟩
  ·exact⟨_,rfl,.ref r,"int", _,false,rfl,.tup hx,by rfl,_,rfl,aX q⟩
theorem tT {f:Addr}{fd:FuncData} (F:Fun K "is_whole" "is_whole" fY f fd) (N:Free mg):FnOk P w K mg base CX0 1 f fd ["thing", "low", "high"] iB:=
 (or0 (kC F N) (tS F N)).imp λvs H Q E h=>by
  obtain⟨v,lo,hi,rfl,h⟩:=h
  rcases h with⟨i,rfl,q⟩ | ⟨h,q⟩
  ·exact .inl ⟨i,lo,hi,rfl,q⟩
  ·exact .inr ⟨v,_,_,rfl,h,q⟩
inductive jK (vs:List V) (H:Hp) (Q:VK) (E:XK):Prop
 | mk (v:V) (h1:vs=[v]) (h2:((∃i,v=.int i/\Q (.bl (decide (0<=i) && decide (i<=399))) H)\/(re H v/\Q (.bl false) H)))
noncomputable abbrev Ab3 (P w K mg base f fd):=Cal P w K mg base "is_whole" 1 ["thing", "low", "high"] iB f fd
theorem yq (F:Fun K "is_day" "is_day" nQ f fd) (N:Con mg) (CW:Ab3 P w K mg base f1 fd1):FnOk P w K mg base CX0 2 f fd ["thing"] jK:=by
 obtain⟨t1,c1⟩:=N.lastday
 refine okF F rX λcdv A outer s H vs Q E hr h=>?_
 ·obtain⟨v,rfl,q⟩:=h
  refine⟨_,(am (aB (aW CW hr (ae (pv 0) (ae ah (ae (bR (v:=.int 399) (by rfl) c1 ⟨_,rfl⟩) af)))))),?_⟩
  exact⟨_,rfl,v,0,399,rfl,q⟩
theorem t7 {H:Hp}{v:V}{Q:VK}{E:XK} (h:cy H 0 399 v) (q:Q (.bl false) H):jK [v] H Q E:=by
 rcases h with h | ⟨i,rfl,e⟩
 ·exact⟨v,rfl,.inr ⟨h,q⟩⟩
 ·exact⟨_,rfl,.inl ⟨i,rfl,by rw [e];exact q⟩⟩
theorem pH {H:Hp}{i:Int}{Q:VK}{E:XK} (h0:0<=i) (h1:i<=399) (q:Q (.bl true) H):jK [.int i] H Q E:=
 ⟨_,rfl,.inl ⟨i,rfl,by rw [decide_eq_true h0,decide_eq_true h1];exact q⟩⟩
def jM (CD:Addr):Sp:=λvs H _ E=>∃f l:V,vs=[f,l]/\((cy H 0 399 f/\b8 CD [("day", f)] H E)\/∃i,f=.int i/\0<=i/\i<=399/\cy H i 399 l/\b8 CD [("day", l)] H E)
theorem u7 {C3 U:Addr} (F:Fun K "check_stretch" "check_stretch" nV f fd) (N:Con mg) (CW:Ab3 P w K mg base f1 fd1) (CY:Cal P w K mg base "is_day" 2 ["thing"] jK f2 fd2) (RD:Rf1 P w K mg base "NoDay" C3 U "day" f3 fd3):FnOk P w K mg base (CXR P w) 3 f fd ["first", "last"] (jM C3):=by
 obtain⟨t1,c1⟩:=N.lastday
 refine F.okX (k:=2) rZ (λvs H Q E h=>?_) (λcdv A outer s H vs Q E hr h=>?_)
 ·obtain⟨f,l,rfl,_⟩:=h
  rfl
 ·obtain⟨f,l,rfl,q⟩:=h
  refine⟨_,(ai (aO (bQ (bH (aW CY hr (ae (pv 0) af)))) (am (fu RD (hr.mono (by decide)) rfl (pv 0))) aE)
   (am (aO (bQ (bH (aW CW hr (ae (pv 1) (ae (pv 0) (ae (bR (v:=.int 399) (by rfl) c1 ⟨_,rfl⟩) af)))))) (am (fu RD (hr.mono (by decide)) rfl (pv 1))) aE))),?_⟩
  rcases q with⟨hb,q⟩ | ⟨i,rfl,h0,h1,hb,q⟩
  ·refine au (aQ ⟨_,rfl,?_⟩)
   try dsimp only [bT,aV,tC,List.cons_append,List.nil_append,List.append_nil]
   exact t7 hb ⟨_,rfl,bG (fj RD.cl RD.nf rfl q)⟩
  ·refine au (aQ ⟨_,rfl,?_⟩)
   try dsimp only [bT,aV,tC,List.cons_append,List.nil_append,List.append_nil]
   refine pH h0 h1 ⟨_,rfl,aX (aI ?_)⟩
   try dsimp only
   refine aQ ⟨_,rfl,_,rfl,?_⟩
   try dsimp only [bT,aV,tC,List.cons_append,List.nil_append,List.append_nil]
   exact fg hb ⟨_,rfl,bG (fj RD.cl RD.nf rfl q)⟩
def lV (C CK:Addr):Sp:=λvs H _ E=>∃(p:Addr) (a:BA) (F:Addr->Prop) (B:Bk) (v:V),vs=[.ref p,v]/\BkT C H p a F B/\dN H v B.ks/\b8 CK [("key", v)] H E
def lU (C CF:Addr):Sp:=λvs H _ E=>∃(p:Addr) (a:BA) (F:Addr->Prop) (B:Bk) (v:V),vs=[.ref p,v]/\BkAt C H p a F B/\cy H 0 ((B.fs.length:Int) - 1) v/\b8 CF [("number", v)] H E
def jL (C CF:Addr):Sp:=λvs H _ E=>∃(p:Addr) (a:BA) (F:Addr->Prop) (B:Bk),vs=[.ref p]/\BkT C H p a F B/\60<=B.ds.length/\b8 CF [] H E
def oP (C CT:Addr):Sp:=λvs H _ E=>∃(p:Addr) (a:BA) (F:Addr->Prop) (B:Bk) (v:V),vs=[.ref p,v]/\BkT C H p a F B/\v≠.non/\cy H 0 (B.ds.length:Int) v/\b8 CT [("turn", v)] H E
def iV (C CT:Addr):Sp:=λvs H _ E=>∃(p:Addr) (a:BA) (F:Addr->Prop) (B:Bk) (v:V),vs=[.ref p,v]/\BkAt C H p a F B/\cy H 1 (B.ds.length:Int) v/\b8 CT [("turn", v)] H E
theorem qK {C C1 U:Addr} (F:Fun K "check_key" "Book.check_key" jq f fd) (T:BkC K C) (RK:Rf1 P w K mg base "NoKey" C1 U "key" f1 fd1):FnOk P w K mg base (CXR P w) 3 f fd ["self", "key"] (lV C C1):=by
 refine F.okX (k:=2) oZ (λvs H Q E h=>?_) (λcdv A outer s H vs Q E hr h=>?_)
 ·obtain⟨p,a,F,B,v,rfl,_⟩:=h
  rfl
 ·obtain⟨p,a,F,B,v,rfl,h,hn,q⟩:=h
  have hu:=eB hr
  refine⟨_,(am (aO (aY (tP hu) (pv 1) (br (pv 0) rfl) (by with_unfolding_all rfl)) (am (fu RK (hr.mono (by decide)) rfl (pv 1))) aE)),?_⟩
  obtain⟨dx,ho⟩:=h.ob
  exact aQ ⟨_,rfl,_,rfl,p,C,dx,_,_,rfl,ho,T.cl,T.n1,AL a,a.n,_,rfl,SqL.of h.hn,.inl ⟨hn,_,rfl,bG (fj RK.cl RK.nf rfl q)⟩⟩
theorem qJ {C C2 U:Addr} (F:Fun K "check_number" "Book.check_number" jp f fd) (N:Free mg) (T:BkC K C) (CW:Ab3 P w K mg base f1 fd1) (RN:Rf1 P w K mg base "NoFinding" C2 U "number" f2 fd2):FnOk P w K mg base (CXR P w) 3 f fd ["self", "number"] (lU C C2):=by
 refine F.okX (k:=2) oY (λvs H Q E h=>?_) (λcdv A outer s H vs Q E hr h=>?_)
 ·obtain⟨p,a,F,B,v,rfl,_⟩:=h
  rfl
 ·obtain⟨p,a,F,B,v,rfl,h,hb,q⟩:=h
  refine⟨_,(am (aO (bQ (bH (aW CW hr (ae (pv 1) (ae ah (ae (aD cJ (aA aG (by rfl) N.len PySem.boot_len (ae (br (pv 0) rfl) af)) ah) af)))))) (am (fu RN (hr.mono (by decide)) rfl (pv 1))) aE)),?_⟩
  obtain⟨dx,ho⟩:=h.ob
  obtain⟨ps,e1,r1⟩:=h.hf
  refine aQ ⟨_,rfl,_,rfl,p,C,dx,_,_,rfl,ho,T.cl,T.n2,pW a,a.f,_,rfl,.inl (SqL.of e1),_,_,rfl,rfl,?_⟩
  rw [List.length_map,show ps.length=B.fs.length from Paired.length r1]
  try dsimp only [bT,aV,tC,List.cons_append,List.nil_append,List.append_nil]
  exact fg hb ⟨_,rfl,bG (fj RN.cl RN.nf rfl q)⟩
theorem pi {C C2 U:Addr} (F:Fun K "check_room" "Book.check_room" iH f fd) (N:Con mg) (T:BkC K C) (MN:Ab4 P w K mg base C f1 fd1) (RF:Rf0 K mg "Full" C2 U):FnOk P w K mg base (CXR P w) 3 f fd ["self"] (jL C C2):=by
 obtain⟨t1,c1⟩:=N.deeds
 refine F.okX (k:=2) ma (λvs H Q E h=>?_) (λcdv A outer s H vs Q E hr h=>?_)
 ·obtain⟨p,a,F,B,rfl,_⟩:=h
  rfl
 ·obtain⟨p,a,F,B,rfl,h,hr6,q⟩:=h
  refine⟨_,(am (aO (aY wv (dH (pv 0) MN hr) (bR (v:=.int 60) (by rfl) c1 ⟨_,rfl⟩) (b9 _)) (am (wc RF rfl)) aE)),?_⟩
  obtain⟨dx,ho⟩:=h.ob
  refine aQ ⟨_,rfl,p,dx,_,rfl,ho,bi a (by decide +kernel) (by decide +kernel) (by decide +kernel) (by decide +kernel) (by decide +kernel),p,a,F,B,rfl,h,_,_,rfl,rfl,_,rfl,?_⟩
  rw [decide_eq_true (show (60:Int)<=B.ds.length by omega)]
  exact bG (vW RF.cl q)
theorem tW {C C3 U:Addr} (F:Fun K "turn_meant" "Book.turn_meant" nN f fd) (T:BkC K C) (MN:Ab4 P w K mg base C f1 fd1) (CW:Ab3 P w K mg base f2 fd2) (RT:Rf1 P w K mg base "NoTurn" C3 U "turn" f3 fd3):FnOk P w K mg base (CXR P w) 3 f fd ["self", "turn"] (oP C C3):=by
 refine F.okX (k:=2) rW (λvs H Q E h=>?_) (λcdv A outer s H vs Q E hr h=>?_)
 ·obtain⟨p,a,F,B,v,rfl,_⟩:=h
  rfl
 ·obtain⟨p,a,F,B,v,rfl,h,hv,hb,q⟩:=h
  refine⟨_,(ai (aO (gp (ku (pv 1))) (am (aB (dH (pv 0) MN hr))) aE)
   (ai (aO (bQ (bH (aW CW hr (ae (pv 1) (ae ah (ae (dH (pv 0) MN hr) af)))))) (am (fu RT (hr.mono (by decide)) rfl (pv 1))) aE)
   (am (aB (pv 1))))),?_⟩
  obtain⟨dx,ho⟩:=h.ob
  refine au (aQ ⟨_,rfl,_,rfl,?_⟩)
  rw [decide_eq_false hv]
  refine aX (aI ?_)
  try dsimp only
  refine au (aQ ⟨_,rfl,_,rfl,p,dx,_,rfl,ho,bi a (by decide +kernel) (by decide +kernel) (by decide +kernel) (by decide +kernel) (by decide +kernel),p,a,F,B,rfl,h,?_⟩)
  try dsimp only [bT,aV,tC,List.cons_append,List.nil_append,List.append_nil]
  exact fg hb ⟨_,rfl,bG (fj RT.cl RT.nf rfl q)⟩
theorem qI {C C3 U:Addr} (F:Fun K "deed_at" "Book.deed_at" jo f fd) (T:BkC K C) (MN:Ab4 P w K mg base C f1 fd1) (CW:Ab3 P w K mg base f2 fd2) (RT:Rf1 P w K mg base "NoTurn" C3 U "turn" f3 fd3):FnOk P w K mg base (CXR P w) 3 f fd ["self", "turn"] (iV C C3):=by
 refine F.okX (k:=2) oX (λvs H Q E h=>?_) (λcdv A outer s H vs Q E hr h=>?_)
 ·obtain⟨p,a,F,B,v,rfl,_⟩:=h
  rfl
 ·obtain⟨p,a,F,B,v,rfl,h,hb,q⟩:=h
  refine⟨_,(ai (aO (bQ (bH (aW CW hr (ae (pv 1) (ae ah (ae (dH (pv 0) MN hr) af)))))) (am (fu RT (hr.mono (by decide)) rfl (pv 1))) aE)
   (am (aB (aH aR (br (pv 0) rfl) (aD cJ (pv 1) ah) (λ_ _=>rfl))))),?_⟩
  obtain⟨dx,ho⟩:=h.ob
  refine au (aQ ⟨_,rfl,_,rfl,p,dx,_,rfl,ho,bi a (by decide +kernel) (by decide +kernel) (by decide +kernel) (by decide +kernel) (by decide +kernel),p,a,F,B,rfl,h.toT,?_⟩)
  try dsimp only [bT,aV,tC,List.cons_append,List.nil_append,List.append_nil]
  exact fg hb ⟨_,rfl,bG (fj RT.cl RT.nf rfl q)⟩
def gK (C CK:Addr):Sp:=λvs H Q E=>iD C vs H Q E\/lV C CK vs H Q E
def iW (C CF:Addr):Sp:=λvs H Q E=>iC C vs H Q E\/lU C CF vs H Q E
def i7 (C CF:Addr):Sp:=λvs H Q E=>gJ C vs H Q E\/jL C CF vs H Q E
def jG (C CT:Addr):Sp:=λvs H Q E=>ni C vs H Q E\/oP C CT vs H Q E
def oU (CD:Addr):Sp:=λvs H Q E=>nB vs H Q E\/jM CD vs H Q E
def nq (C CK CD CV CF:Addr):Sp:=λvs H _ E=>∃(p:Addr) (a:BA) (F:Addr->Prop) (B:Bk) (vk vf vl vv:V),vs=[.ref p,vk,vf,vl,vv]/\BkAt C H p a F B/\
 ((dN H vk B.ks/\b8 CK [("key", vk)] H E)\/∃k,vk=.str k/\k∈B.ks/\
  (jM CD [vf,vl] H (λ_ _=>False) E\/∃f l,vf=.int f/\vl=.int l/\0<=f/\f<=l/\l < 400/\
   ((cy H (-1000000000) 1000000000 vv/\b8 CV [("thing", vv)] H E)\/∃v,vv=.int v/\-1000000000<=v/\v<=1000000000/\60<=B.ds.length/\b8 CF [] H E)))
def jE (C CN CG CF:Addr):Sp:=λvs H _ E=>∃(p:Addr) (a:BA) (F:Addr->Prop) (B:Bk) (v:V),vs=[.ref p,v]/\BkAt C H p a F B/\
 ((cy H 0 ((B.fs.length:Int) - 1) v/\b8 CN [("number", v)] H E)\/∃n:Nat,v=.int (n:Int)/\n < B.fs.length/\
  ((∃y,valV B.gs (Sum.inl (n:Int))=some y/\b8 CG [("number", v)] H E)\/(valV B.gs (Sum.inl (n:Int))=none/\60<=B.ds.length/\b8 CF [] H E)))
def jJ (C CN:Addr):Sp:=λvs H _ E=>∃(p:Addr) (a:BA) (F:Addr->Prop) (B:Bk) (v:V),vs=[.ref p,v]/\BkAt C H p a F B/\cy H 0 ((B.fs.length:Int) - 1) v/\b8 CN [("number", v)] H E
def jF (C CK CT:Addr):Sp:=λvs H _ E=>∃(p:Addr) (a:BA) (F:Addr->Prop) (B:Bk) (vk vt:V),vs=[.ref p,vk,vt]/\BkAt C H p a F B/\
 ((dN H vk B.ks/\b8 CK [("key", vk)] H E)\/∃k,vk=.str k/\k∈B.ks/\vt≠.non/\cy H 0 (B.ds.length:Int) vt/\b8 CT [("turn", vt)] H E)
def cT (C CK CD CT:Addr):Sp:=λvs H _ E=>∃(p:Addr) (a:BA) (F:Addr->Prop) (B:Bk) (vk vd vt:V),vs=[.ref p,vk,vd,vt]/\BkAt C H p a F B/\
 ((dN H vk B.ks/\b8 CK [("key", vk)] H E)\/∃k,vk=.str k/\k∈B.ks/\((cy H 0 399 vd/\b8 CD [("day", vd)] H E)\/∃d,vd=.int d/\0<=d/\d<=399/\vt≠.non/\cy H 0 (B.ds.length:Int) vt/\b8 CT [("turn", vt)] H E))
theorem wI {C CK CD CV CF L U:Addr} (F:Fun K "find" "Book.find" sg f fd) (N:Free mg) (Z:Con mg) (T:BkC K C) (MY:MCX P w K mg base C "check_key" 3 ["self", "key"] [] [] (gK C CK) f1 fd1) (CC:CalX P w K mg base "check_stretch" 3 ["first", "last"] (oU CD) f2 fd2) (CW:Ab3 P w K mg base f3 fd3) (MR:MCX P w K mg base C "check_room" 3 ["self"] [] [] (i7 C CF) f4 fd4) (MN:Ab4 P w K mg base C f5 fd5) (MD:Ab5 P w K mg base C f6 fd6) (MB:MC P w K mg base C "table" 3 ["self", "key", "turn"] [Value.none] [V.non] (jl C) f7 fd7) (CL:Cal P w K mg base "laid" 4 ["strip", "first", "last", "mark"] (jH L) f8 fd8) (RV:Rf1 P w K mg base "NoValue" CV U "thing" f9 fd9):FnOk P w K mg base (CXR P w) 6 f fd ["self", "key", "first", "last", "value"] (nq C CK CD CV CF):=by
 obtain⟨t1,c1⟩:=Z.value
 refine F.okX (k:=5) nI (λvs H Q E h=>?_) (λcdv A outer s H vs Q E hr h=>?_)
 ·obtain⟨p,a,F,B,vk,vf,vl,vv,rfl,_⟩:=h
  rfl
 ·obtain⟨p,a,F,B,vk,vf,vl,vv,rfl,h,q⟩:=h
  refine⟨_,(ai (aJ (ce (pv 0) MY.cl MY.mt MY.ok (hr.mono (by decide)) MY.bd MY.dv db (ae (pv 1) af)))
   (ai (aJ (gS CC.ok (hr.mono (by decide)) rfl CC.nm CC.kp CC.bd .nil db (ae (pv 2) (ae (pv 3) af))))
   (ai (aO (bQ (bH (aW CW hr (ae (pv 4) (ae (hV eO (bR (v:=.int 1000000000) (by rfl) c1 ⟨_,rfl⟩)) (ae (bR (v:=.int 1000000000) (by rfl) c1 ⟨_,rfl⟩) af)))))) (am (fu RV (hr.mono (by decide)) rfl (pv 4))) aE)
   (ai (aJ (ki (pv 0) MR.cl MR.mt MR.ok (hr.mono (by decide)) MR.bd MR.dv db))
   (ai (aF (i:=5) nI.nd rfl (Or.inl rfl) (aA aG (by rfl) N.len PySem.boot_len (ae (br (pv 0) rfl) af)))
   (ai (aJ (dO PySem.F.plainAttrs_list PySem.F.slot_list_append PySem.F.type_list_append bN (br (pv 0) rfl) (ae (az (ae (pv 1) (ae (pv 2) (ae (pv 3) (ae (pv 4) (ae (aD bL (dH (pv 0) MN hr) ah) af)))))) af)))
   (ai (aJ (fw (pv 0) MD hr (ae ay (ae (pv 5) (ae (aW CL hr (ae (fw (pv 0) MB hr (ae (pv 1) af)) (ae (pv 2) (ae (pv 3) (ae (pv 5) af))))) af)))))
   (am (aB (pv 5)))))))))),?_⟩
  obtain⟨dx,ho⟩:=h.ob
  refine au (bE ⟨_,rfl,p,dx,_,rfl,ho,bi a (by decide +kernel) (by decide +kernel) (by decide +kernel) (by decide +kernel) (by decide +kernel),_,rfl,?_⟩)
  try dsimp only [bT,aV,tC,List.cons_append,List.nil_append,List.append_nil]
  rcases q with⟨hn,q⟩ | ⟨k,rfl,hk,q⟩
  ·exact .inr ⟨p,a,F,B,vk,rfl,h.toT,hn,q⟩
  refine .inl ⟨p,a,F,B,k,rfl,h.toT,hk,?_⟩
  try dsimp only
  refine au (bE ⟨_,rfl,_,rfl,?_⟩)
  try dsimp only [bT,aV,tC,List.cons_append,List.nil_append,List.append_nil]
  rcases q with q | ⟨f,l,rfl,rfl,h0,h1,h2,q⟩
  ·exact .inr q
  refine .inl ⟨f,l,rfl,h0,h1,h2,?_⟩
  try dsimp only
  refine au (aQ ⟨_,rfl,_,rfl,?_⟩)
  try dsimp only [bT,aV,tC,List.cons_append,List.nil_append,List.append_nil]
  rcases q with⟨hb,q⟩ | ⟨v,rfl,v0,v1,h60,q⟩
  ·exact fg hb ⟨_,rfl,bG (fj RV.cl RV.nf rfl q)⟩
  refine qX v0 v1 ⟨_,rfl,aX (aI ?_)⟩
  try dsimp only
  refine au (bE ⟨_,rfl,p,dx,_,rfl,ho,bi a (by decide +kernel) (by decide +kernel) (by decide +kernel) (by decide +kernel) (by decide +kernel),?_⟩)
  exact .inr ⟨p,a,F,B,rfl,h.toT,h60,q⟩
theorem tR {C CN CG CF L U:Addr} (F:Fun K "withdraw" "Book.withdraw" nJ f fd) (T:BkC K C) (MK:MCX P w K mg base C "check_number" 3 ["self", "number"] [] [] (iW C CN) f1 fd1) (MR:MCX P w K mg base C "check_room" 3 ["self"] [] [] (i7 C CF) f2 fd2) (MN:Ab4 P w K mg base C f3 fd3) (MD:Ab5 P w K mg base C f4 fd4) (MW:MC P w K mg base C "table_of_known" 5 ["self", "key"] [] [] (nj C L) f5 fd5) (RG:Rf1 P w K mg base "Gone" CG U "number" f6 fd6):FnOk P w K mg base (CXR P w) 7 f fd ["self", "number"] (jE C CN CG CF):=by
 refine F.okX (k:=6) rS (λvs H Q E h=>?_) (λcdv A outer s H vs Q E hr h=>?_)
 ·obtain⟨p,a,F,B,v,rfl,_⟩:=h
  rfl
 ·obtain⟨p,a,F,B,v,rfl,h,q⟩:=h
  have hu:=eB hr
  refine⟨_,(ai (aJ (ce (pv 0) MK.cl MK.mt MK.ok (hr.mono (by decide)) MK.bd MK.dv db (ae (pv 1) af)))
   (ai (aO (gp (wo hu (pv 1) (br (pv 0) rfl))) (am (fu RG (hr.mono (by decide)) rfl (pv 1))) aE)
   (ai (aJ (ki (pv 0) MR.cl MR.mt MR.ok (hr.mono (by decide)) MR.bd MR.dv db))
   (ai (jt hu (br (pv 0) rfl) (pv 1) (aD bL (dH (pv 0) MN hr) ah) rfl)
   (am (aJ (fw (pv 0) MD hr (ae ay (ae (pv 1) (ae (fw (pv 0) MW hr (ae (aH be (aH aR (br (pv 0) rfl) (pv 1) (λ_ _=>rfl)) ah (λ_ _=>rfl)) af)) af)))))))))),?_⟩
  obtain⟨dx,ho⟩:=h.ob
  refine au (bE ⟨_,rfl,p,dx,_,rfl,ho,bi a (by decide +kernel) (by decide +kernel) (by decide +kernel) (by decide +kernel) (by decide +kernel),_,rfl,?_⟩)
  try dsimp only [bT,aV,tC,List.cons_append,List.nil_append,List.append_nil]
  rcases q with⟨hb,q⟩ | ⟨n,rfl,hn,q⟩
  ·exact .inr ⟨p,a,F,B,v,rfl,h,hb,q⟩
  refine .inl ⟨p,a,F,B,n,rfl,h,hn,?_⟩
  try dsimp only
  refine au (aQ ⟨_,rfl,_,rfl,p,C,dx,_,_,rfl,ho,T.cl,T.n3,xw a,a.w,_,rfl,cL.k (k:=Sum.inl (n:Int)) h.hw,_,rfl,?_⟩)
  rcases q with⟨y,hy,q⟩ | ⟨hy,h60,q⟩
  ·rw [hy]
   exact bG (fj RG.cl RG.nf rfl q)
  rw [hy]
  refine aX (aI ?_)
  try dsimp only
  refine au (bE ⟨_,rfl,p,dx,_,rfl,ho,bi a (by decide +kernel) (by decide +kernel) (by decide +kernel) (by decide +kernel) (by decide +kernel),?_⟩)
  exact .inr ⟨p,a,F,B,rfl,h.toT,h60,q⟩
theorem u5 {C CN:Addr} (F:Fun K "found" "Book.found" nU f fd) (T:BkC K C) (MK:MCX P w K mg base C "check_number" 3 ["self", "number"] [] [] (iW C CN) f1 fd1):FnOk P w K mg base (CXR P w) 4 f fd ["self", "number"] (jJ C CN):=by
 refine F.okX (k:=3) rY (λvs H Q E h=>?_) (λcdv A outer s H vs Q E hr h=>?_)
 ·obtain⟨p,a,F,B,v,rfl,_⟩:=h
  rfl
 ·obtain⟨p,a,F,B,v,rfl,h,hb,q⟩:=h
  have hu:=eB hr
  refine⟨_,(ai (aJ (ce (pv 0) MK.cl MK.mt MK.ok (hr.mono (by decide)) MK.bd MK.dv db (ae (pv 1) af)))
   (am (aB (aD sF (aH aR (br (pv 0) rfl) (pv 1) (λ_ _=>rfl)) (az (ae (pe hu (br (pv 0) rfl) (pv 1) ⟨rfl,rfl,rfl,rfl⟩) af)))))),?_⟩
  obtain⟨dx,ho⟩:=h.ob
  refine au (bE ⟨_,rfl,p,dx,_,rfl,ho,bi a (by decide +kernel) (by decide +kernel) (by decide +kernel) (by decide +kernel) (by decide +kernel),_,rfl,?_⟩)
  exact .inr ⟨p,a,F,B,v,rfl,h,hb,q⟩
theorem tV {C CK CT:Addr}{dV:Value} (F:FunD K "table" "Book.table" nK dV f fd) (N:Free mg) (T:BkC K C) (MY:MCX P w K mg base C "check_key" 3 ["self", "key"] [] [] (gK C CK) f1 fd1) (MT:MCX P w K mg base C "turn_meant" 3 ["self", "turn"] [] [] (jG C CT) f2 fd2):FnOk P w K mg base (CXR P w) 4 f fd ["self", "key", "turn"] (jF C CK CT):=by
 refine F.okX (k:=3) rV (λvs H Q E h=>?_) (λcdv A outer s H vs Q E hr h=>?_)
 ·obtain⟨p,a,F,B,vk,vt,rfl,_⟩:=h
  rfl
 ·obtain⟨p,a,F,B,vk,vt,rfl,h,q⟩:=h
  have hu:=eB hr
  refine⟨_,(ai (aJ (ce (pv 0) MY.cl MY.mt MY.ok (hr.mono (by decide)) MY.bd MY.dv db (ae (pv 1) af)))
   (am (aB (bU cG (by rfl) N.list PyProof.Rows.Boot.«list» (ae (bJ hu (aH aR (br (pv 0) rfl) (ce (pv 0) MT.cl MT.mt MT.ok (hr.mono (by decide)) MT.bd MT.dv db (ae (pv 2) af)) (λ_ _=>rfl)) (pv 1) (λ_ _=>rfl)) af))))),?_⟩
  obtain⟨dx,ho⟩:=h.ob
  obtain⟨ts,e3,l3,r3⟩:=h.ht
  refine au (bE ⟨_,rfl,p,dx,_,rfl,ho,bi a (by decide +kernel) (by decide +kernel) (by decide +kernel) (by decide +kernel) (by decide +kernel),_,rfl,?_⟩)
  try dsimp only [bT,aV,tC,List.cons_append,List.nil_append,List.append_nil]
  rcases q with⟨hn,q⟩ | ⟨k,rfl,hk,hv,hb,q⟩
  ·exact .inr ⟨p,a,F,B,vk,rfl,h.toT,hn,q⟩
  refine .inl ⟨p,a,F,B,k,rfl,h.toT,hk,?_⟩
  try dsimp only
  refine bj ⟨_,rfl,p,C,dx,_,_,rfl,ho,T.cl,T.n5,xx a,_,rfl,p,dx,_,rfl,ho,bi a (by decide +kernel) (by decide +kernel) (by decide +kernel) (by decide +kernel) (by decide +kernel),_,rfl,?_⟩
  exact .inr ⟨p,a,F,B,vt,rfl,h.toT,hv,hb,q⟩
theorem vx:FnScope ["self", "key", "day", "turn"] ["self", "key", "day", "turn"] (ao nM):=aZ
theorem rT:FnScope ["self", "key", "day", "turn", "number"] ["self", "key", "day", "turn"] (ao qu):=aZ
theorem qG {C CK CD CT U:Addr}{dV:Value} (F:FunD K "speaks" "Book.speaks" nM dV f fd) (N:Free mg) (T:BkC K C) (MY:MCX P w K mg base C "check_key" 3 ["self", "key"] [] [] (gK C CK) f1 fd1) (MT:MCX P w K mg base C "turn_meant" 3 ["self", "turn"] [] [] (jG C CT) f2 fd2) (CMo:Cal P w K mg base "mark_on" 1 ["strip", "day"] oQ f3 fd3) (CY:Cal P w K mg base "is_day" 2 ["thing"] jK f4 fd4) (RD:Rf1 P w K mg base "NoDay" CD U "day" f5 fd5):FnOk P w K mg base (CXR P w) 4 f fd ["self", "key", "day", "turn"] (cT C CK CD CT):=by
 refine F.okX (k:=3) vx (λvs H Q E h=>?_) (λcdv A outer s H vs Q E hr h=>?_)
 ·obtain⟨p,a,F,B,vk,vd,vt,rfl,_⟩:=h
  rfl
 ·obtain⟨p,a,F,B,vk,vd,vt,rfl,h,q⟩:=h
  have hu:=eB hr
  refine⟨_,(ai (aJ (ce (pv 0) MY.cl MY.mt MY.ok (hr.mono (by decide)) MY.bd MY.dv db (ae (pv 1) af)))
   (ai (aO (bQ (bH (aW CY hr (ae (pv 2) af)))) (am (fu RD (hr.mono (by decide)) rfl (pv 2))) aE)
   (am (aB (aW CMo hr (ae (bJ hu (aH aR (br (pv 0) rfl) (ce (pv 0) MT.cl MT.mt MT.ok (hr.mono (by decide)) MT.bd MT.dv db (ae (pv 3) af)) (λ_ _=>rfl)) (pv 1) (λ_ _=>rfl)) (ae (pv 2) af))))))),?_⟩
  obtain⟨dx,ho⟩:=h.ob
  obtain⟨ts,e3,l3,r3⟩:=h.ht
  refine au (bE ⟨_,rfl,p,dx,_,rfl,ho,bi a (by decide +kernel) (by decide +kernel) (by decide +kernel) (by decide +kernel) (by decide +kernel),_,rfl,?_⟩)
  try dsimp only [bT,aV,tC,List.cons_append,List.nil_append,List.append_nil]
  rcases q with⟨hn,q⟩ | ⟨k,rfl,hk,q⟩
  ·exact .inr ⟨p,a,F,B,vk,rfl,h.toT,hn,q⟩
  refine .inl ⟨p,a,F,B,k,rfl,h.toT,hk,?_⟩
  try dsimp only
  refine au (aQ ⟨_,rfl,?_⟩)
  try dsimp only [bT,aV,tC,List.cons_append,List.nil_append,List.append_nil]
  rcases q with⟨hb,q⟩ | ⟨d,rfl,d0,d1,hv,hb,q⟩
  ·exact t7 hb ⟨_,rfl,bG (fj RD.cl RD.nf rfl q)⟩
  refine pH d0 d1 ⟨_,rfl,aX (aI ?_)⟩
  try dsimp only
  refine bj ⟨_,rfl,p,C,dx,_,_,rfl,ho,T.cl,T.n5,xx a,_,rfl,p,dx,_,rfl,ho,bi a (by decide +kernel) (by decide +kernel) (by decide +kernel) (by decide +kernel) (by decide +kernel),_,rfl,?_⟩
  exact .inr ⟨p,a,F,B,vt,rfl,h.toT,hv,hb,q⟩
theorem tU {C CK CD CT:Addr}{dV:Value} (F:FunD K "value" "Book.value" qu dV f fd) (T:BkC K C) (MS:MCX P w K mg base C "speaks" 4 ["self", "key", "day", "turn"] [] [] (cT C CK CD CT) f1 fd1):FnOk P w K mg base (CXR P w) 5 f fd ["self", "key", "day", "turn"] (cT C CK CD CT):=by
 refine F.okX (k:=4) rT (λvs H Q E h=>?_) (λcdv A outer s H vs Q E hr h=>?_)
 ·obtain⟨p,a,F,B,vk,vd,vt,rfl,_⟩:=h
  rfl
 ·obtain⟨p,a,F,B,vk,vd,vt,rfl,h,q⟩:=h
  refine⟨_,(ai (aF (i:=4) rT.nd rfl (Or.inl rfl) (ce (pv 0) MS.cl MS.mt MS.ok (hr.mono (by decide)) MS.bd MS.dv db (ae (pv 1) (ae (pv 2) (ae (pv 3) af)))))
   (am (aB (wk (gp (ku (pv 4))) dZ (aH be (aH aR (br (pv 0) rfl) (pv 4) (λ_ _=>rfl)) ah (λ_ _=>rfl)))))),?_⟩
  obtain⟨dx,ho⟩:=h.ob
  exact au (aK ⟨_,rfl,p,dx,_,rfl,ho,bi a (by decide +kernel) (by decide +kernel) (by decide +kernel) (by decide +kernel) (by decide +kernel),_,rfl,_,rfl,_,rfl,p,a,F,B,vk,vd,vt,rfl,h,q⟩)
end Mine
namespace L2
open PySem PySem.Spec PyProof.Rows
inductive FlD:V->PyData->Prop
 | non:FlD .non .none
 | bl (b:Bool):FlD (.bl b) (.bool b)
 | int (i:Int):FlD (.int i) (.int i)
 | str (x:Str):FlD (.str x) (.str x)
inductive Shw (H:Hp):V->PyData->Prop
 | flat {x:V}{d:PyData}:FlD x d->Shw H x d
 | lst {a:Addr}{xs:List V}{ds:List PyData}:H a=some (.lst xs)->Paired FlD xs ds->Shw H (.ref a) (.list ds)
 | tup {a:Addr}{xs:List V}{ds:List PyData}:H a=some (.tup xs)->Paired FlD xs ds->Shw H (.ref a) (.tuple ds)
theorem Shw.keep {H H':Hp}{x:V}{d:PyData} (h:Shw H x d) (g:∀b o,H b=some o->H' b=some o):Shw H' x d:=by
 cases h with
 | flat f=>exact .flat f
 | lst e p=>exact .lst (g _ _ e) p
 | tup e p=>exact .tup (g _ _ e) p
theorem qA {h:Heap}{x:V}{d:PyData}{u:Value} (f:FlD x d) (r:bh x u):Reads h u d []:=by
 cases f with
 | non=>cases (show u=Value.none from r);exact .none
 | bl b=>cases (show u=Value.bool b from r);exact .bool b
 | int i=>obtain⟨t,rfl⟩:=(show ∃t,u=Value.int i t from r);exact .int i t
 | str x=>obtain⟨t,rfl⟩:=(show ∃t,u=Value.str x t from r);exact .str x t
theorem fZ {h:Heap}:∀{xs:List V}{ds:List PyData}{us:List Value},Paired FlD xs ds->aP xs us->ReadsAll h us ds []
 | _,_,_,.nil,.nil=>.nil
 | _,_,_,.cons f t,.cons r rt=>.cons (as:=[]) (bs:=[]) (qA f r) (fZ t rt)
section
variable {X:Cx}{pins:List (Addr × Obj)}{Y:St}{H:Hp}{s:Shared}
theorem dR (hg:X.A.guards=some []) (hu:X.A.units+64 < cLine):dq X (.builtin "repr") (λxs H Q=>∃x d,xs=[x]/\Shw H x d/\d.showable=true/\d.shown.length<=sizeLine/\d.depth<=20/\d.hasDict=false/\Q (.str d.shown) H):=by
 intro pins s Y H xs us Q I r h
 obtain⟨x,d,rfl,sh,hs,hz,hd,hdc,q⟩:=h
 obtain⟨u,rfl,ru⟩:=aP.one r
 have kq:∀tk,EP X pins Y Q (.str d.shown s.toks) { s with toks:=tk }:=λtk=>⟨.str _,H,I.tok _,⟨_,rfl⟩,q⟩
 have hr:∀a as,u=.ref a->Reads s.heap u d as->wpAny (model X.prog X.w) X.A (call (.builtin "repr") [u]) (EP X pins Y Q) X.xe s:=λa as e rd=>by
  subst e
  exact repr_of_reads' rd hs (λz=>by rw [hdc]at z;cases z) hg (by omega) (λ_ _ e=>e) (λh' tk t' k=>⟨.str _,H,I.kept k,⟨_,rfl⟩,q⟩) hz
 cases sh with
 | flat f=>
  cases f with
  | non=>cases (show u=Value.none from ru);exact P.repr_of_none (kq _)
  | bl b=>cases (show u=Value.bool b from ru);exact P.repr_of_bool (by have:=kq (s.toks+1);unfold PyData.shown at this;cases b <;> exact this)
  | int i=>
   obtain⟨t,rfl⟩:=(show ∃t,u=Value.int i t from ru)
   exact P.repr_of_int (by unfold PyData.showable at hs;exact of_decide_eq_true hs) (kq _)
  | str x=>obtain⟨t,rfl⟩:=(show ∃t,u=Value.str x t from ru);exact P.repr_of_str (kq _) hz
 | lst e p=>
  rename_i a xs ds
  cases (show u=Value.ref a from ru)
  obtain⟨_,its,n,rv,e1⟩:=(show bw X.prog X.w H s.heap a (.lst _) from I.hok a _ e)
  exact hr a _ rfl (reads_list_at e1 rfl rfl (by simpa using fZ p rv))
 | tup e p=>
  rename_i a xs ds
  cases (show u=Value.ref a from ru)
  obtain⟨_,its,rv,o,e1,e2,n,e3⟩:=(show bw X.prog X.w H s.heap a (.tup _) from I.hok a _ e)
  exact hr a _ rfl (reads_tuple_at e1 e2 e3 (by simpa using fZ p rv))
end
end L2
namespace L2
open PySem PySem.Spec PyProof.Rows
theorem kY {x:V}:∀{xs:List V}{us:List Value},aP xs us->xs.all dl=true->us.countP (eqU x)=xs.countP λy=>eqV y x
 | _,_,.nil,_=>rfl
 | y::xs,u::us,.cons r t,f=>by
  rw [List.all_cons,Bool.and_eq_true]at f
  rw [List.countP_cons,List.countP_cons,kY t f.2,oh r f.1]
section
variable {X:Cx}
def A5:V->List V->Hp->VK->Prop:=λl vs H Q=>∃a xs x,l=.ref a/\vs=[x]/\H a=some (.lst xs)/\dl x=true/\xs.all dl=true/\Q (.int (xs.countP (λy=>eqV y x):Nat)) H
theorem wM:MtM X "list.count" A5:=by
 intro pins s Y H l vs v us Q I rx rv h
 obtain⟨a,xs,x,rfl,rfl,hH,fx,fs,q⟩:=h
 cases rx
 obtain⟨u,rfl,ru⟩:=rv.one
 obtain⟨z,its,n,r,hl,e⟩:=I.lstM hH
 refine call_meets F.slot_list_count ⟨_,e,rfl⟩ F.entry_list_count (F.args_list_count_2 _ _) (SeqAt.list_countAt a its.toArray n none #[] u (eqU x)) ⟨e,λy hy=>gC ru fx r fs y (by simpa using hy),?_⟩
 refine⟨.int _,H,I.tok _,⟨_,rfl⟩,?_⟩
 show Q (.int ((its.countP (eqU x):Nat):Int)) H
 rw [kY r fs]
 exact q
def A4:V->List V->Hp->VK->Prop:=λl vs H Q=>∃a xs x j y,l=.ref a/\vs=[x]/\H a=some (.lst xs)/\dl x=true/\xs.all dl=true/\xs[j]?=some y/\eqV y x=true/\(∀m y',m < j->xs[m]?=some y'->eqV y' x=false)/\j < 1000/\Q (.int (j:Nat)) H
theorem uc:MtM X "list.index" A4:=by
 intro pins s Y H l vs v us Q I rx rv h
 obtain⟨a,xs,x,j,y,rfl,rfl,hH,fx,fs,hj,hy,hno,h1,q⟩:=h
 cases rx
 obtain⟨u,rfl,ru⟩:=rv.one
 obtain⟨z,its,n,r,hl,e⟩:=I.lstM hH
 have get:∀{m:Nat}{y:V} (hm:m < its.length),xs[m]?=some y->eqU x its[m]=eqV y x:=λ{m y} hm e=>by
  obtain⟨u',eu,ru'⟩:=r.get e
  have:its[m]=u':=by
   rw [List.getElem?_eq_getElem hm]at eu
   exact Option.some.inj eu
  rw [this]
  exact oh ru' (List.all_eq_true.mp fs y (List.mem_of_getElem? e))
 have hjl:j < its.length:=by rw [<- hl];exact(List.getElem?_eq_some_iff.mp hj).1
 refine call_meets F.slot_list_index ⟨_,e,rfl⟩ F.entry_list_index (F.args_list_index_2 _ _) (SeqAt.list_indexAt a its.toArray n none #[] u (eqU x) j (by simpa using hjl) (by omega) (by simp only [List.getElem_toArray];rw [get hjl hj];exact hy) (λm hm hlt=>?_)) ⟨e,λy hy=>gC ru fx r fs y (by simpa using hy),?_⟩
 ·have hm':m < its.length:=by simpa using hm
  have ex:xs[m]?=some (xs[m]'(by omega)):=List.getElem?_eq_getElem (by omega)
  simp only [List.getElem_toArray]
  rw [get hm' ex]
  exact hno m _ hlt ex
 ·exact⟨.int _,H,I.tok _,⟨_,rfl⟩,q⟩
end
end L2
namespace L2
open PySem PySem.Spec PyProof.Rows
section
variable {X:Cx}
theorem jy:∀{cs:List Addr}{us:List Value},aP (cs.map V.ref) us->us=cs.map Value.ref
 | [],_,r=>by cases r;rfl
 | c::cs,_,r=>by
  rw [List.map_cons]at r
  cases r with
  | cons a t=>
   rw [jy t,show _=Value.ref c from a];rfl
theorem ou:dq X (.builtin "isinstance") (λxs H Q=>∃(e C U t:Addr) (fs:List (Str × V)) (cs:List Addr) (b:Bool),xs=[.ref e,.ref t]/\XAt H e C fs/\XCls X.K C U/\H t=some (.tup (cs.map V.ref))/\
  PySem.W.kitAny X.K (.ref C) (cs.map Value.ref)=some b/\Q (.bl b) H):=by
 intro pins s Y H xs us Q I r h
 obtain⟨e,C,U,t,fs,cs,b,rfl,xa,T,ht,hk,q⟩:=h
 obtain⟨u,u2,rfl,rx,rt⟩:=lM r
 cases (show u=Value.ref e from rx)
 cases (show u2=Value.ref t from rt)
 obtain⟨ox,od,J⟩:=xa.inst I
 obtain⟨_,its,rv,⟨cls,dd,dt,sl⟩,e1,e2,n,e3⟩:=(show bw X.prog X.w H s.heap t (.tup _) from I.hok t _ ht)
 rw [jy rv]at e3
 simp only at e2 e3
 subst e2 e3
 exact PySem.W.kia_tup (kK T) I.kIn J e1 hk (λz=>nomatch z) λtk=>⟨.bl b,H,I.tok _,rfl,q⟩
end
end L2
namespace L2
open PySem PySem.Spec PyProof.Rows
noncomputable def uX:Expr->Bool
 | .Starred _ _=>true
 | _=>false
theorem lP {e:Expr}{es:List Expr}{env:Env} (h:uX e=false):starEach (e::es) env=(false,eval e env)::starEach es env:=by
 cases e <;> first | (cases h;done) | (unfold starEach;rfl) | rfl
theorem aa {X:Cx}{e:Expr}{es:List Expr}{te:TE}{t:TA} (ha:PE X e te) (hr:PA X es t) (hs:uX e=false:=by rfl):PA X (e::es) (aV te t):=ae ha hr (lP hs)
def Giv (te:TE) (Y:St) (H:Hp) (v:V):Prop:=∀Q:VK,Q v H->te Y H Q
def ji (t:TA) (Y:St) (H:Hp) (vs:List V):Prop:=∀Q:List V->Hp->Prop,Q vs H->t Y H Q
section
variable {Y:St}{H:Hp}
theorem AA {i:Nat}{v:V} (h:Y[i]?=some (some v)):Giv (cr i) Y H v:=λQ q=>⟨v,h,q⟩
theorem Cg {v:V}:Giv (tC v) Y H v:=λQ q=>q
theorem iq:ji bT Y H []:=λQ q=>q
theorem cg {te:TE}{t:TA}{v:V}{vs:List V} (h:Giv te Y H v) (r:ji t Y H vs):ji (aV te t) Y H (v::vs):=λQ q=>h _ (r _ q)
theorem zm {r:List V->Hp->VK->Prop}{t:TA}{vs:List V}{v:V} (h:ji t Y H vs) (k:∀Q:VK,Q v H->r vs H Q):Giv (tCB r t) Y H v:=λQ q=>h _ (k Q q)
theorem fm {t:TA}{vs:List V}{Q:VK} (h:ji t Y H vs) (l:vs.length<=1000) (q:∀p,H p=none->Q (.ref p) (upd H p (.lst vs))):gY t Y H Q:=h _ ⟨Nat.le_trans l (by decide),q⟩
theorem o4 {t:TA}{vs:List V}{Q:VK} (h:ji t Y H vs) (l:vs.length<=1000) (q:∀p,H p=none->Q (.ref p) (upd H p (.tup vs))):hZ t Y H Q:=h _ ⟨Nat.le_trans l (by decide),q⟩
noncomputable def fh:List Expr->Option (List V)
 | []=>some []
 | .Constant (.str x) _ _::r=>(fh r).map (V.str x::·)
 | .Constant (.int x) _ _::r=>(fh r).map (V.int x::·)
 | .Constant .none _ _::r=>(fh r).map (V.non::·)
 | .Constant (.bool x) _ _::r=>(fh r).map (V.bl x::·)
 | _=>none
def tCs (vs:List V):TA:=λ_ H Q=>Q vs H
theorem pI {vs:List V}:ji (tCs vs) Y H vs:=λQ q=>q
theorem mo {X:Cx}:∀{es:List Expr}{vs:List V},fh es=some vs->PA X es (tCs vs)
 | [],_,h=>by cases h;exact af
 | e::r,vs,h=>by
  unfold fh at h
  split at h
  ·rename_i he;cases he
  all_goals first
   | (rename_i he;cases he;cases hr:fh r with | none=>(rw [hr]at h;cases h) | some us=>(rw [hr]at h;cases h;first | exact ae ay (mo hr) | exact ae ah (mo hr) | exact ae dZ (mo hr) | exact ae da (mo hr)))
   | (cases h)
theorem bP {K:PySem.W.Frag}{i:Nat}{e C U:Addr}{fs:List (Str × V)}{c:V}{b:Bool} (hv:Y[i]?=some (some (.ref e))) (xa:XAt H e C fs) (T:XCls K C U) (hk:(∃D,c=.ref D/\PySem.W.kitOne K (.ref C) (.ref D)=some b)\/∃n,c=.ty n/\PySem.W.kitOne K (.ref C) (.type n)=some b) :
  Giv (tCB (λxs H Q=>∃(e C U:Addr) (fs:List (Str × V)) (c:V) (b:Bool),xs=[.ref e,c]/\XAt H e C fs/\XCls K C U/\((∃D,c=.ref D/\PySem.W.kitOne K (.ref C) (.ref D)=some b)\/∃n,c=.ty n/\PySem.W.kitOne K (.ref C) (.type n)=some b)/\Q (.bl b) H) (aV (cr i) (aV (tC c) bT))) Y H (.bl b):=
 zm (cg (AA hv) (cg Cg iq)) λQ q=>⟨e,C,U,fs,c,b,rfl,xa,T,hk,q⟩
end
end L2
namespace L2
open PySem PySem.Spec PyProof.Rows
def mQ (H:Hp) (v:V) (d:PyData):Prop:=Shw H v d/\d.showable=true/\d.shown.length<=sizeLine/\d.depth<=20/\d.hasDict=false
theorem mQ.keep {H H':Hp}{v:V}{d:PyData} (h:mQ H v d) (g:∀b o,H b=some o->H' b=some o):mQ H' v d:=⟨h.1.keep g,h.2⟩
def BE (i:Nat) (f:Str):Prop:=(i=1/\f = "key")\/(i=2/\f = "day")\/(i=3/\f = "thing")\/(i=4/\f = "number")\/(i=5/\f = "number")\/(i=6/\f = "turn")
def pY (H:Hp) (i:Nat) (fs:List (Str × V)) (x:Str):Prop:=((i=0\/i=7)/\x=Str.ofString "")\/∃f v d,BE i f/\fs=[(f,v)]/\mQ H v d/\x=d.shown
theorem pY.keep {H H':Hp}{i:Nat}{fs:List (Str × V)}{x:Str} (h:pY H i fs x) (g:∀b o,H b=some o->H' b=some o):pY H' i fs x:=by
 rcases h with h | ⟨f,v,d,h1,h2,h3,h4⟩
 ·exact .inl h
 ·exact .inr ⟨f,v,d,h1,h2,h3.keep g,h4⟩
section
variable {Y:St}{H:Hp}
theorem gW {te:TE}{v:V}{d:PyData} (h:Giv te Y H v) (k:mQ H v d):Giv (tCB (λxs H Q=>∃x d,xs=[x]/\Shw H x d/\d.showable=true/\d.shown.length<=sizeLine/\d.depth<=20/\d.hasDict=false/\Q (.str d.shown) H) (aV te bT)) Y H (.str d.shown):=
 zm (cg h iq) λQ q=>⟨v,d,rfl,k.1,k.2.1,k.2.2.1,k.2.2.2.1,k.2.2.2.2,q⟩
theorem gU {K:PySem.W.Frag}{f:Str}{i:Nat}{e C U:Addr}{v:V} (hv:Y[i]?=some (some (.ref e))) (xa:XAt H e C [(f,v)]) (T:XCls K C U) (nf:PySem.W.findIn K (.ref C) f=some none):Giv (yV K f (cr i)) Y H v:=
 λQ q=>⟨_,hv,e,C,U,_,v,rfl,xa,T,nf,by simp,q⟩
theorem wU {K:PySem.W.Frag}{C D E:Addr}{b c:Bool} (h1:PySem.W.kitOne K (.ref C) (.ref D)=some b) (h2:PySem.W.kitOne K (.ref C) (.ref E)=some c):PySem.W.kitAny K (.ref C) [.ref D,.ref E]=some (b || c):=by
 unfold PySem.W.kitAny
 rw [h1]
 cases b with
 | true=>rfl
 | false=>
  simp only [Bool.false_or]
  unfold PySem.W.kitAny
  rw [h2]
  cases c with
  | true=>rfl
  | false=>rfl
end
end L2
namespace L2
open PySem PySem.Spec PyProof.Rows
theorem tq {kvs:List (Key × V)}{vs:List (Key × Value)} (rk:KV kvs vs):∀{us:List Value},us.length=vs.length->(∀(j:Nat) v,us[j]?=some v->∃k x,vs[j]?=some (k,x)/\kM k v=true)->aP (kvs.map λp=>kV p.1) us:=by
 induction rk with
 | nil=>intro us h _;rw [List.length_eq_zero_iff.mp h];exact .nil
 | cons a t ih=>
  intro us h hv
  cases us with
  | nil=>cases h
  | cons u us=>
   refine .cons ?_ (ih (Nat.succ.inj h) λj v e=>hv (j+1) v e)
   obtain⟨k,x,e,hk⟩:=hv 0 u rfl
   have e:=Option.some.inj e
   dsimp only
   rw [show _=k from a.1.trans (congrArg Prod.fst e)]
   rcases keyIs_shape hk with⟨i,t,rfl,rfl⟩ | ⟨x,t,rfl,rfl⟩
   ·exact⟨t,rfl⟩
   ·exact⟨t,rfl⟩
theorem oq {X:Cx} (hh:X.A.handled=none):dq X (.type "list") (λxs H Q=>∃d kvs,xs=[.ref d]/\H d=some (.dK kvs)/\∀l,H l=none->Q (.ref l) (upd H l (.lst (kvs.map λp=>kV p.1)))):=by
 intro pins s Y H xs us Q I r h
 obtain⟨d,kvs,rfl,hd,q⟩:=h
 obtain⟨u,rfl,ru⟩:=aP.one r
 cases ru
 obtain⟨z,hds,vs,rk,dd⟩:=sW I.hok hd
 obtain⟨ep,hat⟩:=dd.dictAt
 have hl:=Paired.length rk
 refine PySem.W.kdl_call (PySem.W.kdl_dict (knd:=bo X.prog X.w) (kvs:=vs) (ep:=ep) hds) hh hat (by rw [<- hl];exact z) λh' tk acc' c' kp e hi=>?_
 have hv:aP (kvs.map λp=>kV p.1) acc'.toList:=tq rk (by simpa using hi.1) λj v e=>hi.2 j v (by simpa using e)
 exact⟨.ref s.heap.objs.size,_,I.laid (t':=tk) kp (Nat.le_refl _) (show bw X.prog X.w _ h' _ (.lst _) from ⟨by rw [List.length_map];exact z,acc'.toList,c',hv,by simpa using e⟩),rfl,q _ (I.hok.fresh (Nat.le_refl _))⟩
end L2
namespace L2
open PySem PySem.Spec PyProof.Rows
theorem qN {x:Str}:Nm x↔∀c∈x.cps.toList,c < 0x110000:=by
 unfold Nm
 rw [<- Array.all_toList,List.all_eq_true]
 exact⟨λh c hc=>of_decide_eq_true (h c hc),λh c hc=>decide_eq_true (h c hc)⟩
theorem kF {x y:Str} (hx:Nm x) (hy:Nm y):Nm (x++y):=by
 rw [qN]at *
 rw [fM]
 intro c hc
 exact(List.mem_append.mp hc).elim (hx c) (hy c)
theorem BC (s:String):Nm (Str.ofString s):=by
 rw [qN,Str.ofString_eq_toList]
 intro c hc
 obtain⟨d,_,rfl⟩:=List.mem_map.mp (show c∈s.toList.map Char.toNat by simpa using hc)
 have:=d.valid
 rcases this with h | ⟨_,h⟩
 ·exact Nat.lt_of_lt_of_le h (by decide)
 ·exact h
theorem sI {x:Str} (hc:∀c∈x.cps.toList,97<=c/\c<=122):Nm (reprText x):=by
 have hq:reprQuote x=34\/reprQuote x=39:=by
  unfold reprQuote
  split
  ·exact .inl rfl
  ·exact .inr rfl
 have small:∀c,c < 123->97<=c->(∀d∈Builtin.Str.reprChar 34 c,d < 0x110000)/\∀d∈Builtin.Str.reprChar 39 c,d < 0x110000:=by decide +kernel
 have fo:∀(l:List Nat) (acc:Array Nat),(∀c∈l,97<=c/\c<=122)->(∀c∈acc.toList,c < 0x110000)->∀c∈(l.foldl (λout c=>out++(Builtin.Str.reprChar (reprQuote x) c).toArray) acc).toList,c < 0x110000:=by
  intro l
  induction l with
  | nil=>exact λacc _ h=>h
  | cons c r ih=>
   intro acc h ha
   rw [List.foldl_cons]
   refine ih _ (λd hd=>h d (List.mem_cons_of_mem _ hd)) λd hd=>?_
   have h1:=h c (List.mem_cons_self ..)
   have h2:=small c (by omega) h1.1
   rcases List.mem_append.mp (show d∈acc.toList++Builtin.Str.reprChar (reprQuote x) c by simpa using hd) with q | q
   ·exact ha d q
   ·rcases hq with e | e <;> rw [e]at q
    ·exact h2.1 d q
    ·exact h2.2 d q
 have qs:reprQuote x < 0x110000:=by rcases hq with e | e <;> rw [e] <;> decide
 rw [qN]
 intro c hcc
 have hcc':c∈(x.cps.foldl (λout c=>out++(Builtin.Str.reprChar (reprQuote x) c).toArray) #[reprQuote x]).toList++[reprQuote x]:=by
  have:(reprText x).cps=(x.cps.foldl (λout c=>out++(Builtin.Str.reprChar (reprQuote x) c).toArray) #[reprQuote x]).push (reprQuote x):=rfl
  rw [this]at hcc
  simpa using hcc
 rcases List.mem_append.mp hcc' with h | h
 ·rw [<- Array.foldl_toList]at h
  exact fo _ _ hc (λd hd=>by rw [List.mem_singleton.mp (show d∈[reprQuote x] from hd)];exact qs) c h
 ·rw [List.mem_singleton.mp h];exact qs
def ShN (H:Hp) (v:V) (d:PyData):Prop:=mQ H v d/\Nm d.shown
theorem ShN.keep {H H':Hp}{v:V}{d:PyData} (h:ShN H v d) (g:∀b o,H b=some o->H' b=some o):ShN H' v d:=⟨h.1.keep g,h.2⟩
theorem cn {H:Hp}{i:Int} (h:i.natAbs < 10 ^ 30):ShN H (.int i) (.int i):=by
 have h1:i.natAbs.log2 < 1920:=by
  by_cases z:i.natAbs=0
  ·rw [z];decide
  ·exact(Nat.log2_lt z).mpr (Nat.lt_of_lt_of_le h (by decide +kernel))
 refine⟨⟨.flat (.int i),by unfold PyData.showable;exact decide_eq_true h1,?_,by unfold PyData.depth;decide,by unfold PyData.hasDict;rfl⟩,?_⟩
 ·unfold PyData.shown;exact int_text_fits10 (Nat.lt_of_lt_of_le h (Nat.pow_le_pow_right (by decide) (by decide)))
 ·unfold PyData.shown;exact BC _
theorem iE {H:Hp}:ShN H .non .none:=⟨⟨.flat .non,by decide +kernel,by decide +kernel,by decide +kernel,by decide +kernel⟩,by unfold Nm;decide +kernel⟩
theorem jP {H:Hp}{b:Bool}:ShN H (.bl b) (.bool b):=by
 cases b <;> exact⟨⟨.flat (.bl _),by decide +kernel,by decide +kernel,by decide +kernel,by decide +kernel⟩,by unfold Nm;decide +kernel⟩
theorem gZ {H:Hp}{v:V}{d:PyData} (h:Shw H v d) (k:(d.showable && (decide (d.shown.length<=sizeLine) && (decide (d.depth<=20) && (!d.hasDict && d.shown.cps.all (· < 0x110000)))))=true):ShN H v d:=by
 simp only [Bool.and_eq_true,decide_eq_true_eq,Bool.not_eq_true']at k
 exact⟨⟨h,k.1,k.2.1,k.2.2.1,k.2.2.2.1⟩,k.2.2.2.2⟩
theorem uW {x:Str} (hl:x.length<=10) (hc:∀c∈x.cps.toList,97<=c/\c<=122):(PyData.leavesShort 8 (.str x))=true:=by
 simp only [PyData.leavesShort,List.all_eq_true,decide_eq_true_eq]
 intro c h
 have:=hc c h
 exact Nat.lt_of_le_of_lt this.2 (by decide)
theorem zF {H:Hp}{a:Addr}{x:Str} (e:H a=some (.lst [.str x])) (hl:x.length<=10) (hc:∀c∈x.cps.toList,97<=c/\c<=122):ShN H (.ref a) (.list [.str x]):=by
 have h8:PyData.leavesShort 8 (.list [.str x])=true:=by
  have:=uW hl hc
  simp only [PyData.leavesShort,PyData.leavesShortAll,Bool.and_true]at this ⊢
  exact this
 have h1:=PyData.shown_le_bulk 8 (by decide) _ h8
 have hb:PyData.bulk (.list [.str x])<=11:=by
  simp only [PyData.bulk,PyData.bulkAll]
  have:x.cps.size=x.length:=rfl
  omega
 refine⟨⟨.lst e (.cons (.str x) .nil),by simp [PyData.showable,PyData.showableAll],?_,by simp [PyData.depth,PyData.depthAll],by simp [PyData.hasDict,PyData.hasDictAll]⟩,?_⟩
 ·have:(8+2) * PyData.bulk (.list [.str x])+8<=1000:=by omega
  exact Nat.le_trans h1 (Nat.le_trans this (by decide))
 ·simp only [PyData.shown,PyData.shownAll]
  exact kF (kF (kF (by unfold Nm;decide +kernel) (by unfold Nm;decide +kernel)) (sI hc)) (by unfold Nm;decide +kernel)
theorem zE {H:Hp}{a:Addr}{x:Str} (e:H a=some (.tup [.str x])) (hl:x.length<=10) (hc:∀c∈x.cps.toList,97<=c/\c<=122):ShN H (.ref a) (.tuple [.str x]):=by
 have h8:PyData.leavesShort 8 (.tuple [.str x])=true:=by
  have:=uW hl hc
  simp only [PyData.leavesShort,PyData.leavesShortAll,Bool.and_true]at this ⊢
  exact this
 have h1:=PyData.shown_le_bulk 8 (by decide) _ h8
 have hb:PyData.bulk (.tuple [.str x])<=11:=by
  simp only [PyData.bulk,PyData.bulkAll]
  have:x.cps.size=x.length:=rfl
  omega
 refine⟨⟨.tup e (.cons (.str x) .nil),by simp [PyData.showable,PyData.showableAll],?_,by simp [PyData.depth,PyData.depthAll],by simp [PyData.hasDict,PyData.hasDictAll]⟩,?_⟩
 ·have:(8+2) * PyData.bulk (.tuple [.str x])+8<=1000:=by omega
  exact Nat.le_trans h1 (Nat.le_trans this (by decide))
 ·simp only [PyData.shown,PyData.shownAll]
  exact kF (kF (by unfold Nm;decide +kernel) (sI hc)) (show Nm (Str.ofString ",)") by unfold Nm;decide +kernel)
end L2
namespace L2
open PySem PySem.Spec PyProof.Rows
theorem fz {X:Cx}{es:List Expr}{pos:Pos} (vs:List V) (h:fh es=some vs):PE X (.List es pos) (gY (tCs vs)):=aM (mo h)
theorem wj {X:Cx}{es:List Expr}{pos:Pos}{x1:Nat} (vs:List V) (h:fh es=some vs):PE X (.Tuple es x1 pos) (hZ (tCs vs)):=az (mo h)
end L2
namespace Mine
open PySem L2
variable {P:Program}{w:World}{K:PySem.W.Frag}{mg:Str->Option Value}{base:Heap}
noncomputable abbrev vL:Stmt:=top 46
theorem cD {X:Cx}{e:Expr}{te:TE}{x:Str}{c:Addr}{p p2 pos:Pos} (hn:X.mg "isinstance" = none) (he:PE X e te) (hm:X.mg x=some (.ref c)) (hg:Gl X "isinstance":=by exact rfl) (hx:Gl X x:=by exact rfl) (hs:uX e=false:=by rfl) (hd:(x == ("__debug__" : Str))=false:=by decide) :
  PE X (.Call (.Name "isinstance" p) [e,.Name x p2] [] pos) (tCB (λxs H Q=>∃(e C U:Addr) (fs:List (Str × V)) (c:V) (b:Bool),xs=[.ref e,c]/\XAt H e C fs/\XCls X.K C U/\((∃D,c=.ref D/\PySem.W.kitOne X.K (.ref C) (.ref D)=some b)\/∃n,c=.ty n/\PySem.W.kitOne X.K (.ref C) (.type n)=some b)/\Q (.bl b) H) (aV te (aV (tC (.ref c)) bT))):=
 aA iR hg hn PyProof.Rows.Boot.«isinstance» (aa he (aa (bR (v:=.ref c) hx hm rfl hd) af) hs) (by decide) (by decide) (lP hs) rfl
structure Kits (K:PySem.W.Frag) (U:Addr) (cs:List Addr):Prop where
 len:cs.length=13
 cl:∀(i:Nat) (C:Addr),cs[i]?=some C->XCls K C U
 kit:∀(i j:Nat) (C D:Addr),cs[i]?=some C->cs[j]?=some D->PySem.W.kitOne K (.ref C) (.ref D)=some (decide (i=j))
 up:∀(i:Nat) (C:Addr),cs[i]?=some C->PySem.W.kitOne K (.ref C) (.type "ValueError")=some true
theorem di {H H':Hp}{e C:Addr}{fs:List (Str × V)} (g:aq H H') (h:XAt H e C fs):XAt H' e C fs:=by
 obtain⟨n,D,h1,h2⟩:=h
 refine⟨n,D,g _ _ h1,h2.imp id λ⟨d,e1,e2⟩=>⟨d,e1,g _ _ e2⟩⟩
noncomputable def gE:List Str:=[Str.ofString "keys", Str.ofString "key", Str.ofString "day", Str.ofString "value", Str.ofString "finding", Str.ofString "gone", Str.ofString "turn", Str.ofString "full", Str.ofString "", Str.ofString "", Str.ofString "", Str.ofString "", Str.ofString ""]
noncomputable def LT (i:Nat):List V:=(List.range 13).map λj=>V.bl (decide (i=j))
noncomputable def kB (i a n:Nat):List V:=(List.range n).map λj=>V.bl (decide (i=a+j))
theorem o5 {Y:St}{H:Hp}{Q:VK}{j l:Nat}{xs ys:List V}{t:TA} (hj:Y[j]?=some (some (.ref l))) (hl:H l=some (.lst xs)) (ha:ji t Y H ys) (hn:xs.length+ys.length<=1000) (q:∀p H',aq H H'->H' p=some (.lst (xs++ys))->Q (.ref p) H'):tOp A6 (cr j) (gY t) Y H Q:=
 jY ⟨_,hj,fm ha (Nat.le_trans (Nat.le_add_left _ _) hn) λa na=>⟨l,a,_,_,rfl,rfl,aq.new na _ _ hl,ag,Nat.le_trans hn (by decide),λp np=>q p _ ((aq.new na).trans (aq.new np)) ag⟩⟩
theorem sJ (i:Nat):(LT i).all dl=true:=by
 unfold LT
 rw [List.all_map,List.all_eq_true]
 intro x _
 rfl
theorem wP:∀i:Fin 13,(LT i.val).countP (λy=>eqV y (.bl true))=1:=by decide +kernel
theorem wO {i j:Nat} (h:j < 13):(LT i)[j]?=some (.bl (decide (i=j))):=by
 unfold LT
 rw [List.getElem?_map,List.getElem?_range h];rfl
theorem zZ {Y:St}{H:Hp}{ta tb:TA}{ws us:List V}{Q:VK} (ha:∀H,ji ta Y H ws) (hb:∀H,ji tb Y H us) (la:ws.length<=1000) (lb:us.length<=1000)
  (q:∀(t r d:Addr) (H':Hp),aq H H'->H' t=some (.tup [.ref r,.ref d])->H' r=some (.tup ws)->H' d=some (.tup us)->Q (.ref t) H'):hZ (aV (hZ ta) (aV (hZ tb) bT)) Y H Q:=by
 show hZ ta Y H λx H1=>hZ tb Y H1 λy H2=>[x,y].length<=sizeLine/\∀p,H2 p=none->Q (.ref p) (upd H2 p (.tup [x,y]))
 refine o4 (ha H) la λr nr=>o4 (hb _) lb λd nd=>⟨by show 2<=sizeLine;decide,λt nt=>?_⟩
 have g1:aq H (upd H r (.tup ws)):=aq.new nr
 have g2:aq (upd H r (.tup ws)) (upd (upd H r (.tup ws)) d (.tup us)):=aq.new nd
 have g3:aq (upd (upd H r (.tup ws)) d (.tup us)) (upd (upd (upd H r (.tup ws)) d (.tup us)) t (.tup [.ref r,.ref d])):=aq.new nt
 exact q t r d _ (g1.trans (g2.trans g3)) ag (g3 _ _ (g2 _ _ ag)) (g3 _ _ ag)
inductive ve (cs:List Addr) (vs:List V) (H:Hp) (Q:VK) (E:XK):Prop
 | mk (e C:Addr) (fs:List (Str × V)) (i:Nat) (x:Str) (h1:vs=[.ref e]) (h2:cs[i]?=some C) (h3:XAt H e C fs) (h4:gE[i]?=some x) (h5:∀H',aq H H'->Q (.str x) H')
theorem jR:FnScope ["_law_e", "_law_kinds"] ["_law_e"] (ao vL):=aZ
theorem yj {U c0 c1 c2 c3 c4 c5 c6 c7 c8 c9 c10 c11 c12:Addr} (F:Fun K "_law_kind" "_law_kind" vL f fd) (N:Free mg) (hVE:mg "ValueError" = none) (KK:Kits K U [c0,c1,c2,c3,c4,c5,c6,c7,c8,c9,c10,c11,c12]) (m0:mg "NoKeys" = some (.ref c0)) (m1:mg "NoKey" = some (.ref c1)) (m2:mg "NoDay" = some (.ref c2)) (m3:mg "NoValue" = some (.ref c3)) (m4:mg "NoFinding" = some (.ref c4)) (m5:mg "Gone" = some (.ref c5)) (m6:mg "NoTurn" = some (.ref c6)) (m7:mg "Full" = some (.ref c7)) (m8:mg "BadQuestion" = some (.ref c8)) (m9:mg "NoName" = some (.ref c9)) (m10:mg "NoBox" = some (.ref c10)) (m11:mg "NoGiven" = some (.ref c11)) (m12:mg "NoLine" = some (.ref c12)):FnOk P w K mg base CX0 1 f fd ["_law_e"] (ve [c0,c1,c2,c3,c4,c5,c6,c7,c8,c9,c10,c11,c12]):=by
 refine okF F jR λcdv A outer s H vs Q E hr h=>?_
 ·obtain⟨e,C,fs,i,x,rfl,hi,xa,hx,q⟩:=h
  refine⟨_,(ai (aF (i:=1) jR.nd rfl (Or.inl rfl) (aM (aa (cD N.isinstance (pv 0) m0) (aa (cD N.isinstance (pv 0) m1) (aa (cD N.isinstance (pv 0) m2) (aa (cD N.isinstance (pv 0) m3) af))))))
   (ai (aF (i:=1) jR.nd rfl (Or.inl rfl) (aD dM (pv 1) (aM (aa (cD N.isinstance (pv 0) m4) (aa (cD N.isinstance (pv 0) m5) (aa (cD N.isinstance (pv 0) m6) (aa (cD N.isinstance (pv 0) m7) af)))))))
   (ai (aF (i:=1) jR.nd rfl (Or.inl rfl) (aD dM (pv 1) (aM (aa (cD N.isinstance (pv 0) m8) (aa (cD N.isinstance (pv 0) m9) (aa (cD N.isinstance (pv 0) m10) (aa (cD N.isinstance (pv 0) m11) af)))))))
   (ai (aF (i:=1) jR.nd rfl (Or.inl rfl) (aD dM (pv 1) (aM (aa (cD N.isinstance (pv 0) m12) af))))
   (ai (aO (PW.pt (mi (aY zg (dO PySem.F.plainAttrs_list PySem.F.slot_list_count PySem.F.type_list_count wM (pv 1) (aa da af)) ah (b9 _)) (iY (bQ (bH (aA iR (by rfl) N.isinstance PyProof.Rows.Boot.«isinstance» (aa (pv 0) (aa (cZ (v:=.ty "ValueError") (by rfl) hVE PyProof.Rows.Boot.«ValueError» rfl) af)))))))) (am (aB ay)) aE)
   (@am _ _ _ (@aB _ _ _ _ (@aH _ _ _ _ _ _ _ aR (@fz _ _ _ (gE.map V.str) rfl) (dO PySem.F.plainAttrs_list PySem.F.slot_list_index PySem.F.type_list_index uc (pv 1) (aa da af)) (λ_ _=>rfl))))))))),?_⟩
  have hi13:i < 13:=by have:=(List.getElem?_eq_some_iff.mp hi).1;exact this
  have kis:∀{Y:St}{H:Hp} (xa:XAt H e C fs) (j:Nat) (c:Addr) (hc:[c0,c1,c2,c3,c4,c5,c6,c7,c8,c9,c10,c11,c12][j]?=some c:=by rfl) (hv:Y[0]?=some (some (.ref e)):=by rfl),Giv _ Y H (.bl (decide (i=j))):=λxa j c hc hv=>bP hv xa (KK.cl i C hi) (.inl ⟨_,rfl,KK.kit i j C c hi hc⟩)
  refine au (aK (fm (vs:=kB i 0 4) (cg (kis xa 0 c0) (cg (kis xa 1 c1) (cg (kis xa 2 c2) (cg (kis xa 3 c3) iq)))) (by show 4<=1000;decide) λl0 n0=>?_))
  have g0:aq H (upd H l0 (.lst (kB i 0 4))):=aq.new n0
  have e0:upd H l0 (.lst (kB i 0 4)) l0=some (.lst (kB i 0 4)):=ag
  generalize upd H l0 (.lst (kB i 0 4))=H0 at g0 e0
  dsimp only [aN]
  refine au (aK (o5 (ys:=kB i 4 4) rfl e0 (cg (kis (di g0 xa) 4 c4) (cg (kis (di g0 xa) 5 c5) (cg (kis (di g0 xa) 6 c6) (cg (kis (di g0 xa) 7 c7) iq)))) (by show 8<=1000;decide) λl1 H1 gg e1=>?_))
  have g1:=g0.trans gg
  clear gg
  dsimp only [aN]
  refine au (aK (o5 (ys:=kB i 8 4) rfl e1 (cg (kis (di g1 xa) 8 c8) (cg (kis (di g1 xa) 9 c9) (cg (kis (di g1 xa) 10 c10) (cg (kis (di g1 xa) 11 c11) iq)))) (by show 12<=1000;decide) λl2 H2 gg e2=>?_))
  have g2:=g1.trans gg
  clear gg
  dsimp only [aN]
  refine au (aK (o5 (ys:=kB i 12 1) rfl e2 (cg (kis (di g2 xa) 12 c12) iq) (by show 13<=1000;decide) λl3 H3 gg e3=>?_))
  have g3:=g2.trans gg
  clear gg
  dsimp only [aN]
  have e3':H3 l3=some (.lst (LT i)):=e3
  refine au (aQ ⟨_,rfl,.inl ⟨rfl,_,SqL.of e3'⟩,l3,_,_,rfl,rfl,e3',rfl,sJ i,?_⟩)
  rw [wP ⟨i,hi13⟩]
  refine⟨rfl,_,rfl,aX ⟨_,rfl,e,C,U,fs,_,_,rfl,(di g3 xa),(KK.cl i C hi),.inr ⟨_,rfl,KK.up i C hi⟩,_,rfl,aX (aI ?_)⟩⟩
  try dsimp only
  refine bj (jY (fm (vs:=gE.map V.str) pI (by show 13<=1000;decide) λlw nlw=>?_))
  have gw:aq H3 (upd H3 lw (.lst (gE.map V.str))):=aq.new nlw
  have ew:upd H3 lw (.lst (gE.map V.str)) lw=some (.lst (gE.map V.str)):=ag
  generalize upd H3 lw (.lst (gE.map V.str))=Hw at gw ew
  refine kb ⟨_,rfl,.inl ⟨rfl,_,SqL.of (gw _ _ e3')⟩,l3,LT i,_,i,V.bl (decide (i=i)),rfl,rfl,gw _ _ e3',rfl,sJ i,wO hi13,?_,λm y' hm h=>?_,by omega,?_⟩
  ·rw [decide_eq_true rfl];rfl
  ·rw [wO (by omega)]at h
   cases h
   rw [decide_eq_false (by omega)];rfl
  ·exact⟨lw,_,_,.str x,rfl,rfl,SqL.of ew,cq (by rw [List.getElem?_map,hx];rfl),q _ (g3.trans gw)⟩
noncomputable abbrev qy:Stmt:=top 47
def NoL (H:Hp) (t:V):Prop:=t=.non\/(∃x,t=.str x)\/(∃r xs,t=.ref r/\H r=some (.tup xs))\/∃r kvs,t=.ref r/\H r=some (.dK kvs)
def uE (H:Hp) (x:V):Prop:=(∃s,x=.str s/\s.length < sizeLine)\/x=.non\/∃r ys,x=.ref r/\H r=some (.lst ys)
noncomputable def nmB:V->Bool
 | .str s=>ip s fG 8
 | _=>false
theorem uE.grow {H H':Hp}{x:V} (h:uE H x) (g:aq H H'):uE H' x:=by
 rcases h with h | h | ⟨r,ys,e,h⟩
 ·exact .inl h
 ·exact .inr (.inl h)
 ·exact .inr (.inr ⟨r,ys,e,g _ _ h⟩)
def bV (H:Hp) (t:V):Prop:=NoL H t\/∃r xs,t=.ref r/\H r=some (.lst xs)/\(xs=[]\/8 < xs.length\/(1<=xs.length/\xs.length<=8/\(∀x∈xs,uE H x)/\((xs.map nmB).all id=false\/∃ks:List Str,xs=ks.map V.str/\(xs.map nmB).all id=true/\gG ks ks.length≠ks.length)))
theorem bV.grow {H H':Hp}{t:V} (h:bV H t) (g:aq H H'):bV H' t:=by
 rcases h with h | ⟨r,xs,e,h,k⟩
 ·refine .inl ?_
  rcases h with h | h | ⟨r,xs,e,h⟩ | ⟨r,xs,e,h⟩
  ·exact .inl h
  ·exact .inr (.inl h)
  ·exact .inr (.inr (.inl ⟨r,xs,e,g _ _ h⟩))
  ·exact .inr (.inr (.inr ⟨r,xs,e,g _ _ h⟩))
 ·refine .inr ⟨r,xs,e,g _ _ h,?_⟩
  rcases k with k | k | ⟨k1,k2,k3,k4⟩
  ·exact .inl k
  ·exact .inr (.inl k)
  ·exact .inr (.inr ⟨k1,k2,λx hx=>(k3 x hx).grow g,k4⟩)
inductive xS (vs:List V) (H:Hp) (Q:VK) (E:XK):Prop
 | mk (x:V) (h1:vs=[x]) (h2:(x=.non\/∃r ys,x=.ref r/\H r=some (.lst ys))) (h3:Q (.bl false) H)
inductive jm (vs:List V) (H:Hp) (Q:VK) (E:XK):Prop
 | mk (x:V) (h1:vs=[x]) (h2:uE H x) (h3:∀H',aq H H'->Q (.bl (nmB x)) H')
theorem wC (F:Fun K "is_name" "is_name" p4 f fd) (N:Free mg) (C:Con mg) (CH:Cal P w K mg base "has_only" 1 ["text", "signs", "most"] rN f1 fd1):FnOk P w K mg base CX0 2 f fd ["thing"] xS:=by
 obtain⟨t1,c1⟩:=C.letters
 obtain⟨t2,c2⟩:=C.eight
 refine okF F vy λcdv A outer s H vs Q E hr h=>?_
 ·obtain⟨x,rfl,hx,q⟩:=h
  refine⟨_,(am (aB (dL (aA bS (by rfl) N.isinstance PyProof.Rows.Boot.«isinstance» (aa (pv 0) (aa (cZ (v:=.ty "str") (by rfl) N.str PyProof.Rows.Boot.«str» rfl) af))) (eR (aW CH hr (aa (pv 0) (aa (bR (v:=.str fG) (by rfl) c1 ⟨_,rfl⟩) (aa (bR (v:=.int 8) (by rfl) c2 ⟨_,rfl⟩) af)))))))),?_⟩
  rcases hx with rfl | ⟨r,ys,rfl,hx⟩
  ·exact⟨_,rfl,.non,"str", _,false,rfl,.non,by rfl,_,rfl,aX q⟩
  ·exact⟨_,rfl,.ref r,"str", _,false,rfl,.lst hx,by rfl,_,rfl,aX q⟩
theorem wD (F:Fun K "is_name" "is_name" p4 f fd) (N:Free mg) (C:Con mg) (CH:Cal P w K mg base "has_only" 1 ["text", "signs", "most"] rN f1 fd1):FnOk P w K mg base CX0 2 f fd ["thing"] jm:=
 (or0 (sG F N C CH) (wC F N C CH)).imp λvs H Q E h=>by
  obtain⟨x,rfl,h,q⟩:=h
  rcases h with⟨s,rfl,hl⟩ | h
  ·exact .inl ⟨s,rfl,hl,q⟩
  ·refine .inr ⟨x,rfl,h,?_⟩
   have:nmB x=false:=by
    rcases h with rfl | ⟨r,ys,rfl,_⟩ <;> rfl
   have q':=q H aq.refl
   rw [this]at q'
   exact q'
theorem mT {K:PySem.W.Frag}{E:XK}{Y:St}{H:Hp}{Q:VK}{a:Addr}{xs:List V} (e0:Y[0]?=some (some (.ref a))) (ha:H a=some (.lst xs)) (hk:∀x∈xs,uE H x) (hl:xs.length<=8)
  (hq:∀(D:Addr) (H':Hp),H D=none->aq H H'->H' D=some (.lst ((xs.map nmB).map V.bl))->Q (.ref D) H') :
  ja (sR K (cr 0)) [] (λ_ H Q=>Q true H) (fU jm [] E (aV (cr 0) bT)) Y H Q:=by
 refine⟨_,e0,a,rfl,⟨_,SqL.of ha⟩,λD nD=>ff (K:=K) (a:=a) (xs:=xs) (sub:=[]) (tt:=λ_ H Q=>Q true H) (te:=fU jm [] E (aV (cr 0) bT)) (Q:=Q) (Y:=Y)
  (λi ys H2=>ys=((xs.take i).map nmB).map V.bl/\aq H H2/\H2 D=some (.lst ys)) ⟨rfl,aq.new nD,ag⟩ (λi ys H2 _ hh=>?_) (λi x ys H2 hi hh=>?_) λys H2 hh=>?_⟩
 ·exact SqL.of (hh.2.1 _ _ ha)
 ·obtain⟨rfl,g,hD⟩:=hh
  have hil:=(List.getElem?_eq_some_iff.mp hi).1
  refine bG ⟨_,rfl,x,rfl,(hk x (List.mem_of_getElem? hi)).grow g,λH3 g3=>⟨g3 _ _ hD,?_,?_,?_,?_⟩⟩
  ·rw [List.length_map,List.length_map,List.length_take]
   exact bq (by omega)
  ·rw [List.take_add_one,hi,List.map_append,List.map_append];rfl
  ·intro b o e
   rw [aj (al e nD)]
   exact g3 _ _ (g _ _ e)
  ·exact ag
 ·obtain⟨rfl,g,hD⟩:=hh
  rw [List.take_length]at hD
  exact hq D H2 nD g hD
inductive jO (vs:List V) (H:Hp) (Q:VK) (E:XK):Prop
 | mk (t:V) (h1:vs=[t]) (h2:bV H t) (h3:∀H',aq H H'->Q (.bl false) H')
theorem pq (F:Fun K "are_keys" "are_keys" iI f fd) (N:Free mg) (C:Con mg) (CN:Cal P w K mg base "is_name" 2 ["thing"] jm f1 fd1):FnOk P w K mg base CX0 3 f fd ["thing"] jO:=by
 obtain⟨t1,c1⟩:=C.keys
 refine okF F md λcdv A outer s H vs Q E hr h=>?_
 ·obtain⟨t,rfl,hb,hq⟩:=h
  refine⟨_,(ai (aO (PW.pt (mi (bQ (bH (aA bS (by rfl) N.isinstance PyProof.Rows.Boot.«isinstance» (aa (pv 0) (aa (cZ (v:=.ty "list") (by rfl) N.list PyProof.Rows.Boot.«list» rfl) af))))) (iY (bQ (kg fO fO ah (aA aG (by rfl) N.len PySem.boot_len (aa (pv 0) af)) (bR (v:=.int 8) (by rfl) c1 ⟨_,rfl⟩)))))) (am (aB da)) aE)
   (am (aB (dL (aA (j8 rfl) (by rfl) N.all PyProof.Rows.Boot.«all» (aa (gz (bW rfl (cc (pv 0)) rfl rfl (by show ∀p∈_,gI [] p;decide) (by decide) rfl (by show ([Str.ofString "key"]:List Str).Nodup;decide) .nil (λC fp s H=>cM) (λC fp s H=>(aW CN hr (aa (pv 0) af))))) af)) (eR (fA dk (aA mL (by rfl) N.len PySem.boot_len (aa (bU (mJ rfl) (by rfl) N.set PyProof.Rows.Boot.«set» (aa (pv 0) af)) af)) (aA aG (by rfl) N.len PySem.boot_len (aa (pv 0) af)) (b9 _))))))),?_⟩
  rcases hb with hb | ⟨r,xs,rfl,ha,hb⟩
  ·rcases hb with rfl | ⟨x,rfl⟩ | ⟨r,xs,rfl,hx⟩ | ⟨r,xs,rfl,hx⟩
   ·exact au (aQ ⟨_,rfl,.non,"list", _,false,rfl,.non,by rfl,_,rfl,bG (bG (bj (hq _ aq.refl)))⟩)
   ·exact au (aQ ⟨_,rfl,.str x,"list", _,false,rfl,.str x,by rfl,_,rfl,bG (bG (bj (hq _ aq.refl)))⟩)
   ·exact au (aQ ⟨_,rfl,.ref r,"list", _,false,rfl,.tup hx,by rfl,_,rfl,bG (bG (bj (hq _ aq.refl)))⟩)
   ·exact au (aQ ⟨_,rfl,.ref r,"list", _,false,rfl,.dK hx,by rfl,_,rfl,bG (bG (bj (hq _ aq.refl)))⟩)
  have hS:SqL K H r xs:=SqL.of ha
  refine au (aQ ⟨_,rfl,.ref r,"list", _,true,rfl,.lst ha,by rfl,_,rfl,aX ?_⟩)
  refine⟨_,rfl,r,_,rfl,.inl hS,_,_,rfl,rfl,_,rfl,?_⟩
  rcases hb with rfl | hb | ⟨k1,k8,hk,hb⟩
  ·exact aX ⟨_,rfl,bG (bj (hq _ aq.refl))⟩
  ·rw [decide_eq_true (show (1:Int)<=xs.length by omega)]
   refine bG ⟨_,_,rfl,rfl,_,rfl,?_⟩
   rw [decide_eq_false (show ¬(xs.length:Int)<=8 by omega)]
   exact bG (bj (hq _ aq.refl))
  rw [decide_eq_true (show (1:Int)<=xs.length by omega)]
  refine bG ⟨_,_,rfl,rfl,_,rfl,?_⟩
  rw [decide_eq_true (show (xs.length:Int)<=8 by omega)]
  refine aX (aI ?_)
  try dsimp only
  refine bj (o6 (sq (fq ?_)))
  refine mT rfl ha hk k8 ?_
  intro D H' nD g hD
  refine⟨D,_,rfl,SqL.of hD,_,rfl,?_⟩
  rcases hb with hb | ⟨ks,rfl,hb,hc⟩
  ·rw [hb]
   exact aX (hq _ g)
  rw [hb]
  rw [List.length_map]at k8
  refine bG ?_
  refine⟨_,rfl,r,ks,rfl,SqL.of (g _ _ ha),by omega,λp np=>?_⟩
  refine⟨p,ks,rfl,ag,_,rfl,r,_,rfl,.inl (SqL.of (by rw [aj (al (g _ _ ha) np)];exact g _ _ ha)),rfl,?_⟩
  rw [List.length_map,decide_eq_false (show ¬V.int ((gG ks ks.length:Nat):Int)=V.int ((ks.length:Nat):Int) from λz=>hc (Int.ofNat.inj (V.int.inj z)))]
  exact hq _ (g.trans (aq.new np))
def rM (C c0:Addr):Sp:=λvs H _ E=>∃(x dx:Addr) (t:V),vs=[.ref x,t]/\H x=some (.ins C dx [])/\bV H t/\b8 c0 [] H E
theorem wG {C C2 U:Addr} (F:Fun K "__init__" "Book.__init__" se f fd) (N:Free mg) (T:BkC K C) (CK:Cal P w K mg base "are_keys" 3 ["thing"] jO f1 fd1) (RK:Rf0 K mg "NoKeys" C2 U):FnOk P w K mg base (CXR P w) 4 f fd ["self", "keys"] (rM C C2):=by
 refine F.okX (k:=3) vD (λvs H Q E h=>?_) (λcdv A outer s H vs Q E hr h=>?_)
 ·obtain⟨x,dx,t,rfl,_⟩:=h
  rfl
 ·obtain⟨x,dx,t,rfl,hx,hb,q⟩:=h
  refine⟨_,(ai (aO (bQ (bH (aW CK hr (aa (pv 1) af)))) (am (wc RK rfl)) aE)
   (ai (eQ (pv 0) (bU cG (by rfl) N.list PyProof.Rows.Boot.«list» (aa (pv 1) af)) rfl)
   (ai (eQ (pv 0) (aM af) rfl)
   (ai (eQ (pv 0) kj rfl)
   (ai (eQ (pv 0) (aM af) rfl)
   (am (eQ (pv 0) (aM (aa (bU (lh rfl) (by rfl) N.dict PyProof.Rows.Boot.«dict» (aa (gz (bW rfl (cc (pv 1)) rfl rfl (by show ∀p∈_,gI [] p;decide) (by decide) rfl (by show ([Str.ofString "key"]:List Str).Nodup;decide) .nil (λC fp s H=>cM) (λC fp s H=>(az (aa (pv 0) (aa (aM af) af)))))) af)) af)) rfl))))))),?_⟩
  refine au (aQ ⟨_,rfl,t,rfl,hb,λH' g=>⟨_,rfl,bG (vW RK.cl λa H2 g2 n2 xa=>q a H2 (g.trans g2) (g.free n2) xa)⟩⟩)
inductive rP (cs:List Addr) (vs:List V) (H:Hp) (Q:VK) (E:XK):Prop
 | mk (e C:Addr) (fs:List (Str × V)) (i:Nat) (x:Str) (h1:vs=[.ref e]) (h2:cs[i]?=some C) (h3:XAt H e C fs) (h4:pY H i fs x) (h5:∀H',aq H H'->Q (.str x) H')
theorem jZ {K:PySem.W.Frag}{Y:St}{H:Hp}{Q:VK}{i:Nat}{e C U c d:Addr}{fs:List (Str × V)}{b:Bool} (hv:Y[i]?=some (some (.ref e))) (xa:XAt H e C fs) (T:XCls K C U) (hk:PySem.W.kitAny K (.ref C) [.ref c,.ref d]=some b) (q:∀H',aq H H'->Q (.bl b) H') :
  tCB (λxs H Q=>∃(e C U t:Addr) (fs:List (Str × V)) (cs:List Addr) (b:Bool),xs=[.ref e,.ref t]/\XAt H e C fs/\XCls K C U/\H t=some (.tup (cs.map V.ref))/\PySem.W.kitAny K (.ref C) (cs.map Value.ref)=some b/\Q (.bl b) H) (aV (cr i) (aV (hZ (aV (tC (.ref c)) (aV (tC (.ref d)) bT))) bT)) Y H Q:=
 ⟨_,hv,by show 2<=sizeLine;decide,λt nt=>⟨e,C,U,t,fs,[c,d],b,rfl,di (aq.new nt) xa,T,ag,hk,q _ (aq.new nt)⟩⟩
theorem xY:FnScope ["_law_e"] ["_law_e"] (ao qy):=aZ
theorem wJ {U c0 c1 c2 c3 c4 c5 c6 c7 c8 c9 c10 c11 c12:Addr} (F:Fun K "_law_field" "_law_field" qy f fd) (N:Free mg) (hRe:mg "repr" = none) (KK:Kits K U [c0,c1,c2,c3,c4,c5,c6,c7,c8,c9,c10,c11,c12]) (m0:mg "NoKeys" = some (.ref c0)) (m1:mg "NoKey" = some (.ref c1)) (m2:mg "NoDay" = some (.ref c2)) (m3:mg "NoValue" = some (.ref c3)) (m4:mg "NoFinding" = some (.ref c4)) (m5:mg "Gone" = some (.ref c5)) (m6:mg "NoTurn" = some (.ref c6)) (m7:mg "Full" = some (.ref c7)) (m8:mg "BadQuestion" = some (.ref c8)) (m9:mg "NoName" = some (.ref c9)) (m10:mg "NoBox" = some (.ref c10)) (m11:mg "NoGiven" = some (.ref c11)) (m12:mg "NoLine" = some (.ref c12)) (n1:PySem.W.findIn K (.ref c1) "key" = some none) (n2:PySem.W.findIn K (.ref c2) "day" = some none) (n3:PySem.W.findIn K (.ref c3) "thing" = some none) (n4:PySem.W.findIn K (.ref c4) "number" = some none) (n5:PySem.W.findIn K (.ref c5) "number" = some none) (n6:PySem.W.findIn K (.ref c6) "turn" = some none):FnOk P w K mg base CX0 1 f fd ["_law_e"] (rP [c0,c1,c2,c3,c4,c5,c6,c7,c8,c9,c10,c11,c12]):=by
 refine okF F xY λcdv A outer s H vs Q E hr h=>?_
 ·obtain⟨e,C,fs,i,x,rfl,hi,xa,hf,q⟩:=h
  refine⟨_,(ai (aO (bH (cD N.isinstance (pv 0) m1)) (am (aB (aA (dR hr.gd hr.units) (by rfl) hRe PyProof.Rows.Boot.«repr» (aa (iK (pv 0)) af)))) aE)
   (ai (aO (bH (cD N.isinstance (pv 0) m2)) (am (aB (aA (dR hr.gd hr.units) (by rfl) hRe PyProof.Rows.Boot.«repr» (aa (iK (pv 0)) af)))) aE)
   (ai (aO (bH (cD N.isinstance (pv 0) m3)) (am (aB (aA (dR hr.gd hr.units) (by rfl) hRe PyProof.Rows.Boot.«repr» (aa (iK (pv 0)) af)))) aE)
   (ai (aO (bH (aA ou (by rfl) N.isinstance PyProof.Rows.Boot.«isinstance» (aa (pv 0) (aa (az (aa (bR (v:=.ref c4) (by rfl) m4 rfl) (aa (bR (v:=.ref c5) (by rfl) m5 rfl) af))) af)))) (am (aB (aA (dR hr.gd hr.units) (by rfl) hRe PyProof.Rows.Boot.«repr» (aa (iK (pv 0)) af)))) aE)
   (ai (aO (bH (cD N.isinstance (pv 0) m6)) (am (aB (aA (dR hr.gd hr.units) (by rfl) hRe PyProof.Rows.Boot.«repr» (aa (iK (pv 0)) af)))) aE)
   (am (aB ay))))))),?_⟩
  rcases hf with⟨rfl | rfl,rfl⟩ | ⟨fn,v,d,hf,rfl,hs,rfl⟩
  ·cases hi
   refine au (aQ (bP rfl xa (KK.cl 0 c0 rfl) (.inl ⟨_,rfl,KK.kit 0 1 c0 c1 rfl rfl⟩) _ ⟨_,rfl,aX ?_⟩))
   refine aI ?_
   try dsimp only
   refine au (aQ (bP rfl xa (KK.cl 0 c0 rfl) (.inl ⟨_,rfl,KK.kit 0 2 c0 c2 rfl rfl⟩) _ ⟨_,rfl,aX ?_⟩))
   refine aI ?_
   try dsimp only
   refine au (aQ (bP rfl xa (KK.cl 0 c0 rfl) (.inl ⟨_,rfl,KK.kit 0 3 c0 c3 rfl rfl⟩) _ ⟨_,rfl,aX ?_⟩))
   refine aI ?_
   try dsimp only
   refine au (aQ (jZ rfl xa (KK.cl 0 c0 rfl) (wU (KK.kit 0 4 c0 c4 rfl rfl) (KK.kit 0 5 c0 c5 rfl rfl)) λH1 g1=>⟨_,rfl,aX ?_⟩))
   refine aI ?_
   try dsimp only
   refine au (aQ (bP rfl (di g1 xa) (KK.cl 0 c0 rfl) (.inl ⟨_,rfl,KK.kit 0 6 c0 c6 rfl rfl⟩) _ ⟨_,rfl,aX ?_⟩))
   refine aI ?_
   try dsimp only
   exact bj (q _ g1)
  ·cases hi
   refine au (aQ (bP rfl xa (KK.cl 7 c7 rfl) (.inl ⟨_,rfl,KK.kit 7 1 c7 c1 rfl rfl⟩) _ ⟨_,rfl,aX ?_⟩))
   refine aI ?_
   try dsimp only
   refine au (aQ (bP rfl xa (KK.cl 7 c7 rfl) (.inl ⟨_,rfl,KK.kit 7 2 c7 c2 rfl rfl⟩) _ ⟨_,rfl,aX ?_⟩))
   refine aI ?_
   try dsimp only
   refine au (aQ (bP rfl xa (KK.cl 7 c7 rfl) (.inl ⟨_,rfl,KK.kit 7 3 c7 c3 rfl rfl⟩) _ ⟨_,rfl,aX ?_⟩))
   refine aI ?_
   try dsimp only
   refine au (aQ (jZ rfl xa (KK.cl 7 c7 rfl) (wU (KK.kit 7 4 c7 c4 rfl rfl) (KK.kit 7 5 c7 c5 rfl rfl)) λH1 g1=>⟨_,rfl,aX ?_⟩))
   refine aI ?_
   try dsimp only
   refine au (aQ (bP rfl (di g1 xa) (KK.cl 7 c7 rfl) (.inl ⟨_,rfl,KK.kit 7 6 c7 c6 rfl rfl⟩) _ ⟨_,rfl,aX ?_⟩))
   refine aI ?_
   try dsimp only
   exact bj (q _ g1)
  ·rcases hf with⟨rfl,rfl⟩ | ⟨rfl,rfl⟩ | ⟨rfl,rfl⟩ | ⟨rfl,rfl⟩ | ⟨rfl,rfl⟩ | ⟨rfl,rfl⟩
   ·cases hi
    refine au (aQ (bP rfl xa (KK.cl 1 c1 rfl) (.inl ⟨_,rfl,KK.kit 1 1 c1 c1 rfl rfl⟩) _ ⟨_,rfl,bG ?_⟩))
    exact bj (gW (gU rfl xa (KK.cl 1 c1 rfl) n1) hs _ (q _ aq.refl))
   ·cases hi
    refine au (aQ (bP rfl xa (KK.cl 2 c2 rfl) (.inl ⟨_,rfl,KK.kit 2 1 c2 c1 rfl rfl⟩) _ ⟨_,rfl,aX ?_⟩))
    refine aI ?_
    try dsimp only
    refine au (aQ (bP rfl xa (KK.cl 2 c2 rfl) (.inl ⟨_,rfl,KK.kit 2 2 c2 c2 rfl rfl⟩) _ ⟨_,rfl,bG ?_⟩))
    exact bj (gW (gU rfl xa (KK.cl 2 c2 rfl) n2) hs _ (q _ aq.refl))
   ·cases hi
    refine au (aQ (bP rfl xa (KK.cl 3 c3 rfl) (.inl ⟨_,rfl,KK.kit 3 1 c3 c1 rfl rfl⟩) _ ⟨_,rfl,aX ?_⟩))
    refine aI ?_
    try dsimp only
    refine au (aQ (bP rfl xa (KK.cl 3 c3 rfl) (.inl ⟨_,rfl,KK.kit 3 2 c3 c2 rfl rfl⟩) _ ⟨_,rfl,aX ?_⟩))
    refine aI ?_
    try dsimp only
    refine au (aQ (bP rfl xa (KK.cl 3 c3 rfl) (.inl ⟨_,rfl,KK.kit 3 3 c3 c3 rfl rfl⟩) _ ⟨_,rfl,bG ?_⟩))
    exact bj (gW (gU rfl xa (KK.cl 3 c3 rfl) n3) hs _ (q _ aq.refl))
   ·cases hi
    refine au (aQ (bP rfl xa (KK.cl 4 c4 rfl) (.inl ⟨_,rfl,KK.kit 4 1 c4 c1 rfl rfl⟩) _ ⟨_,rfl,aX ?_⟩))
    refine aI ?_
    try dsimp only
    refine au (aQ (bP rfl xa (KK.cl 4 c4 rfl) (.inl ⟨_,rfl,KK.kit 4 2 c4 c2 rfl rfl⟩) _ ⟨_,rfl,aX ?_⟩))
    refine aI ?_
    try dsimp only
    refine au (aQ (bP rfl xa (KK.cl 4 c4 rfl) (.inl ⟨_,rfl,KK.kit 4 3 c4 c3 rfl rfl⟩) _ ⟨_,rfl,aX ?_⟩))
    refine aI ?_
    try dsimp only
    refine au (aQ (jZ rfl xa (KK.cl 4 c4 rfl) (wU (KK.kit 4 4 c4 c4 rfl rfl) (KK.kit 4 5 c4 c5 rfl rfl)) λH1 g1=>⟨_,rfl,bG ?_⟩))
    exact bj (gW (gU rfl (di g1 xa) (KK.cl 4 c4 rfl) n4) (hs.keep g1) _ (q _ g1))
   ·cases hi
    refine au (aQ (bP rfl xa (KK.cl 5 c5 rfl) (.inl ⟨_,rfl,KK.kit 5 1 c5 c1 rfl rfl⟩) _ ⟨_,rfl,aX ?_⟩))
    refine aI ?_
    try dsimp only
    refine au (aQ (bP rfl xa (KK.cl 5 c5 rfl) (.inl ⟨_,rfl,KK.kit 5 2 c5 c2 rfl rfl⟩) _ ⟨_,rfl,aX ?_⟩))
    refine aI ?_
    try dsimp only
    refine au (aQ (bP rfl xa (KK.cl 5 c5 rfl) (.inl ⟨_,rfl,KK.kit 5 3 c5 c3 rfl rfl⟩) _ ⟨_,rfl,aX ?_⟩))
    refine aI ?_
    try dsimp only
    refine au (aQ (jZ rfl xa (KK.cl 5 c5 rfl) (wU (KK.kit 5 4 c5 c4 rfl rfl) (KK.kit 5 5 c5 c5 rfl rfl)) λH1 g1=>⟨_,rfl,bG ?_⟩))
    exact bj (gW (gU rfl (di g1 xa) (KK.cl 5 c5 rfl) n5) (hs.keep g1) _ (q _ g1))
   ·cases hi
    refine au (aQ (bP rfl xa (KK.cl 6 c6 rfl) (.inl ⟨_,rfl,KK.kit 6 1 c6 c1 rfl rfl⟩) _ ⟨_,rfl,aX ?_⟩))
    refine aI ?_
    try dsimp only
    refine au (aQ (bP rfl xa (KK.cl 6 c6 rfl) (.inl ⟨_,rfl,KK.kit 6 2 c6 c2 rfl rfl⟩) _ ⟨_,rfl,aX ?_⟩))
    refine aI ?_
    try dsimp only
    refine au (aQ (bP rfl xa (KK.cl 6 c6 rfl) (.inl ⟨_,rfl,KK.kit 6 3 c6 c3 rfl rfl⟩) _ ⟨_,rfl,aX ?_⟩))
    refine aI ?_
    try dsimp only
    refine au (aQ (jZ rfl xa (KK.cl 6 c6 rfl) (wU (KK.kit 6 4 c6 c4 rfl rfl) (KK.kit 6 5 c6 c5 rfl rfl)) λH1 g1=>⟨_,rfl,aX ?_⟩))
    refine aI ?_
    try dsimp only
    refine au (aQ (bP rfl (di g1 xa) (KK.cl 6 c6 rfl) (.inl ⟨_,rfl,KK.kit 6 6 c6 c6 rfl rfl⟩) _ ⟨_,rfl,bG ?_⟩))
    exact bj (gW (gU rfl (di g1 xa) (KK.cl 6 c6 rfl) n6) (hs.keep g1) _ (q _ g1))
noncomputable abbrev vS:Stmt:=top 48
noncomputable abbrev vH:Stmt:=top 49
inductive CallW (C c0 c1 c2 c3 c4 c5 c6 c7:Addr) (bk:V) (ws:List V) (H:Hp) (Q:VK) (E:XK):Prop
 | make (t:V) (h1:ws=[.str "make", t]) (h2:bV H t) (h3:b8 c0 [] H E)
 | find (a b c d:V) (h1:ws=[.str "find", a,b,c,d]) (h2:nq C c1 c2 c3 c7 [bk,a,b,c,d] H Q E)
 | withd (v:V) (h1:ws=[.str "withdraw", v]) (h2:jE C c4 c5 c7 [bk,v] H Q E)
 | found (v:V) (h1:ws=[.str "found", v]) (h2:jJ C c4 [bk,v] H Q E)
 | deed (v:V) (h1:ws=[.str "deed", v]) (h2:iV C c6 [bk,v] H Q E)
 | speaks (a b c:V) (h1:ws=[.str "speaks", a,b,c]) (h2:cT C c1 c2 c6 [bk,a,b,c] H Q E)
 | value (a b c:V) (h1:ws=[.str "value", a,b,c]) (h2:cT C c1 c2 c6 [bk,a,b,c] H Q E)
 | table (a b:V) (h1:ws=[.str "table", a,b]) (h2:jF C c1 c6 [bk,a,b] H Q E)
inductive gL (C c0 c1 c2 c3 c4 c5 c6 c7:Addr) (vs:List V) (H:Hp) (Q:VK) (E:XK):Prop
 | mk (bk:V) (r:Addr) (ws:List V) (h1:vs=[bk,.ref r]) (h2:H r=some (.tup ws)) (h3:CallW C c0 c1 c2 c3 c4 c5 c6 c7 bk ws H Q E)
theorem cb {K:PySem.W.Frag}{t u:TS}{D:Ends}{Y:St}{H:Hp}{r:Addr}{w y:Str}{ws:List V} (hv:Y[1]?=some (some (.ref r))) (h:H r=some (.tup (.str w::ws))) (e:decide (w=y)=false) (k:u D Y H):qi (fT (tOp rEq (tOp (vZ K) (cr 1) (tC (.int 0))) (tC (.str y)))) t u D Y H:=by
 refine⟨_,hv,r,_,0,.str w,rfl,rfl,SqT.of h,cq (j:=0) rfl,rfl,_,rfl,?_⟩
 rw [show decide (V.str w=V.str y)=false from decide_eq_false λz=>of_decide_eq_false e (V.str.inj z)]
 exact aX k
theorem i9 {K:PySem.W.Frag}{t u:TS}{D:Ends}{Y:St}{H:Hp}{r:Addr}{w:Str}{ws:List V} (hv:Y[1]?=some (some (.ref r))) (h:H r=some (.tup (.str w::ws))) (k:t D Y H):qi (fT (tOp rEq (tOp (vZ K) (cr 1) (tC (.int 0))) (tC (.str w)))) t u D Y H:=by
 refine⟨_,hv,r,_,0,.str w,rfl,rfl,SqT.of h,cq (j:=0) rfl,rfl,_,rfl,?_⟩
 rw [decide_eq_true rfl]
 exact bG k
theorem zK:FnScope ["_law_book", "_law_row"] ["_law_book", "_law_row"] (ao vS):=aZ
theorem wK {C c0 c1 c2 c3 c4 c5 c6 c7:Addr} (F:Fun K "_law_call" "_law_call" vS f fd) (T:BkC K C) (MF:MCX P w K mg base C "find" 6 ["self", "key", "first", "last", "value"] [] [] (nq C c1 c2 c3 c7) f1 fd1) (MW:MCX P w K mg base C "withdraw" 7 ["self", "number"] [] [] (jE C c4 c5 c7) f2 fd2) (MO:MCX P w K mg base C "found" 4 ["self", "number"] [] [] (jJ C c4) f3 fd3) (MD:MCX P w K mg base C "deed_at" 3 ["self", "turn"] [] [] (iV C c6) f4 fd4) (MS:MCX P w K mg base C "speaks" 4 ["self", "key", "day", "turn"] [] [] (cT C c1 c2 c6) f5 fd5) (MV:MCX P w K mg base C "value" 5 ["self", "key", "day", "turn"] [] [] (cT C c1 c2 c6) f6 fd6) (MT:MCX P w K mg base C "table" 4 ["self", "key", "turn"] [] [] (jF C c1 c6) f7 fd7) (MK:Mk K C f8) (GI:FnOk P w K mg base (CXR P w) 4 f8 fd8 ["self", "keys"] (rM C c0)) (bI:cu K fd8 ["self", "keys"] []) (mC:mg "Book" = some (.ref C)):FnOk P w K mg base (CXR P w) 8 f fd ["_law_book", "_law_row"] (gL C c0 c1 c2 c3 c4 c5 c6 c7):=by
 refine F.okX (k:=7) zK (λvs H Q E h=>?_) (λcdv A outer s H vs Q E hr h=>?_)
 ·obtain⟨bk,r,ws,rfl,_⟩:=h
  rfl
 ·obtain⟨bk,r,ws,rfl,hr0,h⟩:=h
  refine⟨_,(am (aO (aY dk (aH be (pv 1) ah (λ_ _=>rfl)) ay (b9 _)) (am (aJ (sB MK GI (hr.mono (by decide)) rfl mC bI .nil db (aa (aH be (pv 1) ah (λ_ _=>rfl)) af)))) (am (aO (aY dk (aH be (pv 1) ah (λ_ _=>rfl)) ay (b9 _)) (am (aJ (ce (pv 0) MF.cl MF.mt MF.ok (hr.mono (by decide)) MF.bd MF.dv db (aa (aH be (pv 1) ah (λ_ _=>rfl)) (aa (aH be (pv 1) ah (λ_ _=>rfl)) (aa (aH be (pv 1) ah (λ_ _=>rfl)) (aa (aH be (pv 1) ah (λ_ _=>rfl)) af))))))) (am (aO (aY dk (aH be (pv 1) ah (λ_ _=>rfl)) ay (b9 _)) (am (aJ (ce (pv 0) MW.cl MW.mt MW.ok (hr.mono (by decide)) MW.bd MW.dv db (aa (aH be (pv 1) ah (λ_ _=>rfl)) af)))) (am (aO (aY dk (aH be (pv 1) ah (λ_ _=>rfl)) ay (b9 _)) (am (aJ (ce (pv 0) MO.cl MO.mt MO.ok (hr.mono (by decide)) MO.bd MO.dv db (aa (aH be (pv 1) ah (λ_ _=>rfl)) af)))) (am (aO (aY dk (aH be (pv 1) ah (λ_ _=>rfl)) ay (b9 _)) (am (aJ (ce (pv 0) MD.cl MD.mt MD.ok (hr.mono (by decide)) MD.bd MD.dv db (aa (aH be (pv 1) ah (λ_ _=>rfl)) af)))) (am (aO (aY dk (aH be (pv 1) ah (λ_ _=>rfl)) ay (b9 _)) (am (aJ (ce (pv 0) MS.cl MS.mt MS.ok (hr.mono (by decide)) MS.bd MS.dv db (aa (aH be (pv 1) ah (λ_ _=>rfl)) (aa (aH be (pv 1) ah (λ_ _=>rfl)) (aa (aH be (pv 1) ah (λ_ _=>rfl)) af)))))) (am (aO (aY dk (aH be (pv 1) ah (λ_ _=>rfl)) ay (b9 _)) (am (aJ (ce (pv 0) MV.cl MV.mt MV.ok (hr.mono (by decide)) MV.bd MV.dv db (aa (aH be (pv 1) ah (λ_ _=>rfl)) (aa (aH be (pv 1) ah (λ_ _=>rfl)) (aa (aH be (pv 1) ah (λ_ _=>rfl)) af)))))) (am (aJ (ce (pv 0) MT.cl MT.mt MT.ok (hr.mono (by decide)) MT.bd MT.dv db (aa (aH be (pv 1) ah (λ_ _=>rfl)) (aa (aH be (pv 1) ah (λ_ _=>rfl)) af))))))))))))))))))),?_⟩
  rcases h with⟨t,rfl,hb,q⟩ | ⟨a,b,c,d,rfl,h⟩ | ⟨v,rfl,h⟩ | ⟨v,rfl,h⟩ | ⟨v,rfl,h⟩ | ⟨a,b,c,rfl,h⟩ | ⟨a,b,c,rfl,h⟩ | ⟨a,b,rfl,h⟩
  ·refine i9 rfl hr0 ?_
   refine bE ⟨_,rfl,r,_,1,_,rfl,rfl,SqT.of hr0,rfl,λx dx nx nd xd=>?_⟩
   have g1:aq H (upd H dx (.own x)):=aq.new nd
   have nx1:upd H dx (.own x) x=none:=by rw [aj (Ne.symm xd)];exact nx
   have g2:aq (upd H dx (.own x)) (upd (upd H dx (.own x)) x (.ins C dx [])):=aq.new nx1
   have g:=g1.trans g2
   exact⟨x,dx,t,rfl,ag,hb.grow g,λa H2 gg n2 xa=>q a H2 (g.trans gg) (g.free n2) xa⟩
  ·obtain⟨p,ba,F,B,vk,vf,vl,vv,ev,hb,h⟩:=h
   cases ev
   obtain⟨dx,ho⟩:=hb.ob
   refine cb rfl hr0 (by decide +kernel) (i9 rfl hr0 ?_)
   refine bE ⟨_,rfl,p,dx,_,rfl,ho,bi ba (by decide +kernel) (by decide +kernel) (by decide +kernel) (by decide +kernel) (by decide +kernel),_,rfl,r,_,1,_,rfl,rfl,SqT.of hr0,rfl,_,rfl,r,_,2,_,rfl,rfl,SqT.of hr0,rfl,_,rfl,r,_,3,_,rfl,rfl,SqT.of hr0,rfl,_,rfl,r,_,4,_,rfl,rfl,SqT.of hr0,rfl,?_⟩
   exact⟨p,ba,F,B,_,_,_,_,rfl,hb,h⟩
  ·obtain⟨p,ba,F,B,v0,ev,hb,h⟩:=h
   cases ev
   obtain⟨dx,ho⟩:=hb.ob
   refine cb rfl hr0 (by decide +kernel) (cb rfl hr0 (by decide +kernel) (i9 rfl hr0 ?_))
   refine bE ⟨_,rfl,p,dx,_,rfl,ho,bi ba (by decide +kernel) (by decide +kernel) (by decide +kernel) (by decide +kernel) (by decide +kernel),_,rfl,r,_,1,_,rfl,rfl,SqT.of hr0,rfl,?_⟩
   exact⟨p,ba,F,B,_,rfl,hb,h⟩
  ·obtain⟨p,ba,F,B,v0,ev,hb,h⟩:=h
   cases ev
   obtain⟨dx,ho⟩:=hb.ob
   refine cb rfl hr0 (by decide +kernel) (cb rfl hr0 (by decide +kernel) (cb rfl hr0 (by decide +kernel) (i9 rfl hr0 ?_)))
   refine bE ⟨_,rfl,p,dx,_,rfl,ho,bi ba (by decide +kernel) (by decide +kernel) (by decide +kernel) (by decide +kernel) (by decide +kernel),_,rfl,r,_,1,_,rfl,rfl,SqT.of hr0,rfl,?_⟩
   exact⟨p,ba,F,B,_,rfl,hb,h⟩
  ·obtain⟨p,ba,F,B,v0,ev,hb,h⟩:=h
   cases ev
   obtain⟨dx,ho⟩:=hb.ob
   refine cb rfl hr0 (by decide +kernel) (cb rfl hr0 (by decide +kernel) (cb rfl hr0 (by decide +kernel) (cb rfl hr0 (by decide +kernel) (i9 rfl hr0 ?_))))
   refine bE ⟨_,rfl,p,dx,_,rfl,ho,bi ba (by decide +kernel) (by decide +kernel) (by decide +kernel) (by decide +kernel) (by decide +kernel),_,rfl,r,_,1,_,rfl,rfl,SqT.of hr0,rfl,?_⟩
   exact⟨p,ba,F,B,_,rfl,hb,h⟩
  ·obtain⟨p,ba,F,B,vk,vd,vt,ev,hb,h⟩:=h
   cases ev
   obtain⟨dx,ho⟩:=hb.ob
   refine cb rfl hr0 (by decide +kernel) (cb rfl hr0 (by decide +kernel) (cb rfl hr0 (by decide +kernel) (cb rfl hr0 (by decide +kernel) (cb rfl hr0 (by decide +kernel) (i9 rfl hr0 ?_)))))
   refine bE ⟨_,rfl,p,dx,_,rfl,ho,bi ba (by decide +kernel) (by decide +kernel) (by decide +kernel) (by decide +kernel) (by decide +kernel),_,rfl,r,_,1,_,rfl,rfl,SqT.of hr0,rfl,_,rfl,r,_,2,_,rfl,rfl,SqT.of hr0,rfl,_,rfl,r,_,3,_,rfl,rfl,SqT.of hr0,rfl,?_⟩
   exact⟨p,ba,F,B,_,_,_,rfl,hb,h⟩
  ·obtain⟨p,ba,F,B,vk,vd,vt,ev,hb,h⟩:=h
   cases ev
   obtain⟨dx,ho⟩:=hb.ob
   refine cb rfl hr0 (by decide +kernel) (cb rfl hr0 (by decide +kernel) (cb rfl hr0 (by decide +kernel) (cb rfl hr0 (by decide +kernel) (cb rfl hr0 (by decide +kernel) (cb rfl hr0 (by decide +kernel) (i9 rfl hr0 ?_))))))
   refine bE ⟨_,rfl,p,dx,_,rfl,ho,bi ba (by decide +kernel) (by decide +kernel) (by decide +kernel) (by decide +kernel) (by decide +kernel),_,rfl,r,_,1,_,rfl,rfl,SqT.of hr0,rfl,_,rfl,r,_,2,_,rfl,rfl,SqT.of hr0,rfl,_,rfl,r,_,3,_,rfl,rfl,SqT.of hr0,rfl,?_⟩
   exact⟨p,ba,F,B,_,_,_,rfl,hb,h⟩
  ·obtain⟨p,ba,F,B,vk,vt,ev,hb,h⟩:=h
   cases ev
   obtain⟨dx,ho⟩:=hb.ob
   refine cb rfl hr0 (by decide +kernel) (cb rfl hr0 (by decide +kernel) (cb rfl hr0 (by decide +kernel) (cb rfl hr0 (by decide +kernel) (cb rfl hr0 (by decide +kernel) (cb rfl hr0 (by decide +kernel) (cb rfl hr0 (by decide +kernel) ?_))))))
   refine bE ⟨_,rfl,p,dx,_,rfl,ho,bi ba (by decide +kernel) (by decide +kernel) (by decide +kernel) (by decide +kernel) (by decide +kernel),_,rfl,r,_,1,_,rfl,rfl,SqT.of hr0,rfl,_,rfl,r,_,2,_,rfl,rfl,SqT.of hr0,rfl,?_⟩
   exact⟨p,ba,F,B,_,_,rfl,hb,h⟩
inductive mX (C:Addr) (cs:List Addr) (c0 c1 c2 c3 c4 c5 c6 c7:Addr) (vs:List V) (H:Hp) (Q:VK) (E:XK):Prop
 | mk (bk:V) (r:Addr) (i:Nat) (D:Addr) (fs:List (Str × V)) (x y:Str) (h1:vs=[bk,.ref r]) (h2:cs[i]?=some D) (h3:gE[i]?=some x) (h4:pY H i fs y) (h5:(∀(Q:VK) (E:XK),b8 D fs H E->gL C c0 c1 c2 c3 c4 c5 c6 c7 [bk,.ref r] H Q E)) (h6:∀(t:Addr) (H':Hp),aq H H'->H' t=some (.tup [.str x,.str y])->Q (.ref t) H')
theorem Cd {α:Type}{l:List α} (h:l.length=4):∃a b c d,l=[a,b,c,d]:=by
 match l,h with
 | [a,b,c,d],_=>exact⟨a,b,c,d,rfl⟩
theorem yy (C U:Addr):(jf C U).contains (Value.ref U)=true:=by
 unfold jf
 simp
theorem nG:FnScope ["_law_book", "_law_row", "_law_caught", "_law_e"] ["_law_book", "_law_row"] (ao vH):=aZ
theorem yf {U C c0 c1 c2 c3 c4 c5 c6 c7 c8 c9 c10 c11 c12:Addr} (F:Fun K "_law_told" "_law_told" vH f fd) (KK:Kits K U [c0,c1,c2,c3,c4,c5,c6,c7,c8,c9,c10,c11,c12]) (mU:mg "UnsayError" = some (.ref U)) (hU:hIn K U=true) (CC:CalX P w K mg base "_law_call" 8 ["_law_book", "_law_row"] (gL C c0 c1 c2 c3 c4 c5 c6 c7) f1 fd1) (CK:Cal P w K mg base "_law_kind" 1 ["_law_e"] (ve [c0,c1,c2,c3,c4,c5,c6,c7,c8,c9,c10,c11,c12]) f2 fd2) (CF:Cal P w K mg base "_law_field" 1 ["_law_e"] (rP [c0,c1,c2,c3,c4,c5,c6,c7,c8,c9,c10,c11,c12]) f3 fd3):FnOk P w K mg base CX0 9 f fd ["_law_book", "_law_row"] (mX C [c0,c1,c2,c3,c4,c5,c6,c7,c8,c9,c10,c11,c12] c0 c1 c2 c3 c4 c5 c6 c7):=by
 refine okF F nG λcdv A outer s H vs Q E hr h=>?_
 ·obtain⟨bk,r,i,D,fs,x,y,rfl,hi,hx,hy,hc,q⟩:=h
  refine⟨_,(ai (aF (i:=2) nG.nd rfl (Or.inl rfl) dZ)
   (ai (A7 rfl rfl (λE1 xe pn hp=>(am (aJ (gS CC.ok (hr.mono (by decide)) rfl CC.nm CC.kp CC.bd .nil hp (aa (pv 0) (aa (pv 1) af)))))) (By hr.hd hU rfl mU nG.nd (i:=3) rfl rfl (λa=>(am (aF (i:=2) nG.nd rfl (Or.inl rfl) (pv 3)))) Aa))
   (ai (aO (gp (ku (pv 2))) (am (aB (az (aa ay (aa ay af))))) aE)
   (am (aB (az (aa (aW CK hr (aa (pv 2) af)) (aa (aW CF hr (aa (pv 2) af)) af)))))))),?_⟩
  refine au (aK ?_)
  dsimp only [aN]
  refine au ⟨λc oa H'=>c=Value.ref D/\∃a,oa=some a/\aq H H'/\XAt H' a D fs,?_,?_⟩
  ·refine bE ⟨_,rfl,_,rfl,?_⟩
   exact hc _ _ λa H' g n xa=>⟨rfl,a,rfl,g,xa⟩
  rintro C' a Dd H1 Y' hl hx1 ⟨ec,a',ea,g1,xa⟩
  cases ec
  cases ea
  obtain⟨s0,s1,s2,s3,rfl⟩:=Cd hl
  refine⟨U,KK.cl i D hi,?_⟩
  rw [if_pos (yy _ _)]
  refine aK ⟨_,rfl,?_⟩
  dsimp only [aN]
  refine au (aQ ⟨_,rfl,_,rfl,aX (aI ?_)⟩)
  try dsimp only
  refine bj ⟨_,rfl,a,D,fs,i,x,rfl,hi,xa,hx,λH2 g2=>⟨_,rfl,a,D,fs,i,y,rfl,hi,di g2 xa,hy.keep (g1.trans g2),λH3 g3=>⟨by show 2<=sizeLine;decide,λt nt=>?_⟩⟩⟩
  exact q t _ (g1.trans (g2.trans (g3.trans (aq.new nt)))) ag
noncomputable abbrev vT:Stmt:=top 50
theorem pP {H:Hp}:∀xs:List Str,DatVs H (xs.map V.str) (xs.map PySem.W.Dat.str)
 | []=>.nil
 | x::xs=>.cons (.str _) (pP xs)
noncomputable def BQ (r:Fnd) (v:V):PySem.W.Dat:=.tuple [.str r.1,.int r.2.1,.int r.2.2.1,.int r.2.2.2.1,.int r.2.2.2.2,uu v]
theorem yN {H:Hp}{q:Addr}{r:Fnd}{v:V} (e:H q=some (.tup (oJ r++[v]))) (hv:de v):DatV H (.ref q) (BQ r v):=
 .tup e (.cons (.str _) (.cons (.int _) (.cons (.int _) (.cons (.int _) (.cons (.int _) (.cons (mG hv) .nil))))))
noncomputable def xp (d:jj):PySem.W.Dat:=.tuple [.str d.1,.int d.2]
theorem yO {H:Hp}{q:Addr}{d:jj} (e:H q=some (.tup (uP d))):DatV H (.ref q) (xp d):=.tup e (.cons (.str _) (.cons (.int _) .nil))
theorem mE {B:Bk} (O:B.Ok) (n:Nat):de ((valV B.gs (Sum.inl (n:Int))).getD .non):=by
 rcases O.gone n with⟨e,_⟩ | ⟨t,e,_⟩
 ·rw [e];exact trivial
 ·rw [e];exact trivial
def AQ (D:Addr) (H:Hp) (y:V) (d:PySem.W.Dat):Prop:=∀H4:Hp,(∀b o,H b=some o->b≠D->H4 b=some o)->DatV H4 y d
def BW (D:Addr) (H:Hp) (ys:List V) (ds:List PySem.W.Dat):Prop:=∀H4:Hp,(∀b o,H b=some o->b≠D->H4 b=some o)->DatVs H4 ys ds
theorem kX {H:Hp}:∀{ys:List V}{ds:List PySem.W.Dat}{y:V}{d:PySem.W.Dat},DatVs H ys ds->DatV H y d->DatVs H (ys++[y]) (ds++[d])
 | [],[],_,_,_,h=>.cons h .nil
 | x::xs,e::es,_,_,h,k=>by
  cases h with
  | cons a r=>exact .cons a (kX r k)
theorem j7 {H:Hp}:∀{ys:List V}{ds:List PySem.W.Dat},DatVs H ys ds->ys.length=ds.length
 | [],[],_=>rfl
 | x::xs,e::es,h=>by
  cases h with
  | cons a r=>rw [List.length_cons,List.length_cons,j7 r]
inductive DWk (P:Nat->PySem.W.Dat->Prop) (H:Hp) (D:Addr) (i:Nat) (ys:List V) (H2:Hp):Prop
 | mk (ds) (h1:aq H H2) (h2:H2 D=some (.lst ys)) (h3:BW D H2 ys ds) (h4:ds.length=i) (h5:∀(j:Nat) d,ds[j]?=some d->P j d)
theorem pN {P:Nat->PySem.W.Dat->Prop}{H:Hp}{D:Addr}{i:Nat}{ys:List V}{H2 H3:Hp}{y:V}{d:PySem.W.Dat} (nD:H D=none) (h:DWk P H D i ys H2) (hi:i < 1000) (hp:P i d) (hx:AQ D H3 y d) (g:aq H2 H3) :
  H3 D=some (.lst ys)/\ys.length < sizeLine/\DWk P H D (i+1) (ys++[y]) (upd H3 D (.lst (ys++[y]))):=by
 obtain⟨ds,g2,e,dx,l,hP⟩:=h
 have ly:ys.length=ds.length:=j7 (dx H2 λb o e _=>e)
 refine⟨g _ _ e,bq (by omega),ds++[d],λb o eb=>by rw [aj (al eb nD)];exact g _ _ (g2 _ _ eb),ag,λH4 k=>kX (dx H4 λb o eb nb=>k b o (by rw [aj nb];exact g _ _ eb) nb) (hx H4 λb o eb nb=>k b o (by rw [aj nb];exact eb) nb),by rw [List.length_append,l];rfl,λj d' hj=>?_⟩
 by_cases hlt:j < ds.length
 ·rw [List.getElem?_append_left hlt]at hj
  exact hP j d' hj
 ·have hj1:=(List.getElem?_eq_some_iff.mp hj).1
  rw [List.length_append]at hj1
  have hj2:j=ds.length:=by
   have:j < ds.length+1:=hj1
   omega
  rw [hj2,List.getElem?_append_right (Nat.le_refl _),Nat.sub_self]at hj
  cases (show some d=some d' from hj)
  rw [hj2,l]
  exact hp
theorem lc {K:PySem.W.Frag}{a:Addr}{xs:List V}{sub:List Nat}{te:TE}{Y:St}{Q:VK}{H:Hp} (P:Nat->PySem.W.Dat->Prop) (hn:xs.length<=900) (ha:H a=some (.lst xs))
  (hte:∀(D:Addr) (i:Nat) (x:V) (H2:Hp) (R:VK),xs[i]?=some x->aq H H2->(∃ys,H2 D=some (.lst ys))->(∀y d H3,P i d->AQ D H3 y d->aq H2 H3->R y H3)->te (some x::cj sub Y) H2 R)
  (hq:∀(D:Addr) (H':Hp) (ys:List V) (ds:List PySem.W.Dat),aq H H'->H' D=some (.lst ys)->DatVs H' ys ds->ds.length=xs.length->(∀(j:Nat) d,ds[j]?=some d->P j d)->Q (.ref D) H'):mR (Itl K a) sub (λ_ H Q=>Q true H) te Y Q H:=by
 intro D nD
 refine ff (K:=K) (a:=a) (xs:=xs) (sub:=sub) (tt:=λ_ H Q=>Q true H) (te:=te) (Q:=Q) (Y:=Y) (DWk P H D) ⟨[],aq.new nD,ag,λ_ _=>.nil,rfl,λj d h=>by simp at h⟩ (λi ys H2 _ hh=>?_) (λi x ys H2 hi hh=>?_) λys H2 hh=>?_
 ·obtain⟨_,g,_⟩:=hh
  exact SqL.of (g _ _ ha)
 ·have hil:=(List.getElem?_eq_some_iff.mp hi).1
  obtain⟨_,g,e,_⟩:=id hh
  exact bG (hte D i x H2 _ hi g ⟨_,e⟩ λy d H3 hp hx g3=>pN nD hh (by omega) hp hx g3)
 ·obtain⟨ds,g,e,dx,l,hP⟩:=hh
  exact hq D H2 ys ds g e (dx H2 λb o e _=>e) l hP
theorem kZ {lo:Int}{n:Nat}{sub:List Nat}{te:TE}{Y:St}{Q:VK}{H:Hp} (P:Nat->PySem.W.Dat->Prop) (hn:n<=900)
  (hte:∀(D:Addr) (i:Nat) (H2:Hp) (R:VK),i < n->aq H H2->(∃ys,H2 D=some (.lst ys))->(∀y d H3,P i d->AQ D H3 y d->aq H2 H3->R y H3)->te (some (.int (lo+(i:Int)))::cj sub Y) H2 R)
  (hq:∀(D:Addr) (H':Hp) (ys:List V) (ds:List PySem.W.Dat),aq H H'->H' D=some (.lst ys)->DatVs H' ys ds->ds.length=n->(∀(j:Nat) d,ds[j]?=some d->P j d)->Q (.ref D) H'):mR (Itr lo n) sub (λ_ H Q=>Q true H) te Y Q H:=by
 intro D nD
 refine ir (lo:=lo) (n:=n) (sub:=sub) (tt:=λ_ H Q=>Q true H) (te:=te) (Q:=Q) (Y:=Y) (DWk P H D) ⟨[],aq.new nD,ag,λ_ _=>.nil,rfl,λj d h=>by simp at h⟩ (λi ys H2 hi hh=>?_) λys H2 hh=>?_
 ·obtain⟨_,g,e,_⟩:=id hh
  exact bG (hte D i H2 _ hi g ⟨_,e⟩ λy d H3 hp hx g3=>pN nD hh (by omega) hp hx g3)
 ·obtain⟨ds,g,e,dx,l,hP⟩:=hh
  exact hq D H2 ys ds g e (dx H2 λb o e _=>e) l hP
theorem pU {K:PySem.W.Frag}{a:Addr}{qs:List Addr}{ds:List jj}{Y:St}{Q:VK}{H:Hp} (hn:qs.length<=900) (ha:H a=some (.lst (qs.map V.ref))) (hd:gH H qs ds)
  (hq:∀(D:Addr) (H':Hp) (ys:List V),aq H H'->H' D=some (.lst ys)->ys.length=(ds.filter λd=>decide (d.1=Str.ofString "find")).length->Q (.ref D) H') :
  mR (Itl K a) [] (fT (tOp rEq (tOp (vZ K) (cr 0) (tC (.int 0))) (tC (.str "find")))) (cr 0) Y Q H:=by
 intro D nD
 have lq:qs.length=ds.length:=Paired.length hd
 refine ff (K:=K) (a:=a) (xs:=qs.map V.ref) (sub:=[]) (Q:=Q) (Y:=Y) (λi ys H2=>aq H H2/\H2 D=some (.lst ys)/\ys.length=((ds.take i).filter λd=>decide (d.1=Str.ofString "find")).length) ⟨aq.new nD,ag,rfl⟩ (λi ys H2 _ hh=>?_) (λi x ys H2 hi hh=>?_) λys H2 hh=>?_
 ·exact SqL.of (hh.1 _ _ ha)
 ·obtain⟨g,e,l⟩:=hh
  rw [List.getElem?_map]at hi
  cases ek:qs[i]? with
  | none=>rw [ek]at hi;cases hi
  | some q=>
   rw [ek]at hi
   cases hi
   have hil:=(List.getElem?_eq_some_iff.mp ek).1
   have ed:ds[i]?=some (ds[i]'(by omega)):=List.getElem?_eq_getElem (by omega)
   obtain⟨q',eq',hq'⟩:=pZ hd ed
   rw [ek]at eq'
   cases eq'
   have hle:((ds.take i).filter λd=>decide (d.1=Str.ofString "find")).length<=i:=Nat.le_trans (List.length_filter_le _ _) (List.length_take_le _ _)
   refine⟨_,rfl,q,_,0,_,rfl,rfl,SqT.of (g _ _ hq'),rfl,rfl,_,rfl,?_⟩
   rw [List.take_add_one,ed,List.filter_append,List.length_append]
   by_cases hw:(ds[i]'(by omega)).1=Str.ofString "find"
   ·rw [decide_eq_true (show V.str (ds[i]'(by omega)).1=V.str "find" by rw [hw])]
    refine bG ⟨_,rfl,e,bq (by omega),λb o eb=>by rw [aj (al eb nD)];exact g _ _ eb,ag,?_⟩
    rw [List.length_append,l]
    simp [hw]
   ·rw [decide_eq_false (λz=>hw (V.str.inj z))]
    refine aX ⟨g,e,?_⟩
    rw [l]
    simp [hw]
 ·obtain⟨g,e,l⟩:=hh
  rw [List.length_map,lq,List.take_length]at l
  exact hq D H2 ys g e l
inductive TabP (B:Bk) (i:Nat) (d:PySem.W.Dat):Prop
 | mk (k:Str) (rs:List bF) (h1:B.ks[i]?=some k) (h2:Strip.Tidy rs) (h3:(∀x,Strip.dayOf rs x=(B.spk k B.ds.length x).map V.int)) (h4:(∀r∈rs,de r.2.2)) (h5:d=.list (rs.map AH))
def BV (B:Bk) (i:Nat) (d:PySem.W.Dat):Prop:=∃e,B.ds[i]?=some e/\d=xp e
def BU (B:Bk) (i:Nat) (d:PySem.W.Dat):Prop:=∃r,B.fs[i]?=some r/\d=BQ r ((valV B.gs (Sum.inl (i:Int))).getD .non)
inductive AllD (B:Bk) (d:PySem.W.Dat):Prop
 | mk (ts es fs:List PySem.W.Dat) (h1:d=.tuple [.int B.ds.length,.list (B.ks.map PySem.W.Dat.str),.list ts,.list es,.list fs]) (h2:(ts.length=B.ks.length/\∀(j:Nat) d,ts[j]?=some d->TabP B j d)) (h3:(es.length=B.ds.length/\∀(j:Nat) d,es[j]?=some d->BV B j d)) (h4:(fs.length=B.fs.length/\∀(j:Nat) d,fs[j]?=some d->BU B j d))
theorem iM {α:Type}{P:Nat->α->Prop}{xs ys:List α}{n:Nat} (hx:xs.length=n/\∀(j:Nat) d,xs[j]?=some d->P j d) (hy:ys.length=n/\∀(j:Nat) d,ys[j]?=some d->P j d) (hu:∀j d e,P j d->P j e->d=e):xs=ys:=by
 refine List.ext_getElem? λj=>?_
 by_cases hj:j < n
 ·have e1:xs[j]?=some (xs[j]'(by omega)):=List.getElem?_eq_getElem (by omega)
  have e2:ys[j]?=some (ys[j]'(by omega)):=List.getElem?_eq_getElem (by omega)
  rw [e1,e2,hu j _ _ (hx.2 j _ e1) (hy.2 j _ e2)]
 ·rw [List.getElem?_eq_none (by omega),List.getElem?_eq_none (by omega)]
theorem xB {B:Bk}{d e:PySem.W.Dat} (h:AllD B d) (k:AllD B e):d=e:=by
 obtain⟨ts,es,fs,rfl,h1,h2,h3⟩:=h
 obtain⟨ts',es',fs',rfl,k1,k2,k3⟩:=k
 rw [iM h1 k1,iM h2 k2,iM h3 k3]
 ·rintro j d e ⟨r,e1,rfl⟩ ⟨r',e2,rfl⟩
  rw [e1]at e2;cases e2;rfl
 ·rintro j d e ⟨r,e1,rfl⟩ ⟨r',e2,rfl⟩
  rw [e1]at e2;cases e2;rfl
 ·rintro j d e ⟨k,rs,e1,t1,y1,_,rfl⟩ ⟨k',rs',e2,t2,y2,_,rfl⟩
  rw [e1]at e2;cases e2
  rw [Strip.tidy_unique t1 t2 λn=>by rw [y1,y2]]
theorem oA {α:Type}{P:Nat->α->Prop}{xs:List α}{n:Nat} (hx:xs.length=n/\∀(j:Nat) d,xs[j]?=some d->P j d){c:α->Bool} (h:∀j d,P j d->c d=true):xs.all c=true:=by
 rw [List.all_eq_true]
 intro x hm
 obtain⟨j,hj,rfl⟩:=List.getElem_of_mem hm
 exact h j _ (hx.2 j _ (List.getElem?_eq_getElem hj))
theorem xC {B:Bk}{d:PySem.W.Dat} (O:B.Ok) (h:AllD B d):PySem.W.kqdOk 9 d=true:=by
 obtain⟨ts,es,fs,rfl,h1,h2,h3⟩:=h
 show ([PySem.W.Dat.int B.ds.length,.list (B.ks.map PySem.W.Dat.str),.list ts,.list es,.list fs].all (PySem.W.kqdOk 8))=true
 rw [List.all_cons,List.all_cons,List.all_cons,List.all_cons,List.all_cons,List.all_nil]
 have e1:PySem.W.kqdOk 8 (.list (B.ks.map PySem.W.Dat.str))=true:=by
  show (B.ks.map PySem.W.Dat.str).all (PySem.W.kqdOk 7)=true
  rw [List.all_eq_true]
  intro d hd
  obtain⟨x,hx,rfl⟩:=List.mem_map.mp hd
  exact O.nm x hx
 have e2:PySem.W.kqdOk 8 (.list ts)=true:=by
  show ts.all (PySem.W.kqdOk 7)=true
  refine oA h1 ?_
  rintro j d ⟨k,rs,_,_,_,hm,rfl⟩
  show (rs.map AH).all (PySem.W.kqdOk 6)=true
  rw [List.all_eq_true]
  intro d hd
  obtain⟨r,hr,rfl⟩:=List.mem_map.mp hd
  show ([PySem.W.Dat.int r.1,.int r.2.1,uu r.2.2].all (PySem.W.kqdOk 5))=true
  rw [List.all_cons,List.all_cons,List.all_cons,t5 5 (hm r hr)]
  rfl
 have e3:PySem.W.kqdOk 8 (.list es)=true:=by
  show es.all (PySem.W.kqdOk 7)=true
  refine oA h2 ?_
  rintro j d ⟨e,he,rfl⟩
  show ([PySem.W.Dat.str e.1,.int e.2].all (PySem.W.kqdOk 6))=true
  rw [List.all_cons,List.all_cons,show PySem.W.kqdOk 6 (.str e.1)=true from O.dw e (List.mem_of_getElem? he)]
  rfl
 have e4:PySem.W.kqdOk 8 (.list fs)=true:=by
  show fs.all (PySem.W.kqdOk 7)=true
  refine oA h3 ?_
  rintro j d ⟨r,he,rfl⟩
  show ([PySem.W.Dat.str r.1,.int r.2.1,.int r.2.2.1,.int r.2.2.2.1,.int r.2.2.2.2,uu _].all (PySem.W.kqdOk 6))=true
  rw [List.all_cons,List.all_cons,List.all_cons,List.all_cons,List.all_cons,List.all_cons,t5 6 (mE O j),show PySem.W.kqdOk 6 (.str r.1)=true from O.nm _ (O.fin r (List.mem_of_getElem? he)).1]
  rfl
 rw [e1,e2,e3,e4]
 rfl
theorem tI {H:Hp}{ps:List Addr}{rs:List bF} (h:bY H ps rs):DatVs H (ps.map V.ref) (rs.map AH):=by
 unfold bY at h
 induction h with
 | nil=>exact .nil
 | cons e _ ih=>exact .cons (.tup e.1 (.cons (.int _) (.cons (.int _) (.cons (mG e.2) .nil)))) ih
theorem o0 {H:Hp}{ps:List Addr}{rs:List bF} (h:bY H ps rs):∀r∈rs,de r.2.2:=by
 unfold bY at h
 induction h with
 | nil=>exact λr h=>nomatch h
 | cons e _ ih=>
  intro x hx
  rcases List.mem_cons.mp hx with rfl | hx
  ·exact e.2
  ·exact ih x hx
theorem qz {H H':Hp} (k:∀b xs,H b=some (.tup xs)->H' b=some (.tup xs)){ps:List Addr}{rs:List bF} (h:bY H ps rs):bY H' ps rs:=by
 unfold bY at h ⊢
 induction h with
 | nil=>exact .nil
 | cons e _ ih=>exact .cons ⟨k _ _ e.1,e.2⟩ ih
theorem DatV.grow {H H':Hp} (g:aq H H'){x:V}{d:PySem.W.Dat} (h:DatV H x d):DatV H' x d:=by
 refine DatV.rec (motive_1:=λx d _=>DatV H' x d) (motive_2:=λxs ds _=>DatVs H' xs ds) ?_ ?_ ?_ ?_ ?_ ?_ ?_ h
 ·exact .non
 ·exact λi=>.int i
 ·exact λx=>.str x
 ·exact λe _ k=>.tup (g _ _ e) k
 ·exact λe _ k=>.lst (g _ _ e) k
 ·exact .nil
 ·exact λ_ _ a b=>.cons a b
theorem fL {H H':Hp} (g:aq H H'):∀{xs:List V}{ds:List PySem.W.Dat},DatVs H xs ds->DatVs H' xs ds
 | [],[],_=>.nil
 | x::xs,d::ds,h=>by
  cases h with
  | cons a r=>exact .cons (DatV.grow g a) (fL g r)
theorem sX {H:Hp}:∀{zs:List V}{ds:List jj},DatVs H zs (ds.map xp)->∃qs:List Addr,zs=qs.map V.ref/\gH H qs ds
 | [],[],_=>⟨[],rfl,.nil⟩
 | z::zs,d::ds,h=>by
  cases h with
  | cons a r=>
   obtain⟨qs,rfl,k⟩:=sX r
   unfold xp at a
   cases a with
   | tup e t=>
    cases t with
    | cons a1 t=>
     cases a1
     cases t with
     | cons a2 t=>
      cases a2
      cases t
      exact⟨_::qs,rfl,.cons e k⟩
 | [],d::ds,h=>by cases h
 | z::zs,[],h=>by cases h
inductive nE (C:Addr) (vs:List V) (H:Hp) (Q:VK) (E:XK):Prop
 | mk (p:Addr) (a:BA) (F:Addr->Prop) (B:Bk) (h1:vs=[.ref p]) (h2:BkAt C H p a F B) (h3:∀(t:Addr) (d:PySem.W.Dat) (H':Hp),aq H H'->DatV H' (.ref t) d->AllD B d->Q (.ref t) H')
theorem jT:FnScope ["_law_book", "_law_now", "_law_tables", "_law_deeds", "_law_many"] ["_law_book"] (ao vT):=aZ
theorem yu {C:Addr} (F:Fun K "_law_all" "_law_all" vT f fd) (N:Free mg) (MN:Ab4 P w K mg base C f1 fd1) (ML:MC P w K mg base C "all_keys" 1 ["self"] [] [] (zd C) f2 fd2) (T1:MC P w K mg base C "table" 3 ["self", "key", "turn"] [Value.none] [V.non] (jl C) f3 fd3) (MT:MC P w K mg base C "deed_at" 2 ["self", "turn"] [] [] (oS C) f4 fd4) (MO:MC P w K mg base C "found" 3 ["self", "number"] [] [] (rO C) f5 fd5):FnOk P w K mg base CX0 4 f fd ["_law_book"] (nE C):=by
 refine okF F jT λcdv A outer s H vs Q E hr h=>?_
 ·obtain⟨p,a,F,B,rfl,h,q⟩:=h
  refine⟨_,(ai (aF (i:=1) jT.nd rfl (Or.inl rfl) (dH (pv 0) MN hr))
   (ai (o8 (i:=2) jT.nd rfl (Or.inl rfl) (bW rfl (cc (dH (pv 0) ML hr)) rfl rfl (by show ∀p∈_,gI [Str.ofString "_law_book"] p;decide) (by decide) rfl (by show ([Str.ofString "_law_key", Str.ofString "_law_book"]:List Str).Nodup;decide) (.cons (i:=0) rfl (.inr (.inl rfl)) (by show (some NameKind.cell)≠some NameKind.local;decide) (.inl rfl) rfl .nil) (λC fp s H=>cM) (λC fp s H=>(fw (pv 1) T1 hr (aa (pv 0) af)))))
   (ai (o8 (i:=3) jT.nd rfl (Or.inl rfl) (bW rfl (tK rfl N.range (aa ah (aa (aD bL (pv 1) ah) af))) rfl rfl (by show ∀p∈_,gI [Str.ofString "_law_book"] p;decide) (by decide) rfl (by show ([Str.ofString "_law_turn", Str.ofString "_law_book"]:List Str).Nodup;decide) (.cons (i:=0) rfl (.inr (.inl rfl)) (by show (some NameKind.cell)≠some NameKind.local;decide) (.inl rfl) rfl .nil) (λC fp s H=>cM) (λC fp s H=>(fw (pv 1) MT hr (aa (pv 0) af)))))
   (ai (aF (i:=4) jT.nd rfl (Or.inl rfl) (aA aG (by rfl) N.len PySem.boot_len (aa (gz (bW rfl (cc (pv 3)) rfl rfl (by show ∀p∈_,gI [] p;decide) (by decide) rfl (by show ([Str.ofString "_law_deed"]:List Str).Nodup;decide) .nil (λC fp s H=>(sx (aY dk (aH (r:=vZ K) be (pv 0) ah (λ_ _=>rfl)) ay (b9 _)))) (λC fp s H=>(pv 0)))) af)))
   (am (aB (az (aa (pv 1) (aa (dH (pv 0) ML hr) (aa (pv 2) (aa (pv 3) (aa (gz (bW rfl (eY rfl N.range (aa (pv 4) af)) rfl rfl (by show ∀p∈_,gI [Str.ofString "_law_book"] p;decide) (by decide) rfl (by show ([Str.ofString "_law_number", Str.ofString "_law_book"]:List Str).Nodup;decide) (.cons (i:=0) rfl (.inr (.inl rfl)) (by show (some NameKind.cell)≠some NameKind.local;decide) (.inl rfl) rfl .nil) (λC fp s H=>cM) (λC fp s H=>(fw (pv 1) MO hr (aa (pv 0) af))))) af)))))))))))),?_⟩
  obtain⟨dx,ho⟩:=h.ob
  have O:=h.ok
  have fsz:=O.fsz
  have dsz:=O.dsz
  have k8:=O.k8
  have bkG:∀{H2:Hp},aq H H2->BkAt C H2 p a F B:=λg=>h.keep ⟨λb o _ e=>g b o e,λb xs e=>g b _ e,λb c dx fs e=>g b _ e⟩
  refine au (aK ⟨_,rfl,p,dx,_,rfl,ho,bi a (by decide +kernel) (by decide +kernel) (by decide +kernel) (by decide +kernel) (by decide +kernel),p,a,F,B,rfl,h.toT,?_⟩)
  dsimp only [aN]
  refine au (aK (eK ⟨_,rfl,p,dx,_,rfl,ho,bi a (by decide +kernel) (by decide +kernel) (by decide +kernel) (by decide +kernel) (by decide +kernel),p,a,F,B,rfl,h,λl nl=>⟨l,rfl,⟨_,SqL.of ag⟩,?_⟩⟩))
  have g1:aq H (upd H l (.lst (B.ks.map V.str))):=aq.new nl
  have e1:upd H l (.lst (B.ks.map V.str)) l=some (.lst (B.ks.map V.str)):=ag
  generalize upd H l (.lst (B.ks.map V.str))=H1 at g1 e1
  refine lc (xs:=B.ks.map V.str) (TabP B) (by rw [List.length_map];omega) e1 (λD i x H2 R hi g2 hD hR=>?_) (λD2 H2 ys ts g2 eD dT lT pT=>?_)
  ·rw [List.getElem?_map]at hi
   cases ek:B.ks[i]? with
   | none=>rw [ek]at hi;cases hi
   | some k=>
    rw [ek]at hi
    cases hi
    obtain⟨ys,hD⟩:=hD
    refine⟨_,rfl,p,dx,_,rfl,(g1.trans g2) _ _ ho,bi a (by decide +kernel) (by decide +kernel) (by decide +kernel) (by decide +kernel) (by decide +kernel),_,rfl,p,a,F,B,k,.non,B.ds.length,rfl,(bkG (g1.trans g2)).toT,List.mem_of_getElem? ek,Nat.le_refl _,.inl ⟨rfl,rfl⟩,λl2 ps rs nl2 hp td i4 dy=>hR _ _ _ ⟨k,rs,ek,td,dy,o0 hp,rfl⟩ (λH4 kp=>?_) (aq.new nl2)⟩
    refine .lst (kp l2 _ ag λz=>by rw [z,hD]at nl2;cases nl2) (tI (qz (λb xs e=>kp b _ (by rw [aj (al e nl2)];exact e) λz=>by rw [z,hD]at e;cases e) hp))
  rw [List.length_map]at lT
  have g02:=g1.trans g2
  dsimp only [aN]
  refine au (aK (eK ⟨_,rfl,_,_,rfl,rfl,1,(B.ds.length:Int)+1,rfl,⟨by omega,by omega,by omega,by omega⟩,?_⟩))
  rw [show ((B.ds.length:Int)+1 - 1).toNat=B.ds.length by omega]
  refine kZ (lo:=1) (n:=B.ds.length) (BV B) (by omega) (λD i H3 R hi g3 hD hR=>?_) (λD3 H3 zs es g3 eE dE lE pE=>?_)
  ·have ed:B.ds[i]?=some (B.ds[i]'hi):=List.getElem?_eq_getElem hi
   obtain⟨ys,hD⟩:=hD
   refine⟨_,rfl,p,dx,_,rfl,(g02.trans g3) _ _ ho,bi a (by decide +kernel) (by decide +kernel) (by decide +kernel) (by decide +kernel) (by decide +kernel),_,rfl,p,a,F,B,i,_,by show [V.ref p,.int (1+(i:Int))]=[V.ref p,.int ((i:Int)+1)];rw [Int.add_comm],bkG (g02.trans g3),ed,λq0 hq0=>hR _ _ _ ⟨_,ed,rfl⟩ (λH4 kp=>yO (kp q0 _ hq0 λz=>by rw [z,hD]at hq0;cases hq0)) aq.refl⟩
  have g03:=g02.trans g3
  dsimp only [aN]
  have ees:es=B.ds.map xp:=iM ⟨lE,pE⟩ ⟨by rw [List.length_map],λj d hj=>by
   rw [List.getElem?_map]at hj
   cases e:B.ds[j]? with
   | none=>rw [e]at hj;cases hj
   | some x=>rw [e]at hj;cases hj;exact⟨x,e,rfl⟩⟩ (by
   rintro j d e ⟨r,e1,rfl⟩ ⟨r',e2,rfl⟩
   rw [e1]at e2;cases e2;rfl)
  rw [ees]at dE
  obtain⟨qs,rfl,hqs⟩:=sX dE
  have lq:qs.length=B.ds.length:=Paired.length hqs
  refine au (aK (sq (fq (eK ⟨_,rfl,D3,rfl,⟨_,SqL.of eE⟩,?_⟩))))
  refine pU (by omega) eE hqs λD4 H4 ys4 g4 e4 l4=>?_
  refine⟨D4,_,rfl,.inl (SqL.of e4),?_⟩
  rw [l4,O.cf]
  have g04:=g03.trans g4
  dsimp only [aN]
  refine bj ⟨_,rfl,_,rfl,p,dx,_,rfl,g04 _ _ ho,bi a (by decide +kernel) (by decide +kernel) (by decide +kernel) (by decide +kernel) (by decide +kernel),p,a,F,B,rfl,bkG g04,λl5 n5=>⟨_,rfl,_,rfl,?_⟩⟩
  have g5:aq H4 (upd H4 l5 (.lst (B.ks.map V.str))):=aq.new n5
  have e5:upd H4 l5 (.lst (B.ks.map V.str)) l5=some (.lst (B.ks.map V.str)):=ag
  generalize upd H4 l5 (.lst (B.ks.map V.str))=H5 at g5 e5
  have g05:=g04.trans g5
  refine eK ⟨_,rfl,(B.fs.length:Int),rfl,by omega,by omega,?_⟩
  rw [Int.toNat_natCast]
  refine kZ (lo:=0) (n:=B.fs.length) (BU B) (by omega) (λD i H6 R hi g6 hD hR=>?_) (λD6 H6 ws fs g6 e6 dF lF pF=>?_)
  ·have er:B.fs[i]?=some (B.fs[i]'hi):=List.getElem?_eq_getElem hi
   obtain⟨ys,hD⟩:=hD
   refine⟨_,rfl,p,dx,_,rfl,(g05.trans g6) _ _ ho,bi a (by decide +kernel) (by decide +kernel) (by decide +kernel) (by decide +kernel) (by decide +kernel),_,rfl,p,a,F,B,i,_,by show [V.ref p,.int (0+(i:Int))]=[V.ref p,.int (i:Int)];rw [Int.zero_add],bkG (g05.trans g6),er,λq0 H7 g7 hq0=>hR _ _ _ ⟨_,er,rfl⟩ (λH8 kp=>yN (kp q0 _ hq0 λz=>by rw [z,g7 _ _ hD]at hq0;cases hq0) (mE O i)) g7⟩
  refine⟨by show 5<=sizeLine;decide,λt nt=>?_⟩
  have g7:aq H6 (upd H6 t (.tup [.int B.ds.length,.ref l5,.ref D2,.ref D3,.ref D6])):=aq.new nt
  have g27:=g3.trans (g4.trans (g5.trans (g6.trans g7)))
  have g37:=g4.trans (g5.trans (g6.trans g7))
  refine q t _ _ (g05.trans (g6.trans g7)) (.tup ag (.cons (.int _) (.cons (.lst ((g6.trans g7) _ _ e5) (pP _)) (.cons (.lst (g27 _ _ eD) (fL g27 dT)) (.cons (.lst (g37 _ _ eE) (fL g37 dE)) (.cons (.lst (g7 _ _ e6) (fL g7 dF)) .nil)))))) ⟨ts,_,fs,rfl,⟨lT,pT⟩,⟨by rw [List.length_map],λj d hj=>?_⟩,lF,pF⟩
  rw [<- ees]at hj
  exact pE j d hj
noncomputable abbrev jW:Stmt:=top 51
noncomputable abbrev nX:Stmt:=top 52
noncomputable abbrev nW:Stmt:=top 53
def rg (Pr:Hp->V->Prop) (te:TE) (Y:St):Prop:=∀(H:Hp) (Q:VK),(∀v H',aq H H'->Pr H' v->Q v H')->te Y H Q
def t9 (Pr:Hp->V->Prop) (t:TA) (Y:St) (n:Nat):Prop:=∀(H:Hp) (Q:List V->Hp->Prop),(∀vs H',aq H H'->vs.length=n->(∀v∈vs,Pr H' v)->Q vs H')->t Y H Q
theorem xf {Pr:Hp->V->Prop}{Y:St}:t9 Pr bT Y 0:=λH Q q=>q [] H aq.refl rfl (λ_ h=>nomatch h)
theorem cA {Pr:Hp->V->Prop}{Y:St}{te:TE}{t:TA}{n:Nat} (m:∀H H' v,aq H H'->Pr H v->Pr H' v) (h:rg Pr te Y) (r:t9 Pr t Y n):t9 Pr (aV te t) Y (n+1):=λH Q q=>
 h H _ λv H1 g1 h1=>r H1 _ λvs H2 g2 l2 h2=>q (v::vs) H2 (g1.trans g2) (by rw [List.length_cons,l2]) λx hx=>(List.mem_cons.mp hx).elim (λe=>by rw [e];exact m _ _ _ g2 h1) (h2 x)
theorem sm {Pr:Hp->V->Prop}{Y:St}{t:TA}{n:Nat}{H:Hp}{Q:VK} (m:∀H H' v,aq H H'->Pr H v->Pr H' v) (h:t9 Pr t Y n) (hn:n<=1000) (q:∀l vs H',H l=none->aq H H'->H' l=some (.lst vs)->vs.length=n->(∀v∈vs,Pr H' v)->Q (.ref l) H'):gY t Y H Q:=
 h H _ λvs H1 g1 l1 h1=>⟨by rw [l1];exact Nat.le_trans hn (by decide),λp np=>q p vs _ (g1.free np) (g1.trans (aq.new np)) ag l1 λv hv=>m _ _ _ (aq.new np) (h1 v hv)⟩
theorem dm (H H':Hp) (v:V) (g:aq H H') (h:bV H v):bV H' v:=h.grow g
noncomputable def AN (ks:List Str):Bool:=decide (8 < ks.length) || (decide (1<=ks.length) && (!((ks.map V.str).map nmB).all id || !decide (gG ks ks.length=ks.length)))
theorem xz {H:Hp}{p:Addr}{ks:List Str} (e:H p=some (.lst (ks.map V.str))) (hl:ks.all (λk=>decide (k.length < 100))=true) (hb:AN ks=true):bV H (.ref p):=by
 refine .inr ⟨p,_,rfl,e,.inr ?_⟩
 rw [List.length_map]
 by_cases h8:8 < ks.length
 ·exact .inl h8
 refine .inr ?_
 unfold AN at hb
 rw [decide_eq_false h8,Bool.false_or,Bool.and_eq_true]at hb
 refine⟨of_decide_eq_true hb.1,by omega,λx hx=>?_,?_⟩
 ·obtain⟨k,hk,rfl⟩:=List.mem_map.mp hx
  exact .inl ⟨k,rfl,Nat.lt_of_lt_of_le (of_decide_eq_true (List.all_eq_true.mp hl k hk)) (by decide)⟩
 ·cases ha:((ks.map V.str).map nmB).all id with
  | false=>exact .inl rfl
  | true=>
   rw [ha,Bool.not_true,Bool.false_or]at hb
   exact .inr ⟨ks,rfl,rfl,λz=>by rw [decide_eq_true z]at hb;exact nomatch hb.2⟩
theorem gX {Y:St}{ks:List Str} (hl:ks.all (λk=>decide (k.length < 100))=true) (h9:ks.length<=1000) (hb:AN ks=true):rg bV (gY (tCs (ks.map V.str))) Y:=λH Q q=>
 fm pI (by rw [List.length_map];exact h9) λp np=>q _ _ (aq.new np) (xz ag hl hb)
theorem AC {Y:St}:rg bV (gY bT) Y:=λH Q q=>fm iq (by decide) λp np=>q _ _ (aq.new np) (.inr ⟨p,[],rfl,ag,.inl rfl⟩)
theorem xc {Y:St}{vs:List V} (h:vs.length<=1000):rg bV (hZ (tCs vs)) Y:=λH Q q=>o4 pI h λp np=>q _ _ (aq.new np) (.inl (.inr (.inr (.inl ⟨p,_,rfl,ag⟩))))
theorem AB {Y:St}:rg bV (gY (tCs [.str "a", .non])) Y:=λH Q q=>fm pI (by decide) λp np=>q _ _ (aq.new np) (.inr ⟨p,_,rfl,ag,.inr (.inr ⟨by decide,by decide,λx hx=>by
 rcases List.mem_cons.mp hx with rfl | hx
 ·exact .inl ⟨_,rfl,by decide⟩
 ·rw [List.mem_singleton.mp hx];exact .inr (.inl rfl),.inl (by decide +kernel)⟩)⟩)
theorem yJ {Y:St}{vs:List V} (h:vs.length<=1000):rg bV (gY (aV (gY (tCs vs)) bT)) Y:=λH Q q=>vX (fq (fm pI h λr nr=>⟨by show 1<=sizeLine;decide,λp np=>
 q _ _ ((aq.new nr).trans (aq.new np)) (.inr ⟨p,_,rfl,ag,.inr (.inr ⟨Nat.le_refl 1,by show 1<=8;decide,λx hx=>by
  rw [List.mem_singleton.mp hx]
  exact .inr (.inr ⟨r,_,rfl,aq.new np _ _ ag⟩),.inl rfl⟩)⟩)⟩))
theorem yK {Y:St}:rg bV (yX [(tC (.str "a"),tC (.int 1))]) Y:=λH Q q=>by
 intro p np
 refine⟨ag,[(Sum.inr (Str.ofString "a"),.int 1)],rfl,by decide,q _ _ (λb o e=>?_) (.inl (.inr (.inr (.inr ⟨p,_,rfl,ag⟩))))⟩
 rw [aj (al e np),aj (al e np)];exact e
def lW:Sp:=λvs H Q _=>vs=[]/\∀(l:Addr) (xs:List V) (H':Hp),aq H H'->H' l=some (.lst xs)->xs.length=14->(∀x∈xs,bV H' x)->Q (.ref l) H'
theorem scBadKeys:FnScope ["_law_rows_here"] [] (ao jW):=aZ
theorem qL (F:Fun K "_law_bad_keys" "_law_bad_keys" jW f fd)  : FnOk P w K mg base CX0 1 f fd [] lW:=by
 refine F.ok (k:=0) scBadKeys (λvs H Q E h=>?_) (λcdv A outer s H vs Q E hr h=>?_)
 ·obtain⟨rfl,_⟩:=h
  rfl
 ·obtain⟨rfl,q⟩:=h
  refine⟨_,(@ai _ _ _ _ _ (@aF _ _ 0 _ _ _ _ scBadKeys.nd rfl (Or.inl rfl) (@aM _ _ _ _ (@aa _ _ _ _ _ dZ (@aa _ _ _ _ _ ay (@aa _ _ _ _ _ (@wj _ _ _ _ [] rfl) (@aa _ _ _ _ _ (@aM _ _ _ _ af) (@aa _ _ _ _ _ (@sC _ _ _ _ _ (gt ay ah sy) rfl rfl (by decide) (by decide)) (@aa _ _ _ _ _ (@fz _ _ _ (List.map V.str [Str.ofString "a", Str.ofString "b", Str.ofString "a"]) rfl) (@aa _ _ _ _ _ (@fz _ _ _ (List.map V.str [Str.ofString "a", Str.ofString "b", Str.ofString "c", Str.ofString "d", Str.ofString "e", Str.ofString "f", Str.ofString "g", Str.ofString "h", Str.ofString "i"]) rfl) (@aa _ _ _ _ _ (@fz _ _ _ (List.map V.str [Str.ofString "A"]) rfl) (@aa _ _ _ _ _ (@fz _ _ _ (List.map V.str [Str.ofString ""]) rfl) af rfl) rfl) rfl) rfl) rfl) rfl) rfl) rfl) rfl)) (by rfl) (by first | exact .inl rfl | exact .inr rfl))
   (@am _ _ _ (@aB _ _ _ _ (@aD _ _ _ _ _ _ _ _ dM (pv 0) (@aM _ _ _ _ (@aa _ _ _ _ _ (@fz _ _ _ (List.map V.str [Str.ofString "abcdefghi"]) rfl) (@aa _ _ _ _ _ (@fz _ _ _ (List.map V.str [Str.ofString "a1"]) rfl) (@aa _ _ _ _ _ (@fz _ _ _ [V.str "a", V.non] rfl) (@aa _ _ _ _ _ (@wj _ _ _ _ [V.str "a", V.str "b"] rfl) (@aa _ _ _ _ _ (@aM _ _ _ _ (@aa _ _ _ _ _ (@fz _ _ _ [V.str "a"] rfl) af rfl)) af rfl) rfl) rfl) rfl) rfl)))))),?_⟩
  refine au (aK (sm (Pr:=bV) (n:=9) dm (cA dm (λH Q q=>q _ H aq.refl (.inl (.inl rfl))) (cA dm (λH Q q=>q _ H aq.refl (.inl (.inr (.inl ⟨_,rfl⟩)))) (cA dm (xc (by decide)) (cA dm AC (cA dm yK (cA dm (gX (ks:=[Str.ofString "a", Str.ofString "b", Str.ofString "a"]) (by decide +kernel) (by decide) (by decide +kernel)) (cA dm (gX (ks:=[Str.ofString "a", Str.ofString "b", Str.ofString "c", Str.ofString "d", Str.ofString "e", Str.ofString "f", Str.ofString "g", Str.ofString "h", Str.ofString "i"]) (by decide +kernel) (by decide) (by decide +kernel)) (cA dm (gX (ks:=[Str.ofString "A"]) (by decide +kernel) (by decide) (by decide +kernel)) (cA dm (gX (ks:=[Str.ofString ""]) (by decide +kernel) (by decide) (by decide +kernel)) xf))))))))) (by decide) λl0 vs H0 nl0 g0 e0 k0 h0=>?_))
  dsimp only [aN]
  refine bj (jY ⟨_,rfl,sm (Pr:=bV) (n:=5) dm (cA dm (gX (ks:=[Str.ofString "abcdefghi"]) (by decide +kernel) (by decide) (by decide +kernel)) (cA dm (gX (ks:=[Str.ofString "a1"]) (by decide +kernel) (by decide) (by decide +kernel)) (cA dm AB (cA dm (xc (by decide)) (cA dm (yJ (by decide)) xf))))) (by decide) λl1 us H1 nl1 g1 e1 k1 h1=>?_⟩)
  refine⟨l0,l1,vs,us,rfl,rfl,g1 _ _ e0,e1,by rw [k0,k1];decide,λp np=>q p _ _ (g0.trans (g1.trans (aq.new np))) ag (by rw [List.length_append,k0,k1]) λx hx=>?_⟩
  exact(List.mem_append.mp hx).elim (λh=>dm _ _ _ (g1.trans (aq.new np)) (h0 x h)) λh=>dm _ _ _ (aq.new np) (h1 x h)
theorem ie {H:Hp}{lo hi i:Int} (h:i < lo):cy H lo hi (.int i):=.inr ⟨i,rfl,by rw [decide_eq_false (by omega),Bool.false_and]⟩
theorem iZ {H:Hp}{lo hi i:Int} (h:hi < i):cy H lo hi (.int i):=.inr ⟨i,rfl,by rw [decide_eq_false (show ¬i<=hi by omega),Bool.and_false]⟩
theorem uS:(10:Int) ^ (20:Int).toNat=100000000000000000000:=by decide +kernel
theorem rB:(10:Nat) ^ 30=1000000000000000000000000000000:=by decide +kernel
theorem AG {H:Hp}{a:Addr} (ha:H a=some (.lst [.int 0])){n:Int} (h0:0<=n) (h1:n < 9):∃v d,atI [V.int (-1),V.int 400,V.int (400+10 ^ (20:Int).toNat),V.int (0 - 10 ^ (20:Int).toNat),V.bl true,V.bl false,V.non,V.str "0", V.ref a] n=some v/\ShN H v d/\∀i,0<=i->cy H i 399 v:=by
 have z:=uS
 have y:=rB
 rcases (show n=0\/n=1\/n=2\/n=3\/n=4\/n=5\/n=6\/n=7\/n=8 by omega) with rfl | rfl | rfl | rfl | rfl | rfl | rfl | rfl | rfl
 ·exact⟨_,_,rfl,cn (by decide +kernel),λi hi=>ie (by omega)⟩
 ·exact⟨_,_,rfl,cn (by decide +kernel),λi hi=>iZ (by omega)⟩
 ·exact⟨_,_,rfl,cn (by rw [z];decide +kernel),λi hi=>iZ (by rw [z];decide)⟩
 ·exact⟨_,_,rfl,cn (by rw [z];decide +kernel),λi hi=>ie (by rw [z];omega)⟩
 ·exact⟨_,_,rfl,jP,λi hi=>.inl (.inr (.inl ⟨_,rfl⟩))⟩
 ·exact⟨_,_,rfl,jP,λi hi=>.inl (.inr (.inl ⟨_,rfl⟩))⟩
 ·exact⟨_,_,rfl,iE,λi hi=>.inl (.inl rfl)⟩
 ·exact⟨_,_,rfl,gZ (.flat (.str _)) (by decide +kernel),λi hi=>.inl (.inr (.inr (.inl ⟨_,rfl⟩)))⟩
 ·exact⟨_,_,rfl,gZ (.lst ha (.cons (.int 0) .nil)) (by decide +kernel),λi hi=>.inl (.inr (.inr (.inr (.inl ⟨_,_,rfl,ha⟩))))⟩
theorem Ar {H:Hp}{a t:Addr} (ha:H a=some (.lst [.int 0])) (ht:H t=some (.tup [.int 0])){n m:Int} (h0:0<=n) (h1:n < 8) (m0 : -1<=m) (m1:m<=100):∃v d,atI [V.int (-1),V.int (m+1),V.int (m+10 ^ (20:Int).toNat),V.int (0 - 10 ^ (20:Int).toNat),V.bl true,V.str "0", V.ref a,V.ref t] n=some v/\ShN H v d/\cy H 0 m v/\v≠.non:=by
 have z:=uS
 have y:=rB
 rcases (show n=0\/n=1\/n=2\/n=3\/n=4\/n=5\/n=6\/n=7 by omega) with rfl | rfl | rfl | rfl | rfl | rfl | rfl | rfl
 ·exact⟨_,_,rfl,cn (by decide +kernel),ie (by omega),nofun⟩
 ·exact⟨_,_,rfl,cn (by rw [y];omega),iZ (by omega),nofun⟩
 ·exact⟨_,_,rfl,cn (by rw [y,z];omega),iZ (by rw [z];omega),nofun⟩
 ·exact⟨_,_,rfl,cn (by rw [z];decide +kernel),ie (by rw [z];omega),nofun⟩
 ·exact⟨_,_,rfl,jP,.inl (.inr (.inl ⟨_,rfl⟩)),nofun⟩
 ·exact⟨_,_,rfl,gZ (.flat (.str _)) (by decide +kernel),.inl (.inr (.inr (.inl ⟨_,rfl⟩))),nofun⟩
 ·exact⟨_,_,rfl,gZ (.lst ha (.cons (.int 0) .nil)) (by decide +kernel),.inl (.inr (.inr (.inr (.inl ⟨_,_,rfl,ha⟩)))),nofun⟩
 ·exact⟨_,_,rfl,gZ (.tup ht (.cons (.int 0) .nil)) (by decide +kernel),.inl (.inr (.inr (.inr (.inr ⟨_,_,rfl,ht⟩)))),nofun⟩
inductive oW (vs:List V) (H:Hp) (Q:VK) (E:XK):Prop
 | mk (c k:Int) (h1:vs=[.int c,.int k]) (h2:0<=k) (h3:k<=1000) (h4:∀v d H',aq H H'->ShN H' v d->(∀i,0<=i->cy H' i 399 v)->Q v H')
inductive oV (vs:List V) (H:Hp) (Q:VK) (E:XK):Prop
 | mk (c k m:Int) (h1:vs=[.int c,.int k,.int m]) (h2:0<=k) (h3:k<=1000) (h4 : -1<=m) (h5:m<=100) (h6:∀v d H',aq H H'->ShN H' v d->cy H' 0 m v->v≠.non->Q v H')
theorem vG:FnScope ["_law_cell_here", "_law_k"] ["_law_cell_here", "_law_k"] (ao nX):=aZ
theorem u9 (F:Fun K "_law_bad_day" "_law_bad_day" nX f fd) (CD:Ab1 P w K mg base f1 fd1):FnOk P w K mg base CX0 3 f fd ["_law_cell_here", "_law_k"] oW:=by
 refine okF F vG λcdv A outer s H vs Q E hr h=>?_
 ·obtain⟨c,k,rfl,k0,k1,q⟩:=h
  refine⟨_,(am (aB (aH aR (aM (aa (hV eO ah) (aa ah (aa (aD bL ah (aD cR ah ah)) (aa (aD cJ ah (aD cR ah ah)) (aa da (aa da (aa dZ (aa ay (aa (aM (aa ah af)) af)))))))))) (aW CD hr (aa (pv 0) (aa (pv 1) (aa ah af)))) (λ_ _=>rfl)))),?_⟩
  refine bj (jY ⟨1,rfl,10,20,rfl,rfl,⟨by decide,by decide,by decide⟩,_,_,rfl,rfl,10,20,rfl,rfl,⟨by decide,by decide,by decide⟩,_,_,rfl,rfl,by show 1<=sizeLine;decide,λa na=>⟨by show 9<=sizeLine;decide,λl nl=>?_⟩⟩)
  refine⟨_,rfl,_,rfl,c,k,9,rfl,k0,k1,by decide,λn n0 n1=>?_⟩
  have g:=(aq.new na).trans (aq.new nl (o:=.lst [V.int (-1),V.int 400,V.int (400+10 ^ (20:Int).toNat),V.int (0 - 10 ^ (20:Int).toNat),V.bl true,V.bl false,V.non,V.str "0", V.ref a]))
  have ha:=aq.new nl (o:=.lst [V.int (-1),V.int 400,V.int (400+10 ^ (20:Int).toNat),V.int (0 - 10 ^ (20:Int).toNat),V.bl true,V.bl false,V.non,V.str "0", V.ref a]) a _ ag
  obtain⟨v,d,ev,sv,bv⟩:=AG ha n0 n1
  exact⟨l,_,n,v,rfl,rfl,SqL.of ag,ev,q v d _ g sv bv⟩
theorem vF:FnScope ["_law_cell_here", "_law_k", "_law_most"] ["_law_cell_here", "_law_k", "_law_most"] (ao nW):=aZ
theorem u8 (F:Fun K "_law_bad_number" "_law_bad_number" nW f fd) (CD:Ab1 P w K mg base f1 fd1):FnOk P w K mg base CX0 3 f fd ["_law_cell_here", "_law_k", "_law_most"] oV:=by
 refine okF F vF λcdv A outer s H vs Q E hr h=>?_
 ·obtain⟨c,k,m,rfl,k0,k1,m0,m1,q⟩:=h
  refine⟨_,(am (aB (aH aR (aM (aa (hV eO ah) (aa (aD bL (pv 2) ah) (aa (aD bL (pv 2) (aD cR ah ah)) (aa (aD cJ ah (aD cR ah ah)) (aa da (aa ay (aa (aM (aa ah af)) (aa (az (aa ah af)) af))))))))) (aW CD hr (aa (pv 0) (aa (pv 1) (aa ah af)))) (λ_ _=>rfl)))),?_⟩
  refine bj (jY ⟨1,rfl,_,rfl,_,_,rfl,rfl,_,rfl,10,20,rfl,rfl,⟨by decide,by decide,by decide⟩,_,_,rfl,rfl,10,20,rfl,rfl,⟨by decide,by decide,by decide⟩,_,_,rfl,rfl,by show 1<=sizeLine;decide,λa na=>⟨by show 1<=sizeLine;decide,λt nt=>⟨by show 8<=sizeLine;decide,λl nl=>?_⟩⟩⟩)
  refine⟨_,rfl,_,rfl,c,k,8,rfl,k0,k1,by decide,λn n0 n1=>?_⟩
  have g:=(aq.new na).trans ((aq.new nt).trans (aq.new nl (o:=.lst [V.int (-1),V.int (m+1),V.int (m+10 ^ (20:Int).toNat),V.int (0 - 10 ^ (20:Int).toNat),V.bl true,V.str "0", V.ref a,V.ref t])))
  have ha:=aq.new nl (o:=.lst [V.int (-1),V.int (m+1),V.int (m+10 ^ (20:Int).toNat),V.int (0 - 10 ^ (20:Int).toNat),V.bl true,V.str "0", V.ref a,V.ref t]) a _ (aq.new nt a _ ag)
  have ht:=aq.new nl (o:=.lst [V.int (-1),V.int (m+1),V.int (m+10 ^ (20:Int).toNat),V.int (0 - 10 ^ (20:Int).toNat),V.bl true,V.str "0", V.ref a,V.ref t]) t _ ag
  obtain⟨v,d,ev,sv,bv,nv⟩:=Ar ha ht n0 n1 m0 m1
  exact⟨l,_,n,v,rfl,rfl,SqL.of ag,ev,q v d _ g sv bv nv⟩
noncomputable abbrev vJ:Stmt:=top 54
inductive RB (B:Bk) (H:Hp):Nat->List V->V->Prop
 | fk {vk a b c:V}:dN H vk B.ks->RB B H 1 [.str "find", vk,a,b,c] vk
 | fd {k:Str}{v l c:V}:k∈B.ks->cy H 0 399 v->RB B H 2 [.str "find", .str k,v,l,c] v
 | fl {k:Str}{f:Int}{v c:V}:k∈B.ks->0<=f->f<=399->cy H f 399 v->RB B H 2 [.str "find", .str k,.int f,v,c] v
 | fv {k:Str}{f:Int}{v:V}:k∈B.ks->0<=f->f<=399->cy H (-1000000000) 1000000000 v->RB B H 3 [.str "find", .str k,.int f,.int f,v] v
 | wn {v:V}:cy H 0 ((B.fs.length:Int) - 1) v->RB B H 4 [.str "withdraw", v] v
 | gn {v:V}:cy H 0 ((B.fs.length:Int) - 1) v->RB B H 4 [.str "found", v] v
 | dt {v:V}:cy H 1 (B.ds.length:Int) v->RB B H 6 [.str "deed", v] v
 | sk {w:Str}{vk a b:V}:(w=Str.ofString "speaks"\/w=Str.ofString "value")->dN H vk B.ks->RB B H 1 [.str w,vk,a,b] vk
 | sd {w k:Str}{v b:V}:(w=Str.ofString "speaks"\/w=Str.ofString "value")->k∈B.ks->cy H 0 399 v->RB B H 2 [.str w,.str k,v,b] v
 | st {w k:Str}{f:Int}{v:V}:(w=Str.ofString "speaks"\/w=Str.ofString "value")->k∈B.ks->0<=f->f<=399->v≠.non->cy H 0 (B.ds.length:Int) v->RB B H 6 [.str w,.str k,.int f,v] v
 | tk {vk b:V}:dN H vk B.ks->RB B H 1 [.str "table", vk,b] vk
 | tt {k:Str}{v:V}:k∈B.ks->v≠.non->cy H 0 (B.ds.length:Int) v->RB B H 6 [.str "table", .str k,v] v
 | go {n:Nat}{y:V}:n < B.fs.length->valV B.gs (Sum.inl (n:Int))=some y->RB B H 5 [.str "withdraw", .int (n:Int)] (.int (n:Int))
theorem gT {H H':Hp}{x:V}{ks:List Str} (h:dN H x ks) (g:aq H H'):dN H' x ks:=by
 rcases h with h | ⟨r,e,h⟩
 ·exact .inl h
 ·exact .inr ⟨r,e,h.imp (λ⟨xs,h⟩=>⟨xs,g _ _ h⟩) λ⟨xs,h⟩=>⟨xs,g _ _ h⟩⟩
theorem RB.grow {B:Bk}{H H':Hp}{i:Nat}{ws:List V}{v:V} (h:RB B H i ws v) (g:aq H H'):RB B H' i ws v:=by
 cases h with
 | fk a=>exact .fk (gT a g)
 | fd a b=>exact .fd a (b.grow g)
 | fl a b c d=>exact .fl a b c (d.grow g)
 | fv a b c d=>exact .fv a b c (d.grow g)
 | wn a=>exact .wn (a.grow g)
 | gn a=>exact .gn (a.grow g)
 | dt a=>exact .dt (a.grow g)
 | sk a b=>exact .sk a (gT b g)
 | sd a b c=>exact .sd a b (c.grow g)
 | st a b c d e f=>exact .st a b c d e (f.grow g)
 | tk a=>exact .tk (gT a g)
 | tt a b c=>exact .tt a b (c.grow g)
 | go a b=>exact .go a b
theorem ya {B:Bk}{H:Hp}{i:Nat}{ws:List V}{v:V}{C p r c0 c1 c2 c3 c4 c5 c6 c7 c8 c9 c10 c11 c12:Addr}{ba:BA}{F:Addr->Prop} (h:RB B H i ws v) (hb:BkAt C H p ba F B) (hr:H r=some (.tup ws)) :
  ∃D f,[c0,c1,c2,c3,c4,c5,c6,c7,c8,c9,c10,c11,c12][i]?=some D/\BE i f/\∀Q E,b8 D [(f,v)] H E->gL C c0 c1 c2 c3 c4 c5 c6 c7 [.ref p,.ref r] H Q E:=by
 have s:∀{w:Str}{vk vd vt:V}{D:Addr}{f:Str}{v:V},(w=Str.ofString "speaks"\/w=Str.ofString "value")->H r=some (.tup [.str w,vk,vd,vt])->(∀Q E,b8 D [(f,v)] H E->cT C c1 c2 c6 [.ref p,vk,vd,vt] H Q E)->
   ∀Q E,b8 D [(f,v)] H E->gL C c0 c1 c2 c3 c4 c5 c6 c7 [.ref p,.ref r] H Q E:=λhw hr h Q E q=>by
  rcases hw with rfl | rfl
  ·exact⟨_,r,_,rfl,hr,.speaks _ _ _ rfl (h Q E q)⟩
  ·exact⟨_,r,_,rfl,hr,.value _ _ _ rfl (h Q E q)⟩
 cases h with
 | fk a=>exact⟨c1,_,rfl,.inl ⟨rfl,rfl⟩,λQ E q=>⟨_,r,_,rfl,hr,.find _ _ _ _ rfl ⟨p,ba,F,B,_,_,_,_,rfl,hb,.inl ⟨a,q⟩⟩⟩⟩
 | fd a b=>exact⟨c2,_,rfl,.inr (.inl ⟨rfl,rfl⟩),λQ E q=>⟨_,r,_,rfl,hr,.find _ _ _ _ rfl ⟨p,ba,F,B,_,_,_,_,rfl,hb,.inr ⟨_,rfl,a,.inl ⟨_,_,rfl,.inl ⟨b,q⟩⟩⟩⟩⟩⟩
 | fl a b c d=>exact⟨c2,_,rfl,.inr (.inl ⟨rfl,rfl⟩),λQ E q=>⟨_,r,_,rfl,hr,.find _ _ _ _ rfl ⟨p,ba,F,B,_,_,_,_,rfl,hb,.inr ⟨_,rfl,a,.inl ⟨_,_,rfl,.inr ⟨_,rfl,b,c,d,q⟩⟩⟩⟩⟩⟩
 | fv a b c d=>exact⟨c3,_,rfl,.inr (.inr (.inl ⟨rfl,rfl⟩)),λQ E q=>⟨_,r,_,rfl,hr,.find _ _ _ _ rfl ⟨p,ba,F,B,_,_,_,_,rfl,hb,.inr ⟨_,rfl,a,.inr ⟨_,_,rfl,rfl,b,Int.le_refl _,by omega,.inl ⟨d,q⟩⟩⟩⟩⟩⟩
 | wn a=>exact⟨c4,_,rfl,.inr (.inr (.inr (.inl ⟨rfl,rfl⟩))),λQ E q=>⟨_,r,_,rfl,hr,.withd _ rfl ⟨p,ba,F,B,_,rfl,hb,.inl ⟨a,q⟩⟩⟩⟩
 | gn a=>exact⟨c4,_,rfl,.inr (.inr (.inr (.inl ⟨rfl,rfl⟩))),λQ E q=>⟨_,r,_,rfl,hr,.found _ rfl ⟨p,ba,F,B,_,rfl,hb,a,q⟩⟩⟩
 | dt a=>exact⟨c6,_,rfl,.inr (.inr (.inr (.inr (.inr ⟨rfl,rfl⟩)))),λQ E q=>⟨_,r,_,rfl,hr,.deed _ rfl ⟨p,ba,F,B,_,rfl,hb,a,q⟩⟩⟩
 | sk w a=>exact⟨c1,_,rfl,.inl ⟨rfl,rfl⟩,s w hr λQ E q=>⟨p,ba,F,B,_,_,_,rfl,hb,.inl ⟨a,q⟩⟩⟩
 | sd w a b=>exact⟨c2,_,rfl,.inr (.inl ⟨rfl,rfl⟩),s w hr λQ E q=>⟨p,ba,F,B,_,_,_,rfl,hb,.inr ⟨_,rfl,a,.inl ⟨b,q⟩⟩⟩⟩
 | st w a b c d e=>exact⟨c6,_,rfl,.inr (.inr (.inr (.inr (.inr ⟨rfl,rfl⟩)))),s w hr λQ E q=>⟨p,ba,F,B,_,_,_,rfl,hb,.inr ⟨_,rfl,a,.inr ⟨_,rfl,b,c,d,e,q⟩⟩⟩⟩
 | tk a=>exact⟨c1,_,rfl,.inl ⟨rfl,rfl⟩,λQ E q=>⟨_,r,_,rfl,hr,.table _ _ rfl ⟨p,ba,F,B,_,_,rfl,hb,.inl ⟨a,q⟩⟩⟩⟩
 | tt a b c=>exact⟨c6,_,rfl,.inr (.inr (.inr (.inr (.inr ⟨rfl,rfl⟩)))),λQ E q=>⟨_,r,_,rfl,hr,.table _ _ rfl ⟨p,ba,F,B,_,_,rfl,hb,.inr ⟨_,rfl,a,b,c,q⟩⟩⟩⟩
 | go a b=>exact⟨c5,_,rfl,.inr (.inr (.inr (.inr (.inl ⟨rfl,rfl⟩)))),λQ E q=>⟨_,r,_,rfl,hr,.withd _ rfl ⟨p,ba,F,B,_,rfl,hb,.inr ⟨_,rfl,a,.inl ⟨_,b,q⟩⟩⟩⟩⟩
inductive RowT (B:Bk) (H0 H:Hp) (t:Addr):Prop
 | mk (r d:Addr) (ws:List V) (i:Nat) (x:Str) (v:V) (dv:PyData) (h1:H t=some (.tup [.ref r,.ref d])) (h2:H r=some (.tup ws)) (h3:H d=some (.tup [.str x,v])) (h4:gE[i]?=some x) (h5:ShN H0 v dv) (h6:RB B H0 i ws v)
theorem RowT.keep {B:Bk}{H0 H H':Hp}{t:Addr} (h:RowT B H0 H t) (k:∀b xs,H b=some (.tup xs)->H' b=some (.tup xs)):RowT B H0 H' t:=by
 obtain⟨r,d,ws,i,x,v,dv,e1,e2,e3,h1,h2,h3⟩:=h
 exact⟨r,d,ws,i,x,v,dv,k _ _ e1,k _ _ e2,k _ _ e3,h1,h2,h3⟩
theorem RowT.rebase {B:Bk}{H0 H1 H:Hp}{t:Addr} (h:RowT B H0 H t) (g:aq H0 H1):RowT B H1 H t:=by
 obtain⟨r,d,ws,i,x,v,dv,e1,e2,e3,h1,h2,h3⟩:=h
 exact⟨r,d,ws,i,x,v,dv,e1,e2,e3,h1,h2.keep g,h3.grow g⟩
def xF (B:Bk) (H0:Hp) (te:TE) (Y:St):Prop:=∀(H:Hp) (Q:VK),(∀t H',aq H H'->RowT B H0 H' t->Q (.ref t) H')->te Y H Q
theorem cS {B:Bk}{H0:Hp}{Y:St}{ta tb:TA}{ws:List V}{i:Nat}{x:Str}{v:V}{dv:PyData} (ha:∀H,ji ta Y H ws) (hb:∀H,ji tb Y H [.str x,v]) (la:ws.length<=1000) (hx:gE[i]?=some x) (sv:ShN H0 v dv) (rb:RB B H0 i ws v) :
  xF B H0 (hZ (aV (hZ ta) (aV (hZ tb) bT))) Y:=λH Q q=>zZ ha hb la (by show 2<=1000;decide) λt r d H' g' e1 e2 e3=>q t H' g' ⟨r,d,ws,i,x,v,dv,e1,e2,e3,hx,sv,rb⟩
inductive RowsN (B:Bk) (H0 H:Hp) (l n:Nat):Prop
 | mk (ts:List Addr) (h1:H l=some (.lst (ts.map V.ref))) (h2:ts.length<=n) (h3:∀t∈ts,RowT B H0 H t)
theorem RowsN.grow {B:Bk}{H0 H H':Hp}{l n:Nat} (h:RowsN B H0 H l n) (g:aq H H'):RowsN B H0 H' l n:=by
 obtain⟨ts,e,k,h⟩:=h
 exact⟨ts,g _ _ e,k,λt ht=>(h t ht).keep λb xs e=>g _ _ e⟩
section
variable {B:Bk}{H0 H:Hp}{Y:St}{Q:VK}
theorem Bu {te:TE} (h:xF B H0 te Y) (q:∀l H',aq H H'->H l=none->RowsN B H0 H' l 1->Q (.ref l) H'):gY (aV te bT) Y H Q:=
 h _ _ λt H1 g1 r1=>⟨by show 1<=sizeLine;decide,λl nl=>q l _ (g1.trans (aq.new nl)) (g1.free nl) ⟨[t],ag,Nat.le_refl _,λt' ht=>by rw [List.mem_singleton.mp ht];exact r1.keep λb xs e=>aq.new nl _ _ e⟩⟩
theorem mh {te tf:TE} (h:xF B H0 te Y) (k:xF B H0 tf Y) (q:∀l H',aq H H'->H l=none->RowsN B H0 H' l 2->Q (.ref l) H'):gY (aV te (aV tf bT)) Y H Q:=
 h _ _ λt H1 g1 r1=>k _ _ λu H2 g2 r2=>⟨by show 2<=sizeLine;decide,λl nl=>q l _ (g1.trans (g2.trans (aq.new nl))) (g1.free (g2.free nl)) ⟨[t,u],ag,Nat.le_refl _,λt' ht=>by
  rcases List.mem_cons.mp ht with rfl | ht
  ·exact(r1.keep λb xs e=>g2 _ _ e).keep λb xs e=>aq.new nl _ _ e
  ·rw [List.mem_singleton.mp ht];exact r2.keep λb xs e=>aq.new nl _ _ e⟩⟩
theorem gO {j l n m:Nat}{tl:TE} (hj:Y[j]?=some (some (.ref l))) (h:RowsN B H0 H l n) (hl:∀Q:VK,(∀l1 H',aq H H'->H l1=none->RowsN B H0 H' l1 m->Q (.ref l1) H')->tl Y H Q) (hn:n+m<=1000)
  (q:∀p H',aq H H'->H p=none->RowsN B H0 H' p (n+m)->Q (.ref p) H'):tOp A6 (cr j) tl Y H Q:=
 jY ⟨_,hj,hl _ λl1 H1 g1 nl1 r1=>by
  obtain⟨ts,e,k,h⟩:=h.grow g1
  obtain⟨us,e',k',h'⟩:=r1
  refine⟨l,l1,_,_,rfl,rfl,e,e',by rw [List.length_map,List.length_map];exact Nat.le_trans (by omega) (show 1000<=sizeLine by decide),λp np=>q p _ (g1.trans (aq.new np)) (g1.free np) ⟨ts++us,by rw [List.map_append];exact ag,by rw [List.length_append];omega,λt ht=>?_⟩⟩
  exact((List.mem_append.mp ht).elim (h t) (h' t)).keep λb xs e=>aq.new np _ _ e⟩
theorem sr {K:PySem.W.Frag}{j l n:Nat}{te:TE} (hj:Y[j]?=some (some (.ref l))) (h:RowsN B H0 H l n) (hr:xF B H0 te Y) (hn:n < 1000) (q:∀H',(∀b o,H b=some o->b≠l->H' b=some o)->RowsN B H0 H' l (n+1)->Q .non H'):tBM K "list" sw (cr j) (aV te bT) Y H Q:=by
 have h':=h
 obtain⟨ts0,e0,_⟩:=h'
 refine kb ⟨_,hj,.inl ⟨rfl,_,SqL.of e0⟩,hr _ _ λt H1 g1 r1=>?_⟩
 obtain⟨ts,e,k,h⟩:=h.grow g1
 have tk:∀b xs,H1 b=some (.tup xs)->upd H1 l (.lst (ts.map V.ref++[.ref t])) b=some (.tup xs):=λb xs eb=>by rw [aj (aS eb e (by intro z;cases z))];exact eb
 refine⟨l,_,_,rfl,rfl,e,by rw [List.length_map];exact Nat.lt_of_le_of_lt k (Nat.lt_of_lt_of_le hn (by decide)),q _ (λb o eb nb=>by rw [aj nb];exact g1 _ _ eb) ⟨ts++[t],by rw [List.map_append];exact ag,by rw [List.length_append];exact Nat.succ_le_succ k,λu hu=>?_⟩⟩
 rcases List.mem_append.mp hu with hu | hu
 ·exact(h u hu).keep tk
 ·rw [List.mem_singleton.mp hu];exact r1.keep tk
end
theorem Bt {t:TS}{D:Ends}{H:Hp}{Y Y':St} (e:Y=Y') (h:t D Y' H):t D Y H:=by
 rw [e];exact h
theorem sO {k:Str} (h:KeyOk k):∀c∈k.cps.toList,97<=c/\c<=122:=by
 have hh:=h.has
 unfold ip at hh
 rw [Bool.and_eq_true,Bool.and_eq_true]at hh
 have h3:=List.all_eq_true.mp hh.2.2
 have:∀c∈fG.cps.toList,97<=c/\c<=122:=by decide +kernel
 intro c hc
 exact this c (of_decide_eq_true (h3 c hc))
theorem dQ {H:Hp}{x:V}{ks:List Str} (f:dl x=true) (h:∀k∈ks,eqV (.str k) x=false):dN H x ks:=by
 refine .inl ⟨f,?_⟩
 unfold inV
 rw [List.any_map,List.any_eq_false]
 intro k hk
 show ¬eqV (.str k) x=true
 rw [h k hk]
 decide
theorem o9 {k:Str} (h:KeyOk k){x:Str} (hx:(ip x fG 8 && decide (x.length<=7))=false):eqV (.str k) (.str x)=false:=by
 show (k == x)=false
 refine beq_eq_false_iff_ne.mpr λz=>?_
 rw [<- z,h.has,decide_eq_true h.l7]at hx
 cases hx
inductive PickV (H:Hp) (xs:List V) (n:Int) (P:V->Prop):Prop
 | mk (v:V) (d:PyData) (h1:atI xs n=some v) (h2:ShN H v d) (h3:P v)
theorem Aq {H:Hp}{a t:Addr}{k:Str}{ks:List Str} (ha:H a=some (.lst [.str k])) (ht:H t=some (.tup [.str k])) (hk:KeyOk k) (hs:∀k∈ks,KeyOk k){n:Int} (h0:0<=n) (h1:n < 8):PickV H [V.non,V.int 5,V.str "", V.str "A", V.str "zzzzzzzz", V.ref a,V.ref t,V.bl true] n (λv=>dN H v ks):=by
 have hl:=hk.l7
 rcases (show n=0\/n=1\/n=2\/n=3\/n=4\/n=5\/n=6\/n=7 by omega) with rfl | rfl | rfl | rfl | rfl | rfl | rfl | rfl
 ·exact⟨_,_,rfl,iE,dQ rfl λk _=>rfl⟩
 ·exact⟨_,_,rfl,cn (by decide +kernel),dQ rfl λk _=>rfl⟩
 ·exact⟨_,_,rfl,gZ (.flat (.str _)) (by decide +kernel),dQ rfl λk hk=>o9 (hs k hk) (by decide +kernel)⟩
 ·exact⟨_,_,rfl,gZ (.flat (.str _)) (by decide +kernel),dQ rfl λk hk=>o9 (hs k hk) (by decide +kernel)⟩
 ·exact⟨_,_,rfl,gZ (.flat (.str _)) (by decide +kernel),dQ rfl λk hk=>o9 (hs k hk) (by decide +kernel)⟩
 ·exact⟨_,_,rfl,zF ha (by omega) (sO hk),.inr ⟨a,rfl,.inl ⟨_,ha⟩⟩⟩
 ·exact⟨_,_,rfl,zE ht (by omega) (sO hk),.inr ⟨t,rfl,.inr ⟨_,ht⟩⟩⟩
 ·exact⟨_,_,rfl,jP,dQ rfl λk _=>rfl⟩
theorem B0:(10:Int) ^ (9:Int).toNat=1000000000:=by decide +kernel
theorem uR {H:Hp}{a:Addr} (ha:H a=some (.lst [.int 5])){n:Int} (h0:0<=n) (h1:n < 7):PickV H [V.int (10 ^ (9:Int).toNat+1),V.int (0 - 10 ^ (9:Int).toNat - 1),V.bl true,V.non,V.str "5", V.ref a,V.int (10 ^ (20:Int).toNat)] n (cy H (-1000000000) 1000000000):=by
 have z:=B0
 have z2:=uS
 rcases (show n=0\/n=1\/n=2\/n=3\/n=4\/n=5\/n=6 by omega) with rfl | rfl | rfl | rfl | rfl | rfl | rfl
 ·exact⟨_,_,rfl,cn (by rw [z];decide +kernel),iZ (by rw [z];decide)⟩
 ·exact⟨_,_,rfl,cn (by rw [z];decide +kernel),ie (by rw [z];decide)⟩
 ·exact⟨_,_,rfl,jP,.inl (.inr (.inl ⟨_,rfl⟩))⟩
 ·exact⟨_,_,rfl,iE,.inl (.inl rfl)⟩
 ·exact⟨_,_,rfl,gZ (.flat (.str _)) (by decide +kernel),.inl (.inr (.inr (.inl ⟨_,rfl⟩)))⟩
 ·exact⟨_,_,rfl,gZ (.lst ha (.cons (.int 5) .nil)) (by decide +kernel),.inl (.inr (.inr (.inr (.inl ⟨_,_,rfl,ha⟩))))⟩
 ·exact⟨_,_,rfl,cn (by rw [z2];decide +kernel),iZ (by rw [z2];decide)⟩
theorem yw {H:Hp}{lo hi:Int}{v:V}{d:PyData} (sv:ShN H v d) (hv:cy H lo hi v) (b:Bool):PickV H [V.non,v] (if b=true then 1 else 0) (cy H lo hi):=by
 cases b with
 | false=>exact⟨_,_,rfl,iE,.inl (.inl rfl)⟩
 | true=>exact⟨_,_,rfl,sv,hv⟩
theorem none_of {H:Hp}{hi:Int}{v:V}{d:PyData} (sv:ShN H v d) (hv:cy H 0 hi v){n:Int} (h0:0<=n) (h1:n < 3):PickV H [V.int 0,V.non,v] n (cy H 1 hi):=by
 rcases (show n=0\/n=1\/n=2 by omega) with rfl | rfl | rfl
 ·exact⟨_,_,rfl,cn (by decide +kernel),ie (by decide)⟩
 ·exact⟨_,_,rfl,iE,.inl (.inl rfl)⟩
 ·refine⟨_,_,rfl,sv,hv.imp id λ⟨i,e,h⟩=>⟨i,e,?_⟩⟩
  rw [Bool.and_eq_false_iff]at h ⊢
  exact h.imp (λh=>decide_eq_false (by have:=of_decide_eq_false h;omega)) id
theorem xL {kvs:List (Key × V)}{p:Key × V} (h:p∈kvs):∃y,valV kvs p.1=some y:=by
 cases e:valV kvs p.1 with
 | some y=>exact⟨y,rfl⟩
 | none=>exact absurd (List.mem_map_of_mem (f:=(·.1)) h) (uN e)
inductive RI (B:Bk) (s:SA) (c:Int) (k:Str) (vo vd:V) (f:Int) (vt vn vu vz:V) (H0:Hp) (lw:Addr) (xs:List V) (g:Nat->Nat) (i:Nat) (Y:St) (H9:Hp):Prop
 | mk (l:Addr) (w11 w12:Option V) (h1:Y=[some (.ref s.d),some (.int c),some (.str k),some vo,some vd,some (.int f),some vt,some vn,some vu,some vz,some (.ref l),w11,w12]) (h2:aq H0 H9) (h3:H9 lw=some (.lst xs)) (h4:l≠lw) (h5:H0 l=none) (h6:RowsN B H0 H9 l (g i))
inductive vc (vs:List V) (H:Hp) (Q:VK) (E:XK):Prop
 | mk (s:SA) (B:Bk) (c:Int) (h1:vs=[.ref s.d,.int c]) (h2:StAt H s B) (h3:B.Ok) (h4:(∀k∈B.ks,KeyOk k)) (h5:∀(l:Addr) (H':Hp),aq H H'->RowsN B H' H' l 900->Q (.ref l) H')
theorem cx:FnScope ["_law_state_here", "_law_cell_here", "_law_key", "_law_odd", "_law_day", "_law_first", "_law_thing", "_law_number", "_law_turn", "_law_none", "_law_rows_here", "_law_word", "_law_gone"] ["_law_state_here", "_law_cell_here"] (ao vJ):=aZ
theorem yh (F:Fun K "_law_rows" "_law_rows" vJ f fd) (N:Free mg) (CD:Ab1 P w K mg base f1 fd1) (CY:Cal P w K mg base "_law_bad_day" 3 ["_law_cell_here", "_law_k"] oW f2 fd2) (CN:Cal P w K mg base "_law_bad_number" 3 ["_law_cell_here", "_law_k", "_law_most"] oV f3 fd3):FnOk P w K mg base CX0 4 f fd ["_law_state_here", "_law_cell_here"] vc:=by
 refine okF F cx λcdv A outer s H vs Q E hr h=>?_
 ·obtain⟨s,B,c,rfl,h,O,KO,q⟩:=h
  have hu:=eB hr
  refine⟨_,(ai (aF (i:=2) cx.nd rfl (Or.inl rfl) (aH aR (bJ hu (pv 0) ay (λ_ _=>rfl)) (aW CD hr (aa (pv 1) (aa ah (aa (aA aG (by rfl) N.len PySem.boot_len (aa (bJ hu (pv 0) ay (λ_ _=>rfl)) af)) af)))) (λ_ _=>rfl)))
   (@ai _ _ _ _ _ (@aF (i:=3) _ _ _ _ _ _ cx.nd rfl (Or.inl rfl) (@aH _ _ _ _ _ _ _ aR (@aM _ _ _ _ (@aa _ _ _ _ _ dZ (@aa _ _ _ _ _ ah (@aa _ _ _ _ _ ay (@aa _ _ _ _ _ ay (@aa _ _ _ _ _ ay (@aa _ _ _ _ _ (@aM _ _ _ _ (@aa _ _ _ _ _ (pv 2) af rfl)) (@aa _ _ _ _ _ (@az _ _ _ _ _ (@aa _ _ _ _ _ (pv 2) af rfl)) (@aa _ _ _ _ _ da af rfl) rfl) rfl) rfl) rfl) rfl) rfl) rfl)) (aW CD hr (@aa _ _ _ _ _ (pv 1) (@aa _ _ _ _ _ ah (@aa _ _ _ _ _ ah af rfl) rfl) rfl)) (λ_ _=>rfl)) (by rfl) (by first | exact .inl rfl | exact .inr rfl))
   (ai (aF (i:=4) cx.nd rfl (Or.inl rfl) (aW CY hr (aa (pv 1) (aa ah af))))
   (ai (aF (i:=5) cx.nd rfl (Or.inl rfl) (aW CD hr (aa (pv 1) (aa ah (aa ah af)))))
   (@ai _ _ _ _ _ (@aF (i:=6) _ _ _ _ _ _ cx.nd rfl (Or.inl rfl) (@aH _ _ _ _ _ _ _ aR (@aM _ _ _ _ (@aa _ _ _ _ _ (@aD _ _ _ _ _ _ _ _ bL (@aD _ _ _ _ _ _ _ _ cR ah ah) ah) (@aa _ _ _ _ _ (@aD _ _ _ _ _ _ _ _ cJ (@aD _ _ _ _ _ _ _ _ cJ ah (@aD _ _ _ _ _ _ _ _ cR ah ah)) ah) (@aa _ _ _ _ _ da (@aa _ _ _ _ _ dZ (@aa _ _ _ _ _ ay (@aa _ _ _ _ _ (@aM _ _ _ _ (@aa _ _ _ _ _ ah af rfl)) (@aa _ _ _ _ _ (@aD _ _ _ _ _ _ _ _ cR ah ah) af rfl) rfl) rfl) rfl) rfl) rfl) rfl)) (aW CD hr (@aa _ _ _ _ _ (pv 1) (@aa _ _ _ _ _ ah (@aa _ _ _ _ _ ah af rfl) rfl) rfl)) (λ_ _=>rfl)) (by rfl) (by first | exact .inl rfl | exact .inr rfl))
   (@ai _ _ _ _ _ (@aF (i:=7) _ _ _ _ _ _ cx.nd rfl (Or.inl rfl) (@aH _ _ _ _ _ _ _ aR (@aM _ _ _ _ (@aa _ _ _ _ _ dZ (@aa _ _ _ _ _ (aW CN hr (@aa _ _ _ _ _ (pv 1) (@aa _ _ _ _ _ ah (@aa _ _ _ _ _ (@aD _ _ _ _ _ _ _ _ cJ (aA aG (by rfl) N.len PySem.boot_len (@aa _ _ _ _ _ (bJ hu (pv 0) ay (λ_ _=>rfl)) af rfl)) ah) af rfl) rfl) rfl)) af rfl) rfl)) (bU uD (by rfl) N.int PyProof.Rows.Boot.«int» (@aa _ _ _ _ _ (fA wu (aW CD hr (@aa _ _ _ _ _ (pv 1) (@aa _ _ _ _ _ ah (@aa _ _ _ _ _ ah af rfl) rfl) rfl)) ah (b9 _)) af rfl)) (λ_ _=>rfl)) (by rfl) (by first | exact .inl rfl | exact .inr rfl))
   (ai (aF (i:=8) cx.nd rfl (Or.inl rfl) (aW CN hr (aa (pv 1) (aa ah (aa (aA aG (by rfl) N.len PySem.boot_len (aa (bJ hu (pv 0) ay (λ_ _=>rfl)) af)) af)))))
   (@ai _ _ _ _ _ (@aF (i:=9) _ _ _ _ _ _ cx.nd rfl (Or.inl rfl) (@aH _ _ _ _ _ _ _ aR (@aM _ _ _ _ (@aa _ _ _ _ _ ah (@aa _ _ _ _ _ dZ (@aa _ _ _ _ _ (pv 8) af rfl) rfl) rfl)) (aW CD hr (@aa _ _ _ _ _ (pv 1) (@aa _ _ _ _ _ ah (@aa _ _ _ _ _ ah af rfl) rfl) rfl)) (λ_ _=>rfl)) (by rfl) (by first | exact .inl rfl | exact .inr rfl))
   (@ai _ _ _ _ _ (@aF (i:=10) _ _ _ _ _ _ cx.nd rfl (Or.inl rfl) (@aM _ _ _ _ (@aa _ _ _ _ _ (@az _ _ _ _ _ (@aa _ _ _ _ _ (@az _ _ _ _ _ (@aa _ _ _ _ _ ay (@aa _ _ _ _ _ (pv 3) (@aa _ _ _ _ _ (pv 4) (@aa _ _ _ _ _ (pv 4) (@aa _ _ _ _ _ (pv 6) af rfl) rfl) rfl) rfl) rfl)) (@aa _ _ _ _ _ (@az _ _ _ _ _ (@aa _ _ _ _ _ ay (@aa _ _ _ _ _ (pv 3) af rfl) rfl)) af rfl) rfl)) (@aa _ _ _ _ _ (@az _ _ _ _ _ (@aa _ _ _ _ _ (@az _ _ _ _ _ (@aa _ _ _ _ _ ay (@aa _ _ _ _ _ (pv 3) (@aa _ _ _ _ _ (pv 5) (@aa _ _ _ _ _ (pv 5) (@aa _ _ _ _ _ ah af rfl) rfl) rfl) rfl) rfl)) (@aa _ _ _ _ _ (@az _ _ _ _ _ (@aa _ _ _ _ _ ay (@aa _ _ _ _ _ (pv 3) af rfl) rfl)) af rfl) rfl)) af rfl) rfl)) (by rfl) (by first | exact .inl rfl | exact .inr rfl))
   (@ai _ _ _ _ _ (@aF (i:=10) _ _ _ _ _ _ cx.nd rfl (Or.inl rfl) (@aD _ _ _ _ _ _ _ _ dM (pv 10) (@aM _ _ _ _ (@aa _ _ _ _ _ (@az _ _ _ _ _ (@aa _ _ _ _ _ (@az _ _ _ _ _ (@aa _ _ _ _ _ ay (@aa _ _ _ _ _ (pv 2) (@aa _ _ _ _ _ (pv 4) (@aa _ _ _ _ _ ah (@aa _ _ _ _ _ (pv 6) af rfl) rfl) rfl) rfl) rfl)) (@aa _ _ _ _ _ (@az _ _ _ _ _ (@aa _ _ _ _ _ ay (@aa _ _ _ _ _ (pv 4) af rfl) rfl)) af rfl) rfl)) (@aa _ _ _ _ _ (@az _ _ _ _ _ (@aa _ _ _ _ _ (@az _ _ _ _ _ (@aa _ _ _ _ _ ay (@aa _ _ _ _ _ (pv 2) (@aa _ _ _ _ _ (pv 5) (@aa _ _ _ _ _ (pv 4) (@aa _ _ _ _ _ (pv 6) af rfl) rfl) rfl) rfl) rfl)) (@aa _ _ _ _ _ (@az _ _ _ _ _ (@aa _ _ _ _ _ ay (@aa _ _ _ _ _ (pv 4) af rfl) rfl)) af rfl) rfl)) af rfl) rfl))) (by rfl) (by first | exact .inl rfl | exact .inr rfl))
   (@ai _ _ _ _ _ (@aF (i:=10) _ _ _ _ _ _ cx.nd rfl (Or.inl rfl) (@aD _ _ _ _ _ _ _ _ dM (pv 10) (@aM _ _ _ _ (@aa _ _ _ _ _ (@az _ _ _ _ _ (@aa _ _ _ _ _ (@az _ _ _ _ _ (@aa _ _ _ _ _ ay (@aa _ _ _ _ _ (pv 2) (@aa _ _ _ _ _ (pv 5) (@aa _ _ _ _ _ (@aD _ _ _ _ _ _ _ _ cJ (pv 5) ah) (@aa _ _ _ _ _ (pv 6) af rfl) rfl) rfl) rfl) rfl)) (@aa _ _ _ _ _ (@az _ _ _ _ _ (@aa _ _ _ _ _ ay (@aa _ _ _ _ _ (@aD _ _ _ _ _ _ _ _ cJ (pv 5) ah) af rfl) rfl)) af rfl) rfl)) af rfl))) (by rfl) (by first | exact .inl rfl | exact .inr rfl))
   (@ai _ _ _ _ _ (@aF (i:=10) _ _ _ _ _ _ cx.nd rfl (Or.inl rfl) (@aD _ _ _ _ _ _ _ _ dM (pv 10) (@aM _ _ _ _ (@aa _ _ _ _ _ (@az _ _ _ _ _ (@aa _ _ _ _ _ (@az _ _ _ _ _ (@aa _ _ _ _ _ ay (@aa _ _ _ _ _ (pv 2) (@aa _ _ _ _ _ (pv 5) (@aa _ _ _ _ _ (pv 5) (@aa _ _ _ _ _ (pv 6) af rfl) rfl) rfl) rfl) rfl)) (@aa _ _ _ _ _ (@az _ _ _ _ _ (@aa _ _ _ _ _ ay (@aa _ _ _ _ _ (pv 6) af rfl) rfl)) af rfl) rfl)) (@aa _ _ _ _ _ (@az _ _ _ _ _ (@aa _ _ _ _ _ (@az _ _ _ _ _ (@aa _ _ _ _ _ ay (@aa _ _ _ _ _ (pv 7) af rfl) rfl)) (@aa _ _ _ _ _ (@az _ _ _ _ _ (@aa _ _ _ _ _ ay (@aa _ _ _ _ _ (pv 7) af rfl) rfl)) af rfl) rfl)) af rfl) rfl))) (by rfl) (by first | exact .inl rfl | exact .inr rfl))
   (@ai _ _ _ _ _ (@aF (i:=10) _ _ _ _ _ _ cx.nd rfl (Or.inl rfl) (@aD _ _ _ _ _ _ _ _ dM (pv 10) (@aM _ _ _ _ (@aa _ _ _ _ _ (@az _ _ _ _ _ (@aa _ _ _ _ _ (@az _ _ _ _ _ (@aa _ _ _ _ _ ay (@aa _ _ _ _ _ (pv 7) af rfl) rfl)) (@aa _ _ _ _ _ (@az _ _ _ _ _ (@aa _ _ _ _ _ ay (@aa _ _ _ _ _ (pv 7) af rfl) rfl)) af rfl) rfl)) (@aa _ _ _ _ _ (@az _ _ _ _ _ (@aa _ _ _ _ _ (@az _ _ _ _ _ (@aa _ _ _ _ _ ay (@aa _ _ _ _ _ (pv 9) af rfl) rfl)) (@aa _ _ _ _ _ (@az _ _ _ _ _ (@aa _ _ _ _ _ ay (@aa _ _ _ _ _ (pv 9) af rfl) rfl)) af rfl) rfl)) af rfl) rfl))) (by rfl) (by first | exact .inl rfl | exact .inr rfl))
   (ai (dX PassesOwn.never rfl (cc (aM (aa ay (aa ay af)))) (bp (i:=11) cx.nd rfl (Or.inl rfl))
   (@ai _ _ _ _ _ (@aF (i:=10) _ _ _ _ _ _ cx.nd rfl (Or.inl rfl) (@aD _ _ _ _ _ _ _ _ dM (pv 10) (@aM _ _ _ _ (@aa _ _ _ _ _ (@az _ _ _ _ _ (@aa _ _ _ _ _ (@az _ _ _ _ _ (@aa _ _ _ _ _ (pv 11) (@aa _ _ _ _ _ (pv 3) (@aa _ _ _ _ _ (pv 4) (@aa _ _ _ _ _ (pv 8) af rfl) rfl) rfl) rfl)) (@aa _ _ _ _ _ (@az _ _ _ _ _ (@aa _ _ _ _ _ ay (@aa _ _ _ _ _ (pv 3) af rfl) rfl)) af rfl) rfl)) (@aa _ _ _ _ _ (@az _ _ _ _ _ (@aa _ _ _ _ _ (@az _ _ _ _ _ (@aa _ _ _ _ _ (pv 11) (@aa _ _ _ _ _ (pv 2) (@aa _ _ _ _ _ (pv 4) (@aa _ _ _ _ _ (pv 8) af rfl) rfl) rfl) rfl)) (@aa _ _ _ _ _ (@az _ _ _ _ _ (@aa _ _ _ _ _ ay (@aa _ _ _ _ _ (pv 4) af rfl) rfl)) af rfl) rfl)) af rfl) rfl))) (by rfl) (by first | exact .inl rfl | exact .inr rfl))
   (am (aJ (dO PySem.F.plainAttrs_list PySem.F.slot_list_append PySem.F.type_list_append bN (pv 10) (aa (az (aa (az (aa (pv 11) (aa (pv 2) (aa (pv 5) (aa (pv 8) af))))) (aa (az (aa ay (aa (pv 8) af))) af))) af))))))
   (@ai _ _ _ _ _ (@aF (i:=10) _ _ _ _ _ _ cx.nd rfl (Or.inl rfl) (@aD _ _ _ _ _ _ _ _ dM (pv 10) (@aM _ _ _ _ (@aa _ _ _ _ _ (@az _ _ _ _ _ (@aa _ _ _ _ _ (@az _ _ _ _ _ (@aa _ _ _ _ _ ay (@aa _ _ _ _ _ (pv 3) (@aa _ _ _ _ _ (pv 8) af rfl) rfl) rfl)) (@aa _ _ _ _ _ (@az _ _ _ _ _ (@aa _ _ _ _ _ ay (@aa _ _ _ _ _ (pv 3) af rfl) rfl)) af rfl) rfl)) (@aa _ _ _ _ _ (@az _ _ _ _ _ (@aa _ _ _ _ _ (@az _ _ _ _ _ (@aa _ _ _ _ _ ay (@aa _ _ _ _ _ (pv 2) (@aa _ _ _ _ _ (pv 8) af rfl) rfl) rfl)) (@aa _ _ _ _ _ (@az _ _ _ _ _ (@aa _ _ _ _ _ ay (@aa _ _ _ _ _ (pv 8) af rfl) rfl)) af rfl) rfl)) af rfl) rfl))) (by rfl) (by first | exact .inl rfl | exact .inr rfl))
   (ai (dX PassesOwn.never rfl (cc (dY jn (bU (oq hr.hd) (by rfl) N.list PyProof.Rows.Boot.«list» (aa (bJ hu (pv 0) ay (λ_ _=>rfl)) af)) gQ (eM ah))) (bp (i:=12) cx.nd rfl (Or.inl rfl))
   (am (aJ (dO PySem.F.plainAttrs_list PySem.F.slot_list_append PySem.F.type_list_append bN (pv 10) (aa (az (aa (az (aa ay (aa (pv 12) af))) (aa (az (aa ay (aa (pv 12) af))) af))) af)))))
   (am (aB (pv 10))))))))))))))))))),?_⟩
  have k1:=O.k1
  have fsz:=O.fsz
  have dsz:=O.dsz
  have cp9:q8 10 9:=⟨by decide,by decide,by decide⟩
  have cp20:q8 10 20:=⟨by decide,by decide,by decide⟩
  obtain⟨ps,e1,r1⟩:=id h.hf
  obtain⟨qs,e2,r2⟩:=id h.he
  have lps:ps.length=B.fs.length:=Paired.length r1
  have lqs:qs.length=B.ds.length:=Paired.length r2
  refine au (aK ?_)
  refine⟨_,rfl,s.d,_,rfl,h.d_k,_,rfl,_,rfl,s.d,_,rfl,h.d_k,s.k,_,rfl,.inl (SqL.of h.hk),c,0,_,rfl,by decide,by decide,by rw [List.length_map];omega,λi i0 i1=>?_⟩
  rw [List.length_map]at i1
  obtain⟨i,rfl⟩:∃j:Nat,i=(j:Int):=⟨i.toNat,by omega⟩
  have ei:B.ks[i]?=some (B.ks[i]'(by omega)):=List.getElem?_eq_getElem (by omega)
  generalize B.ks[i]'(by omega)=k at ei
  have kk:=List.mem_of_getElem? ei
  refine⟨s.k,_,(i:Int),V.str k,rfl,rfl,SqL.of h.hk,cq (by rw [List.getElem?_map,ei];rfl),?_⟩
  dsimp only [aN]
  refine au (aK ⟨_,rfl,by show 1<=sizeLine;decide,λa1 na1=>⟨_,rfl,by show 1<=sizeLine;decide,λt1 nt1=>⟨by show 8<=sizeLine;decide,λl1 nl1=>⟨_,rfl,c,1,8,rfl,by decide,by decide,by decide,λn n0 n1=>?_⟩⟩⟩⟩)
  have ga:aq H (upd H a1 (.lst [.str k])):=aq.new na1
  have ea:upd H a1 (.lst [.str k]) a1=some (.lst [.str k]):=ag
  generalize upd H a1 (.lst [.str k])=Ha at *
  have gb:aq Ha (upd Ha t1 (.tup [.str k])):=aq.new nt1
  have eb:upd Ha t1 (.tup [.str k]) t1=some (.tup [.str k]):=ag
  generalize upd Ha t1 (.tup [.str k])=Hb at *
  have gc:aq Hb (upd Hb l1 (.lst [V.non,V.int 5,V.str "", V.str "A", V.str "zzzzzzzz", V.ref a1,V.ref t1,V.bl true])):=aq.new nl1
  have ec:upd Hb l1 (.lst [V.non,V.int 5,V.str "", V.str "A", V.str "zzzzzzzz", V.ref a1,V.ref t1,V.bl true]) l1=some (.lst [V.non,V.int 5,V.str "", V.str "A", V.str "zzzzzzzz", V.ref a1,V.ref t1,V.bl true]):=ag
  generalize upd Hb l1 (.lst [V.non,V.int 5,V.str "", V.str "A", V.str "zzzzzzzz", V.ref a1,V.ref t1,V.bl true])=Hc at *
  obtain⟨vo,do_,eo,so,no⟩:=Aq (ks:=B.ks) (gc _ _ (gb _ _ ea)) (gc _ _ eb) (KO k kk) KO n0 n1
  have gHc:=ga.trans (gb.trans gc)
  refine⟨l1,_,n,vo,rfl,rfl,SqL.of ec,eo,?_⟩
  dsimp only [aN]
  clear eo
  refine au (aK ⟨_,rfl,c,2,rfl,by decide,by decide,λvd dd Hd gd sd bd=>?_⟩)
  dsimp only [aN]
  refine au (aK ⟨_,rfl,c,3,400,rfl,by decide,by decide,by decide,λf f0 f1=>?_⟩)
  dsimp only [aN]
  refine au (aK ⟨10,9,rfl,rfl,cp9,_,_,rfl,rfl,10,9,rfl,rfl,cp9,_,_,rfl,rfl,_,_,rfl,rfl,by show 1<=sizeLine;decide,λa2 na2=>⟨10,20,rfl,rfl,cp20,by show 7<=sizeLine;decide,λl2 nl2=>⟨_,rfl,c,4,7,rfl,by decide,by decide,by decide,λn n0 n1=>?_⟩⟩⟩)
  have ge:aq Hd (upd Hd a2 (.lst [.int 5])):=aq.new na2
  have ee:upd Hd a2 (.lst [.int 5]) a2=some (.lst [.int 5]):=ag
  generalize upd Hd a2 (.lst [.int 5])=He at *
  have gf:aq He (upd He l2 (.lst [V.int (10 ^ (9:Int).toNat+1),V.int (0 - 10 ^ (9:Int).toNat - 1),V.bl true,V.non,V.str "5", V.ref a2,V.int (10 ^ (20:Int).toNat)])):=aq.new nl2
  have ef:upd He l2 (.lst [V.int (10 ^ (9:Int).toNat+1),V.int (0 - 10 ^ (9:Int).toNat - 1),V.bl true,V.non,V.str "5", V.ref a2,V.int (10 ^ (20:Int).toNat)]) l2=some (.lst [V.int (10 ^ (9:Int).toNat+1),V.int (0 - 10 ^ (9:Int).toNat - 1),V.bl true,V.non,V.str "5", V.ref a2,V.int (10 ^ (20:Int).toNat)]):=ag
  generalize upd He l2 (.lst [V.int (10 ^ (9:Int).toNat+1),V.int (0 - 10 ^ (9:Int).toNat - 1),V.bl true,V.non,V.str "5", V.ref a2,V.int (10 ^ (20:Int).toNat)])=Hf at *
  obtain⟨vt,dt,et,st,bt⟩:=uR (gf _ _ ee) n0 n1
  refine⟨l2,_,n,vt,rfl,rfl,SqL.of ef,et,?_⟩
  dsimp only [aN]
  clear et
  have gHf:=gHc.trans (gd.trans (ge.trans gf))
  have hF:=StAt.keep h (λb o _ e=>gHf b o e) (λb xs e=>gHf b _ e)
  refine au (aK ⟨_,rfl,_,rfl,s.d,_,rfl,hF.d_f,s.f,_,rfl,.inl (SqL.of (gHf _ _ e1)),_,_,rfl,rfl,c,5,_,rfl,by decide,by decide,by rw [List.length_map];omega,by rw [List.length_map];omega,λv5 d5 Hg gg s5 b5 n5=>⟨by show 2<=sizeLine;decide,λl3 nl3=>⟨_,rfl,c,8,4,rfl,by decide,by decide,by decide,λn n0 n1=>⟨_,_,rfl,rfl,.inr ⟨_,rfl,?_⟩⟩⟩⟩⟩)
  rw [List.length_map,lps]at b5
  have gh:aq Hg (upd Hg l3 (.lst [.non,v5])):=aq.new nl3
  have eh:upd Hg l3 (.lst [.non,v5]) l3=some (.lst [.non,v5]):=ag
  generalize upd Hg l3 (.lst [.non,v5])=Hh at *
  obtain⟨vn,dn,en,sn,bn⟩:=yw (s5.keep gh) (b5.grow gh) (decide (0 < n))
  refine⟨l3,_,_,vn,rfl,rfl,SqL.of eh,en,?_⟩
  dsimp only [aN]
  clear en
  have gHh:=gHf.trans (gg.trans gh)
  have hH:=StAt.keep h (λb o _ e=>gHh b o e) (λb xs e=>gHh b _ e)
  refine au (aK ⟨_,rfl,_,rfl,s.d,_,rfl,hH.d_e,s.e,_,rfl,.inl (SqL.of (gHh _ _ e2)),c,6,_,rfl,by decide,by decide,by rw [List.length_map];omega,by rw [List.length_map];omega,λvu du Hi gi su bu nu=>?_⟩)
  rw [List.length_map,lqs]at bu
  dsimp only [aN]
  refine au (aK ⟨_,rfl,by show 3<=sizeLine;decide,λl4 nl4=>⟨_,rfl,c,7,3,rfl,by decide,by decide,by decide,λn n0 n1=>?_⟩⟩)
  have gj:aq Hi (upd Hi l4 (.lst [.int 0,.non,vu])):=aq.new nl4
  have ej:upd Hi l4 (.lst [.int 0,.non,vu]) l4=some (.lst [.int 0,.non,vu]):=ag
  generalize upd Hi l4 (.lst [.int 0,.non,vu])=H0 at *
  obtain⟨vz,dz,ez,sz,bz⟩:=none_of (su.keep gj) (bu.grow gj) n0 n1
  refine⟨l4,_,n,vz,rfl,rfl,SqL.of ej,ez,?_⟩
  dsimp only [aN]
  clear ez
  have gh0:=gi.trans gj
  have gf0:=gg.trans (gh.trans gh0)
  have gd0:=ge.trans (gf.trans gf0)
  have gH0:=gHh.trans gh0
  replace so:=so.keep (gd.trans gd0)
  replace no:=gT no (gd.trans gd0)
  replace sd:=sd.keep gd0
  replace bd:∀i:Int,0<=i->cy H0 i 399 vd:=λi hi=>(bd i hi).grow gd0
  replace st:=st.keep gf0
  replace bt:=bt.grow gf0
  replace sn:=sn.keep gh0
  replace bn:=bn.grow gh0
  replace su:=su.keep gj
  replace bu:=bu.grow gj
  have hS:=StAt.keep h (λb o _ e=>gH0 b o e) (λb xs e=>gH0 b _ e)
  clear ga gb gc gd ge gf gg gh gi gj gh0 gf0 gd0 gHh gHf gHc hF hH ea eb ec ee ef eh ej s5 b5 na1 nt1 nl1 na2 nl2 nl3 nl4
  refine Bt (Y':=[some (.ref s.d),some (.int c),some (.str k),some vo,some vd,some (.int f),some vt,some vn,some vu,some vz,none,none,none]) rfl ?_
  refine au (aK (mh (B:=B) (H0:=H0) (cS (λ_ _ q=>⟨_,rfl,_,rfl,_,rfl,_,rfl,q⟩) (λ_ _ q=>⟨_,rfl,q⟩) (by show 5<=1000;decide) rfl so (.fk no)) (cS (λ_ _ q=>⟨_,rfl,_,rfl,_,rfl,q⟩) (λ_ _ q=>⟨_,rfl,q⟩) (by show 5<=1000;decide) rfl so (.fk no)) λq1 H1 g1 nq1 w1=>?_))
  dsimp only [aN,List.set_cons_zero,List.set_cons_succ]
  refine au (aK (gO (n:=2) (m:=2) rfl w1 (λQ q=>mh (cS (λ_ _ q=>⟨_,rfl,_,rfl,_,rfl,q⟩) (λ_ _ q=>⟨_,rfl,q⟩) (by show 5<=1000;decide) rfl sd (.fd kk (bd 0 (by decide)))) (cS (λ_ _ q=>⟨_,rfl,_,rfl,_,rfl,_,rfl,q⟩) (λ_ _ q=>⟨_,rfl,q⟩) (by show 5<=1000;decide) rfl sd (.fl kk f0 (by omega) (bd f f0))) q) (by decide) λq2 H2 g2 nq2 w2=>?_))
  dsimp only [aN,List.set_cons_zero,List.set_cons_succ]
  refine au (aK (gO (n:=4) (m:=1) rfl w2 (λQ q=>Bu (cS (λ_ _ q=>⟨_,rfl,_,rfl,_,rfl,_,_,rfl,rfl,_,rfl,q⟩) (λ_ _ q=>⟨_,rfl,_,_,rfl,rfl,q⟩) (by show 5<=1000;decide) rfl (cn (by rw [rB];omega)) (.fl kk f0 (by omega) (ie (by omega)))) q) (by decide) λq3 H3 g3 nq3 w3=>?_))
  dsimp only [aN,List.set_cons_zero,List.set_cons_succ]
  refine au (aK (gO (n:=5) (m:=2) rfl w3 (λQ q=>mh (cS (λ_ _ q=>⟨_,rfl,_,rfl,_,rfl,_,rfl,q⟩) (λ_ _ q=>⟨_,rfl,q⟩) (by show 5<=1000;decide) rfl st (.fv kk f0 (by omega) bt)) (cS (λ_ _ q=>⟨_,rfl,q⟩) (λ_ _ q=>⟨_,rfl,q⟩) (by show 2<=1000;decide) rfl sn (.wn bn)) q) (by decide) λq4 H4 g4 nq4 w4=>?_))
  dsimp only [aN,List.set_cons_zero,List.set_cons_succ]
  refine au (aK (gO (n:=7) (m:=2) rfl w4 (λQ q=>mh (cS (λ_ _ q=>⟨_,rfl,q⟩) (λ_ _ q=>⟨_,rfl,q⟩) (by show 2<=1000;decide) rfl sn (.gn bn)) (cS (λ_ _ q=>⟨_,rfl,q⟩) (λ_ _ q=>⟨_,rfl,q⟩) (by show 2<=1000;decide) rfl sz (.dt bz)) q) (by decide) λq5 H5 g5 nq5 w5=>?_))
  dsimp only [aN,List.set_cons_zero,List.set_cons_succ]
  have g05:=g1.trans (g2.trans (g3.trans (g4.trans g5)))
  have nq5':=(g1.trans (g2.trans (g3.trans g4))).free nq5
  clear g1 g2 g3 g4 g5 w1 w2 w3 w4 nq1 nq2 nq3 nq4 nq5
  refine au ?_
  refine⟨by show 2<=sizeLine;decide,λlw nlw=>⟨lw,rfl,⟨_,SqL.of ag⟩,dc (K:=K) (a:=lw) (xs:=[V.str "speaks", V.str "value"]) (RI B s c k vo vd f vt vn vu vz H0 lw [V.str "speaks", V.str "value"] (λi=>(9+3 * i))) ⟨q5,_,_,rfl,g05.trans (aq.new nlw),ag,?_,nq5',w5.grow (aq.new nlw)⟩ (λi Y H9 _ hh=>?_) (λi x Y H9 hi hh=>?_) λY H9 hh=>?_⟩⟩
  ·obtain⟨ts,e,_⟩:=w5
   exact al e nlw
  ·obtain⟨l,w11,w12,_,_,e,_⟩:=hh
   exact SqL.of e
  ·obtain⟨l,w11,w12,rfl,g9,e9,ne9,nl9,r9⟩:=hh
   have hil:i < 2:=(List.getElem?_eq_some_iff.mp hi).1
   obtain⟨w,rfl,hw⟩:∃w,x=.str w/\(w=Str.ofString "speaks"\/w=Str.ofString "value"):=by
    rcases (show i=0\/i=1 by omega) with rfl | rfl
    ·exact⟨_,(Option.some.inj hi).symm,.inl rfl⟩
    ·exact⟨_,(Option.some.inj hi).symm,.inr rfl⟩
   dsimp only [aN,List.set_cons_zero,List.set_cons_succ]
   refine au (aK (gO (n:=9+3 * i) (m:=2) rfl r9 (λQ q=>mh (cS (λ_ _ q=>⟨_,rfl,_,rfl,_,rfl,_,rfl,q⟩) (λ_ _ q=>⟨_,rfl,q⟩) (by show 4<=1000;decide) rfl so (.sk hw no)) (cS (λ_ _ q=>⟨_,rfl,_,rfl,_,rfl,_,rfl,q⟩) (λ_ _ q=>⟨_,rfl,q⟩) (by show 4<=1000;decide) rfl sd (.sd hw kk (bd 0 (by decide)))) q) (by omega) λp H10 g10 np r10=>?_))
   dsimp only [aN,List.set_cons_zero,List.set_cons_succ]
   refine bE (sr (n:=9+3 * i+2) rfl r10 (cS (λ_ _ q=>⟨_,rfl,_,rfl,_,rfl,_,rfl,q⟩) (λ_ _ q=>⟨_,rfl,q⟩) (by show 4<=1000;decide) rfl su (.st hw kk f0 (by omega) nu bu)) (by omega) λH11 k11 r11=>?_)
   have np0:=g9.free np
   exact⟨p,_,_,rfl,λb o e=>k11 b o (g10 _ _ (g9 _ _ e)) (al e np0),k11 _ _ (g10 _ _ e9) (al e9 np),(al e9 np).symm,np0,r11⟩
  obtain⟨l,w11,w12,rfl,g9,e9,ne9,nl9,w6⟩:=hh
  have w6:RowsN B H0 H9 l 15:=w6
  clear e9 ne9
  refine au (aK (gO (n:=15) (m:=2) rfl w6 (λQ q=>mh (cS (λ_ _ q=>⟨_,rfl,_,rfl,q⟩) (λ_ _ q=>⟨_,rfl,q⟩) (by show 3<=1000;decide) rfl so (.tk no)) (cS (λ_ _ q=>⟨_,rfl,_,rfl,q⟩) (λ_ _ q=>⟨_,rfl,q⟩) (by show 3<=1000;decide) rfl su (.tt kk nu bu)) q) (by decide) λq7 H7 g7 nq7 w7=>?_))
  dsimp only [aN,List.set_cons_zero,List.set_cons_succ]
  have g07:=g9.trans g7
  have nq7':=g9.free nq7
  have hS7:=StAt.keep hS (λb o _ e=>g07 b o e) (λb xs e=>g07 b _ e)
  refine au ⟨_,rfl,s.d,_,rfl,hS7.d_g,s.g,B.gs,rfl,hS7.hg,λl5 nl5=>⟨3,rfl,l5,_,rfl,SqL.of ag,λlz nlz=>⟨lz,rfl,⟨_,SqL.of ag⟩,?_⟩⟩⟩
  have hcm:∀z∈cutV (B.gs.map λp=>kV p.1) none (some 3),∃(n:Nat) (y:V),z=.int (n:Int)/\n < B.fs.length/\valV B.gs (Sum.inl (n:Int))=some y:=λz hz=>by
   unfold cutV at hz
   obtain⟨p,hp,rfl⟩:=List.mem_map.mp (List.mem_of_mem_drop (List.mem_of_mem_take hz))
   obtain⟨y,hy⟩:=xL hp
   obtain⟨j,t,a,b,c',_⟩:=O.gin _ _ hy
   rw [a]at hy ⊢
   exact⟨j,y,rfl,c',hy⟩
  have hcl:(cutV (B.gs.map λp=>kV p.1) none (some 3)).length<=60:=by
   refine Nat.le_trans (gF _ _ _) ?_
   rw [List.length_map]
   have:=O.gsz
   omega
  have g8:aq H7 (upd H7 l5 (.lst (B.gs.map λp=>kV p.1))):=aq.new nl5
  generalize upd H7 l5 (.lst (B.gs.map λp=>kV p.1))=H8 at *
  generalize cutV (B.gs.map λp=>kV p.1) none (some 3)=zs at *
  refine dc (K:=K) (a:=lz) (xs:=zs) (RI B s c k vo vd f vt vn vu vz H0 lz zs (λi=>(17+i))) ⟨q7,_,_,rfl,(g07.trans g8).trans (aq.new nlz),ag,?_,nq7',(w7.grow g8).grow (aq.new nlz)⟩ (λi Y H9 _ hh=>?_) (λi x Y H9 hi hh=>?_) λY H9 hh=>?_
  ·obtain⟨ts,e,_⟩:=w7.grow g8
   exact al e nlz
  ·obtain⟨l,w11,w12,_,_,e,_⟩:=hh
   exact SqL.of e
  ·obtain⟨l,w11,w12,rfl,g9,e9,ne9,nl9,r9⟩:=hh
   have hil:=(List.getElem?_eq_some_iff.mp hi).1
   obtain⟨n,y,rfl,gl,gy⟩:=hcm x (List.mem_of_getElem? hi)
   dsimp only [aN,List.set_cons_zero,List.set_cons_succ]
   refine bE (sr (n:=17+i) rfl r9 (cS (λ_ _ q=>⟨_,rfl,q⟩) (λ_ _ q=>⟨_,rfl,q⟩) (by show 2<=1000;decide) rfl (cn (by rw [rB];omega)) (.go gl gy)) (by omega) λH11 k11 r11=>?_)
   exact⟨l,_,_,rfl,λb o e=>k11 b o (g9 _ _ e) (al e nl9),k11 _ _ e9 (Ne.symm ne9),ne9,nl9,r11⟩
  obtain⟨l,w11,w12,rfl,g9,e9,ne9,nl9,ts,et,lt,ht⟩:=hh
  try dsimp only
  refine bj ?_
  exact⟨_,rfl,q l H9 (gH0.trans g9) ⟨ts,et,by omega,λt hm=>(ht t hm).rebase g9⟩⟩
noncomputable abbrev jV:Stmt:=top 55
noncomputable abbrev vN:Stmt:=top 56
theorem yE:∀x∈gE,Nm x:=by unfold Nm;decide +kernel
theorem qd {x y:Str} (hx:Nm x) (hy:Nm y):PySem.W.kqdOk 9 (.tuple [.str x,.str y])=true:=by
 show ([PySem.W.Dat.str x,.str y].all (PySem.W.kqdOk 8))=true
 rw [List.all_cons,List.all_cons,List.all_nil,show PySem.W.kqdOk 8 (.str x)=true from hx,show PySem.W.kqdOk 8 (.str y)=true from hy]
 rfl
theorem uv {H:Hp}{t:Addr}{x y:Str} (e:H t=some (.tup [.str x,.str y])):DatV H (.ref t) (.tuple [.str x,.str y]):=.tup e (.cons (.str _) (.cons (.str _) .nil))
theorem iS {C:Addr}{H H':Hp}{p:Addr}{a:BA}{F:Addr->Prop}{B:Bk} (h:BkAt C H p a F B) (g:aq H H'):BkAt C H' p a F B:=h.keep ⟨λb o _ e=>g b o e,λb xs e=>g b _ e,λb c dx fs e=>g b _ e⟩
theorem jk {H H':Hp}{s:SA}{B:Bk} (h:StAt H s B) (g:aq H H'):StAt H' s B:=StAt.keep h (λb o _ e=>g b o e) (λb xs e=>g b _ e)
theorem sj {C:Addr}{E:XK}{Y:St}{H H1:Hp}{p t0:Addr}{a:BA}{F:Addr->Prop}{B:Bk}{d0:PySem.W.Dat}{i j:Nat}{Q:Bool->Hp->Prop} (hi:Y[i]?=some (some (.ref p))) (hj:Y[j]?=some (some (.ref t0))) (hb:BkAt C H p a F B) (dv:DatV H1 (.ref t0) d0) (g:aq H1 H) (ad:AllD B d0) (q:∀H',aq H H'->Q false H') :
  fT (tOp (qC true) (fU (nE C) [] E (aV (cr i) bT)) (cr j)) Y H Q:=
 ⟨_,hi,p,a,F,B,rfl,hb,λt3 d3 H5 g5 dv3 ad3=>⟨_,hj,d3,d0,dv3,DatV.grow (g.trans g5) dv,xC hb.ok ad3,xC hb.ok ad,true,⟨λ_=>xB ad3 ad,λ_=>rfl⟩,_,rfl,q H5 g5⟩⟩
inductive iU (C:Addr) (vs:List V) (H:Hp) (Q:VK) (E:XK):Prop
 | mk (p:Addr) (a:BA) (F:Addr->Prop) (s:SA) (B:Bk) (c:Int) (h1:vs=[.ref p,.ref s.d,.int c]) (h2:BkAt C H p a F B) (h3:StAt H s B) (h4:(∀k∈B.ks,KeyOk k)) (h5:∀H',aq H H'->Q (.bl true) H')
theorem gM:FnScope ["_law_book", "_law_state_here", "_law_cell_here", "_law_before", "_law_row", "_law_due"] ["_law_book", "_law_state_here", "_law_cell_here"] (ao jV):=aZ
theorem qH {C c0 c1 c2 c3 c4 c5 c6 c7 c8 c9 c10 c11 c12:Addr} (F:Fun K "_law_refused" "_law_refused" jV f fd) (hRe:mg "repr" = none) (CT:Cal P w K mg base "_law_told" 9 ["_law_book", "_law_row"] (mX C [c0,c1,c2,c3,c4,c5,c6,c7,c8,c9,c10,c11,c12] c0 c1 c2 c3 c4 c5 c6 c7) f1 fd1) (CA:Cal P w K mg base "_law_all" 4 ["_law_book"] (nE C) f2 fd2) (CR:Cal P w K mg base "_law_rows" 4 ["_law_state_here", "_law_cell_here"] vc f3 fd3):FnOk P w K mg base CX0 10 f fd ["_law_book", "_law_state_here", "_law_cell_here"] (iU C):=by
 refine okF F gM λcdv A outer s H vs Q E hr h=>?_
 ·obtain⟨p,a,F,s,B,c,rfl,hb,hs,KO,q⟩:=h
  refine⟨_,(ai (aF (i:=3) gM.nd rfl (Or.inl rfl) (aW CA hr (aa (pv 0) af)))
   (ai (dX PassesOwn.never rfl (cc (aW CR hr (aa (pv 1) (aa (pv 2) af)))) (gx rfl (bB (bp (i:=4) gM.nd rfl (Or.inl rfl)) (bB (bp (i:=5) gM.nd rfl (Or.inl rfl)) eN)))
   (am (aO (PW.pt (mi (aY (eZ hr.units) (aW CT hr (aa (pv 0) (aa (pv 4) af))) (az (aa (aH be (pv 5) ah (λ_ _=>rfl)) (aa (aA (dR hr.gd hr.units) (by rfl) hRe PyProof.Rows.Boot.«repr» (aa (aH be (pv 5) ah (λ_ _=>rfl)) af)) af))) (b9 _)) (iY (aY (eZ hr.units) (aW CA hr (aa (pv 0) af)) (pv 3) (b9 _))))) (am (aB da)) aE)))
   (am (aB da)))),?_⟩
  refine au (aK ⟨_,rfl,p,a,F,B,rfl,hb,λt0 d0 H1 g1 dv0 ad0=>?_⟩)
  dsimp only [aN]
  refine au ?_
  refine⟨_,rfl,_,rfl,s,B,c,rfl,jk hs g1,hb.ok,KO,λl H2 g2 rn=>?_⟩
  obtain⟨ts,el,lt,hts⟩:=rn
  have g02:=g1.trans g2
  refine⟨l,rfl,⟨_,SqL.of el⟩,dc (K:=K) (a:=l) (xs:=ts.map V.ref) (λi Y H9=>∃w4 w5:Option V,Y=[some (.ref p),some (.ref s.d),some (.int c),some (.ref t0),w4,w5]/\aq H2 H9) ⟨_,_,rfl,aq.refl⟩ (λi Y H9 _ hh=>?_) (λi x Y H9 hi hh=>?_) λY H9 hh=>?_⟩
  ·obtain⟨_,_,_,g9⟩:=hh
   exact SqL.of (g9 _ _ el)
  ·obtain⟨w4,w5,rfl,g9⟩:=hh
   obtain⟨t,ht,rfl⟩:=List.mem_map.mp (List.mem_of_getElem? hi)
   obtain⟨r,d,ws,j,x,v,dv,e1,e2,e3,hx,sv,rb⟩:=hts t ht
   have hb9:=iS hb (g02.trans g9)
   obtain⟨D,f,hD,hf,hc⟩:=ya (c0:=c0) (c1:=c1) (c2:=c2) (c3:=c3) (c4:=c4) (c5:=c5) (c6:=c6) (c7:=c7) (c8:=c8) (c9:=c9) (c10:=c10) (c11:=c11) (c12:=c12) (rb.grow g9) hb9 (g9 _ _ e2)
   refine⟨t,_,rfl,SqT.of (g9 _ _ e1),rfl,_,_,rfl,_,_,rfl,rfl,?_⟩
   try dsimp only
   have sv9:=sv.keep g9
   refine aQ ⟨_,rfl,_,rfl,.ref p,r,j,D,[(f,v)],x,dv.shown,rfl,hD,hx,.inr ⟨f,v,dv,hf,rfl,sv9.1,rfl⟩,hc,λt1 H3 g3 et1=>?_⟩
   have sv3:=sv9.keep g3
   have e33:=g3 _ _ (g9 _ _ e3)
   refine⟨_,rfl,d,_,0,_,rfl,rfl,SqT.of e33,rfl,_,rfl,d,_,1,_,rfl,rfl,SqT.of e33,rfl,v,dv,rfl,sv3.1.1,sv3.1.2.1,sv3.1.2.2.1,sv3.1.2.2.2.1,sv3.1.2.2.2.2,by show 2<=sizeLine;decide,λt2 nt2=>?_⟩
   have hk:=qd (yE x (List.mem_of_getElem? hx)) sv.2
   refine⟨_,_,uv (aq.new nt2 _ _ et1),uv ag,hk,hk,true,⟨λ_=>rfl,λ_=>rfl⟩,_,rfl,aX ?_⟩
   refine sj rfl rfl (iS hb9 (g3.trans (aq.new nt2))) dv0 (g2.trans (g9.trans (g3.trans (aq.new nt2)))) ad0 λH5 g5=>aX (aI ?_)
   exact⟨_,_,rfl,g9.trans (g3.trans ((aq.new nt2).trans g5))⟩
  obtain⟨_,_,rfl,g9⟩:=hh
  try dsimp only
  exact bj (q H9 (g02.trans g9))
def zn (B:Bk) (ws:List V):Prop:=(∃k∈B.ks,ws=[.str "find", .str k,.int 0,.int 0,.int 1])\/∃n:Nat,n < B.fs.length/\valV B.gs (Sum.inl (n:Int))=none/\ws=[.str "withdraw", .int (n:Int)]
theorem um {B:Bk}{H:Hp}{ws:List V}{C p r c0 c1 c2 c3 c4 c5 c6 c7 c8 c9 c10 c11 c12:Addr}{ba:BA}{F:Addr->Prop} (h:zn B ws) (h60:60<=B.ds.length) (hb:BkAt C H p ba F B) (hr:H r=some (.tup ws)):∀Q E,b8 c7 [] H E->gL C c0 c1 c2 c3 c4 c5 c6 c7 [.ref p,.ref r] H Q E:=λQ E q=>by
 rcases h with⟨k,hk,rfl⟩ | ⟨n,hn,hg,rfl⟩
 ·exact⟨_,r,_,rfl,hr,.find _ _ _ _ rfl ⟨p,ba,F,B,_,_,_,_,rfl,hb,.inr ⟨_,rfl,hk,.inr ⟨_,_,rfl,rfl,by decide,by decide,by decide,.inr ⟨_,rfl,by decide,by decide,h60,q⟩⟩⟩⟩⟩
 ·exact⟨_,r,_,rfl,hr,.withd _ rfl ⟨p,ba,F,B,_,rfl,hb,.inr ⟨_,rfl,hn,.inr ⟨hg,h60,q⟩⟩⟩⟩
theorem zv {H:Hp}{y:V}{x:Str}{n:Int} (h:DatV H y (.tuple [.str x,.int n])):∃t,y=.ref t/\H t=some (.tup [.str x,.int n]):=by
 cases h with
 | tup e t=>
  cases t with
  | cons a1 t=>
   cases a1
   cases t with
   | cons a2 t=>
    cases a2
    cases t
    exact⟨_,rfl,e⟩
theorem pR {H:Hp}:∀{ys:List V}{ds:List PySem.W.Dat},DatVs H ys ds->∀y∈ys,∃(j:Nat) (d:PySem.W.Dat),ds[j]?=some d/\DatV H y d
 | _,_,.nil,y,h=>nomatch h
 | _,_,.cons a r,y,h=>by
  rcases List.mem_cons.mp h with rfl | h
  ·exact⟨0,_,rfl,a⟩
  ·obtain⟨j,d,e,k⟩:=pR r y h
   exact⟨j+1,d,e,k⟩
inductive vi (C:Addr) (vs:List V) (H:Hp) (Q:VK) (E:XK):Prop
 | mk (p:Addr) (a:BA) (F:Addr->Prop) (s:SA) (B:Bk) (c:Int) (h1:vs=[.ref p,.ref s.d,.int c]) (h2:BkAt C H p a F B) (h3:StAt H s B) (h4:(∀k∈B.ks,KeyOk k)) (h5:60<=B.ds.length) (h6:∀H',aq H H'->Q (.bl true) H')
theorem jS:FnScope ["_law_book", "_law_state_here", "_law_cell_here", "_law_before", "_law_key", "_law_rows_here", "_law_row"] ["_law_book", "_law_state_here", "_law_cell_here"] (ao vN):=aZ
theorem ym {C c0 c1 c2 c3 c4 c5 c6 c7 c8 c9 c10 c11 c12:Addr} (F:Fun K "_law_full" "_law_full" vN f fd) (N:Free mg) (CT:Cal P w K mg base "_law_told" 9 ["_law_book", "_law_row"] (mX C [c0,c1,c2,c3,c4,c5,c6,c7,c8,c9,c10,c11,c12] c0 c1 c2 c3 c4 c5 c6 c7) f1 fd1) (CA:Cal P w K mg base "_law_all" 4 ["_law_book"] (nE C) f2 fd2) (CS:Cal P w K mg base "_law_standing" 1 ["_law_state_here"] mY f3 fd3) (CF:Cal P w K mg base "_law_refused" 10 ["_law_book", "_law_state_here", "_law_cell_here"] (iU C) f4 fd4):FnOk P w K mg base CX0 11 f fd ["_law_book", "_law_state_here", "_law_cell_here"] (vi C):=by
 refine okF F jS λcdv A outer s H vs Q E hr h=>?_
 ·obtain⟨p,a,F,s,B,c,rfl,hb,hs,KO,h60,q⟩:=h
  have hu:=eB hr
  refine⟨_,(ai (aF (i:=3) jS.nd rfl (Or.inl rfl) (aW CA hr (aa (pv 0) af)))
   (ai (aF (i:=4) jS.nd rfl (Or.inl rfl) (aH aR (bJ hu (pv 1) ay (λ_ _=>rfl)) ah (λ_ _=>rfl)))
   (ai (aF (i:=5) jS.nd rfl (Or.inl rfl) (aD dM (aM (aa (az (aa ay (aa (pv 4) (aa ah (aa ah (aa ah af)))))) af)) (gz (bW rfl (cc (dY jn (aW CS hr (aa (pv 1) af)) gQ (eM ah))) rfl rfl (by show ∀p∈_,gI [] p;decide) (by decide) rfl (by show ([Str.ofString "_law_number"]:List Str).Nodup;decide) .nil (λC fp s H=>cM) (λC fp s H=>(az (aa ay (aa (pv 0) af))))))))
   (ai (dX PassesOwn.never rfl (cc (pv 5)) (bp (i:=6) jS.nd rfl (Or.inl rfl))
   (am (aO (PW.pt (mi (aY (eZ hr.units) (aW CT hr (aa (pv 0) (aa (pv 6) af))) (az (aa ay (aa ay af))) (b9 _)) (iY (aY (eZ hr.units) (aW CA hr (aa (pv 0) af)) (pv 3) (b9 _))))) (am (aB da)) aE)))
   (am (aB (aW CF hr (aa (pv 0) (aa (pv 1) (aa (pv 2) af)))))))))),?_⟩
  have O:=hb.ok
  have k1:=O.k1
  have fsz:=O.fsz
  have dsz:=O.dsz
  refine au (aK ⟨_,rfl,p,a,F,B,rfl,hb,λt0 d0 H1 g1 dv0 ad0=>?_⟩)
  dsimp only [aN]
  have hs1:=jk hs g1
  have ei:B.ks[0]?=some (B.ks[0]'(by omega)):=List.getElem?_eq_getElem (by omega)
  generalize B.ks[0]'(by omega)=k at ei
  have kk:=List.mem_of_getElem? ei
  refine au (aK ⟨_,rfl,s.d,_,rfl,hs1.d_k,s.k,_,0,V.str k,rfl,rfl,SqL.of hs1.hk,cq (j:=0) (by rw [List.getElem?_map,ei];rfl),?_⟩)
  dsimp only [aN]
  refine au (aK (jY ⟨_,rfl,by show 5<=sizeLine;decide,λt1 nt1=>⟨by show 1<=sizeLine;decide,λl1 nl1=>?_⟩⟩))
  have g2:aq H1 (upd H1 t1 (.tup [.str "find", .str k,.int 0,.int 0,.int 1])):=aq.new nt1
  have e2:upd H1 t1 (.tup [.str "find", .str k,.int 0,.int 0,.int 1]) t1=some (.tup [.str "find", .str k,.int 0,.int 0,.int 1]):=ag
  generalize upd H1 t1 (.tup [.str "find", .str k,.int 0,.int 0,.int 1])=H2 at *
  have g3:aq H2 (upd H2 l1 (.lst [.ref t1])):=aq.new nl1
  have e3:upd H2 l1 (.lst [.ref t1]) l1=some (.lst [.ref t1]):=ag
  generalize upd H2 l1 (.lst [.ref t1])=H3 at *
  refine eK ?_
  refine⟨_,rfl,s,B,rfl,jk hs1 (g2.trans g3),by omega,λl2 nl2=>⟨1,rfl,l2,_,rfl,SqL.of ag,λl4 nl4=>⟨l4,rfl,⟨_,SqL.of ag⟩,?_⟩⟩⟩
  have hcm:∀z∈cutV ((cw B).map λi:Nat=>V.int (i:Int)) none (some 1),∃n:Nat,z=.int (n:Int)/\n < B.fs.length/\valV B.gs (Sum.inl (n:Int))=none:=λz hz=>by
   unfold cutV at hz
   obtain⟨n,hn,rfl⟩:=List.mem_map.mp (List.mem_of_mem_drop (List.mem_of_mem_take hz))
   obtain⟨j,hj,rfl⟩:=List.getElem_of_mem hn
   exact⟨_,rfl,jD (List.getElem?_eq_getElem hj)⟩
  have hcl:(cutV ((cw B).map λi:Nat=>V.int (i:Int)) none (some 1)).length<=60:=by
   refine Nat.le_trans (gF _ _ _) ?_
   rw [List.length_map]
   have:(cw B).length<=B.fs.length:=Nat.le_trans (List.length_filter_le _ _) (by rw [List.length_range];exact Nat.le_refl _)
   omega
  have g4:aq H3 (upd H3 l2 (.lst ((cw B).map λi:Nat=>V.int (i:Int)))):=aq.new nl2
  generalize upd H3 l2 (.lst ((cw B).map λi:Nat=>V.int (i:Int)))=H4 at *
  generalize cutV ((cw B).map λi:Nat=>V.int (i:Int)) none (some 1)=zs at *
  have g5:aq H4 (upd H4 l4 (.lst zs)):=aq.new nl4
  have e5:upd H4 l4 (.lst zs) l4=some (.lst zs):=ag
  generalize upd H4 l4 (.lst zs)=H5 at *
  refine lc (K:=K) (a:=l4) (xs:=zs) (λi d=>∃n:Nat,n < B.fs.length/\valV B.gs (Sum.inl (n:Int))=none/\d=.tuple [.str fQ,.int (n:Int)]) (by omega) e5 (λD i x H6 R hi g6 hD hR=>?_) λD H6 ys ds g6 eD dV lD pD=>?_
  ·obtain⟨n,rfl,hn,hg⟩:=hcm x (List.mem_of_getElem? hi)
   obtain⟨ys,hD⟩:=hD
   exact⟨_,rfl,by show 2<=sizeLine;decide,λt nt=>hR _ _ _ ⟨n,hn,hg,rfl⟩ (λH8 kp=>.tup (kp t _ ag λz=>by rw [z]at nt;rw [hD]at nt;cases nt) (.cons (.str _) (.cons (.int _) .nil))) (aq.new nt)⟩
  have g36:=g4.trans (g5.trans g6)
  refine⟨l1,D,_,ys,rfl,rfl,g36 _ _ e3,eD,?_,λl6 nl6=>?_⟩
  ·have:ys.length=ds.length:=j7 dV
   exact Nat.le_trans (show 1+ys.length<=1000 by omega) (by decide)
  dsimp only [aN]
  have g7:aq H6 (upd H6 l6 (.lst ([.ref t1]++ys))):=aq.new nl6
  have e7:upd H6 l6 (.lst ([.ref t1]++ys)) l6=some (.lst ([.ref t1]++ys)):=ag
  generalize upd H6 l6 (.lst ([.ref t1]++ys))=H7 at *
  have g17:=g2.trans (g3.trans (g36.trans g7))
  have hrow:∀y∈[V.ref t1]++ys,∃t ws,y=.ref t/\H7 t=some (.tup ws)/\zn B ws:=λy hy=>by
   rcases List.mem_append.mp hy with hy | hy
   ·rw [List.mem_singleton.mp hy]
    exact⟨t1,_,rfl,(g3.trans (g36.trans g7)) _ _ e2,.inl ⟨k,kk,rfl⟩⟩
   ·obtain⟨j,d,ej,dy⟩:=pR dV y hy
    obtain⟨n,hn,hg,rfl⟩:=pD j d ej
    obtain⟨t,rfl,et⟩:=zv dy
    exact⟨t,_,rfl,g7 _ _ et,.inr ⟨n,hn,hg,rfl⟩⟩
  clear dV pD eD hcm
  generalize [V.ref t1]++ys=rs at *
  refine au ?_
  refine⟨_,rfl,l6,rfl,⟨_,SqL.of e7⟩,dc (K:=K) (a:=l6) (xs:=rs) (λi Y H9=>∃w6:Option V,Y=[some (.ref p),some (.ref s.d),some (.int c),some (.ref t0),some (.str k),some (.ref l6),w6]/\aq H7 H9) ⟨_,rfl,aq.refl⟩ (λi Y H9 _ hh=>?_) (λi x Y H9 hi hh=>?_) λY H9 hh=>?_⟩
  ·obtain⟨_,_,g9⟩:=hh
   exact SqL.of (g9 _ _ e7)
  ·obtain⟨w6,rfl,g9⟩:=hh
   obtain⟨r,ws,rfl,er,fr⟩:=hrow x (List.mem_of_getElem? hi)
   have hb9:=iS hb (g1.trans (g17.trans g9))
   dsimp only [aN]
   refine aQ ⟨_,rfl,_,rfl,.ref p,r,7,c7,[],Str.ofString "full", Str.ofString "", rfl,rfl,rfl,.inl ⟨.inr rfl,rfl⟩,um (c0:=c0) (c1:=c1) (c2:=c2) (c3:=c3) (c4:=c4) (c5:=c5) (c6:=c6) (c7:=c7) (c8:=c8) (c9:=c9) (c10:=c10) (c11:=c11) (c12:=c12) fr h60 hb9 (g9 _ _ er),λt2 H10 g10 et2=>⟨by show 2<=sizeLine;decide,λt3 nt3=>?_⟩⟩
   have hk:=qd (x:=Str.ofString "full") (y:=Str.ofString "") (by unfold Nm;decide +kernel) (by unfold Nm;decide +kernel)
   refine⟨_,_,uv (aq.new nt3 _ _ et2),uv ag,hk,hk,true,⟨λ_=>rfl,λ_=>rfl⟩,_,rfl,aX ?_⟩
   refine sj rfl rfl (iS hb9 (g10.trans (aq.new nt3))) dv0 (g17.trans (g9.trans (g10.trans (aq.new nt3)))) ad0 λH11 g11=>aX (aI ?_)
   exact⟨_,rfl,g9.trans (g10.trans ((aq.new nt3).trans g11))⟩
  obtain⟨_,rfl,g9⟩:=hh
  try dsimp only
  have g09:=g1.trans (g17.trans g9)
  refine bj ?_
  exact⟨_,rfl,_,rfl,_,rfl,p,a,F,s,B,c,rfl,iS hb g09,jk hs g09,KO,λH' g'=>q H' (g09.trans g')⟩
end Mine
namespace L2
open PySem PySem.Spec PyProof.Rows
theorem BkAt.kinds {C:Addr}{H:Hp}{p:Addr}{a:BA}{F:Addr->Prop}{B:Bk} (h:BkAt C H p a F B){b:Addr} (m:a.M b):(∃xs,H b=some (.lst xs))\/∃xs,H b=some (.dK xs):=by
 obtain⟨ps,e1,_⟩:=h.hf
 obtain⟨qs,e2,_⟩:=h.hd
 obtain⟨ts,e3,_,_⟩:=h.ht
 rcases m with m | m | m | m
 ·exact .inl ⟨_,by rw [m];exact e1⟩
 ·exact .inr ⟨_,by rw [m];exact h.hw⟩
 ·exact .inl ⟨_,by rw [m];exact e2⟩
 ·exact .inl ⟨_,by rw [m];exact e3⟩
abbrev Gw (H H':Hp):Prop:=∀b o,H b=some o->H' b=some o
end L2
namespace Mine
open PySem L2
variable {P:Program}{w:World}{K:PySem.W.Frag}{mg:Str->Option Value}{base:Heap}
noncomputable abbrev tG:Stmt:=top 57
theorem iA {K:PySem.W.Frag}{H H':Hp}{a L:Addr}{xs:List V}{pL:Array Value} (h:SqL K H a xs) (hL:H L=some (.tbl pL)) (g:∀b o,H b=some o->b≠L->H' b=some o):SqL K H' a xs:=by
 rcases h with(h | ⟨o,h⟩) | h
 ·exact .inl (.inl (g _ _ h (aS h hL (by intro z;cases z))))
 ·exact .inl (.inr ⟨o,g _ _ h (aS h hL (by intro z;cases z))⟩)
 ·exact .inr h
theorem xD {C L:Addr}{H4 H5 H8:Hp}{x:Addr}{a:BA}{F:Addr->Prop}{s:SA}{ks:List Str}{pL:Array Value} (fF:∀b,F b->H4 b=none) (g5:Gw H4 H5) (bk:BkAt C H5 x a F (Bk.new ks)) (e4k:H4 s.k≠none)
  (g8:Gw H5 H8) (st:StAt H8 s (Bk.new ks)) (nS:∀b,s.At b->b≠s.k->H5 b=none) (hL:H4 L=some (.tbl pL)):Pair C L H8 x a (λb=>F b/\H5 b≠none) s (Bk.new ks):=by
 refine⟨bk.dom.keep ⟨λb o _ e=>g8 b o e,λb xs e=>g8 b _ e,λb c dx fs e=>g8 b _ e⟩,st,λb f=>⟨yZ g8 f.2,λz=>?_⟩,λb sa f=>?_⟩
 ·have:=fF b f.1
  rw [z,hL]at this
  cases this
 ·by_cases z:b=s.k
  ·exact e4k (by rw [<- z];exact fF b f.1)
  ·exact f.2 (nS b sa z)
theorem yR {xs:List V}:(cutV xs (some 2) (some 62)).length<=60:=by
 unfold cutV
 rw [List.length_take,List.length_drop]
 have e1:HT.sIx xs.length 0 (some 2)=min 2 xs.length:=rfl
 have e2:HT.sIx xs.length xs.length (some 62)=min 62 xs.length:=rfl
 rw [e1,e2]
 omega
theorem yQ {ns:List Int}{lo hi:Option Int}{z:V} (h:z∈cutV (ns.map V.int) lo hi):∃c:Int,z=.int c:=by
 unfold cutV at h
 obtain⟨c,_,rfl⟩:=List.mem_map.mp (List.mem_of_mem_drop (List.mem_of_mem_take h))
 exact⟨c,rfl⟩
theorem yz {i:Int} (h0:0<=i) (h1:i < 4):∃s:Int,(0 < s/\s<=60)/\atI [V.int 12,V.int 12,V.int 30,V.int 60] i=some (V.int s):=by
 rcases (show i=0\/i=1\/i=2\/i=3 by omega) with rfl | rfl | rfl | rfl
 ·exact⟨12,by decide,rfl⟩
 ·exact⟨12,by decide,rfl⟩
 ·exact⟨30,by decide,rfl⟩
 ·exact⟨60,by decide,rfl⟩
theorem vV {D:Ends}{E:XK}{Y:St}{H:Hp}{c m:Int} (h5:Y[5]?=some (some (.int c))) (h6:Y[6]?=some (some (.int m))) (m0:0<=m) (m1:m<=60) (h:∀m':Int,0<=m'->m'<=60->D.nx (Y.set 6 (some (.int m'))) H) :
  qi (fT (tOp rEq (fU nA [] E (aV (cr 5) (aV (tC (V.int 32)) (aV (tC (V.int 4)) bT)))) (tC (V.int 1)))) (qk (tC (V.int 60)) (aN 6)) oN D Y H:=by
 refine⟨_,h5,c,32,4,rfl,by decide,by decide,by decide,λn _ _=>⟨rfl,_,rfl,?_⟩⟩
 cases decide (V.int n=V.int 1) with
 | true=>exact bG (h 60 (by decide) (by decide))
 | false=>
  refine aX ?_
  have:=h m m0 m1
  rw [show Y.set 6 (some (.int m))=Y by
   obtain⟨hk,e⟩:=List.getElem?_eq_some_iff.mp h6
   rw [<- e]
   exact List.set_getElem_self hk]at this
  exact this
theorem y8 {K:PySem.W.Frag}{D:Ends}{Y:St}{H:Hp}{u:Addr}{xs:List V}{k n:Int} (h7:Y[7]?=some (some (.ref u))) (h8:Y[8]?=some (some (.int k))) (h9:Y[9]?=some (some (.int n))) (hu:H u=some (.lst xs)) (hx:∀z∈xs,∃c:Int,z=.int c) (k0:0<=k) (h:∀n':Int,D.nx (Y.set 9 (some (.int n'))) H) :
  qi (fT (tOp (rI0 λi j=>V.bl (decide (i < j))) (cr 8) (tCB (λxs H Q=>∃p ys,xs=[.ref p]/\(SqL K H p ys\/SqT K H p ys)/\Q (.int (ys.length:Int)) H) (aV (cr 7) bT)))) (qk (tOp (Bw K) (cr 7) (cr 8)) (aN 9)) oN D Y H:=by
 refine⟨_,h8,_,h7,u,_,rfl,.inl (SqL.of hu),_,_,rfl,rfl,_,rfl,?_⟩
 by_cases hlt:k < (xs.length:Int)
 ·rw [decide_eq_true hlt]
  obtain⟨j,rfl⟩:∃j:Nat,k=(j:Int):=⟨k.toNat,by omega⟩
  have ej:xs[j]?=some (xs[j]'(by omega)):=List.getElem?_eq_getElem (by omega)
  obtain⟨c,ec⟩:=hx _ (List.mem_of_getElem? ej)
  rw [ec]at ej
  exact bG ⟨_,h7,_,h8,u,_,(j:Int),V.int c,rfl,rfl,SqL.of hu,cq ej,h c⟩
 ·rw [decide_eq_false hlt]
  refine aX ?_
  have:=h n
  rw [show Y.set 9 (some (.int n))=Y by
   obtain⟨hk,e⟩:=List.getElem?_eq_some_iff.mp h9
   rw [<- e]
   exact List.set_getElem_self hk]at this
  exact this
theorem yD {ks:List Str} (h:1<=ks.length):∃k∈ks,atI (ks.map V.str) (-1)=some (.str k):=by
 rcases List.eq_nil_or_concat ks with rfl | ⟨r,k,rfl⟩
 ·simp at h
 ·exact⟨k,by simp,by rw [List.concat_eq_append,List.map_append];exact li _ _⟩
inductive LI1 (C L sa x u0:Addr) (s:SA) (a:BA) (c m:Int) (ks:List Str) (zs:List V) (H:Hp) (w1:Option V) (j:Nat) (Y:St) (H7:Hp):Prop
 | mk (F:Addr->Prop) (B:Bk) (w8 w9:Option V) (h1:Y=[some (.ref sa),w1,some (.ref s.k),some (.ref x),some (.ref s.d),some (.int c),some (.int m),some (.ref u0),w8,w9,none,none,none]) (h2:Lm L H7) (h3:Pair C L H7 x a F s B) (h4:B.ks=ks) (h5:B.ds.length=j) (h6:H7 u0=some (.lst zs)) (h7:¬F u0) (h8:∀b,F b->H b=none) (h9:∀b o,H b=some o->b≠L->H7 b=some o)
inductive LI2 (C L sa x u0 l5:Addr) (s:SA) (a:BA) (c m:Int) (ks:List Str) (ys:List V) (H18:Hp) (w1:Option V) (i:Nat) (Y:St) (H9:Hp):Prop
 | mk (F:Addr->Prop) (B:Bk) (fl:List V) (w8 w9 w10 w11 w12:Option V) (h1:Y=[some (.ref sa),w1,some (.ref s.k),some (.ref x),some (.ref s.d),some (.int c),some (.int m),some (.ref u0),w8,w9,w10,w11,w12]) (h2:Lm L H9) (h3:BkAt C H9 x a F B) (h4:B.ks=ks) (h5:(B.ds.length:Int)=m+i) (h6:H9 s.f=some (.lst fl)) (h7:fl.length=B.fs.length) (h8:H9 s.k=some (.lst (ks.map V.str))) (h9:H9 s.d=some (.dK (sD s))) (h10:H9 l5=some (.lst ys)) (h11:¬F s.f) (h12:¬F s.k) (h13:¬F s.d) (h14:¬F l5) (h15:∀b xs,H18 b=some (.tup xs)->H9 b=some (.tup xs))
theorem zD {n d:Nat}{j:Int} (h:0<=j):(HT.sIx n d (some j):Int)<=j:=by
 show (((if j < 0 then (j+(n:Int)).toNat else min j.toNat n:Nat)):Int)<=j
 rw [if_neg (by omega)]
 omega
inductive rK (K:PySem.W.Frag) (C L:Addr) (vs:List V) (H:Hp) (Q:VK) (E:XK):Prop
 | mk (a:Addr) (ns:List Int) (h1:vs=[.ref a]) (h2:Lm L H) (h3:SqL K H a (ns.map V.int)) (h4:ns.length<=63) (h5:∀H',Q (.bl true) H')
theorem dS:FnScope ["_law_script", "_law_thing", "_law_keys_here", "_law_book", "_law_state_here", "_law_cell_here", "_law_many", "_law_cells", "_law_k", "_law_more", "_law_first", "_law_last", "_law_value"] ["_law_script"] (ao tG):=aZ
theorem An {C L c0 c1 c2 c3 c4 c5 c6 c7 c8 c9 c10 c11 c12:Addr} (F:Fun K "law" "law" tG f fd) (N:Free mg) (CE:Cal P w K mg base "_law_cell" 1 ["_law_script", "_law_k"] (vm K) f1 fd1) (CK:Cal P w K mg base "_law_keys" 3 ["_law_cell_here"] vg f2 fd2) (CZ:Cal P w K mg base "_law_state" 1 ["_law_keys_here"] rH f3 fd3) (CD:Ab1 P w K mg base f4 fd4) (CO:Cal P w K mg base "_law_done" 7 ["_law_book", "_law_state_here", "_law_cell_here", "_law_span"] (vj C L) f5 fd5) (CM:Cal P w K mg base "_law_mix" 1 ["_law_cell_here", "_law_k"] rJ f6 fd6) (CB:Cal P w K mg base "_law_bad_keys" 1 [] lW f7 fd7) (CU:Cal P w K mg base "_law_full" 11 ["_law_book", "_law_state_here", "_law_cell_here"] (vi C) f8 fd8) (CF:Cal P w K mg base "_law_refused" 10 ["_law_book", "_law_state_here", "_law_cell_here"] (iU C) f9 fd9) (CT:Cal P w K mg base "_law_told" 9 ["_law_book", "_law_row"] (mX C [c0,c1,c2,c3,c4,c5,c6,c7,c8,c9,c10,c11,c12] c0 c1 c2 c3 c4 c5 c6 c7) f10 fd10) (MF:MC P w K mg base C "find" 6 ["self", "key", "first", "last", "value"] [] [] (qo C L) f11 fd11) (MK:Mk K C f12) (GI:FnOk P w K mg base CX0 4 f12 fd12 ["self", "keys"] (vh C)) (bI:cu K fd12 ["self", "keys"] []) (mC:mg "Book" = some (.ref C)):FnOk P w K mg base CX0 12 f fd ["_law_script"] (rK K C L):=by
 refine okF F dS λcdv A outer s H vs Q E hr h=>?_
 ·obtain⟨sa,ns,rfl,LL,hS,h63,q⟩:=h
  have hu:=eB hr
  refine⟨_,(ai (dX PassesOwn.never rfl (cc (Bz CB hr)) (bp (i:=1) dS.nd rfl (Or.inl rfl))
   (am (aO (aY (eZ hr.units) (aW CT hr (aa dZ (aa (az (aa ay (aa (pv 1) af))) af))) (az (aa ay (aa ay af))) (b9 _)) (am (aB da)) aE)))
   (ai (aF (i:=2) dS.nd rfl (Or.inl rfl) (aW CK hr (aa (aW CE hr (aa (pv 0) (aa ah af))) af)))
   (ai (aF (i:=3) dS.nd rfl (Or.inl rfl) (sB MK GI (hr.mono (by decide)) rfl mC bI .nil iL (aa (bU cG (by rfl) N.list PyProof.Rows.Boot.«list» (aa (pv 2) af)) af)))
   (ai (aF (i:=4) dS.nd rfl (Or.inl rfl) (aW CZ hr (aa (pv 2) af)))
   (ai (aF (i:=5) dS.nd rfl (Or.inl rfl) (aW CE hr (aa (pv 0) (aa ah af))))
   (ai (aO (bQ (bH (aW CF hr (aa (pv 3) (aa (pv 4) (aa (pv 5) af)))))) (am (aB da)) aE)
   (@ai _ _ _ _ _ (@aF (i:=6) _ _ _ _ _ _ dS.nd rfl (Or.inl rfl) (aW CD hr (@aa _ _ _ _ _ (pv 5) (@aa _ _ _ _ _ ah (@aa _ _ _ _ _ (@aH _ _ _ _ _ _ _ aR (@aM _ _ _ _ (@aa _ _ _ _ _ ah (@aa _ _ _ _ _ ah (@aa _ _ _ _ _ ah (@aa _ _ _ _ _ ah af rfl) rfl) rfl) rfl)) (aW CD hr (@aa _ _ _ _ _ (pv 5) (@aa _ _ _ _ _ ah (@aa _ _ _ _ _ ah af rfl) rfl) rfl)) (λ_ _=>rfl)) af rfl) rfl) rfl)) (by rfl) (by first | exact .inl rfl | exact .inr rfl))
   (ai (aO (aY dk (aW CD hr (aa (pv 5) (aa ah (aa ah af)))) ah (b9 _)) (am (aF (i:=6) dS.nd rfl (Or.inl rfl) ah)) aE)
   (ai (aF (i:=7) dS.nd rfl (Or.inl rfl) (dY jn (pv 0) (eM ah) (eM ah)))
   (ai (dX PassesOwn.never rfl (eY rfl N.range (aa (pv 6) af)) (bp (i:=8) dS.nd rfl (Or.inl rfl))
   (ai (aF (i:=9) dS.nd rfl (Or.inl rfl) (aW CM hr (aa (pv 5) (aa (aD bL ah (pv 8)) af))))
   (ai (aO (aY sE (pv 8) (aA aG (by rfl) N.len PySem.boot_len (aa (pv 7) af)) (b9 _)) (am (aF (i:=9) dS.nd rfl (Or.inl rfl) (aH aR (pv 7) (pv 8) (λ_ _=>rfl)))) aE)
   (am (aO (bQ (bH (aW CO hr (aa (pv 3) (aa (pv 4) (aa (pv 9) (aa ah af))))))) (am (aB da)) aE)))))
   (ai (aO (PW.pt (mi (bQ (bH (aW CF hr (aa (pv 3) (aa (pv 4) (aa (aW CE hr (aa (pv 0) (aa ah af))) af)))))) (iY (bQ (bH (aW CF hr (aa (pv 3) (aa (pv 4) (aa (aD bL (pv 5) ah) af))))))))) (am (aB da)) aE)
   (ai (aO (aY dk (pv 6) ah (b9 _)) (am (aB (aW CU hr (aa (pv 3) (aa (pv 4) (aa (pv 5) af)))))) aE)
   (@ai _ _ _ _ _ (@dX _ _ _ _ _ _ _ _ PassesOwn.never rfl (@cc _ _ _ _ (@dY _ _ _ _ _ _ _ _ _ _ jn (@aM _ _ _ _ (@aa _ _ _ _ _ (@az _ _ _ _ _ (@aa _ _ _ _ _ ah (@aa _ _ _ _ _ ah (@aa _ _ _ _ _ (@aD _ _ _ _ _ _ _ _ cR ah ah) af rfl) rfl) rfl)) (@aa _ _ _ _ _ (@az _ _ _ _ _ (@aa _ _ _ _ _ ah (@aa _ _ _ _ _ ah (@aa _ _ _ _ _ (@aD _ _ _ _ _ _ _ _ cJ ah (@aD _ _ _ _ _ _ _ _ cR ah ah)) af rfl) rfl) rfl)) (@aa _ _ _ _ _ (@az _ _ _ _ _ (@aa _ _ _ _ _ ah (@aa _ _ _ _ _ ah (@aa _ _ _ _ _ ah af rfl) rfl) rfl)) af rfl) rfl) rfl)) gQ (eM (@aD _ _ _ _ _ _ _ _ cJ ah (pv 6))))) (gx rfl (bB (bp (i:=10) dS.nd rfl (Or.inl rfl)) (bB (bp (i:=11) dS.nd rfl (Or.inl rfl)) (bB (bp (i:=12) dS.nd rfl (Or.inl rfl)) eN)))) (ai (aO (aY zg (fw (pv 3) MF hr (@aa _ _ _ _ _ (@aH _ _ _ _ _ _ _ aR (pv 2) (@hV _ _ _ _ _ _ eO ah) (λ_ _=>rfl)) (@aa _ _ _ _ _ (pv 10) (@aa _ _ _ _ _ (pv 11) (@aa _ _ _ _ _ (pv 12) af rfl) rfl) rfl) rfl)) (aA aG (by rfl) N.len PySem.boot_len (@aa _ _ _ _ _ (bJ hu (pv 4) ay (λ_ _=>rfl)) af rfl)) (b9 _)) (am (@aB _ _ _ _ da)) aE) (am (aJ (dO PySem.F.plainAttrs_list PySem.F.slot_list_append PySem.F.type_list_append bN (bJ hu (pv 4) ay (λ_ _=>rfl)) (@aa _ _ _ _ _ (@az _ _ _ _ _ (@aa _ _ _ _ _ (@aH _ _ _ _ _ _ _ aR (pv 2) (@hV _ _ _ _ _ _ eO ah) (λ_ _=>rfl)) (@aa _ _ _ _ _ (pv 10) (@aa _ _ _ _ _ (pv 11) (@aa _ _ _ _ _ (pv 12) (@aa _ _ _ _ _ ah af rfl) rfl) rfl) rfl) rfl)) af rfl))))) (by intro _;rfl))
   (am (aB da))))))))))))))),?_⟩
  obtain⟨pL,hL⟩:=LL.tbl
  refine au ?_
  refine⟨rfl,λl xs H1 g1 el k14 hbk=>⟨l,rfl,⟨_,SqL.of el⟩,dc (K:=K) (a:=l) (xs:=xs) (λi Y H9=>∃w1:Option V,Y=[some (.ref sa),w1,none,none,none,none,none,none,none,none,none,none,none]/\aq H1 H9) ⟨_,rfl,aq.refl⟩ (λi Y H9 _ hh=>?_) (λi y Y H9 hi hh=>?_) λY H9 hh=>?_⟩⟩
  ·obtain⟨_,_,g9⟩:=hh
   exact SqL.of (g9 _ _ el)
  ·obtain⟨w1,rfl,g9⟩:=hh
   have hy:=(hbk y (List.mem_of_getElem? hi)).grow g9
   dsimp only [aN]
   refine aQ ⟨_,rfl,by show 2<=sizeLine;decide,λr nr=>?_⟩
   refine⟨.non,r,0,c0,[],Str.ofString "keys", Str.ofString "", rfl,rfl,rfl,.inl ⟨.inl rfl,rfl⟩,(λQ E q=>⟨_,r,_,rfl,ag,.make y rfl (hy.grow (aq.new nr)) q⟩),λt1 H3 g3 et1=>⟨by show 2<=sizeLine;decide,λt2 nt2=>?_⟩⟩
   have hk:=qd (x:=Str.ofString "keys") (y:=Str.ofString "") (by unfold Nm;decide +kernel) (by unfold Nm;decide +kernel)
   refine⟨_,_,uv (aq.new nt2 _ _ et1),uv ag,hk,hk,true,⟨λ_=>rfl,λ_=>rfl⟩,_,rfl,aX (aI ?_)⟩
   exact⟨_,rfl,g9.trans ((aq.new nr).trans (g3.trans (aq.new nt2)))⟩
  obtain⟨w1,rfl,g9⟩:=hh
  have g2:=g1.trans g9
  clear g9 hbk el
  try dsimp only
  refine au (aK ⟨_,rfl,sa,ns,0,rfl,iA hS hL λb o e _=>g2 b o e,by decide,λn=>⟨n,rfl,λkl ks H3 nk g3 ek k1 k8 nd hok=>?_⟩⟩)
  dsimp only [aN]
  refine au (aK ?_)
  refine⟨_,rfl,kl,_,rfl,.inl (SqL.of ek),λhd nh=>?_⟩
  have g4:aq H3 (upd H3 hd (.lst (ks.map V.str))):=aq.new nh
  have eh:upd H3 hd (.lst (ks.map V.str)) hd=some (.lst (ks.map V.str)):=ag
  generalize upd H3 hd (.lst (ks.map V.str))=H4 at g4 eh
  have g04:=g2.trans (g3.trans g4)
  refine λx dx nx ndx hne=>?_
  refine⟨x,dx,hd,ks,rfl,ag,(by rw [aj (al eh nx),aj (al eh ndx)];exact eh),k1,k8,nd,(λk hk=>⟨(hok k hk).has,(hok k hk).len,(hok k hk).nm⟩),λa F H5 fF gg bk=>⟨rfl,?_⟩⟩
  have g5:aq H4 H5:=λb o e=>gg b o (by rw [aj (al e nx),aj (al e ndx)];exact e) (al e nx)
  have fF':∀b,F b->H4 b=none:=λb f=>(ck (ck (fF b f)).2).2
  have g05:=g04.trans g5
  dsimp only [aN]
  have e5k:=g5 _ _ (g4 _ _ ek)
  refine au (aK ⟨_,rfl,kl,ks,rfl,e5k,λs H8 es g8 nS st=>?_⟩)
  subst es
  have g08:=g05.trans g8
  have P8:=xD (C:=C) (L:=L) fF' g5 bk (by rw [g4 _ _ ek];intro z;cases z) g8 st nS (g04 _ _ hL)
  have nF8:∀b,(F b/\H5 b≠none)->H b=none:=λb hb=>g04.free (fF' b hb.1)
  have nS8:∀b,s.At b->H b=none:=λb hb=>by
   by_cases z:b=s.k
   ·rw [z];exact g2.free nk
   ·exact g05.free (nS b hb z)
  have L8:Lm L H8:=ci LL λb o e _ _=>g08 b o e
  dsimp only [aN]
  have hS8:=iA hS hL λb o e _=>g08 b o e
  refine au (aK ⟨_,rfl,sa,ns,1,rfl,hS8,by decide,λc=>?_⟩)
  dsimp only [aN]
  refine au (aQ ⟨_,rfl,_,rfl,_,rfl,x,a,_,s,_,c,rfl,P8.bk,P8.st,hok,λH9 g9=>⟨_,rfl,aX (aI ?_)⟩⟩)
  try dsimp only
  refine au (aK ⟨_,rfl,by show 4<=sizeLine;decide,λl3 n3=>⟨_,rfl,c,31,4,rfl,by decide,by decide,by decide,λn n0 n1=>?_⟩⟩)
  obtain⟨m1,hm1,em1⟩:=yz n0 n1
  refine⟨l3,_,n,V.int m1,rfl,rfl,SqL.of ag,em1,c,30,m1,rfl,by decide,by decide,hm1.1,λm2 m20 m21=>?_⟩
  have g10:aq H9 (upd H9 l3 (.lst [.int 12,.int 12,.int 30,.int 60])):=aq.new n3
  generalize upd H9 l3 (.lst [.int 12,.int 12,.int 30,.int 60])=H10 at g10
  dsimp only [aN]
  clear em1
  refine au (vV rfl rfl m20 (by omega) λm m0 m60=>?_)
  try dsimp only
  have g810:=g9.trans g10
  have g010:=g08.trans g810
  have P10:=P8.grow g810
  refine au (aK ⟨_,rfl,2,rfl,62,rfl,sa,_,rfl,iA hS hL λb o e _=>g010 b o e,λu0 nu0=>?_⟩)
  have hcl:=yR (xs:=ns.map V.int)
  have hcm:∀z∈cutV (ns.map V.int) (some 2) (some 62),∃c:Int,z=.int c:=λz hz=>yQ hz
  generalize cutV (ns.map V.int) (some 2) (some 62)=zs at *
  have g11:aq H10 (upd H10 u0 (.lst zs)):=aq.new nu0
  have e11:upd H10 u0 (.lst zs) u0=some (.lst zs):=ag
  have nFu:¬(F u0/\H5 u0≠none):=λz=>(P10.fd _ z).1 nu0
  have nSu:¬s.At u0:=λz=>by
   rcases P10.st.kind z with⟨w,e⟩ | ⟨w,e⟩ <;> (rw [e]at nu0;cases nu0)
  generalize upd H10 u0 (.lst zs)=H11 at *
  have g011:=g010.trans g11
  dsimp only [aN]
  refine au ?_
  refine⟨_,rfl,m,rfl,by omega,by omega,?_⟩
  refine uo (lo:=0) (n:=m.toNat) (LI1 C L sa x u0 s a c m ks zs H w1)
   ⟨_,Bk.new ks,_,_,rfl,ci L8 λb o e _ _=>(g810.trans g11) b o e,P10.grow g11,rfl,rfl,e11,nFu,nF8,λb o e _=>g011 b o e⟩ ?_ ?_
  ·rintro j Y H7 hj ⟨F7,B,w8,w9,rfl,L7,P7,eks,hB7,eu7,nFu7,nF7,kO⟩
   obtain⟨pL7,hL7⟩:=L7.tbl
   dsimp only [aN]
   refine au (aK ⟨_,rfl,_,rfl,_,_,rfl,rfl,c,_,rfl,by omega,by omega,λn _ _=>?_⟩)
   dsimp only [aN]
   refine au (y8 (u:=u0) rfl rfl rfl eu7 hcm (by omega) λn'=>?_)
   try dsimp only
   refine aQ ⟨_,rfl,_,rfl,_,rfl,x,a,F7,s,B,n',400,rfl,L7,P7,by decide,by decide,by omega,λHa Fa Ba La Pa hla hfa hks fa gaa=>⟨_,rfl,aX (aI ?_)⟩⟩
   refine⟨Fa,Ba,_,_,rfl,La,Pa,hks.trans eks,by omega,gaa _ _ eu7 (aS eu7 hL7 (by intro z;cases z)) (λz=>nFu7 (P7.bk.M_F z)) nSu,λz=>?_,λb hb=>?_,λb o e nb=>?_⟩
   ·rcases fa _ z with z | z
    ·exact nFu7 z
    ·rw [eu7]at z;cases z
   ·rcases fa b hb with z | z
    ·exact nF7 b z
    ·cases e:H b with
     | none=>rfl
     | some o=>
      by_cases zL:b=L
      ·rw [zL,hL7]at z;cases z
      ·rw [kO b o e zL]at z;cases z
   ·exact gaa b o (kO b o e nb) nb (λz=>by rw [nF7 b (P7.bk.M_F z)]at e;cases e) λz=>by rw [nS8 b z]at e;cases e
  rintro Y H7 ⟨F7,B,w8,w9,rfl,L7,P7,eks,hB7,eu7,nFu7,nF7,kO⟩
  have KO:∀k∈B.ks,KeyOk k:=by rw [eks];exact hok
  try dsimp only
  clear g011 g010 g810 g11 g10 g9 g8 g5 g4 g3 g08 g05 g04 eu7 nFu7 nFu nSu e11 P10 P8 L8 hS8 e5k fF' fF gg bk nF8
  refine au (aQ ?_)
  refine⟨_,rfl,_,rfl,_,rfl,sa,ns,2,rfl,iA hS hL kO,by decide,λn=>⟨x,a,F7,s,B,n,rfl,P7.bk,P7.st,KO,λH12 g12=>⟨_,rfl,aX ?_⟩⟩⟩
  have P12:=P7.grow g12
  refine⟨_,rfl,_,rfl,_,rfl,_,_,rfl,rfl,x,a,F7,s,B,c+1,rfl,P12.bk,P12.st,KO,λH13 g13=>⟨_,rfl,aX (aI ?_)⟩⟩
  have P13:=P12.grow g13
  have L13:Lm L H13:=ci L7 λb o e _ _=>(g12.trans g13) b o e
  clear P12 P7 L7 kO
  try dsimp only
  refine au (aQ ⟨_,rfl,rfl,_,rfl,?_⟩)
  by_cases h60:m=60
  ·rw [decide_eq_true (by rw [h60])]
   refine bG (bj ?_)
   exact⟨_,rfl,_,rfl,_,rfl,x,a,F7,s,B,c,rfl,P13.bk,P13.st,KO,by omega,λH' _=>q H'⟩
  rw [decide_eq_false (λz=>h60 (V.int.inj z))]
  refine aX (aI ?_)
  try dsimp only
  obtain⟨kl,hkl,ekl⟩:=yD k1
  have cp:q8 10 9:=⟨by decide,by decide,by decide⟩
  refine au ?_
  refine⟨10,9,rfl,rfl,cp,by show 3<=sizeLine;decide,λt1 nt1=>⟨10,9,rfl,rfl,cp,_,_,rfl,rfl,by show 3<=sizeLine;decide,λt2 nt2=>⟨by show 3<=sizeLine;decide,λt3 nt3=>⟨by show 3<=sizeLine;decide,λl4 nl4=>?_⟩⟩⟩⟩
  have g14:aq H13 (upd H13 t1 (.tup [.int 0,.int 0,.int (10 ^ (9:Int).toNat)])):=aq.new nt1
  have e14:upd H13 t1 (.tup [.int 0,.int 0,.int (10 ^ (9:Int).toNat)]) t1=some (.tup [.int 0,.int 0,.int (10 ^ (9:Int).toNat)]):=ag
  generalize upd H13 t1 (.tup [.int 0,.int 0,.int (10 ^ (9:Int).toNat)])=H14 at *
  have g15:aq H14 (upd H14 t2 (.tup [.int 399,.int 399,.int (0 - 10 ^ (9:Int).toNat)])):=aq.new nt2
  have e15:upd H14 t2 (.tup [.int 399,.int 399,.int (0 - 10 ^ (9:Int).toNat)]) t2=some (.tup [.int 399,.int 399,.int (0 - 10 ^ (9:Int).toNat)]):=ag
  generalize upd H14 t2 (.tup [.int 399,.int 399,.int (0 - 10 ^ (9:Int).toNat)])=H15 at *
  have g16:aq H15 (upd H15 t3 (.tup [.int 0,.int 399,.int 0])):=aq.new nt3
  have e16:upd H15 t3 (.tup [.int 0,.int 399,.int 0]) t3=some (.tup [.int 0,.int 399,.int 0]):=ag
  generalize upd H15 t3 (.tup [.int 0,.int 399,.int 0])=H16 at *
  have g17:aq H16 (upd H16 l4 (.lst [.ref t1,.ref t2,.ref t3])):=aq.new nl4
  have e17:upd H16 l4 (.lst [.ref t1,.ref t2,.ref t3]) l4=some (.lst [.ref t1,.ref t2,.ref t3]):=ag
  generalize upd H16 l4 (.lst [.ref t1,.ref t2,.ref t3])=H17 at *
  refine⟨_,rfl,_,_,rfl,rfl,60 - m,rfl,l4,_,rfl,SqL.of e17,λl5 nl5=>⟨l5,rfl,⟨_,SqL.of ag⟩,?_⟩⟩
  have hzl:((cutV [.ref t1,.ref t2,.ref t3] none (some (60 - m))).length:Int)<=60 - m:=by
   unfold cutV
   rw [List.length_take,List.length_drop]
   have h1:HT.sIx [V.ref t1,V.ref t2,V.ref t3].length 0 none=0:=rfl
   have h2:(HT.sIx [V.ref t1,V.ref t2,V.ref t3].length [V.ref t1,V.ref t2,V.ref t3].length (some (60 - m)):Int)<=60 - m:=zD (by omega)
   rw [h1]
   omega
  have hzm:∀z∈cutV [.ref t1,.ref t2,.ref t3] none (some (60 - m)),z=.ref t1\/z=.ref t2\/z=.ref t3:=λz hz=>by
   unfold cutV at hz
   have:=List.mem_of_mem_drop (List.mem_of_mem_take hz)
   simpa using this
  generalize cutV [.ref t1,.ref t2,.ref t3] none (some (60 - m))=ys at *
  have g18:aq H17 (upd H17 l5 (.lst ys)):=aq.new nl5
  have e18:upd H17 l5 (.lst ys) l5=some (.lst ys):=ag
  have gA:=g14.trans (g15.trans (g16.trans g17))
  have nl5':=gA.free nl5
  generalize upd H17 l5 (.lst ys)=H18 at *
  have htu:∀z∈ys,∃(t:Addr) (f l v:Int),z=.ref t/\H18 t=some (.tup [.int f,.int l,.int v])/\0<=f/\f<=l/\l < 400/\-1000000000<=v/\v<=1000000000:=λz hz=>by
   have z9:=B0
   rcases hzm z hz with rfl | rfl | rfl
   ·exact⟨t1,_,_,_,rfl,(g15.trans (g16.trans (g17.trans g18))) _ _ e14,by decide,by decide,by decide,by rw [z9];decide,by rw [z9];decide⟩
   ·exact⟨t2,_,_,_,rfl,(g16.trans (g17.trans g18)) _ _ e15,by decide,by decide,by decide,by rw [z9];decide,by rw [z9];decide⟩
   ·exact⟨t3,_,_,_,rfl,(g17.trans g18) _ _ e16,by decide,by decide,by decide,by decide,by decide⟩
  have g1318:=gA.trans g18
  have P18:=P13.grow g1318
  have L18:Lm L H18:=ci L13 λb o e _ _=>g1318 b o e
  obtain⟨ps,ef,rf⟩:=id P18.st.hf
  have nFl:¬F7 l5:=λz=>(P13.fd _ z).1 nl5'
  have nSl:l5≠s.f:=λz=>by
   obtain⟨w,e,_⟩:=P13.st.hf
   rw [z,e]at nl5';cases nl5'
  refine dc (K:=K) (a:=l5) (xs:=ys) (LI2 C L sa x u0 l5 s a c m ks ys H18 w1)
   ⟨F7,B,_,_,_,_,_,_,rfl,L18,P18.bk,eks,by omega,ef,by rw [List.length_map];exact Paired.length rf,by rw [<- eks];exact P18.st.hk,P18.st.dd,e18,P13.sf _ (.inr (.inr (.inl rfl))),P13.sf _ (.inr (.inl rfl)),P13.sf _ (.inl rfl),nFl,λb xs e=>e⟩ (λi Y H9 _ hh=>?_) (λi y Y H9 hi hh=>?_) λY H9 hh=>?_
  ·exact SqL.of (by cases hh;assumption)
  ·obtain⟨F9,B9,fl,w8,w9,w10,w11,w12,rfl,L9,bk9,ek9,hB9,ef9,lf9,ekk9,ed9,el9,nf9,nk9,nd9,nl9,tp9⟩:=hh
   have hil:=(List.getElem?_eq_some_iff.mp hi).1
   obtain⟨t,f,l,v,rfl,et,f0,fl',l4',v0,v1⟩:=htu y (List.mem_of_getElem? hi)
   obtain⟨dx9,ho⟩:=bk9.ob
   obtain⟨pL9,hL9⟩:=L9.tbl
   have O9:=bk9.ok
   have fsz:=O9.fsz
   have hm:B9.ds.length < 60:=by omega
   refine⟨t,_,rfl,SqT.of (tp9 _ _ et),rfl,_,_,rfl,_,_,rfl,_,_,rfl,rfl,?_⟩
   try dsimp only
   refine au (aQ ⟨_,rfl,x,dx9,_,rfl,ho,bi a (by decide +kernel) (by decide +kernel) (by decide +kernel) (by decide +kernel) (by decide +kernel),_,rfl,1,rfl,s.k,_,-1,.str kl,rfl,rfl,SqL.of ekk9,ekl,_,rfl,_,rfl,_,rfl,x,a,F9,B9,kl,f,l,v,rfl,L9,bk9,by rw [ek9];exact hkl,f0,fl',l4',v0,v1,hm,λHa Fa La fa0 fa1 ga bka=>?_⟩)
   have keep:∀b o,H9 b=some o->¬F9 b->(∀ps,o≠.tbl ps)->Ha b=some o:=λb o e nf nt=>ga b o e (aS e hL9 (nt _)) λz=>nf (bk9.M_F z)
   have efa:=keep _ _ ef9 nf9 (by intro _ z;cases z)
   have eda:=keep _ _ ed9 nd9 (by intro _ z;cases z)
   have eka:=keep _ _ ekk9 nk9 (by intro _ z;cases z)
   have ela:=keep _ _ el9 nl9 (by intro _ z;cases z)
   have dga:cL Ha s.d (.str "found") (some (.ref s.f)):=by rw [<- zV s];exact cL.k (k:=Sum.inr _) eda
   refine⟨_,rfl,s.d,_,rfl,dga,s.f,_,rfl,.inl (SqL.of efa),rfl,_,rfl,?_⟩
   rw [lf9,decide_eq_true rfl]
   refine aX (aI ?_)
   try dsimp only
   refine bE (kb ⟨_,rfl,s.d,_,rfl,dga,.inl ⟨rfl,_,SqL.of efa⟩,_,rfl,1,rfl,s.k,_,-1,.str kl,rfl,rfl,SqL.of eka,ekl,_,rfl,_,rfl,_,rfl,by show 5<=sizeLine;decide,λy ny=>?_⟩)
   have gy:aq Ha (upd Ha y (.tup [.str kl,.int f,.int l,.int v,.int 0])):=aq.new ny
   generalize upd Ha y (.tup [.str kl,.int f,.int l,.int v,.int 0])=Hy at *
   refine⟨s.f,_,_,rfl,rfl,gy _ _ efa,bq (by omega),?_⟩
   have kf:∀b o,Hy b=some o->b≠s.f->upd Hy s.f (.lst (fl++[.ref y])) b=some o:=λb o e n=>by rw [aj n];exact e
   have nof:∀{b:Addr}{o:HO},H9 b=some o->¬F9 b->¬Fa b:=λ{b o} e n z=>by
    rcases fa1 b z with z | z
    ·exact n z
    ·rw [e]at z;cases z
   have nfa:¬Fa s.f:=nof ef9 nf9
   have tk:∀b xs,Hy b=some (.tup xs)->upd Hy s.f (.lst (fl++[.ref y])) b=some (.tup xs):=λb xs e=>kf b _ e (aS e (gy _ _ efa) (by intro z;cases z))
   refine⟨Fa,B9.find kl f l v,_,_,_,_,_,_,rfl,ci La λb o e n1 _=>kf b o (gy _ _ e) (aS e efa (n1 _)),bka.keep ⟨λb o fb e=>kf b o (gy _ _ e) λz=>nfa (by rw [<- z];exact fb),λb xs e=>tk b xs (gy _ _ e),λb c' dx' fs e=>kf b _ (gy _ _ e) (aS e efa (by intro z;cases z))⟩,ek9,?_,ag,?_,kf _ _ (gy _ _ eka) P13.st.kf,kf _ _ (gy _ _ eda) (aS eda efa (by intro z;cases z)),kf _ _ (gy _ _ ela) nSl,nfa,nof ekk9 nk9,nof ed9 nd9,nof el9 nl9,λb xs e=>tk b xs (gy _ _ (ga b _ (tp9 b xs e) (aS (tp9 b xs e) hL9 (by intro z;cases z)) λz=>?_))⟩
   ·show (((B9.ds++[_]).length:Nat):Int)=_
    rw [List.length_append]
    show ((B9.ds.length+1:Nat):Int)=_
    omega
   ·show (fl++[_]).length=(B9.fs++[_]).length
    rw [List.length_append,List.length_append,lf9];rfl
   ·rcases bk9.kinds z with⟨w,e1⟩ | ⟨w,e1⟩ <;> (rw [tp9 b xs e]at e1;cases e1)
  obtain⟨_,_,_,_,_,_,_,_,rfl,_⟩:=hh
  try dsimp only
  exact bj (q _)
theorem ar1 {P:List Value->Prop} (h:∀a,P [a]):∀us:List Value,us.length=1->P us:=λus e=>by
 obtain⟨a,rfl⟩:=List.length_eq_one_iff.mp e
 exact h a
theorem ar2 {P:List Value->Prop} (h:∀x1 x2,P [x1,x2]) (us:List Value) (e:us.length=2):P us:=by
 cases us with
 | nil=>cases e
 | cons a t=>exact ar1 (P:=λt=>P (a::t)) (λx1=>h a x1) t (Nat.succ.inj e)
theorem ar3 {P:List Value->Prop} (h:∀x1 x2 x3,P [x1,x2,x3]) (us:List Value) (e:us.length=3):P us:=by
 cases us with
 | nil=>cases e
 | cons a t=>exact ar2 (P:=λt=>P (a::t)) (λx1 x2=>h a x1 x2) t (Nat.succ.inj e)
theorem ar4 {P:List Value->Prop} (h:∀x1 x2 x3 x4,P [x1,x2,x3,x4]) (us:List Value) (e:us.length=4):P us:=by
 cases us with
 | nil=>cases e
 | cons a t=>exact ar3 (P:=λt=>P (a::t)) (λx1 x2 x3=>h a x1 x2 x3) t (Nat.succ.inj e)
theorem ar5 {P:List Value->Prop} (h:∀x1 x2 x3 x4 x5,P [x1,x2,x3,x4,x5]) (us:List Value) (e:us.length=5):P us:=by
 cases us with
 | nil=>cases e
 | cons a t=>exact ar4 (P:=λt=>P (a::t)) (λx1 x2 x3 x4=>h a x1 x2 x3 x4) t (Nat.succ.inj e)
noncomputable abbrev zR:Stmt:=bK (top 3) 0
noncomputable abbrev zQ:Stmt:=bK (top 4) 0
noncomputable abbrev zP:Stmt:=bK (top 5) 0
noncomputable abbrev zO:Stmt:=bK (top 6) 0
noncomputable abbrev zN:Stmt:=bK (top 7) 0
noncomputable abbrev zM:Stmt:=bK (top 8) 0
theorem Bi:FnScope ["self", "key"] ["self", "key"] (ao zR):=aZ
theorem Ak (F:Fun K "__init__" "NoKey.__init__" zR f fd):FnOk P w K mg base CX0 1 f fd ["self", "key"] (lC K "key"):=by
 refine okF F Bi λcdv A outer s H vs Q E hr h=>?_
 ·obtain⟨e,C,U,v,rfl,he,T,hn,hq⟩:=h
  exact⟨_,am (gP (pv 0) (pv 1) rfl),_,rfl,_,rfl,e,C,U,rfl,he,T,hn,hq⟩
theorem Bh:FnScope ["self", "day"] ["self", "day"] (ao zQ):=aZ
theorem Aj (F:Fun K "__init__" "NoDay.__init__" zQ f fd):FnOk P w K mg base CX0 1 f fd ["self", "day"] (lC K "day"):=by
 refine okF F Bh λcdv A outer s H vs Q E hr h=>?_
 ·obtain⟨e,C,U,v,rfl,he,T,hn,hq⟩:=h
  exact⟨_,am (gP (pv 0) (pv 1) rfl),_,rfl,_,rfl,e,C,U,rfl,he,T,hn,hq⟩
theorem Bg:FnScope ["self", "thing"] ["self", "thing"] (ao zP):=aZ
theorem Ai (F:Fun K "__init__" "NoValue.__init__" zP f fd):FnOk P w K mg base CX0 1 f fd ["self", "thing"] (lC K "thing"):=by
 refine okF F Bg λcdv A outer s H vs Q E hr h=>?_
 ·obtain⟨e,C,U,v,rfl,he,T,hn,hq⟩:=h
  exact⟨_,am (gP (pv 0) (pv 1) rfl),_,rfl,_,rfl,e,C,U,rfl,he,T,hn,hq⟩
theorem Bf:FnScope ["self", "number"] ["self", "number"] (ao zO):=aZ
theorem Ah (F:Fun K "__init__" "NoFinding.__init__" zO f fd):FnOk P w K mg base CX0 1 f fd ["self", "number"] (lC K "number"):=by
 refine okF F Bf λcdv A outer s H vs Q E hr h=>?_
 ·obtain⟨e,C,U,v,rfl,he,T,hn,hq⟩:=h
  exact⟨_,am (gP (pv 0) (pv 1) rfl),_,rfl,_,rfl,e,C,U,rfl,he,T,hn,hq⟩
theorem Be:FnScope ["self", "number"] ["self", "number"] (ao zN):=aZ
theorem Ag (F:Fun K "__init__" "Gone.__init__" zN f fd):FnOk P w K mg base CX0 1 f fd ["self", "number"] (lC K "number"):=by
 refine okF F Be λcdv A outer s H vs Q E hr h=>?_
 ·obtain⟨e,C,U,v,rfl,he,T,hn,hq⟩:=h
  exact⟨_,am (gP (pv 0) (pv 1) rfl),_,rfl,_,rfl,e,C,U,rfl,he,T,hn,hq⟩
theorem Bd:FnScope ["self", "turn"] ["self", "turn"] (ao zM):=aZ
theorem Af (F:Fun K "__init__" "NoTurn.__init__" zM f fd):FnOk P w K mg base CX0 1 f fd ["self", "turn"] (lC K "turn"):=by
 refine okF F Bd λcdv A outer s H vs Q E hr h=>?_
 ·obtain⟨e,C,U,v,rfl,he,T,hn,hq⟩:=h
  exact⟨_,am (gP (pv 0) (pv 1) rfl),_,rfl,_,rfl,e,C,U,rfl,he,T,hn,hq⟩
noncomputable def wT (K:PySem.W.Frag) (cs:List Addr):Bool:=(List.range 13).all λi=>match cs[i]? with
 | some c=>(List.range 13).all (λj=>match cs[j]? with
   | some d=>PySem.W.kitOne K (.ref c) (.ref d) == some (decide (i=j))
   | none=>false) && (PySem.W.kitOne K (.ref c) (.type "ValueError") == some true)
 | none=>false
theorem sN {K:PySem.W.Frag}{cs:List Addr} (h:wT K cs=true) (hl:cs.length=13){i:Nat}{c:Addr} (e:cs[i]?=some c) :
  (∀(j:Nat) (d:Addr),cs[j]?=some d->PySem.W.kitOne K (.ref c) (.ref d)=some (decide (i=j)))/\PySem.W.kitOne K (.ref c) (.type "ValueError")=some true:=by
 have hi:i < 13:=by have:=(List.getElem?_eq_some_iff.mp e).1;omega
 have q:=List.all_eq_true.mp h i (List.mem_range.mpr hi)
 rw [e]at q
 simp only [Bool.and_eq_true,beq_iff_eq]at q
 refine⟨λj d ej=>?_,q.2⟩
 have hj:j < 13:=by have:=(List.getElem?_eq_some_iff.mp ej).1;omega
 have q2:=List.all_eq_true.mp q.1 j (List.mem_range.mpr hj)
 rw [ej]at q2
 exact beq_iff_eq.mp q2
theorem all_mk {l:PySem.W.OpenLaw}{w:World}{K:PySem.W.Frag}{h:Heap}{mg:Str->Option Value}{fa c L C U f0 f1 f2 f3 f4 f5 f6 f7 f8 f9 f10 f11 f12 f13 f14 f15 f16 f17 f18 f19 f20 f21 f22 f23 f24 f25 f26 f27 f28 f29 f30 f31 f32 f33 f34 f35 f36 f37 f38 f39 f40 f41 f42 f43 f44 f45 f46 f47 c0 c1 c2 c3 c4 c5 c6 c7 c8 c9 c10 c11 c12 g1 g2 g3 g4 g5 g6:Addr}{d1 d2 d3 d4 d5 d6 d7 d8 d9 d10 d11 d12 d13 d14 d15 d16 d17 d18 d19 d20 d21 d22 d23 d24 d25 d26 d27 d28 d29 d30 d31 d32 d33 d34 d35 d36 d37 d38 d39 d40 d41 d42 d43 d44 d45 d46 d47 y1 y2 y3 y4 y5 y6:FuncData} (X:K.In h) (G:h.Ns mainGlobals mg) (hfa:mg "law" = some (.ref fa))
  {od0 an0:Option Addr}{sl0:Array (Option Value)}{oc0 kV0 dc0 pm0 ct0:Value}{t19:Addr}{od19:Value}{oe19:Option Addr}{on19:Nat}{os19:Array (Option Value)}{t33:Addr}{od33:Value}{oe33:Option Addr}{on33:Nat}{os33:Array (Option Value)}{t35:Addr}{od35:Value}{oe35:Option Addr}{on35:Nat}{os35:Array (Option Value)}
  (aU:PySem.W.nsIn K mainGlobals "UnsayError" = some (some (.ref U))) (aC:PySem.W.nsIn K mainGlobals "Book" = some (some (.ref C)))
  (a0:PySem.W.nsIn K mainGlobals "joined" = some (some (.ref f0))) (l0:K.lookup f0=some ⟨oc0,od0,.func (PySem.W.fnOf "joined" "joined" (cN cY) (bX cY) (ao cY) .none kV0 dc0 pm0 an0 (.ref c) ct0),sl0⟩) (e0:PySem.W.codeIn K (.ref c) "joined" = true) (k0:PySem.W.keepIn K (.ref f0)=true)
  (a1:PySem.W.nsIn K mainGlobals "law" = some (some (.ref f1))) (F1:Fun K "law" "law" tG f1 d1)
  (a2:PySem.W.nsIn K mainGlobals "_law_cell" = some (some (.ref f2))) (F2:Fun K "_law_cell" "_law_cell" vR f2 d2)
  (a3:PySem.W.nsIn K mainGlobals "_law_keys" = some (some (.ref f3))) (F3:Fun K "_law_keys" "_law_keys" vM f3 d3)
  (a4:PySem.W.nsIn K mainGlobals "_law_draw" = some (some (.ref f4))) (F4:Fun K "_law_draw" "_law_draw" vO f4 d4)
  (a5:PySem.W.nsIn K mainGlobals "_law_mix" = some (some (.ref f5))) (F5:Fun K "_law_mix" "_law_mix" zT f5 d5)
  (a6:PySem.W.nsIn K mainGlobals "_law_state" = some (some (.ref f6))) (F6:Fun K "_law_state" "_law_state" qv f6 d6)
  (a7:PySem.W.nsIn K mainGlobals "_law_done" = some (some (.ref f7))) (F7:Fun K "_law_done" "_law_done" vP f7 d7)
  (a8:PySem.W.nsIn K mainGlobals "_law_standing" = some (some (.ref f8))) (F8:Fun K "_law_standing" "_law_standing" qw f8 d8)
  (a9:PySem.W.nsIn K mainGlobals "_law_stretch" = some (some (.ref f9))) (F9:Fun K "_law_stretch" "_law_stretch" jU f9 d9)
  (a10:PySem.W.nsIn K mainGlobals "_law_whole" = some (some (.ref f10))) (F10:Fun K "_law_whole" "_law_whole" qt f10 d10)
  (a11:PySem.W.findIn K (.ref C) "find" = some (some (.ref f11))) (i11:PySem.W.isFn K (.ref f11)=true) (F11:Fun K "find" "Book.find" sg f11 d11)
  (a12:PySem.W.findIn K (.ref C) "check_key" = some (some (.ref f12))) (i12:PySem.W.isFn K (.ref f12)=true) (F12:Fun K "check_key" "Book.check_key" jq f12 d12)
  (a13:PySem.W.nsIn K mainGlobals "check_stretch" = some (some (.ref f13))) (F13:Fun K "check_stretch" "check_stretch" nV f13 d13)
  (a14:PySem.W.nsIn K mainGlobals "is_whole" = some (some (.ref f14))) (F14:Fun K "is_whole" "is_whole" fY f14 d14)
  (a15:PySem.W.nsIn K mainGlobals "is_day" = some (some (.ref f15))) (F15:Fun K "is_day" "is_day" nQ f15 d15)
  (a16:PySem.W.findIn K (.ref C) "check_room" = some (some (.ref f16))) (i16:PySem.W.isFn K (.ref f16)=true) (F16:Fun K "check_room" "Book.check_room" iH f16 d16)
  (a17:PySem.W.findIn K (.ref C) "now" = some (some (.ref f17))) (i17:PySem.W.isFn K (.ref f17)=true) (F17:Fun K "now" "Book.now" zS f17 d17)
  (a18:PySem.W.findIn K (.ref C) "take_deed" = some (some (.ref f18))) (i18:PySem.W.isFn K (.ref f18)=true) (F18:Fun K "take_deed" "Book.take_deed" vI f18 d18)
  (a19:PySem.W.findIn K (.ref C) "table" = some (some (.ref f19))) (i19:PySem.W.isFn K (.ref f19)=true) (F19:FunD K "table" "Book.table" nK (.ref t19) f19 d19) (ed19:K.lookup t19=some ⟨od19,oe19,.seq #[Value.none] on19,os19⟩)
  (a20:PySem.W.findIn K (.ref C) "turn_meant" = some (some (.ref f20))) (i20:PySem.W.isFn K (.ref f20)=true) (F20:Fun K "turn_meant" "Book.turn_meant" nN f20 d20)
  (a21:PySem.W.nsIn K mainGlobals "laid" = some (some (.ref f21))) (F21:Fun K "laid" "laid" vK f21 d21)
  (a22:PySem.W.nsIn K mainGlobals "goes_on" = some (some (.ref f22))) (F22:Fun K "goes_on" "goes_on" nR f22 d22)
  (a23:PySem.W.nsIn K mainGlobals "around" = some (some (.ref f23))) (F23:Fun K "around" "around" nY f23 d23)
  (a24:PySem.W.findIn K (.ref C) "withdraw" = some (some (.ref f24))) (i24:PySem.W.isFn K (.ref f24)=true) (F24:Fun K "withdraw" "Book.withdraw" nJ f24 d24)
  (a25:PySem.W.findIn K (.ref C) "check_number" = some (some (.ref f25))) (i25:PySem.W.isFn K (.ref f25)=true) (F25:Fun K "check_number" "Book.check_number" jp f25 d25)
  (a26:PySem.W.findIn K (.ref C) "table_of_known" = some (some (.ref f26))) (i26:PySem.W.isFn K (.ref f26)=true) (F26:Fun K "table_of_known" "Book.table_of_known" qx f26 d26)
  (a27:PySem.W.nsIn K mainGlobals "_law_bad_keys" = some (some (.ref f27))) (F27:Fun K "_law_bad_keys" "_law_bad_keys" jW f27 d27)
  (a28:PySem.W.nsIn K mainGlobals "_law_full" = some (some (.ref f28))) (F28:Fun K "_law_full" "_law_full" vN f28 d28)
  (a29:PySem.W.nsIn K mainGlobals "_law_told" = some (some (.ref f29))) (F29:Fun K "_law_told" "_law_told" vH f29 d29)
  (a30:PySem.W.nsIn K mainGlobals "_law_call" = some (some (.ref f30))) (F30:Fun K "_law_call" "_law_call" vS f30 d30)
  (a31:PySem.W.findIn K (.ref C) "found" = some (some (.ref f31))) (i31:PySem.W.isFn K (.ref f31)=true) (F31:Fun K "found" "Book.found" nU f31 d31)
  (a32:PySem.W.findIn K (.ref C) "deed_at" = some (some (.ref f32))) (i32:PySem.W.isFn K (.ref f32)=true) (F32:Fun K "deed_at" "Book.deed_at" jo f32 d32)
  (a33:PySem.W.findIn K (.ref C) "speaks" = some (some (.ref f33))) (i33:PySem.W.isFn K (.ref f33)=true) (F33:FunD K "speaks" "Book.speaks" nM (.ref t33) f33 d33) (ed33:K.lookup t33=some ⟨od33,oe33,.seq #[Value.none] on33,os33⟩)
  (a34:PySem.W.nsIn K mainGlobals "mark_on" = some (some (.ref f34))) (F34:Fun K "mark_on" "mark_on" nO f34 d34)
  (a35:PySem.W.findIn K (.ref C) "value" = some (some (.ref f35))) (i35:PySem.W.isFn K (.ref f35)=true) (F35:FunD K "value" "Book.value" qu (.ref t35) f35 d35) (ed35:K.lookup t35=some ⟨od35,oe35,.seq #[Value.none] on35,os35⟩)
  (a36:PySem.W.findIn K (.ref C) "__init__" = some (some (.ref f36))) (i36:PySem.W.isFn K (.ref f36)=true) (F36:Fun K "__init__" "Book.__init__" se f36 d36)
  (a37:PySem.W.nsIn K mainGlobals "are_keys" = some (some (.ref f37))) (F37:Fun K "are_keys" "are_keys" iI f37 d37)
  (a38:PySem.W.nsIn K mainGlobals "is_name" = some (some (.ref f38))) (F38:Fun K "is_name" "is_name" p4 f38 d38)
  (a39:PySem.W.nsIn K mainGlobals "has_only" = some (some (.ref f39))) (F39:Fun K "has_only" "has_only" zU f39 d39)
  (a40:PySem.W.nsIn K mainGlobals "_law_kind" = some (some (.ref f40))) (F40:Fun K "_law_kind" "_law_kind" vL f40 d40)
  (a41:PySem.W.nsIn K mainGlobals "_law_field" = some (some (.ref f41))) (F41:Fun K "_law_field" "_law_field" qy f41 d41)
  (a42:PySem.W.nsIn K mainGlobals "_law_all" = some (some (.ref f42))) (F42:Fun K "_law_all" "_law_all" vT f42 d42)
  (a43:PySem.W.findIn K (.ref C) "all_keys" = some (some (.ref f43))) (i43:PySem.W.isFn K (.ref f43)=true) (F43:Fun K "all_keys" "Book.all_keys" zX f43 d43)
  (a44:PySem.W.nsIn K mainGlobals "_law_refused" = some (some (.ref f44))) (F44:Fun K "_law_refused" "_law_refused" jV f44 d44)
  (a45:PySem.W.nsIn K mainGlobals "_law_rows" = some (some (.ref f45))) (F45:Fun K "_law_rows" "_law_rows" vJ f45 d45)
  (a46:PySem.W.nsIn K mainGlobals "_law_bad_day" = some (some (.ref f46))) (F46:Fun K "_law_bad_day" "_law_bad_day" nX f46 d46)
  (a47:PySem.W.nsIn K mainGlobals "_law_bad_number" = some (some (.ref f47))) (F47:Fun K "_law_bad_number" "_law_bad_number" nW f47 d47)
  (cm0:PySem.W.nsIn K mainGlobals "NoKeys" = some (some (.ref c0))) (T0:XCls K c0 U) (ia0:PySem.W.findIn K (.ref c0) "__init__" = some (some (.builtin "ValueError.__init__")))
  (cm1:PySem.W.nsIn K mainGlobals "NoKey" = some (some (.ref c1))) (T1:XCls K c1 U) (ia1:PySem.W.findIn K (.ref c1) "__init__" = some (some (.ref g1))) (ii1:PySem.W.isFn K (.ref g1)=true) (I1:Fun K "__init__" "NoKey.__init__" zR g1 y1) (nf1:PySem.W.findIn K (.ref c1) "key" = some none)
  (cm2:PySem.W.nsIn K mainGlobals "NoDay" = some (some (.ref c2))) (T2:XCls K c2 U) (ia2:PySem.W.findIn K (.ref c2) "__init__" = some (some (.ref g2))) (ii2:PySem.W.isFn K (.ref g2)=true) (I2:Fun K "__init__" "NoDay.__init__" zQ g2 y2) (nf2:PySem.W.findIn K (.ref c2) "day" = some none)
  (cm3:PySem.W.nsIn K mainGlobals "NoValue" = some (some (.ref c3))) (T3:XCls K c3 U) (ia3:PySem.W.findIn K (.ref c3) "__init__" = some (some (.ref g3))) (ii3:PySem.W.isFn K (.ref g3)=true) (I3:Fun K "__init__" "NoValue.__init__" zP g3 y3) (nf3:PySem.W.findIn K (.ref c3) "thing" = some none)
  (cm4:PySem.W.nsIn K mainGlobals "NoFinding" = some (some (.ref c4))) (T4:XCls K c4 U) (ia4:PySem.W.findIn K (.ref c4) "__init__" = some (some (.ref g4))) (ii4:PySem.W.isFn K (.ref g4)=true) (I4:Fun K "__init__" "NoFinding.__init__" zO g4 y4) (nf4:PySem.W.findIn K (.ref c4) "number" = some none)
  (cm5:PySem.W.nsIn K mainGlobals "Gone" = some (some (.ref c5))) (T5:XCls K c5 U) (ia5:PySem.W.findIn K (.ref c5) "__init__" = some (some (.ref g5))) (ii5:PySem.W.isFn K (.ref g5)=true) (I5:Fun K "__init__" "Gone.__init__" zN g5 y5) (nf5:PySem.W.findIn K (.ref c5) "number" = some none)
  (cm6:PySem.W.nsIn K mainGlobals "NoTurn" = some (some (.ref c6))) (T6:XCls K c6 U) (ia6:PySem.W.findIn K (.ref c6) "__init__" = some (some (.ref g6))) (ii6:PySem.W.isFn K (.ref g6)=true) (I6:Fun K "__init__" "NoTurn.__init__" zM g6 y6) (nf6:PySem.W.findIn K (.ref c6) "turn" = some none)
  (cm7:PySem.W.nsIn K mainGlobals "Full" = some (some (.ref c7))) (T7:XCls K c7 U) (ia7:PySem.W.findIn K (.ref c7) "__init__" = some (some (.builtin "ValueError.__init__")))
  (cm8:PySem.W.nsIn K mainGlobals "BadQuestion" = some (some (.ref c8))) (T8:XCls K c8 U)
  (cm9:PySem.W.nsIn K mainGlobals "NoName" = some (some (.ref c9))) (T9:XCls K c9 U)
  (cm10:PySem.W.nsIn K mainGlobals "NoBox" = some (some (.ref c10))) (T10:XCls K c10 U)
  (cm11:PySem.W.nsIn K mainGlobals "NoGiven" = some (some (.ref c11))) (T11:XCls K c11 U)
  (cm12:PySem.W.nsIn K mainGlobals "NoLine" = some (some (.ref c12))) (T12:XCls K c12 U)
  (TB:BkC K C) (mk:PySem.W.makesIn K C=true) (kc:PySem.W.keepIn K (.ref C)=true)
  {tq1 tq2 tq3 tq4 tq5 tq6:Tok} (q1:PySem.W.nsIn K mainGlobals "LETTERS" = some (some (.str fG tq1))) (q2:PySem.W.nsIn K mainGlobals "MOST_LETTERS" = some (some (.int 8 tq2))) (q3:PySem.W.nsIn K mainGlobals "LAST_DAY" = some (some (.int 399 tq3))) (q4:PySem.W.nsIn K mainGlobals "MOST_KEYS" = some (some (.int 8 tq4))) (q5:PySem.W.nsIn K mainGlobals "MOST_DEEDS" = some (some (.int 60 tq5))) (q6:PySem.W.nsIn K mainGlobals "MOST_VALUE" = some (some (.int 1000000000 tq6)))
  (hU:hIn K U=true) (kk:wT K [c0,c1,c2,c3,c4,c5,c6,c7,c8,c9,c10,c11,c12]=true) (z1:PySem.W.nsIn K mainGlobals "len" = some none) (z2:PySem.W.nsIn K mainGlobals "range" = some none) (z3:PySem.W.nsIn K mainGlobals "sorted" = some none) (z4:PySem.W.nsIn K mainGlobals "isinstance" = some none) (z5:PySem.W.nsIn K mainGlobals "int" = some none) (z6:PySem.W.nsIn K mainGlobals "bool" = some none) (z7:PySem.W.nsIn K mainGlobals "str" = some none) (z8:PySem.W.nsIn K mainGlobals "list" = some none) (z9:PySem.W.nsIn K mainGlobals "tuple" = some none) (z10:PySem.W.nsIn K mainGlobals "dict" = some none) (z11:PySem.W.nsIn K mainGlobals "set" = some none) (z12:PySem.W.nsIn K mainGlobals "max" = some none) (z13:PySem.W.nsIn K mainGlobals "min" = some none) (z14:PySem.W.nsIn K mainGlobals "all" = some none) (z15:PySem.W.nsIn K mainGlobals "enumerate" = some none) (z16:PySem.W.nsIn K mainGlobals "ValueError" = some none) (z17:PySem.W.nsIn K mainGlobals "repr" = some none) :
  ∃fd:FuncData,(∀(s:Shared) (v:Value),BindsTo s fd ⟨[v],[]⟩ [("_law_script", v)])/\∀base:Heap,K.In base->base.Ns mainGlobals mg->PySem.W.CodeHd base c L->base.BuiltinsAt mg L->FnOk l.prog w K mg base CX0 12 fa fd ["_law_script"] (rK K C L):=by
 have e:=hfa.symm.trans (PySem.W.mg_of X G a1)
 cases e
 have N:Free mg:=⟨PySem.W.mg_none_of X G z1,PySem.W.mg_none_of X G z2,PySem.W.mg_none_of X G z3,PySem.W.mg_none_of X G z4,PySem.W.mg_none_of X G z5,PySem.W.mg_none_of X G z6,PySem.W.mg_none_of X G z7,PySem.W.mg_none_of X G z8,PySem.W.mg_none_of X G z9,PySem.W.mg_none_of X G z10,PySem.W.mg_none_of X G z11,PySem.W.mg_none_of X G z12,PySem.W.mg_none_of X G z13,PySem.W.mg_none_of X G z14,PySem.W.mg_none_of X G z15⟩
 have Z:Con mg:=⟨⟨_,PySem.W.mg_of X G q1⟩,⟨_,PySem.W.mg_of X G q2⟩,⟨_,PySem.W.mg_of X G q3⟩,⟨_,PySem.W.mg_of X G q4⟩,⟨_,PySem.W.mg_of X G q5⟩,⟨_,PySem.W.mg_of X G q6⟩⟩
 have mC:=PySem.W.mg_of X G aC
 have n0:=PySem.W.mg_of X G cm0
 have n1:=PySem.W.mg_of X G cm1
 have n2:=PySem.W.mg_of X G cm2
 have n3:=PySem.W.mg_of X G cm3
 have n4:=PySem.W.mg_of X G cm4
 have n5:=PySem.W.mg_of X G cm5
 have n6:=PySem.W.mg_of X G cm6
 have n7:=PySem.W.mg_of X G cm7
 have n8:=PySem.W.mg_of X G cm8
 have n9:=PySem.W.mg_of X G cm9
 have n10:=PySem.W.mg_of X G cm10
 have n11:=PySem.W.mg_of X G cm11
 have n12:=PySem.W.mg_of X G cm12
 have KK:Kits K U [c0,c1,c2,c3,c4,c5,c6,c7,c8,c9,c10,c11,c12]:=by
  refine⟨rfl,λi C e=>?_,λi j C D e1 e2=>(sN kk rfl e1).1 j D e2,λi C e=>(sN kk rfl e).2⟩
  have hi:i < 13:=(List.getElem?_eq_some_iff.mp e).1
  rcases (show i=0\/i=1\/i=2\/i=3\/i=4\/i=5\/i=6\/i=7\/i=8\/i=9\/i=10\/i=11\/i=12 by omega) with rfl | rfl | rfl | rfl | rfl | rfl | rfl | rfl | rfl | rfl | rfl | rfl | rfl
  all_goals (cases e;assumption)
 have F0:=fun_mk (st:=cY) l0 e0 k0
 obtain⟨oc,od,kV,doc,pm,an,cdv,ct,osl,rfl,lk,hcd⟩:=id F1.ex
 refine⟨PySem.W.fnOf "law" "law" (cN tG) (bX tG) (ao tG) .none kV doc pm an cdv ct,λs v=>.of_eq rfl,λbase hK hN hC hB=>?_⟩
 have ky:∀{x:Str}{k:Nat}{ps:List Str}{sp:Sp}{f:Addr}{fd:FuncData},FnOk l.prog w K mg base CX0 k f fd ps sp->PySem.W.nsIn K mainGlobals x=some (some (.ref f))->PySem.W.keepIn K (.ref f)=true->cu K fd ps []->Cal l.prog w K mg base x k ps sp f fd:=λa b c d=>⟨a,PySem.W.mg_of X G b,c,d⟩
 have kx:∀{x:Str}{k:Nat}{ps:List Str}{sp:Sp}{f:Addr}{fd:FuncData},FnOk l.prog w K mg base (CXR l.prog w) k f fd ps sp->PySem.W.nsIn K mainGlobals x=some (some (.ref f))->PySem.W.keepIn K (.ref f)=true->cu K fd ps []->CalX l.prog w K mg base x k ps sp f fd:=λa b c d=>⟨a,PySem.W.mg_of X G b,c,d⟩
 have km:∀{m:Str}{k:Nat}{ps:List Str}{ds:List Value}{dvs:List V}{sp:Sp}{f:Addr}{fd:FuncData},FnOk l.prog w K mg base CX0 k f fd ps sp->PySem.W.findIn K (.ref C) m=some (some (.ref f))->PySem.W.isFn K (.ref f)=true->PySem.W.keepIn K (.ref f)=true->cu K fd ps ds->aP dvs ds->MC l.prog w K mg base C m k ps ds dvs sp f fd:=λa b c d e g=>⟨TB.cl,⟨b,c,d⟩,a,e,g⟩
 have kn:∀{m:Str}{k:Nat}{ps:List Str}{ds:List Value}{dvs:List V}{sp:Sp}{f:Addr}{fd:FuncData},FnOk l.prog w K mg base (CXR l.prog w) k f fd ps sp->PySem.W.findIn K (.ref C) m=some (some (.ref f))->PySem.W.isFn K (.ref f)=true->PySem.W.keepIn K (.ref f)=true->cu K fd ps ds->aP dvs ds->MCX l.prog w K mg base C m k ps ds dvs sp f fd:=λa b c d e g=>⟨TB.cl,⟨b,c,d⟩,a,e,g⟩
 have R0:Rf0 K mg "NoKeys" c0 U:=⟨n0,ia0,T0⟩
 have R1:Rf1 l.prog w K mg base "NoKey" c1 U "key" g1 _:=⟨Ak I1,n1,ia1,ii1,I1.binds λ_ _ _ _ _ _=>ar2 λ_ _=>rfl,T1,nf1⟩
 have R2:Rf1 l.prog w K mg base "NoDay" c2 U "day" g2 _:=⟨Aj I2,n2,ia2,ii2,I2.binds λ_ _ _ _ _ _=>ar2 λ_ _=>rfl,T2,nf2⟩
 have R3:Rf1 l.prog w K mg base "NoValue" c3 U "thing" g3 _:=⟨Ai I3,n3,ia3,ii3,I3.binds λ_ _ _ _ _ _=>ar2 λ_ _=>rfl,T3,nf3⟩
 have R4:Rf1 l.prog w K mg base "NoFinding" c4 U "number" g4 _:=⟨Ah I4,n4,ia4,ii4,I4.binds λ_ _ _ _ _ _=>ar2 λ_ _=>rfl,T4,nf4⟩
 have R5:Rf1 l.prog w K mg base "Gone" c5 U "number" g5 _:=⟨Ag I5,n5,ia5,ii5,I5.binds λ_ _ _ _ _ _=>ar2 λ_ _=>rfl,T5,nf5⟩
 have R6:Rf1 l.prog w K mg base "NoTurn" c6 U "turn" g6 _:=⟨Af I6,n6,ia6,ii6,I6.binds λ_ _ _ _ _ _=>ar2 λ_ _=>rfl,T6,nf6⟩
 have R7:Rf0 K mg "Full" c7 U:=⟨n7,ia7,T7⟩
 have K1:=ky (yr F2 N) a2 F2.kp (F2.binds λ_ _ _ _ _ _=>ar2 λ_ _=>rfl)
 have K2:=ky (Am F5 ) a5 F5.kp (F5.binds λ_ _ _ _ _ _=>ar2 λ_ _=>rfl)
 have K3:=ky (yo F4 K2) a4 F4.kp (F4.binds λ_ _ _ _ _ _=>ar3 λ_ _ _=>rfl)
 have K4:=ky (yk F3 N K3 K2) a3 F3.kp (F3.binds λ_ _ _ _ _ _=>ar1 λ_=>rfl)
 have K5:=ky (wA F6 N) a6 F6.kp (F6.binds λ_ _ _ _ _ _=>ar1 λ_=>rfl)
 have K6:=ky (wB F8 N) a8 F8.kp (F8.binds λ_ _ _ _ _ _=>ar1 λ_=>rfl)
 have K7:=ky (qF F9 N K3) a9 F9.kp (F9.binds λ_ _ _ _ _ _=>ar3 λ_ _ _=>rfl)
 have K8:=ky (wx F10 N) a10 F10.kp (F10.binds λ_ _ _ _ _ _=>ar1 λ_=>rfl)
 have K9:=km (dvs:=[]) (mw F12 TB) a12 i12 F12.kp (F12.binds λ_ _ _ _ _ _=>ar2 λ_ _=>rfl) .nil
 have K10:=ky (kC F14 N) a14 F14.kp (F14.binds λ_ _ _ _ _ _=>ar3 λ_ _ _=>rfl)
 have K11:=ky (wF F15 Z K10) a15 F15.kp (F15.binds λ_ _ _ _ _ _=>ar1 λ_=>rfl)
 have K12:=ky (pj F13 Z K10 K11) a13 F13.kp (F13.binds λ_ _ _ _ _ _=>ar2 λ_ _=>rfl)
 have K13:=km (dvs:=[]) (Al F17 N TB) a17 i17 F17.kp (F17.binds λ_ _ _ _ _ _=>ar1 λ_=>rfl) .nil
 have K14:=km (dvs:=[]) (kD F16 Z TB K13) a16 i16 F16.kp (F16.binds λ_ _ _ _ _ _=>ar1 λ_=>rfl) .nil
 have K15:=km (dvs:=[]) (yg F18 N TB) a18 i18 F18.kp (F18.binds λ_ _ _ _ _ _=>ar4 λ_ _ _ _=>rfl) .nil
 have K16:=km (dvs:=[]) (ph F20 TB K13 K10) a20 i20 F20.kp (F20.binds λ_ _ _ _ _ _=>ar2 λ_ _=>rfl) .nil
 have K17:=km (dvs:=[V.non]) (wz F19 N TB K9 K16) a19 i19 F19.kp (F19.binds (us0:=[]) (ps:=["self", "key", "turn"]) (ds:=[Value.none]) ed19 rfl λ_ _ _ _ _ _ us hl=>by
   have hl':us.length=2:=by simpa using hl
   clear hl
   revert us
   exact ar2 λ_ _=>⟨_,rfl,rfl⟩) (.cons rfl .nil)
 have C0:Cal l.prog w K mg base "joined" 3 ["rows"] (jI L) f0 _:=⟨tY l0 e0 hC hB N.sorted (tZ F22 ) (PySem.W.mg_of X G a22) F22.kp (F22.binds λ_ _ _ _ _ _=>ar3 λ_ _ _=>rfl),PySem.W.mg_of X G a0,k0,F0.binds λ_ _ _ _ _ _=>ar1 λ_=>rfl⟩
 have K19:=ky (sp:=(jN L)) (ua F23 N.min N.max) a23 F23.kp (F23.binds λ_ _ _ _ _ _=>ar3 λ_ _ _=>rfl)
 have K20:=ky (sp:=(jH L)) (yi F21 C0 K19) a21 F21.kp (F21.binds λ_ _ _ _ _ _=>ar4 λ_ _ _ _=>rfl)
 have K21:=km (dvs:=[]) (sH F11 N Z TB K9 K12 K10 K14 K13 K15 K17 K20) a11 i11 F11.kp (F11.binds λ_ _ _ _ _ _=>ar5 λ_ _ _ _ _=>rfl) .nil
 have K22:=km (dvs:=[]) (mq F25 N TB K10) a25 i25 F25.kp (F25.binds λ_ _ _ _ _ _=>ar2 λ_ _=>rfl) .nil
 have K23:=km (dvs:=[]) (wE F26 N TB K20) a26 i26 F26.kp (F26.binds λ_ _ _ _ _ _=>ar2 λ_ _=>rfl) .nil
 have K24:=km (dvs:=[]) (ww F24 TB K22 K14 K13 K15 K23) a24 i24 F24.kp (F24.binds λ_ _ _ _ _ _=>ar2 λ_ _=>rfl) .nil
 have K25:=ky (yp F7 N K3 K6 K7 K8 K21 K24) a7 F7.kp (F7.binds λ_ _ _ _ _ _=>ar4 λ_ _ _ _=>rfl)
 have K26:=ky (qL F27 ) a27 F27.kp (F27.binds λ_ _ _ _ _ _ us hl=>match us,hl with | [],_=>rfl)
 have K27:=kn (dvs:=[]) (show FnOk l.prog w K mg base (CXR l.prog w) 3 _ _ _ (gK C c1) from FnOk.both (FnOk.mono (j:=1) (mw F12 TB) (by decide)) (qK F12 TB R1)) a12 i12 F12.kp (F12.binds λ_ _ _ _ _ _=>ar2 λ_ _=>rfl) .nil
 have K28:=ky (tT F14 N) a14 F14.kp (F14.binds λ_ _ _ _ _ _=>ar3 λ_ _ _=>rfl)
 have K29:=ky (yq F15 Z K28) a15 F15.kp (F15.binds λ_ _ _ _ _ _=>ar1 λ_=>rfl)
 have K30:=kx (show FnOk l.prog w K mg base (CXR l.prog w) 3 _ _ _ (oU c2) from FnOk.both (pj F13 Z K10 K11) (u7 F13 Z K28 K29 R2)) a13 F13.kp (F13.binds λ_ _ _ _ _ _=>ar2 λ_ _=>rfl)
 have K31:=kn (dvs:=[]) (show FnOk l.prog w K mg base (CXR l.prog w) 3 _ _ _ (i7 C c7) from FnOk.both (FnOk.mono (j:=2) (kD F16 Z TB K13) (by decide)) (pi F16 Z TB K13 R7)) a16 i16 F16.kp (F16.binds λ_ _ _ _ _ _=>ar1 λ_=>rfl) .nil
 have K32:=kn (dvs:=[]) (wI F11 N Z TB K27 K30 K28 K31 K13 K15 K17 K20 R3) a11 i11 F11.kp (F11.binds λ_ _ _ _ _ _=>ar5 λ_ _ _ _ _=>rfl) .nil
 have K33:=kn (dvs:=[]) (show FnOk l.prog w K mg base (CXR l.prog w) 3 _ _ _ (iW C c4) from FnOk.both (FnOk.mono (j:=2) (mq F25 N TB K10) (by decide)) (qJ F25 N TB K28 R4)) a25 i25 F25.kp (F25.binds λ_ _ _ _ _ _=>ar2 λ_ _=>rfl) .nil
 have K34:=kn (dvs:=[]) (tR F24 TB K33 K31 K13 K15 K23 R5) a24 i24 F24.kp (F24.binds λ_ _ _ _ _ _=>ar2 λ_ _=>rfl) .nil
 have K35:=kn (dvs:=[]) (u5 F31 TB K33) a31 i31 F31.kp (F31.binds λ_ _ _ _ _ _=>ar2 λ_ _=>rfl) .nil
 have K36:=kn (dvs:=[]) (qI F32 TB K13 K28 R6) a32 i32 F32.kp (F32.binds λ_ _ _ _ _ _=>ar2 λ_ _=>rfl) .nil
 have K37:=kn (dvs:=[]) (show FnOk l.prog w K mg base (CXR l.prog w) 3 _ _ _ (jG C c6) from FnOk.both (FnOk.mono (j:=2) (ph F20 TB K13 K10) (by decide)) (tW F20 TB K13 K28 R6)) a20 i20 F20.kp (F20.binds λ_ _ _ _ _ _=>ar2 λ_ _=>rfl) .nil
 have K38:=ky (tX F34 ) a34 F34.kp (F34.binds λ_ _ _ _ _ _=>ar2 λ_ _=>rfl)
 have K39:=kn (dvs:=[]) (qG F33 N TB K27 K37 K38 K29 R2) a33 i33 F33.kp (F33.binds (us0:=[]) (ps:=["self", "key", "day", "turn"]) (ds:=[]) ed33 rfl λ_ _ _ _ _ _ us hl=>by
   have hl':us.length=4:=by simpa using hl
   clear hl
   revert us
   exact ar4 λ_ _ _ _=>⟨_,rfl,rfl⟩) .nil
 have K40:=kn (dvs:=[]) (tU F35 TB K39) a35 i35 F35.kp (F35.binds (us0:=[]) (ps:=["self", "key", "day", "turn"]) (ds:=[]) ed35 rfl λ_ _ _ _ _ _ us hl=>by
   have hl':us.length=4:=by simpa using hl
   clear hl
   revert us
   exact ar4 λ_ _ _ _=>⟨_,rfl,rfl⟩) .nil
 have K41:=kn (dvs:=[]) (tV F19 N TB K27 K37) a19 i19 F19.kp (F19.binds (us0:=[]) (ps:=["self", "key", "turn"]) (ds:=[]) ed19 rfl λ_ _ _ _ _ _ us hl=>by
   have hl':us.length=3:=by simpa using hl
   clear hl
   revert us
   exact ar3 λ_ _ _=>⟨_,rfl,rfl⟩) .nil
 have K42:=ky (Ao F39 N) a39 F39.kp (F39.binds λ_ _ _ _ _ _=>ar3 λ_ _ _=>rfl)
 have K43:=ky (wD F38 N Z K42) a38 F38.kp (F38.binds λ_ _ _ _ _ _=>ar1 λ_=>rfl)
 have K44:=ky (pq F37 N Z K43) a37 F37.kp (F37.binds λ_ _ _ _ _ _=>ar1 λ_=>rfl)
 have K45:=kx (wK F30 TB K32 K34 K35 K36 K39 K40 K41 ⟨mk,a36,i36,kc⟩ (wG F36 N TB K44 R0) (F36.binds λ_ _ _ _ _ _=>ar2 λ_ _=>rfl) mC) a30 F30.kp (F30.binds λ_ _ _ _ _ _=>ar2 λ_ _=>rfl)
 have K46:=ky (yj F40 N (PySem.W.mg_none_of X G z16) KK n0 n1 n2 n3 n4 n5 n6 n7 n8 n9 n10 n11 n12) a40 F40.kp (F40.binds λ_ _ _ _ _ _=>ar1 λ_=>rfl)
 have K47:=ky (wJ F41 N (PySem.W.mg_none_of X G z17) KK n0 n1 n2 n3 n4 n5 n6 n7 n8 n9 n10 n11 n12 nf1 nf2 nf3 nf4 nf5 nf6) a41 F41.kp (F41.binds λ_ _ _ _ _ _=>ar1 λ_=>rfl)
 have K48:=ky (yf F29 KK (PySem.W.mg_of X G aU) hU K45 K46 K47) a29 F29.kp (F29.binds λ_ _ _ _ _ _=>ar2 λ_ _=>rfl)
 have K49:=km (dvs:=[]) (Ap F43 N TB) a43 i43 F43.kp (F43.binds λ_ _ _ _ _ _=>ar1 λ_=>rfl) .nil
 have K50:=km (dvs:=[]) (u6 F32 TB K13 K10) a32 i32 F32.kp (F32.binds λ_ _ _ _ _ _=>ar2 λ_ _=>rfl) .nil
 have K51:=km (dvs:=[]) (wH F31 TB K22) a31 i31 F31.kp (F31.binds λ_ _ _ _ _ _=>ar2 λ_ _=>rfl) .nil
 have K52:=ky (yu F42 N K13 K49 K17 K50 K51) a42 F42.kp (F42.binds λ_ _ _ _ _ _=>ar1 λ_=>rfl)
 have K53:=ky (u9 F46 K3) a46 F46.kp (F46.binds λ_ _ _ _ _ _=>ar2 λ_ _=>rfl)
 have K54:=ky (u8 F47 K3) a47 F47.kp (F47.binds λ_ _ _ _ _ _=>ar3 λ_ _ _=>rfl)
 have K55:=ky (yh F45 N K3 K53 K54) a45 F45.kp (F45.binds λ_ _ _ _ _ _=>ar2 λ_ _=>rfl)
 have K56:=ky (qH F44 (PySem.W.mg_none_of X G z17) K48 K52 K55) a44 F44.kp (F44.binds λ_ _ _ _ _ _=>ar3 λ_ _ _=>rfl)
 have K57:=ky (ym F28 N K48 K52 K6 K56) a28 F28.kp (F28.binds λ_ _ _ _ _ _=>ar3 λ_ _ _=>rfl)
 have K58:=km (dvs:=[]) (FnOk.mono (j:=5) (k:=6) (sH F11 N Z TB K9 K12 K10 K14 K13 K15 K17 K20) (by decide)) a11 i11 F11.kp (F11.binds λ_ _ _ _ _ _=>ar5 λ_ _ _ _ _=>rfl) .nil
 have K59:=ky (sG F38 N Z K42) a38 F38.kp (F38.binds λ_ _ _ _ _ _=>ar1 λ_=>rfl)
 have K60:=ky (qM F37 N Z K59) a37 F37.kp (F37.binds λ_ _ _ _ _ _=>ar1 λ_=>rfl)
 exact An F1 N K1 K4 K5 K3 K25 K2 K26 K57 K56 K48 K58 ⟨mk,a36,i36,kc⟩ (yl F36 N TB K60) (F36.binds λ_ _ _ _ _ _=>ar2 λ_ _=>rfl) mC
theorem walk {l:PySem.W.OpenLaw}{q:Program}{loose:List Str}{XP:(Str->Option Value)->Heap->Prop}{YP:World->Heap->Prop}{d dj:DefRec}{K:Params->PySem.W.Frag}{c L C:Addr} (hn:l.most=some 63) (hdf:d.params.defaults=[])
  (hY:∀(w:World) (h:Heap),YP w h->(K w.params).In h)
  (hrj:(PyProof.Rows.recsOf q).find? (λe=>e.name == ("joined" : Str))=some dj) (htab:∀(w:World) (h:Heap),(K w.params).In h->PySem.W.tabIn (K w.params) "joined" = some (c,L)) (hnt:∀(w:World) (h:Heap),(K w.params).In h->PySem.W.noTabs (K w.params)=true)
  (F:∀(w:World) (mg:Str->Option Value) (fa:Addr) (h:Heap),(K w.params).In h->h.Ns mainGlobals mg->mg d.name=some (.ref fa)->
   ∃fd:FuncData,(∀(s:Shared) (u:Value),BindsTo s fd ⟨[u],[]⟩ [("_law_script", u)])/\
    ∀base:Heap,(K w.params).In base->base.Ns mainGlobals mg->PySem.W.CodeHd base c L->base.BuiltinsAt mg L->FnOk l.prog w (K w.params) mg base CX0 12 fa fd ["_law_script"] (rK (K w.params) C L)) :
  PySem.W.WalkO q loose XP YP l.row.toRowW d [] (λf vs=>PySem.call f vs):=
 uM (n:=63) (k:=12) (x:="_law_script") (xj:="joined") (sp:=λw=>rK (K w.params) C L) hn (by decide) hdf ⟨rfl,by decide,by decide,rfl⟩ hY hrj htab hnt F λw H a ns hl hO hS=>⟨a,ns,rfl,.inl hO.1,hS,hl,λ_=>rfl⟩
end Mine
open PySem PySem.W PyProof.Rows
namespace PySem.W.Fast
theorem tw14230523711907063615:0=0:=rfl
theorem tw17441140746876157523:0=0:=rfl
theorem tw3912449342814566840:0=0:=rfl
theorem tw1359412408845527719:0=0:=rfl
theorem tw4852005118599502503:0=0:=rfl
theorem tw11444370812735329:0=0:=rfl
theorem tw18440135662371632878:0=0:=rfl
theorem tw11188290970449694989:0=0:=rfl
theorem tw13435886516776262329:0=0:=rfl
theorem tw9714120920831517168:0=0:=rfl
theorem tw14554258363331604504:0=0:=rfl
theorem tw5885572811197178996:0=0:=rfl
theorem tw3790506421502290540:0=0:=rfl
theorem tw4232858583938396838:0=0:=rfl
theorem tw15569599564345012709:0=0:=rfl
theorem tw1551358473513342513:0=0:=rfl
theorem tw773363338119345967:0=0:=rfl
theorem tw9350439671772841310:0=0:=rfl
theorem tw10825902789744291080:0=0:=rfl
theorem tw594113926760653994:0=0:=rfl
theorem tw3684043560042718672:0=0:=rfl
theorem tw14450198584298100683:0=0:=rfl
theorem tw14082731764198007148:0=0:=rfl
theorem tw12793211462559896153:0=0:=rfl
theorem tw5504088723129061334:0=0:=rfl
theorem tw6850214205769987930:0=0:=rfl
theorem tw10995784452509480829:0=0:=rfl
theorem tw17423891390512933477:0=0:=rfl
theorem tw16608335579242275562:0=0:=rfl
theorem tw8233903660107983860:0=0:=rfl
theorem tw16805085486389372596:0=0:=rfl
theorem tw11429864087671361324:0=0:=rfl
theorem tw12795318780007134259:0=0:=rfl
theorem tw8650817171553684265:0=0:=rfl
theorem tw6585283406967501716:0=0:=rfl
theorem tw9075344955346323092:0=0:=rfl
theorem tw8777133182165543400:0=0:=rfl
theorem tw4143236598428185825:0=0:=rfl
theorem tw7317870286176004788:0=0:=rfl
theorem tw6764210032378243267:0=0:=rfl
theorem tw4760549080777472458:0=0:=rfl
theorem tw17088616488260553157:0=0:=rfl
theorem tw9103598879950708379:0=0:=rfl
theorem tw5132740249177726914:0=0:=rfl
theorem tw17764917244508814416:0=0:=rfl
theorem tw3660820548243507153:0=0:=rfl
theorem tw699808670096182119:0=0:=rfl
theorem tw16373140674967647448:0=0:=rfl
theorem tw18333273039197847860:0=0:=rfl
theorem tw18017536733846215606:0=0:=rfl
theorem tw4149211885571161043:0=0:=rfl
theorem tw3738108838332007373:0=0:=rfl
theorem tw2792035556296780015:0=0:=rfl
theorem tw12608010437807492157:0=0:=rfl
theorem tw5935873357414874117:0=0:=rfl
theorem tw9847794956842871479:0=0:=rfl
theorem tw14167412124414182297:0=0:=rfl
theorem tw1960431993453918712:0=0:=rfl
theorem tw4566500627234140706:0=0:=rfl
theorem tw5316911998098084783:0=0:=rfl
theorem tw1467930686524507109:0=0:=rfl
theorem tw10105877315180236635:0=0:=rfl
theorem tw4631683652131112552:0=0:=rfl
theorem tw4032299015037867375:0=0:=rfl
theorem tw10767817146857849105:0=0:=rfl
theorem tw15904129772667206910:0=0:=rfl
theorem tw12840078734067864618:0=0:=rfl
theorem tw12186745878040221344:0=0:=rfl
theorem tw17248821529917435493:0=0:=rfl
theorem tw13242013919677498837:0=0:=rfl
theorem tw12694961049583165392:0=0:=rfl
theorem tw5985912255230974710:0=0:=rfl
theorem tw2912676279921157746:0=0:=rfl
theorem tw13199968692624931838:0=0:=rfl
theorem tw3534668083112816704:0=0:=rfl
theorem tw17509635629091148452:0=0:=rfl
theorem tw7917295641393315112:0=0:=rfl
theorem tw2150452778881629309:0=0:=rfl
theorem tw13339334160225583367:0=0:=rfl
theorem tw6361159948766111830:0=0:=rfl
theorem tw2423497708777942071:0=0:=rfl
theorem tw11921776503694244321:0=0:=rfl
theorem tw10377853874308884572:0=0:=rfl
theorem tw5186315553700937136:0=0:=rfl
theorem tw9434034733462412088:0=0:=rfl
theorem tw10728859794406532119:0=0:=rfl
theorem tw12884365873514331356:0=0:=rfl
theorem tw530166729185269406:0=0:=rfl
theorem tw2927767507222338269:0=0:=rfl
theorem tw129436861465278004:0=0:=rfl
theorem tw1927937617089305704:0=0:=rfl
theorem tw5563195336988294196:0=0:=rfl
theorem tw14062269362604702841:0=0:=rfl
theorem tw2510692577442796273:0=0:=rfl
theorem tw1867465662473791196:0=0:=rfl
theorem tw6312846862993772659:0=0:=rfl
theorem tw15704567310538866555:0=0:=rfl
theorem tw4098832517488238673:0=0:=rfl
theorem tw8874200861098127686:0=0:=rfl
theorem tw8551341467633441137:0=0:=rfl
theorem tw808218975035813644:0=0:=rfl
theorem tw15255649387797779846:0=0:=rfl
theorem tw14355691747151737454:0=0:=rfl
theorem tw13322827768539171922:0=0:=rfl
theorem tw9420342348372338105:0=0:=rfl
theorem tw11511321419545626025:0=0:=rfl
theorem tw4398171969265381529:0=0:=rfl
theorem tw7548240620667051328:0=0:=rfl
theorem tw10189244774477779629:0=0:=rfl
theorem tw7903648231205529484:0=0:=rfl
theorem tw9081052511064320815:0=0:=rfl
theorem tw14006786615596109830:0=0:=rfl
theorem tw10097362634167726163:0=0:=rfl
theorem tw9371283023852654081:0=0:=rfl
theorem tw18133464632104495172:0=0:=rfl
theorem tw8306857559645460397:0=0:=rfl
theorem tw17439803817676585391:0=0:=rfl
theorem tw3462212154133080725:0=0:=rfl
theorem tw7548506971792300393:0=0:=rfl
theorem tw14973267128676493295:0=0:=rfl
theorem tw14696233326047760369:0=0:=rfl
theorem tw9053565014326739427:0=0:=rfl
theorem tw4570595376570883408:0=0:=rfl
theorem tw3749500435785012996:0=0:=rfl
theorem tw16900959323195664358:0=0:=rfl
theorem tw16625662125251645535:0=0:=rfl
theorem tw16940982814245148700:0=0:=rfl
theorem tw10141521517683766165:0=0:=rfl
theorem tw8749019754272897049:0=0:=rfl
theorem tw3868928248634926759:0=0:=rfl
theorem tw15122091810615894528:0=0:=rfl
theorem tw9208081035097348253:0=0:=rfl
theorem tw8341178920907082663:0=0:=rfl
theorem tw18053633747232537274:0=0:=rfl
theorem tw443509429546499559:0=0:=rfl
theorem tw4935163992433132816:0=0:=rfl
theorem tw1417231565547110179:0=0:=rfl
theorem tw505501568969753827:0=0:=rfl
theorem tw5478505381612647131:0=0:=rfl
theorem tw4816510679431511545:0=0:=rfl
theorem tw4618100890311240425:0=0:=rfl
theorem tw11301767110344687029:0=0:=rfl
theorem tw17087188609611110626:0=0:=rfl
theorem tw6720306423093596810:0=0:=rfl
theorem tw7791262438027456052:0=0:=rfl
theorem tw17420952835399429729:0=0:=rfl
theorem tw3251915781247934148:0=0:=rfl
theorem tw1990644877938689682:0=0:=rfl
theorem tw9838227743058531798:0=0:=rfl
theorem tw7300697975854101025:0=0:=rfl
theorem tw1072852469726607366:0=0:=rfl
theorem tw8921748424047167918:0=0:=rfl
theorem tw2009730847949022510:0=0:=rfl
theorem tw18322865312441736361:0=0:=rfl
theorem tw11493906830199576581:0=0:=rfl
theorem tw882512898636321016:0=0:=rfl
theorem tw13598569697667603586:0=0:=rfl
theorem tw15469337076323568714:0=0:=rfl
theorem tw224644871513120182:0=0:=rfl
theorem tw12403276605383004658:0=0:=rfl
theorem tw2643134058476179214:0=0:=rfl
theorem tw2407431198659331608:0=0:=rfl
theorem tw11771430288145232400:0=0:=rfl
theorem tw2092893825208909648:0=0:=rfl
theorem tw18277114749727204192:0=0:=rfl
theorem tw5593031410129586089:0=0:=rfl
theorem tw8296259629838850869:0=0:=rfl
theorem tw4386749423164540816:0=0:=rfl
theorem tw14990121423472307661:0=0:=rfl
theorem tw7448388453012649753:0=0:=rfl
theorem tw4306931664350436194:0=0:=rfl
theorem tw6472746376539729244:0=0:=rfl
theorem tw17695313085956725935:0=0:=rfl
theorem tw11583279445947354813:0=0:=rfl
theorem tw5944106498229167767:0=0:=rfl
theorem tw15868785048149180585:0=0:=rfl
theorem tw13305782111853805259:0=0:=rfl
theorem tw7665673952974276383:0=0:=rfl
theorem tw11491527224139418814:0=0:=rfl
theorem tw11540805646403182604:0=0:=rfl
theorem tw14073831332348811484:0=0:=rfl
theorem tw7004742603946756082:0=0:=rfl
theorem tw14034572577383691129:0=0:=rfl
theorem tw8964534785133885019:0=0:=rfl
theorem tw4059687465701926715:0=0:=rfl
theorem tw9976813963462977473:0=0:=rfl
theorem tw18185142272744845611:0=0:=rfl
theorem tw12619192168233642223:0=0:=rfl
theorem tw17943252946333587569:0=0:=rfl
theorem tw17977587480974279911:0=0:=rfl
theorem tw5333604782414152931:0=0:=rfl
theorem tw7415931763473206135:0=0:=rfl
theorem tw6499501117964748002:0=0:=rfl
theorem tw15961971485712379606:0=0:=rfl
theorem tw16508088090034201403:0=0:=rfl
theorem tw4266351140957993269:0=0:=rfl
theorem tw12254623520901480968:0=0:=rfl
theorem tw10837566145494736796:0=0:=rfl
theorem tw7697524258420299021:0=0:=rfl
theorem tw2240392970975881112:0=0:=rfl
end PySem.W.Fast
set_option maxRecDepth 100000 in
set_option maxHeartbeats 0 in
theorem PySem.Challenge.cw_unsaybook_k12_deeds_refused_holds : PySem.Challenge.rw_unsaybook_k12_deeds_refused.Holds := by
 w_on;o_law;k_head;(case hw=>w_witness2)
 k_fill
 refine' Mine.walk (l:=PySem.Challenge.rw_unsaybook_k12_deeds_refused) (L:=248) rfl rfl (λw h Y=>PySem.W.km_in_of Y) ?hrj ?htab ?hnt ?F
 case hrj=>exact rfl
 case F=>
  intro w mg fa h KX G hmg
  refine' Mine.all_mk KX G hmg ?aU ?aC ?a0 ?l0 ?e0 ?k0 ?a1 (L2.fun_mk ?l1 ?e1 ?k1) ?a2 (L2.fun_mk ?l2 ?e2 ?k2) ?a3 (L2.fun_mk ?l3 ?e3 ?k3) ?a4 (L2.fun_mk ?l4 ?e4 ?k4) ?a5 (L2.fun_mk ?l5 ?e5 ?k5) ?a6 (L2.fun_mk ?l6 ?e6 ?k6) ?a7 (L2.fun_mk ?l7 ?e7 ?k7) ?a8 (L2.fun_mk ?l8 ?e8 ?k8) ?a9 (L2.fun_mk ?l9 ?e9 ?k9) ?a10 (L2.fun_mk ?l10 ?e10 ?k10) ?a11 ?i11 (L2.fun_mk ?l11 ?e11 ?k11) ?a12 ?i12 (L2.fun_mk ?l12 ?e12 ?k12) ?a13 (L2.fun_mk ?l13 ?e13 ?k13) ?a14 (L2.fun_mk ?l14 ?e14 ?k14) ?a15 (L2.fun_mk ?l15 ?e15 ?k15) ?a16 ?i16 (L2.fun_mk ?l16 ?e16 ?k16) ?a17 ?i17 (L2.fun_mk ?l17 ?e17 ?k17) ?a18 ?i18 (L2.fun_mk ?l18 ?e18 ?k18) ?a19 ?i19 (L2.FunD.mk' ?l19 ?e19 ?k19) ?ed19 ?a20 ?i20 (L2.fun_mk ?l20 ?e20 ?k20) ?a21 (L2.fun_mk ?l21 ?e21 ?k21) ?a22 (L2.fun_mk ?l22 ?e22 ?k22) ?a23 (L2.fun_mk ?l23 ?e23 ?k23) ?a24 ?i24 (L2.fun_mk ?l24 ?e24 ?k24) ?a25 ?i25 (L2.fun_mk ?l25 ?e25 ?k25) ?a26 ?i26 (L2.fun_mk ?l26 ?e26 ?k26) ?a27 (L2.fun_mk ?l27 ?e27 ?k27) ?a28 (L2.fun_mk ?l28 ?e28 ?k28) ?a29 (L2.fun_mk ?l29 ?e29 ?k29) ?a30 (L2.fun_mk ?l30 ?e30 ?k30) ?a31 ?i31 (L2.fun_mk ?l31 ?e31 ?k31) ?a32 ?i32 (L2.fun_mk ?l32 ?e32 ?k32) ?a33 ?i33 (L2.FunD.mk' ?l33 ?e33 ?k33) ?ed33 ?a34 (L2.fun_mk ?l34 ?e34 ?k34) ?a35 ?i35 (L2.FunD.mk' ?l35 ?e35 ?k35) ?ed35 ?a36 ?i36 (L2.fun_mk ?l36 ?e36 ?k36) ?a37 (L2.fun_mk ?l37 ?e37 ?k37) ?a38 (L2.fun_mk ?l38 ?e38 ?k38) ?a39 (L2.fun_mk ?l39 ?e39 ?k39) ?a40 (L2.fun_mk ?l40 ?e40 ?k40) ?a41 (L2.fun_mk ?l41 ?e41 ?k41) ?a42 (L2.fun_mk ?l42 ?e42 ?k42) ?a43 ?i43 (L2.fun_mk ?l43 ?e43 ?k43) ?a44 (L2.fun_mk ?l44 ?e44 ?k44) ?a45 (L2.fun_mk ?l45 ?e45 ?k45) ?a46 (L2.fun_mk ?l46 ?e46 ?k46) ?a47 (L2.fun_mk ?l47 ?e47 ?k47) ?cm0 ⟨?cx0,?xa0,?xb0,?xc0,?xd0,?xe0,?xf0,?xg0⟩ ?ia0 ?cm1 ⟨?cx1,?xa1,?xb1,?xc1,?xd1,?xe1,?xf1,?xg1⟩ ?ia1 ?ii1 (L2.fun_mk ?il1 ?id1 ?ik1) ?nf1 ?cm2 ⟨?cx2,?xa2,?xb2,?xc2,?xd2,?xe2,?xf2,?xg2⟩ ?ia2 ?ii2 (L2.fun_mk ?il2 ?id2 ?ik2) ?nf2 ?cm3 ⟨?cx3,?xa3,?xb3,?xc3,?xd3,?xe3,?xf3,?xg3⟩ ?ia3 ?ii3 (L2.fun_mk ?il3 ?id3 ?ik3) ?nf3 ?cm4 ⟨?cx4,?xa4,?xb4,?xc4,?xd4,?xe4,?xf4,?xg4⟩ ?ia4 ?ii4 (L2.fun_mk ?il4 ?id4 ?ik4) ?nf4 ?cm5 ⟨?cx5,?xa5,?xb5,?xc5,?xd5,?xe5,?xf5,?xg5⟩ ?ia5 ?ii5 (L2.fun_mk ?il5 ?id5 ?ik5) ?nf5 ?cm6 ⟨?cx6,?xa6,?xb6,?xc6,?xd6,?xe6,?xf6,?xg6⟩ ?ia6 ?ii6 (L2.fun_mk ?il6 ?id6 ?ik6) ?nf6 ?cm7 ⟨?cx7,?xa7,?xb7,?xc7,?xd7,?xe7,?xf7,?xg7⟩ ?ia7 ?cm8 ⟨?cx8,?xa8,?xb8,?xc8,?xd8,?xe8,?xf8,?xg8⟩ ?cm9 ⟨?cx9,?xa9,?xb9,?xc9,?xd9,?xe9,?xf9,?xg9⟩ ?cm10 ⟨?cx10,?xa10,?xb10,?xc10,?xd10,?xe10,?xf10,?xg10⟩ ?cm11 ⟨?cx11,?xa11,?xb11,?xc11,?xd11,?xe11,?xf11,?xg11⟩ ?cm12 ⟨?cx12,?xa12,?xb12,?xc12,?xd12,?xe12,?xf12,?xg12⟩ ⟨⟨?pg,?hd,?po,?sa⟩,?nn1,?nn2,?nn3,?nn4,?nn5⟩ ?mk ?kc ?q1 ?q2 ?q3 ?q4 ?q5 ?q6 ?hU ?kk ?z1 ?z2 ?z3 ?z4 ?z5 ?z6 ?z7 ?z8 ?z9 ?z10 ?z11 ?z12 ?z13 ?z14 ?z15 ?z16 ?z17
  case aU | aC | a0 | l0 | e0 | k0 | a1 | l1 | e1 | k1 | a2 | l2 | e2 | k2 | a3 | l3 | e3 | k3 | a4 | l4 | e4 | k4 | a5 | l5 | e5 | k5 | a6 | l6 | e6 | k6 | a7 | l7 | e7 | k7 | a8 | l8 | e8 | k8 | a9 | l9 | e9 | k9 | a10 | l10 | e10 | k10 | a11 | i11 | l11 | e11 | k11 | a12 | i12 | l12 | e12 | k12 | a13 | l13 | e13 | k13 | a14 | l14 | e14 | k14 | a15 | l15 | e15 | k15 | a16 | i16 | l16 | e16 | k16 | a17 | i17 | l17 | e17 | k17 | a18 | i18 | l18 | e18 | k18 | a19 | i19 | l19 | e19 | k19 | ed19 | a20 | i20 | l20 | e20 | k20 | a21 | l21 | e21 | k21 | a22 | l22 | e22 | k22 | a23 | l23 | e23 | k23 | a24 | i24 | l24 | e24 | k24 | a25 | i25 | l25 | e25 | k25 | a26 | i26 | l26 | e26 | k26 | a27 | l27 | e27 | k27 | a28 | l28 | e28 | k28 | a29 | l29 | e29 | k29 | a30 | l30 | e30 | k30 | a31 | i31 | l31 | e31 | k31 | a32 | i32 | l32 | e32 | k32 | a33 | i33 | l33 | e33 | k33 | ed33 | a34 | l34 | e34 | k34 | a35 | i35 | l35 | e35 | k35 | ed35 | a36 | i36 | l36 | e36 | k36 | a37 | l37 | e37 | k37 | a38 | l38 | e38 | k38 | a39 | l39 | e39 | k39 | a40 | l40 | e40 | k40 | a41 | l41 | e41 | k41 | a42 | l42 | e42 | k42 | a43 | i43 | l43 | e43 | k43 | a44 | l44 | e44 | k44 | a45 | l45 | e45 | k45 | a46 | l46 | e46 | k46 | a47 | l47 | e47 | k47 | cm0 | xa0 | xb0 | xc0 | xd0 | xe0 | xf0 | xg0 | ia0 | cm1 | xa1 | xb1 | xc1 | xd1 | xe1 | xf1 | xg1 | ia1 | ii1 | il1 | id1 | ik1 | nf1 | cm2 | xa2 | xb2 | xc2 | xd2 | xe2 | xf2 | xg2 | ia2 | ii2 | il2 | id2 | ik2 | nf2 | cm3 | xa3 | xb3 | xc3 | xd3 | xe3 | xf3 | xg3 | ia3 | ii3 | il3 | id3 | ik3 | nf3 | cm4 | xa4 | xb4 | xc4 | xd4 | xe4 | xf4 | xg4 | ia4 | ii4 | il4 | id4 | ik4 | nf4 | cm5 | xa5 | xb5 | xc5 | xd5 | xe5 | xf5 | xg5 | ia5 | ii5 | il5 | id5 | ik5 | nf5 | cm6 | xa6 | xb6 | xc6 | xd6 | xe6 | xf6 | xg6 | ia6 | ii6 | il6 | id6 | ik6 | nf6 | cm7 | xa7 | xb7 | xc7 | xd7 | xe7 | xf7 | xg7 | ia7 | cm8 | xa8 | xb8 | xc8 | xd8 | xe8 | xf8 | xg8 | cm9 | xa9 | xb9 | xc9 | xd9 | xe9 | xf9 | xg9 | cm10 | xa10 | xb10 | xc10 | xd10 | xe10 | xf10 | xg10 | cm11 | xa11 | xb11 | xc11 | xd11 | xe11 | xf11 | xg11 | cm12 | xa12 | xb12 | xc12 | xd12 | xe12 | xf12 | xg12 | pg | hd | po | sa | nn1 | nn2 | nn3 | nn4 | nn5 | mk | kc | q1 | q2 | q3 | q4 | q5 | q6 | z1 | z2 | z3 | z4 | z5 | z6 | z7 | z8 | z9 | z10 | z11 | z12 | z13 | z14 | z15 | z16 | z17=>first | k_is | (unfold L2.NoAttr;k_is)
  case cx0 | cx1 | cx2 | cx3 | cx4 | cx5 | cx6 | cx7 | cx8 | cx9 | cx10 | cx11 | cx12 | hU | kk=>first | k_is | kernel_rfl
 case htab=>intro w h KX;kernel_rfl
 case hnt=>intro w h KX;kernel_rfl
