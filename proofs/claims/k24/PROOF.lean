import PyProof.Rows.All
import Wide.All
import OpenK.AllK
import Wide.FinOn
import Lean
import PyProof.EqAt
import PyProof.EqKinds
import PyProof.TupleCall
import PySem.Challenge.RW_unsaybook_k24_whole_turns_read_together
set_option Elab.async false
set_option linter.all false
set_option maxRecDepth 100000
namespace L2
open PySem PySem.Spec PyProof.Rows
noncomputable abbrev Key:=Sum Int Str
noncomputable def my:Key->Value->Bool
 | .inl k,v=>Value.isInt k v
 | .inr x,v=>Value.isStrOf x v
noncomputable def zn (w:World):Key->Int
 | .inl k=>hashInt k
 | .inr x=>hashStr w x
theorem keyIs_shape:∀{k:Key}{v:Value},my k v=true->(∃i t,k=Sum.inl i/\v=Value.int i t)\/(∃x t,k=Sum.inr x/\v=Value.str x t)
 | .inl i,v,h=>by
  obtain⟨t,e⟩:=Value.isInt_shape (k:=i) (v:=v) h
  exact .inl ⟨i,t,rfl,e⟩
 | .inr x,v,h=>by
  obtain⟨t,e⟩:=Value.isStrOf_shape (x:=x) (v:=v) h
  exact .inr ⟨x,t,rfl,e⟩
theorem sm (i:Int) (t:Tok):my (.inl i) (.int i t)=true:=by simp [my,Value.isInt]
theorem sk (x:Str) (t:Tok):my (.inr x) (.str x t)=true:=by simp [my,Value.isStrOf]
theorem xW (a b:Int):decide ((Sum.inl a:Key)=Sum.inl b)=(a == b):=by
 by_cases e:a=b
 ·subst e;simp
 ·have h:¬(Sum.inl a:Key)=Sum.inl b:=λq=>e (Sum.inl.inj q)
  rw [decide_eq_false h]
  exact(beq_eq_false_iff_ne.mpr e).symm
theorem xT (a b:Str):decide ((Sum.inr a:Key)=Sum.inr b)=decide (a=b):=by
 by_cases e:a=b
 ·subst e;simp
 ·have h:¬(Sum.inr a:Key)=Sum.inr b:=λq=>e (Sum.inr.inj q)
  rw [decide_eq_false h,decide_eq_false e]
theorem xV (a:Int) (b:Str):decide ((Sum.inl a:Key)=Sum.inr b)=false:=decide_eq_false (λq=>nomatch q)
theorem xU (a:Str) (b:Int):decide ((Sum.inr a:Key)=Sum.inl b)=false:=decide_eq_false (λq=>nomatch q)
noncomputable def be (prog:Program) (w:World):PySem.KeyKind prog w Key where
 is:=my
 hash:=zn w
 inj:=λv a b ha hb=>by
  rcases keyIs_shape ha with⟨i,t,rfl,rfl⟩ | ⟨x,t,rfl,rfl⟩
  ·rcases keyIs_shape hb with⟨j,u,rfl,e⟩ | ⟨y,u,rfl,e⟩
   ·injection e with e1 _;rw [e1]
   ·exact nomatch e
  ·rcases keyIs_shape hb with⟨j,u,rfl,e⟩ | ⟨y,u,rfl,e⟩
   ·exact nomatch e
   ·injection e with e1 _;rw [e1]
 byValue:=λk v h=>by
  rcases keyIs_shape h with⟨i,t,rfl,rfl⟩ | ⟨x,t,rfl,rfl⟩ <;> rfl
 pyHash:=λhv h=>by
  rcases keyIs_shape hv with⟨i,t,rfl,rfl⟩ | ⟨x,t,rfl,rfl⟩
  ·exact wpAny_pyHash_int h
  ·exact wpAny_pyHash_str h
 eqBool:=λhu hv h=>by
  rcases keyIs_shape hu with⟨i,t,rfl,rfl⟩ | ⟨x,t,rfl,rfl⟩
  ·rcases keyIs_shape hv with⟨j,u,rfl,rfl⟩ | ⟨y,u,rfl,rfl⟩
   ·rw [xW]at h;exact wpAny_eqBool_int h
   ·rw [xV]at h;exact SeqAt.EqAt.int_str i t y u _ _ _ _ h
  ·rcases keyIs_shape hv with⟨j,u,rfl,rfl⟩ | ⟨y,u,rfl,rfl⟩
   ·rw [xU]at h;exact SeqAt.EqAt.str_int x t j u _ _ _ _ h
   ·rw [xT]at h;exact wpAny_eqBool_str h
 «strs»:=λk x t v h=>by
  rcases keyIs_shape h with⟨i,u,rfl,e⟩ | ⟨y,u,rfl,e⟩
  ·exact nomatch e
  ·injection e with e1 _
   subst e1
   cases v <;> rfl
theorem oI (prog:Program) (w:World) (i:Int) (t:Tok):(be prog w).is (.inl i) (.int i t)=true:=sm i t
theorem oH (prog:Program) (w:World) (x:Str) (t:Tok):(be prog w).is (.inr x) (.str x t)=true:=sk x t
end L2
namespace L2
open PySem PySem.Spec PyProof.Rows
inductive V where
 | non | bl (b:Bool) | int (i:Int) | str (x:Str) | byt (b:Array UInt8) | flt (b:UInt64) | ref (a:Addr) | ty (n:String)
 deriving DecidableEq
noncomputable def aU:V->Value->Prop
 | .non,u=>u=Value.none
 | .bl b,u=>u=Value.bool b
 | .int i,u=>∃t,u=Value.int i t
 | .str x,u=>∃t,u=Value.str x t
 | .byt b,u=>∃t,u=Value.bytes b t
 | .flt b,u=>∃t,u=Value.float b t
 | .ref a,u=>u=Value.ref a
 | .ty n,u=>u=Value.type n
noncomputable abbrev aR:List V->List Value->Prop:=Paired aU
theorem aR.length {xs:List V}{us:List Value} (r:aR xs us):xs.length=us.length:=Paired.length r
theorem aR.get:∀{xs:List V}{us:List Value}{i:Nat}{x:V},aR xs us->xs[i]?=some x->∃u,us[i]?=some u/\aU x u
 | _,_,_,_,.nil,e=>by simp at e
 | _,_,0,_,.cons r _,e=>by simp at e;subst e;exact⟨_,rfl,r⟩
 | _,_,i+1,x,.cons _ t,e=>by
  obtain⟨u,h1,h2⟩:=aR.get (i:=i) (x:=x) t (by simpa using e)
  exact⟨u,by simpa using h1,h2⟩
theorem aR.set {x:V}{u:Value} (r:aU x u):∀{xs:List V}{us:List Value} (i:Nat),aR xs us->aR (xs.set i x) (us.set i u)
 | _,_,_,.nil=>.nil
 | _,_,0,.cons _ t=>.cons r t
 | _,_,i+1,.cons q t=>.cons q (aR.set r i t)
theorem aR.append:∀{xs ys:List V}{us ws:List Value},aR xs us->aR ys ws->aR (xs++ys) (us++ws)
 | _,_,_,_,.nil,s=>s
 | _,_,_,_,.cons r t,s=>.cons r (aR.append t s)
theorem aR.take:∀{xs:List V}{us:List Value} (n:Nat),aR xs us->aR (xs.take n) (us.take n)
 | _,_,0,_=>.nil
 | _,_,_+1,.nil=>.nil
 | _,_,n+1,.cons r t=>.cons r (aR.take n t)
theorem aR.drop:∀{xs:List V}{us:List Value} (n:Nat),aR xs us->aR (xs.drop n) (us.drop n)
 | _,_,0,r=>r
 | _,_,_+1,.nil=>.nil
 | _,_,n+1,.cons _ t=>aR.drop n t
noncomputable def fJ:Option V->Option Value->Prop
 | some v,some u=>aU v u
 | none,none=>True
 | _,_=>False
noncomputable def KV {κ:Type}:List (κ × V)->List (κ × Value)->Prop:=Paired λ(p:κ × V) (q:κ × Value)=>p.1=q.1/\aU p.2 q.2
noncomputable def kV:Key->V
 | .inl i=>.int i
 | .inr x=>.str x
inductive HO where
 /-- a list -/
 | lst (xs:List V)
 /-- a tuple (never changes) -/
 | tup (xs:List V)
 /-- a dict whose keys are ints and texts;one whose keys are tuples of ints and texts (the empty one is both) -/
 | dK (kvs:List (Key × V)) | dT (kvs:List (List Key × V))
 /-- a set of ints: its members,its size -/
 | set (S:Int->Bool) (n:Nat)
 /-- an instance of the class at C,its dict at dx,its attributes -/
 | ins (C dx:Addr) (fs:List (Str × V))
 /-- the dict of the instance at x -/
 | own (x:Addr)
 /-- the dict of an exception -/
 | xd (fs:List (Str × V))
 /-- a bound method,f of x -/
 | met (f x:Addr)
 /-- a range object lo,lo+1,.. below hi -/
 | rng (lo hi:Int)
 /-- a thing that is known to the object (the script;a dict while a loop walks it): read,never written while it is so -/
 | frz (o:Obj) (u:HO)
 /-- a code object's table -/
 | tbl (ps:Array Value)
 /-- any other thing,by what is true of its one object (a def of one's own: SetO a S n:=HO.ext λh=>..) -/
 | ext (φ:Heap->Prop)
noncomputable abbrev Hp:=Addr->Option HO
noncomputable def upd (H:Hp) (a:Addr) (o:HO):Hp:=λb=>if b=a then some o else H b
theorem ad {H:Hp}{a:Addr}{o:HO}:upd H a o a=some o:=by unfold upd;rw [if_pos rfl]
theorem ag {H:Hp}{a b:Addr}{o:HO} (h:b≠a):upd H a o b=H b:=by unfold upd;rw [if_neg h]
theorem gE {H:Hp}{a:Addr}{o u:HO}:upd (upd H a o) a u=upd H a u:=by
 funext b;unfold upd;split <;> rfl
theorem aD {H:Hp}{a b:Addr}{o u:HO} (h:H a=some o) (h':H b=some u) (d:o≠u):a≠b:=by
 intro e;subst e;rw [h]at h';exact d (Option.some.inj h')
theorem af {H:Hp}{a b:Addr}{o:HO} (h:H a=some o) (h':H b=none):a≠b:=by
 intro e;subst e;rw [h]at h';cases h'
section
variable (P:Program) (w:World)
noncomputable def bG (H:Hp) (h:Heap) (a:Addr):HO->Prop
 | .lst xs=>xs.length<=sizeLine/\∃(its:List Value) (n:Nat),aR xs its/\h.get? a=some { cls:=.type "list", data:=.seq its.toArray n }
 | .tup xs=>xs.length<=sizeLine/\∃its:List Value,aR xs its/\IsTup h a its.toArray
 | .dK kvs=>kvs.length<=sizeLine/\(a == sysModules)=false/\∃vs,KV kvs vs/\h.DictOf (be P w) a vs
 | .dT kvs=>kvs.length<=sizeLine/\(a == sysModules)=false/\∃xs:List (List Key × Addr × Value),
   Paired (λ(p:List Key × V) (q:List Key × Addr × Value)=>p.1=q.1/\H q.2.1=some (.tup (p.1.map kV))/\aU p.2 q.2.2) kvs xs/\
   ∃o es ep,h.get? a=some o/\o.ExactDict/\o.data=.dict es ep/\es.toList=xs.map (entryOfKey (tupleKind (be P w)))/\(xs.map (·.1)).Nodup
 | .set S n=>h.SetOf (intKind P w) a S n
 | .ins C dx fs=>H dx=some (.own a)/\fs.length<=1000/\dx≠a/\h.get? a=some (PySem.W.instObj C dx)/\
   ∃mA,h.Ns1 dx mA/\(∀f,fJ (fs.lookup f) (mA f))/\PySem.Within mA (fs.map (·.1))
 | .own _=>∃o,h.get? a=some o
 | .xd fs=>∃mA,h.Ns1 a mA/\∀f,fJ (fs.lookup f) (mA f)
 | .rng lo hi=>∃t u v,h.get? a=some { cls:=.type "range", data:=.fields #[.int lo t,.int hi u,.int 1 v] }
 | .frz o u=>h.get? a=some o/\bG H h a u
 | .tbl ps=>h.get? a=some { cls:=.none,data:=.fields ps }
 | .met f x=>h.get? a=some (PySem.W.methodObj (.ref f) (.ref x))
 | .ext φ=>φ h/\(∃o,h.get? a=some o)/\∀h1 h2:Heap,φ h1->(∀o,h1.get? a=some o->h2.get? a=some o)->φ h2
noncomputable def HOk (H:Hp) (h:Heap):Prop:=∀a o,H a=some o->bG P w H h a o
end
section
variable {P:Program}{w:World}{H H':Hp}{h h':Heap}{a:Addr}{o:HO}
theorem bG.lt (x:bG P w H h a o):a < h.objs.size:=by
 cases o with
 | lst xs=>obtain⟨_,_,_,_,e⟩:=x;exact Heap.lt_size e
 | tup xs=>obtain⟨_,_,_,p⟩:=x;exact p.lt
 | dK kvs=>obtain⟨_,_,_,_,o,_,_,e,_⟩:=x;exact Heap.lt_size e
 | dT kvs=>obtain⟨_,_,_,_,o,_,_,e,_⟩:=x;exact Heap.lt_size e
 | set S n=>obtain⟨o,_,_,_,e,_⟩:=x;exact Heap.lt_size e
 | ins C dx fs=>obtain⟨_,_,_,e,_⟩:=x;exact Heap.lt_size e
 | own y=>obtain⟨_,e⟩:=x;exact Heap.lt_size e
 | xd fs=>obtain⟨_,⟨_,_,_,e,_⟩,_⟩:=x;exact Heap.lt_size e
 | rng lo hi=>obtain⟨_,_,_,e⟩:=x;exact Heap.lt_size e
 | frz ob u=>obtain⟨e,_⟩:=x;exact Heap.lt_size e
 | tbl ps=>exact Heap.lt_size (show h.get? a=some _ from x)
 | met f y=>exact Heap.lt_size (show h.get? a=some _ from x)
 | ext φ=>obtain⟨_,⟨_,e⟩,_⟩:=x;exact Heap.lt_size e
theorem Paired.mapP {α β:Type}{F G:α->β->Prop}:∀{l₁:List α}{l₂:List β},Paired F l₁ l₂->(∀a b,F a b->G a b)->Paired G l₁ l₂
 | _,_,.nil,_=>.nil
 | _,_,.cons r t,f=>.cons (f _ _ r) (Paired.mapP t f)
theorem bG.stay (x:bG P w H h a o) (k:∀b u,(b=a\/H b=some (.own a))->h.get? b=some u->h'.get? b=some u)
  (ho:∀b,H b=some (.own a)->H' b=some (.own a)) (ht:∀b xs,H b=some (.tup xs)->H' b=some (.tup xs)):bG P w H' h' a o:=by
 induction o with
 | lst xs=>obtain⟨z,its,n,r,e⟩:=x;exact⟨z,its,n,r,k _ _ (.inl rfl) e⟩
 | tup xs=>obtain⟨z,its,r,ob,e,c⟩:=x;exact⟨z,its,r,ob,k _ _ (.inl rfl) e,c⟩
 | dK kvs=>obtain⟨z,y,vs,r,ob,es,ep,e,c⟩:=x;exact⟨z,y,vs,r,ob,es,ep,k _ _ (.inl rfl) e,c⟩
 | dT kvs=>
  obtain⟨z,y,xs,r,ob,es,ep,e,c⟩:=x
  exact⟨z,y,xs,Paired.mapP r λp q z=>⟨z.1,ht _ _ z.2.1,z.2.2⟩,ob,es,ep,k _ _ (.inl rfl) e,c⟩
 | set S n=>obtain⟨ob,es,ep,t,e,c⟩:=x;exact⟨ob,es,ep,t,k _ _ (.inl rfl) e,c⟩
 | ins C dx fs=>
  obtain⟨d,z,ne,e,mA,⟨od,es,ep,e2,c⟩,r⟩:=x
  exact⟨ho _ d,z,ne,k _ _ (.inl rfl) e,mA,⟨od,es,ep,k _ _ (.inr d) e2,c⟩,r⟩
 | own y=>obtain⟨ob,e⟩:=x;exact⟨ob,k _ _ (.inl rfl) e⟩
 | xd fs=>obtain⟨mA,⟨od,es,ep,e,c⟩,r⟩:=x;exact⟨mA,⟨od,es,ep,k _ _ (.inl rfl) e,c⟩,r⟩
 | rng lo hi=>obtain⟨t,u,v,e⟩:=x;exact⟨t,u,v,k _ _ (.inl rfl) e⟩
 | frz ob u ih=>obtain⟨e,q⟩:=x;exact⟨k _ _ (.inl rfl) e,ih q⟩
 | tbl ps=>
  have e:h.get? a=some { cls:=.none,data:=.fields ps }:=x
  show h'.get? a=some { cls:=.none,data:=.fields ps }
  exact k a _ (.inl rfl) e
 | met f y=>
  have e:h.get? a=some (PySem.W.methodObj (.ref f) (.ref y)):=x
  show h'.get? a=some (PySem.W.methodObj (.ref f) (.ref y))
  exact k a _ (.inl rfl) e
 | ext φ=>obtain⟨p,⟨o,e⟩,st⟩:=x;exact⟨st _ _ p λo q=>k _ _ (.inl rfl) q,⟨o,k _ _ (.inl rfl) e⟩,st⟩
theorem HOk.lt (x:HOk P w H h) (e:H a=some o):a < h.objs.size:=(x a o e).lt
theorem HOk.fresh (x:HOk P w H h) (e:h.objs.size<=a):H a=none:=by
 cases q:H a with
 | none=>rfl
 | some u=>exact absurd (Nat.lt_of_lt_of_le (x.lt q) e) (Nat.lt_irrefl _)
theorem HOk.kept (x:HOk P w H h) (k:∀b u,h.get? b=some u->h'.get? b=some u):HOk P w H h':=λa o e=>
 (x a o e).stay (λb u _ q=>k b u q) (λ_ q=>q) λ_ _ q=>q
theorem HOk.laid (x:HOk P w H h) (k:∀b u,h.get? b=some u->h'.get? b=some u) (hp:h.objs.size<=a) (new:bG P w (upd H a o) h' a o):HOk P w (upd H a o) h':=λb u e=>by
 have hn:=x.fresh hp
 by_cases hb:b=a
 ·subst hb;rw [ad]at e;cases e;exact new
 ·rw [ag hb]at e
  exact(x b u e).stay (λc v _ q=>k c v q) (λc q=>by rw [ag (af q hn)];exact q) λc xs q=>by rw [ag (af q hn)];exact q
end
noncomputable def Rd (H:Hp) (a:Addr) (u:HO):Prop:=H a=some u\/∃o,H a=some (.frz o u)
theorem Rd.ok {P:Program}{w:World}{H:Hp}{h:Heap}{a:Addr}{u:HO} (r:Rd H a u) (x:HOk P w H h):bG P w H h a u:=by
 rcases r with r | ⟨o,r⟩
 ·exact x a u r
 ·obtain⟨_,q⟩:=x a _ r
  exact q
noncomputable def Mut:Option HO->Prop
 | some (.lst _)=>True
 | some (.dK _)=>True
 | some (.dT _)=>True
 | some (.set _ _)=>True
 | some (.ins _ _ _)=>True
 | some (.ext _)=>True
 | _=>False
section
variable {P:Program}{w:World}{H:Hp}{h h':Heap}{x e:Addr}{o':HO}
theorem HOk.write (ok:HOk P w H h) (mu:Mut (H x)) (he:e=x\/H e=some (.own x)) (k:∀b u,b≠e->h.get? b=some u->h'.get? b=some u) (heo:∃u,h'.get? e=some u)
  (new:bG P w (upd H x o') h' x o'):HOk P w (upd H x o') h':=λb u q=>by
 have nown:∀c y,H c=some (.own y)->c≠x:=λc y r z=>by subst z;rw [r]at mu;exact mu
 have ntup:∀c xs,H c=some (.tup xs)->c≠x:=λc xs r z=>by subst z;rw [r]at mu;exact mu
 by_cases hb:b=x
 ·subst hb;rw [ad]at q;cases q;exact new
 ·rw [ag hb]at q
  by_cases hbe:b=e
  ·have q':H b=some (.own x):=by
    rcases he with z | z
    ·exact absurd (hbe.trans z) hb
    ·rw [hbe];exact z
   rw [q]at q';cases q'
   obtain⟨v,hv⟩:=heo
   exact⟨v,by rw [hbe];exact hv⟩
  ·refine(ok b u q).stay (λc v hc r=>k c v ?_ r) (λc r=>by rw [ag (nown c b r)];exact r) λc xs r=>by rw [ag (ntup c xs r)];exact r
   rcases hc with rfl | hc
   ·exact hbe
   ·rintro rfl
    rcases he with z | z
    ·exact nown c b hc z
    ·rw [hc]at z;cases z;exact hb rfl
end
structure Un (fs ex:List Addr) (H H':Hp) (h h':Heap):Prop where
 keep:∀b o,h.get? b=some o->H b=none->b∉fs->b∉ex->h'.get? b=some o
 slot:∀b o,h.get? b=some o->H b=none->b∈fs->b∉ex->∃sl,h'.get? b=some { o with slots:=sl }
 free:∀b o,h.get? b=some o->H b=none->b∉ex->H' b=none
 there:∀b o,h.get? b=some o->b∉ex->∃o',h'.get? b=some o'
 tups:∀b xs,H b=some (.tup xs)->H' b=some (.tup xs)
 frzs:∀b o u,H b=some (.frz o u)->H' b=some (.frz o u)
 tbls:∀b ps,H b=some (.tbl ps)->∃more,H' b=some (.tbl (ps++more))
section
variable {fs fs' ex ex':List Addr}{H H1 H2:Hp}{h h1 h2 h':Heap}{a x e:Addr}{o:HO}
theorem Un.any (u:Un fs ex H H1 h h1){b:Addr}{ob:Obj} (q:h.get? b=some ob) (n:H b=none) (hx:b∉ex):∃sl,h1.get? b=some { ob with slots:=sl }:=by
 by_cases hb:b∈fs
 ·exact u.slot b ob q n hb hx
 ·exact⟨ob.slots,u.keep b ob q n hb hx⟩
theorem Un.kept (k:∀b u,h.get? b=some u->h'.get? b=some u):Un fs ex H H h h':=
 ⟨λb ob q _ _ _=>k b ob q,λb ob q _ _ _=>⟨ob.slots,k b ob q⟩,λ_ _ _ n _=>n,λb ob q _=>⟨ob,k b ob q⟩,λ_ _ q=>q,λ_ _ _ q=>q,λ_ ps q=>⟨#[],by rw [q];simp⟩⟩
theorem Un.refl:Un fs ex H H h h:=Un.kept λ_ _ q=>q
theorem Un.laid (k:∀b u,h.get? b=some u->h'.get? b=some u) (hp:h.objs.size<=a) (hn:H a=none):Un fs ex H (upd H a o) h h' where
 keep:=λb u q _ _ _=>k b u q
 slot:=λb u q _ _ _=>⟨u.slots,k b u q⟩
 free:=λb u q n _=>by rw [ag (Nat.ne_of_lt (Nat.lt_of_lt_of_le (Heap.lt_size q) hp))];exact n
 there:=λb u q _=>⟨u,k b u q⟩
 tups:=λb xs q=>by rw [ag (af q hn)];exact q
 frzs:=λb u xs q=>by rw [ag (af q hn)];exact q
 tbls:=λb ps q=>⟨#[],by rw [ag (af q hn),q];simp⟩
theorem Un.write (mu:Mut (H x)) (he:e=x\/H e=some (.own x)) (k:∀b u,b≠e->h.get? b=some u->h'.get? b=some u) (heo:∃u,h'.get? e=some u):Un fs ex H (upd H x o) h h':=by
 have hx:∀b,H b=none->b≠x:=λb n z=>by subst z;rw [n]at mu;exact mu
 have hb:∀b,H b=none->b≠e:=λb n z=>by
  subst z
  rcases he with r | r
  ·exact hx b n r
  ·rw [n]at r;cases r
 have hm:∀b u,H b=some u->¬Mut (some u)->b≠x:=λb u q nm z=>by subst z;rw [q]at mu;exact nm mu
 refine⟨λb u q n _ _=>k b u (hb b n) q,λb u q n _ _=>⟨u.slots,k b u (hb b n) q⟩,λb u q n _=>by rw [ag (hx b n)];exact n,λb u q _=>?_,
  λb xs q=>by rw [ag (hm b _ q λz=>z)];exact q,λb u xs q=>by rw [ag (hm b _ q λz=>z)];exact q,λb ps q=>⟨#[],by rw [ag (hm b _ q λz=>z),q];simp⟩⟩
 by_cases hbe:b=e
 ·subst hbe;exact heo
 ·exact⟨u,k b u hbe q⟩
end
noncomputable def trk (h:Heap) (H:Hp):List Addr:=(List.range h.objs.size).filter λa=>(H a).isSome
noncomputable def kZ (h:Heap) (H:Hp):Heap:=PySem.W.hideAll h (trk h H)
theorem sw (h:Heap) (H:Hp):(kZ h H).objs.size=h.objs.size:=PySem.W.hideAll_size _ _
theorem uM {h:Heap}{H:Hp}{b:Addr}{o:Obj} (e:h.get? b=some o) (n:H b=none):(kZ h H).get? b=some o:=
 PySem.W.hideAll_get _ e λhm=>by
  have q:(H b).isSome=true:=(List.mem_filter.mp hm).2
  rw [n]at q;simp at q
theorem wu {h:Heap}{H:Hp}{b:Addr}{o:Obj} (e:(kZ h H).get? b=some o):h.get? b=some o/\H b=none:=by
 have e':h.get? b=some o:=PySem.W.of_hideAll (trk h H) e
 refine⟨e',?_⟩
 cases q:H b with
 | none=>rfl
 | some x=>
  have hm:b∈trk h H:=List.mem_filter.mpr ⟨List.mem_range.mpr (Heap.lt_size e'),by simp [q]⟩
  have z:(kZ h H).get? b=none:=PySem.W.hideAll_none (trk h H) hm
  rw [z]at e;cases e
noncomputable def wP (g h:Heap) (L:Addr):List (Addr × Obj):=(List.range h.objs.size).filterMap λa=>if a=L\/(g.get? a).isSome=true then none else (h.get? a).map λo=>(a,o)
noncomputable def rest (g h:Heap) (L d:Addr):List (Addr × Obj):=(wP g h L).filter λp=>decide (p.1≠d)
end L2
namespace L2
open PySem PySem.Spec PyProof.Rows
structure Mod (K:PySem.W.Frag) (mg:Str->Option Value) (base:Heap):Prop where
 kin:K.In base
 glob:base.Ns mainGlobals mg
 blt:∃mb,base.Ns builtinsNs mb/\∀x:Str,x≠"__name__"->mb x=bootBuiltins x
 nolimit:base.NoLimit
structure Cx where
 prog:Program
 w:World
 K:PySem.W.Frag
 mg:Str->Option Value
 base:Heap
 A:Around
 N:List Str
 s₀:Shared
 H₀:Hp
 env:Env
 outer:List Env
 stack:List Env
 ex:List Addr
 fn:Str->Bool
 calm:Bool
 pn:List (Addr × Obj)
 xe:Value->Shared->Prop
noncomputable def frs (l:List Env):List Addr:=l.filterMap (·.frame)
noncomputable abbrev Cx.fs (X:Cx):List Addr:=frs X.outer
noncomputable def Vis (sc:Scope) (x:Str):Prop:=sc.names.lookup x=some .local\/sc.names.lookup x=some .cell\/sc.names.lookup x=some .free
noncomputable def Loc (sc:Scope) (x:Str):Prop:=sc.names.lookup x=some .local\/sc.names.lookup x=some .cell
noncomputable def zB (env:Env) (h:Heap) (m:Str->Option Value) (x:Str) (u:Value):Prop:=
 (env.kindOf x=some .local/\m x=some u)\/((env.kindOf x=some .cell\/env.kindOf x=some .free)/\∃c,env.cells.lookup x=some c/\h.IsCell c (some u))
structure Cx.Ok (X:Cx):Prop where
 mod:Mod X.K X.mg X.base
 kind:X.env.scope.kind=.function
 glob:X.env.globals=mainGlobals
 blt:X.env.builtins=builtinsNs
 above:X.s₀.heap.objs.size<=X.env.locals
 inj:∀x y c,X.env.cells.lookup x=some c->X.env.cells.lookup y=some c->x=y
 has:∀x,(X.env.kindOf x=some .cell\/X.env.kindOf x=some .free)->∃c,X.env.cells.lookup x=some c
 cab:∀x c,X.fn x=true->X.env.cells.lookup x=some c->X.s₀.heap.objs.size<=c
 hd:X.calm=true->X.A.handled=none
 frames:X.A.frames=some X.stack
 stk:X.stack=X.outer\/(X.stack=X.env::X.outer/\X.env.frame=some X.env.locals)
 exf:∀b∈X.ex,b≠X.env.locals/\∀x c,X.env.cells.lookup x=some c->c≠b
 bs:∀b o,X.base.get? b=some o->X.s₀.heap.get? b=some o/\X.H₀ b=none
 bsz:X.base.objs.size<=X.s₀.heap.objs.size
 noex:∀b o,X.base.get? b=some o->b∉X.ex
 exfs:∀b∈X.ex,b∉X.fs
 funs:X.s₀.heap.FunFrames X.base X.outer
 frf:∀b∈X.fs,X.H₀ b=none
structure Inv (X:Cx) (pins:List (Addr × Obj)) (σ:List (Option V)) (H:Hp) (s:Shared):Prop where
 ok:X.Ok
 os:s.os=X.s₀.os
 bare:AllBare s.gens
 base:Un X.fs X.ex X.H₀ H X.s₀.heap s.heap
 loc:∃m,s.heap.Ns X.env.locals m/\∀(i:Nat) (x:Str) (v:V),X.N[i]?=some x->σ[i]?=some (some v)->Vis X.env.scope x->∃u,aU v u/\zB X.env s.heap m x u
 cell:∀x c,X.env.cells.lookup x=some c->∃v,s.heap.IsCell c v
 free:H X.env.locals=none
 freeC:∀x c,X.env.cells.lookup x=some c->H c=none
 pin:∀p∈X.pn++pins,s.heap.get? p.1=some p.2/\H p.1=none/\p.1≠X.env.locals/\p.1∉X.fs/\∀v,p.2.data≠.cell v
 hok:HOk X.prog X.w H s.heap
 len:σ.length=X.N.length
section
variable {X:Cx}{pins:List (Addr × Obj)}{σ:List (Option V)}{H H':Hp}{s:Shared}{h':Heap}
theorem Cx.Ok.nofr (ok:X.Ok){b:Addr}{o:Obj} (e:X.base.get? b=some o):b∉X.fs:=λhb=>by
 have:=(ok.funs.mem hb).1
 rw [e]at this;cases this
theorem Inv.bs (I:Inv X pins σ H s):∀b o,X.base.get? b=some o->s.heap.get? b=some o/\H b=none:=λb o e=>
 ⟨I.base.keep b o (I.ok.bs b o e).1 (I.ok.bs b o e).2 (I.ok.nofr e) (I.ok.noex b o e),I.base.free b o (I.ok.bs b o e).1 (I.ok.bs b o e).2 (I.ok.noex b o e)⟩
theorem Inv.bk (I:Inv X pins σ H s):∀b o,X.base.get? b=some o->s.heap.get? b=some o:=λb o e=>(I.bs b o e).1
theorem Inv.mod (I:Inv X pins σ H s):Mod X.K X.mg X.base:=I.ok.mod
theorem Inv.kIn (I:Inv X pins σ H s):X.K.In s.heap:=I.ok.mod.kin.keeps I.bk
theorem Inv.lt (I:Inv X pins σ H s):X.env.locals < s.heap.objs.size:=let ⟨_,hn,_⟩:=I.loc;hn.lt
theorem Inv.sz (I:Inv X pins σ H s):X.s₀.heap.objs.size<=s.heap.objs.size:=Nat.le_trans I.ok.above (Nat.le_of_lt I.lt)
theorem Inv.nofs (I:Inv X pins σ H s){a:Addr} (h:s.heap.objs.size<=a):a∉X.fs:=λhb=>by
 obtain⟨_,o,ho,_⟩:=I.ok.funs.mem hb
 exact absurd (Nat.lt_of_lt_of_le (Heap.lt_size ho) (Nat.le_trans I.sz h)) (Nat.lt_irrefl _)
theorem Inv.cne (I:Inv X pins σ H s):∀x c,X.env.cells.lookup x=some c->c≠X.env.locals:=λx c e z=>by
 obtain⟨v,o,ho,hd⟩:=I.cell x c e
 obtain⟨m,⟨o',es,ep,ho',hd',_⟩,_⟩:=I.loc
 rw [z,ho']at ho;cases ho;rw [hd']at hd;cases hd
theorem Inv.funs (I:Inv X pins σ H s):s.heap.FunFrames X.base X.outer:=by
 have all:∀(l:List Env),(∀b∈frs l,b∈X.fs)->X.s₀.heap.FunFrames X.base l->s.heap.FunFrames X.base l:=by
  intro l
  induction l with
  | nil=>intro _ _;trivial
  | cons env r ih=>
   intro hs hl
   obtain⟨hk,⟨L,o,hf,hn,ho,hd⟩,hr⟩:=hl
   have hL:L∈X.fs:=hs L (by unfold frs;rw [List.filterMap_cons,hf];exact List.mem_cons_self)
   obtain⟨sl,e⟩:=I.base.slot L o ho (I.ok.frf L hL) hL λz=>I.ok.exfs L z hL
   exact⟨hk,⟨L,_,hf,hn,e,hd⟩,ih (λb hb=>hs b (by unfold frs;rw [List.filterMap_cons,hf];exact List.mem_cons_of_mem _ hb)) hr⟩
 exact all X.outer (λ_ hb=>hb) I.ok.funs
theorem Inv.stack (I:Inv X pins σ H s):s.heap.FunFrames X.base X.stack:=by
 rcases I.ok.stk with e | ⟨e,hf⟩
 ·rw [e];exact I.funs
 ·rw [e]
  obtain⟨m,hn,_⟩:=I.loc
  refine .cons (by rw [I.ok.kind];decide) hf hn ?_ I.funs
  exact Heap.get?_none_of_le (Nat.le_trans I.ok.bsz I.ok.above)
theorem Inv.stkSub (I:Inv X pins σ H s):∀b∈frs X.stack,b∈X.env.locals::X.fs:=λb hb=>by
 rcases I.ok.stk with e | ⟨e,hf⟩
 ·rw [e]at hb;exact List.mem_cons_of_mem _ hb
 ·rw [e]at hb
  unfold frs at hb
  rw [List.filterMap_cons,hf]at hb
  exact hb
theorem Inv.stkFree (I:Inv X pins σ H s):∀b∈frs X.stack,H b=none:=λb hb=>by
 rcases List.mem_cons.mp (I.stkSub b hb) with e | hb
 ·rw [e];exact I.free
 ·obtain⟨_,o,ho,_⟩:=I.ok.funs.mem hb
  exact I.base.free b o ho (I.ok.frf b hb) λz=>I.ok.exfs b z hb
theorem Inv.step {g':Array GenState}{t':Nat}{d':Drawn}{ch:List Addr} (I:Inv X pins σ H s)
  (hch:∀b∈ch,(b∈X.ex\/X.s₀.heap.objs.size<=b)/\b≠X.env.locals/\(∀x c,X.env.cells.lookup x=some c->c≠b)/\∀p∈X.pn++pins,p.1≠b)
  (keep:∀b o,b≠X.env.locals->b∉X.fs->b∉ch->s.heap.get? b=some o->H b=none->h'.get? b=some o)
  (slot:∀b o,b≠X.env.locals->b∈X.fs->b∉ch->s.heap.get? b=some o->H b=none->∃sl,h'.get? b=some { o with slots:=sl }) (free:∀b o,b∉ch->s.heap.get? b=some o->H b=none->H' b=none)
  (there:∀b o,b∉ch->s.heap.get? b=some o->∃o',h'.get? b=some o')
  (tups:∀b xs,H b=some (.tup xs)->H' b=some (.tup xs)) (frzs:∀b o u,H b=some (.frz o u)->H' b=some (.frz o u)) (tbls:∀b ps,H b=some (.tbl ps)->∃more,H' b=some (.tbl (ps++more)))
  (ns:∀m,s.heap.Ns X.env.locals m->h'.Ns X.env.locals m) (hok:HOk X.prog X.w H' h') (hg:AllBare g') :
  Inv X pins σ H' { s with heap:=h',gens:=g',drawn:=d',toks:=t' }:=by
 have neL:∀b o,X.s₀.heap.get? b=some o->b≠X.env.locals:=λb o e=>Nat.ne_of_lt (Nat.lt_of_lt_of_le (Heap.lt_size e) I.ok.above)
 have neC:∀b o,X.s₀.heap.get? b=some o->b∉X.ex->b∉ch:=λb o e hx hb=>by
  rcases (hch b hb).1 with z | z
  ·exact hx z
  ·exact absurd (Nat.lt_of_lt_of_le (Heap.lt_size e) z) (Nat.lt_irrefl _)
 have cellK:∀x c,X.env.cells.lookup x=some c->∀v,s.heap.IsCell c v->h'.IsCell c v:=λx c e v ⟨o,ho,hd⟩=>by
  have nch:c∉ch:=λz=>(hch c z).2.2.1 x c e rfl
  by_cases hc:c∈X.fs
  ·obtain⟨sl,q⟩:=slot c o (I.cne x c e) hc nch ho (I.freeC x c e)
   exact⟨_,q,hd⟩
  ·exact⟨o,keep c o (I.cne x c e) hc nch ho (I.freeC x c e),hd⟩
 refine⟨I.ok,I.os,hg,⟨λb o e n hb hx=>?_,λb o e n hb hx=>?_,λb o e n hx=>?_,λb o e hx=>?_,λb xs e=>tups b xs (I.base.tups b xs e),λb o xs e=>frzs b o xs (I.base.frzs b o xs e),λb ps e=>?_⟩,?_,λx c e=>?_,?_,λx c e=>?_,λp hp=>?_,hok,I.len⟩
 ·exact keep b o (neL b o e) hb (neC b o e hx) (I.base.keep b o e n hb hx) (I.base.free b o e n hx)
 ·obtain⟨sl,e1⟩:=I.base.slot b o e n hb hx
  obtain⟨sl',e2⟩:=slot b _ (neL b o e) hb (neC b o e hx) e1 (I.base.free b o e n hx)
  exact⟨sl',e2⟩
 ·obtain⟨o',e1⟩:=I.base.there b o e hx
  exact free b o' (neC b o e hx) e1 (I.base.free b o e n hx)
 ·obtain⟨o',e1⟩:=I.base.there b o e hx
  exact there b o' (neC b o e hx) e1
 ·obtain⟨m1,e1⟩:=I.base.tbls b ps e
  obtain⟨m2,e2⟩:=tbls b _ e1
  exact⟨m1++m2,by rw [e2,Array.append_assoc]⟩
 ·obtain⟨m,hn,hl⟩:=I.loc
  refine⟨m,ns m hn,λi x v e1 e2 e3=>?_⟩
  obtain⟨u,r,l⟩:=hl i x v e1 e2 e3
  refine⟨u,r,?_⟩
  rcases l with l | ⟨k,c,e,z⟩
  ·exact .inl l
  ·exact .inr ⟨k,c,e,cellK x c e _ z⟩
 ·obtain⟨v,z⟩:=I.cell x c e
  exact⟨v,cellK x c e v z⟩
 ·obtain⟨m,⟨o,_,_,ho,_⟩,_⟩:=I.loc
  exact free _ o (λz=>(hch _ z).2.1 rfl) ho I.free
 ·obtain⟨v,o,ho,hd⟩:=I.cell x c e
  exact free c o (λz=>(hch c z).2.2.1 x c e rfl) ho (I.freeC x c e)
 ·obtain⟨e,n,ne,nf,d⟩:=I.pin p hp
  have nch:p.1∉ch:=λz=>(hch p.1 z).2.2.2 p hp rfl
  exact⟨keep p.1 p.2 ne nf nch e n,free p.1 p.2 nch e n,ne,nf,d⟩
theorem Inv.un {t':Nat} (I:Inv X pins σ H s) (u:Un X.fs [] H H' s.heap h') (hok:HOk X.prog X.w H' h'):Inv X pins σ H' { s with heap:=h',toks:=t' }:=by
 obtain⟨m,⟨o,es,ep,ho,r⟩,_⟩:=id I.loc
 obtain⟨sl,hL⟩:=u.any ho I.free (by simp)
 exact I.step (g':=s.gens) (d':=s.drawn) (ch:=[]) (λ_ z=>nomatch z) (λb o _ hb _ e n=>u.keep b o e n hb (by simp)) (λb o _ hb _ e n=>u.slot b o e n hb (by simp)) (λb o _ e n=>u.free b o e n (by simp)) (λb o _ e=>u.there b o e (by simp)) u.tups u.frzs u.tbls (λm' hm=>by
  obtain⟨o',es',ep',ho',r'⟩:=hm
  rw [ho]at ho';cases ho'
  exact⟨_,es',ep',hL,r'⟩) hok I.bare
theorem Inv.call {g':Array GenState}{t':Nat}{d':Drawn}{ch:List Addr} (I:Inv X pins σ H s) (u:Un (frs X.stack) ch H H' s.heap h') (hok:HOk X.prog X.w H' h') (hg:AllBare g')
  (hch:∀b∈ch,(b∈X.ex\/X.s₀.heap.objs.size<=b)/\b≠X.env.locals/\(∀x c,X.env.cells.lookup x=some c->c≠b)/\∀p∈X.pn++pins,p.1≠b) :
  Inv X pins σ H' { s with heap:=h',gens:=g',drawn:=d',toks:=t' }:=by
 obtain⟨m,⟨o,es,ep,ho,r⟩,_⟩:=id I.loc
 obtain⟨sl,hL⟩:=u.any ho I.free λz=>(hch _ z).2.1 rfl
 exact I.step (ch:=ch) hch (λb o hL hb hc e n=>u.keep b o e n (λz=>(List.mem_cons.mp (I.stkSub b z)).elim hL hb) hc) (λb o _ _ hc e n=>u.any e n hc) (λb o hc e n=>u.free b o e n hc) (λb o hc e=>u.there b o e hc) u.tups u.frzs u.tbls (λm' hm=>by
  obtain⟨o',es',ep',ho',r'⟩:=hm
  rw [ho]at ho';cases ho'
  exact⟨_,es',ep',hL,r'⟩) hok hg
theorem Inv.turned {t':Nat}{it:Addr} (I:Inv X pins σ H s) (k:∀b o,b≠it->s.heap.get? b=some o->h'.get? b=some o) (hn:H it=none) (hL:it≠X.env.locals)
  (h1:it∈X.ex\/X.s₀.heap.objs.size<=it) (h2:∀x c,X.env.cells.lookup x=some c->c≠it) (h3:∀p∈X.pn++pins,p.1≠it):Inv X pins σ H { s with heap:=h',toks:=t' }:=by
 have nit:∀b u,H b=some u->b≠it:=λb u e z=>by rw [z,hn]at e;cases e
 refine I.step (g':=s.gens) (d':=s.drawn) (ch:=[it]) (λb hb=>?_) (λb o _ _ hc e _=>k b o (λz=>hc (by simp [z])) e) (λb o _ _ hc e _=>⟨o.slots,k b o (λz=>hc (by simp [z])) e⟩) (λ_ _ _ _ n=>n)
  (λb o hc e=>⟨o,k b o (λz=>hc (by simp [z])) e⟩) (λ_ _ e=>e) (λ_ _ _ e=>e) (λb ps e=>⟨#[],by rw [e];simp⟩) (λm hm=>?_) (λb u e=>?_) I.bare
 ·have e:b=it:=by simpa using hb
  subst e
  exact⟨h1,hL,h2,h3⟩
 ·obtain⟨o,es,ep,ho,r⟩:=hm
  exact⟨o,es,ep,k _ o (Ne.symm hL) ho,r⟩
 ·refine(I.hok b u e).stay (λc v hc q=>k c v ?_ q) (λ_ q=>q) λ_ _ q=>q
  rcases hc with z | z
  ·rw [z];exact nit b u e
  ·exact nit c _ z
theorem Inv.tok (I:Inv X pins σ H s) (t:Nat):Inv X pins σ H { s with toks:=t }:=I.un (h':=s.heap) (t':=t) Un.refl I.hok
theorem Inv.kept {t':Nat} (I:Inv X pins σ H s) (k:∀b u,s.heap.get? b=some u->h'.get? b=some u):Inv X pins σ H { s with heap:=h',toks:=t' }:=I.un (Un.kept k) (I.hok.kept k)
theorem Inv.laid {a:Addr}{o:HO}{t':Nat} (I:Inv X pins σ H s) (k:∀b u,s.heap.get? b=some u->h'.get? b=some u) (hp:s.heap.objs.size<=a) (new:bG X.prog X.w (upd H a o) h' a o) :
  Inv X pins σ (upd H a o) { s with heap:=h',toks:=t' }:=I.un (Un.laid k hp (I.hok.fresh hp)) (I.hok.laid k hp new)
theorem Inv.write {x e:Addr}{o:HO}{t':Nat} (I:Inv X pins σ H s) (mu:Mut (H x)) (he:e=x\/H e=some (.own x)) (k:∀b u,b≠e->s.heap.get? b=some u->h'.get? b=some u) (heo:∃u,h'.get? e=some u)
  (new:bG X.prog X.w (upd H x o) h' x o):Inv X pins σ (upd H x o) { s with heap:=h',toks:=t' }:=I.un (Un.write mu he k heo) (I.hok.write mu he k heo new)
theorem Inv.pins_of {pins':List (Addr × Obj)} (I:Inv X pins σ H s) (h:∀p∈pins',s.heap.get? p.1=some p.2/\H p.1=none/\p.1≠X.env.locals/\p.1∉X.fs/\∀v,p.2.data≠.cell v):Inv X pins' σ H s:=
 ⟨I.ok,I.os,I.bare,I.base,I.loc,I.cell,I.free,I.freeC,λp hp=>(List.mem_append.mp hp).elim (λz=>I.pin p (List.mem_append_left _ z)) (h p),I.hok,I.len⟩
theorem oF {N:List Str} (hN:N.Nodup){i j:Nat}{x:Str} (a:N[i]?=some x) (b:N[j]?=some x):i=j:=by
 obtain⟨h1,e1⟩:=List.getElem?_eq_some_iff.mp a
 obtain⟨h2,e2⟩:=List.getElem?_eq_some_iff.mp b
 exact(List.getElem_inj hN).mp (e1.trans e2.symm)
theorem lO {M:Model}{A:Around}{E:Value->Shared->Prop}{i:Nat}{x:Str}{v:V}{u:Value}{Q:Unit->Shared->Prop} (I:Inv X pins σ H s) (hN:X.N.Nodup) (hi:X.N[i]?=some x) (hx:Loc X.env.scope x) (r:aU v u)
  (h:∀s',Inv X pins (σ.set i (some v)) H s'->(∃a,Heap.SameBut a s.heap s'.heap/\(a=X.env.locals\/X.env.cells.lookup x=some a))->Q () s') (hf:X.fn x=true\/X.env.scope.names.lookup x=some .local:=by first | exact .inl rfl | exact .inr rfl | assumption):wpAny M A (storeName X.env x u) Q E s:=by
 obtain⟨m,hn,hl⟩:=id I.loc
 have hcls:(X.env.scope.kind == .class || (X.env.scope.kind == .module && X.env.locals != X.env.globals))=false:=by rw [I.ok.kind];rfl
 have hiσ:i < σ.length:=by rw [I.len];exact(List.getElem?_eq_some_iff.mp hi).1
 have cne:=I.cne
 have tracked:∀{a:Addr}{h':Heap},(∃o,s.heap.get? a=some o/\H a=none)->Heap.SameBut a s.heap h'->HOk X.prog X.w H h':=λ{a h'} ha hs b ob e=>by
  obtain⟨_,_,hfree⟩:=ha
  refine(I.hok b ob e).stay (λc w' hc q=>(hs.2 c ?_).trans q) (λ_ q=>q) λ_ _ q=>q
  rintro rfl
  rcases hc with rfl | hc
  ·rw [hfree]at e;cases e
  ·rw [hfree]at hc;cases hc
 rcases hx with hk | hk
 ·refine wpAny_storeName_local hk hn (λh' hn' hs=>?_) hcls
  obtain⟨oL,_,_,hoL,_⟩:=id hn
  refine h _ ⟨I.ok,I.os,I.bare,⟨λb o e n hb hx=>?_,λb o e n hb hx=>?_,I.base.free,λb o e hx=>?_,I.base.tups,I.base.frzs,I.base.tbls⟩,⟨_,hn',λj y v' e1 e2 e3=>?_⟩,λy c e=>?_,I.free,I.freeC,λp hp=>?_,tracked ⟨oL,hoL,I.free⟩ hs,by simpa using I.len⟩ ⟨_,hs,.inl rfl⟩
  ·exact(hs.2 b (Nat.ne_of_lt (Nat.lt_of_lt_of_le (Heap.lt_size e) I.ok.above))).trans (I.base.keep b o e n hb hx)
  ·obtain⟨sl,e1⟩:=I.base.slot b o e n hb hx
   exact⟨sl,(hs.2 b (Nat.ne_of_lt (Nat.lt_of_lt_of_le (Heap.lt_size e) I.ok.above))).trans e1⟩
  ·obtain⟨o',e1⟩:=I.base.there b o e hx
   exact⟨o',(hs.2 b (Nat.ne_of_lt (Nat.lt_of_lt_of_le (Heap.lt_size e) I.ok.above))).trans e1⟩
  ·by_cases hj:j=i
   ·subst hj
    rw [hi]at e1;cases e1
    rw [List.getElem?_set_self hiσ]at e2
    cases e2
    exact⟨u,r,.inl ⟨hk,by simp⟩⟩
   ·rw [List.getElem?_set_ne (Ne.symm hj)]at e2
    obtain⟨u',r',q⟩:=hl j y v' e1 e2 e3
    refine⟨u',r',?_⟩
    rcases q with⟨k,e⟩ | ⟨k,c,e,z⟩
    ·refine .inl ⟨k,?_⟩
     have:y≠x:=λe=>hj (oF hN e1 (e ▸ hi))
     simp [this,e]
    ·exact .inr ⟨k,c,e,z.sameBut hs (cne y c e)⟩
  ·obtain⟨w',z⟩:=I.cell y c e
   exact⟨w',z.sameBut hs (cne y c e)⟩
  ·obtain⟨e,n,ne,nf,d⟩:=I.pin p hp
   exact⟨(hs.2 p.1 ne).trans e,n,ne,nf,d⟩
 ·have hfn:X.fn x=true:=by
   rcases hf with z | z
   ·exact z
   ·rw [z]at hk;cases hk
  obtain⟨c,hc⟩:=I.ok.has x (.inl hk)
  obtain⟨w',z⟩:=I.cell x c hc
  refine wpAny_storeName_cell I.ok.kind hk hc z (λh' hc' hs=>?_)
  obtain⟨oc,hoc,hocd⟩:=id z
  refine h { s with heap:=h' } ⟨I.ok,I.os,I.bare,⟨λb o e n hb hx=>?_,λb o e n hb hx=>?_,I.base.free,λb o e hx=>?_,I.base.tups,I.base.frzs,I.base.tbls⟩,⟨m,hn.sameBut hs (Ne.symm (cne x c hc)),λj y v' e1 e2 e3=>?_⟩,λy c' e=>?_,I.free,I.freeC,λp hp=>?_,tracked ⟨oc,hoc,I.freeC x c hc⟩ hs,by simpa using I.len⟩ ⟨c,hs,.inr hc⟩
  ·exact(hs.2 b (Nat.ne_of_lt (Nat.lt_of_lt_of_le (Heap.lt_size e) (I.ok.cab x c hfn hc)))).trans (I.base.keep b o e n hb hx)
  ·obtain⟨sl,e1⟩:=I.base.slot b o e n hb hx
   exact⟨sl,(hs.2 b (Nat.ne_of_lt (Nat.lt_of_lt_of_le (Heap.lt_size e) (I.ok.cab x c hfn hc)))).trans e1⟩
  ·obtain⟨o',e1⟩:=I.base.there b o e hx
   exact⟨o',(hs.2 b (Nat.ne_of_lt (Nat.lt_of_lt_of_le (Heap.lt_size e) (I.ok.cab x c hfn hc)))).trans e1⟩
  ·by_cases hj:j=i
   ·subst hj
    rw [hi]at e1;cases e1
    rw [List.getElem?_set_self hiσ]at e2
    cases e2
    exact⟨u,r,.inr ⟨.inl hk,c,hc,hc'⟩⟩
   ·rw [List.getElem?_set_ne (Ne.symm hj)]at e2
    obtain⟨u',r',q⟩:=hl j y v' e1 e2 e3
    refine⟨u',r',?_⟩
    rcases q with q | ⟨k,c',e,z'⟩
    ·exact .inl q
    ·refine .inr ⟨k,c',e,z'.sameBut hs ?_⟩
     rintro rfl
     exact hj (oF hN e1 (I.ok.inj _ _ _ e hc ▸ hi))
  ·by_cases hcc:c'=c
   ·subst hcc;exact⟨_,hc'⟩
   ·obtain⟨w2,z2⟩:=I.cell y c' e
    exact⟨w2,z2.sameBut hs hcc⟩
  ·obtain⟨e,n,ne,nf,d⟩:=I.pin p hp
   refine⟨(hs.2 p.1 ?_).trans e,n,ne,nf,d⟩
   intro q
   rw [q,hoc]at e
   have q':oc=p.2:=Option.some.inj e
   exact d w' (by rw [<- q'];exact hocd)
theorem oh {M:Model}{A:Around}{E:Value->Shared->Prop}{i:Nat}{x:Str}{v:V}{u:Value}{Q:Unit->Shared->Prop} (I:Inv X pins σ H s) (hN:X.N.Nodup) (hi:X.N[i]?=some x) (hx:Loc X.env.scope x) (r:aU v u)
  (h:∀s',Inv X pins (σ.set i (some v)) H s'->Q () s') (hf:X.fn x=true\/X.env.scope.names.lookup x=some .local:=by first | exact .inl rfl | exact .inr rfl | assumption):wpAny M A (storeName X.env x u) Q E s:=
 lO I hN hi hx r (λs' I' _=>h s' I') hf
theorem Inv.call' {s':Shared}{ch:List Addr} (I:Inv X pins σ H s) (ho:s'.os=s.os) (u:Un (frs X.stack) ch H H' s.heap s'.heap) (hok:HOk X.prog X.w H' s'.heap) (hg:AllBare s'.gens)
  (hch:∀b∈ch,(b∈X.ex\/X.s₀.heap.objs.size<=b)/\b≠X.env.locals/\(∀x c,X.env.cells.lookup x=some c->c≠b)/\∀p∈X.pn++pins,p.1≠b):Inv X pins σ H' s':=by
 obtain⟨h',g',d',t',o'⟩:=s'
 have e:o'=s.os:=ho
 subst e
 exact I.call (g':=g') (t':=t') (d':=d') u hok hg hch
end
noncomputable abbrev XK:=Value->Option Addr->Hp->Prop
noncomputable abbrev St:=List (Option V)
noncomputable abbrev VK:=V->Hp->Prop
noncomputable abbrev TE:=St->Hp->VK->Prop
noncomputable abbrev TT:=St->Hp->(Bool->Hp->Prop)->Prop
noncomputable abbrev TA:=St->Hp->(List V->Hp->Prop)->Prop
structure Ends where
 nx:St->Hp->Prop
 rt:VK
 bk:St->Hp->Prop:=λ_ _=>False
 ct:St->Hp->Prop:=λ_ _=>False
noncomputable abbrev TS:=Ends->St->Hp->Prop
noncomputable def EP (X:Cx) (pins:List (Addr × Obj)) (σ:St) (Q:VK) (u:Value) (s':Shared):Prop:=∃v H',Inv X pins σ H' s'/\aU v u/\Q v H'
noncomputable def TP (X:Cx) (pins:List (Addr × Obj)) (σ:St) (Q:Bool->Hp->Prop) (b:Bool) (s':Shared):Prop:=∃H',Inv X pins σ H' s'/\Q b H'
noncomputable def AP (X:Cx) (pins:List (Addr × Obj)) (σ:St) (Q:List V->Hp->Prop) (us:List Value) (s':Shared):Prop:=∃vs H',Inv X pins σ H' s'/\aR vs us/\Q vs H'
noncomputable def SP (X:Cx) (pins:List (Addr × Obj)) (D:Ends) (f:Flow) (s':Shared):Prop:=
 match f with
 | .next=>∃σ' H',Inv X pins σ' H' s'/\D.nx σ' H'
 | .brk=>∃σ' H',Inv X pins σ' H' s'/\D.bk σ' H'
 | .cont=>∃σ' H',Inv X pins σ' H' s'/\D.ct σ' H'
 | .ret u=>∃v σ' H',Inv X pins σ' H' s'/\aU v u/\D.rt v H'
noncomputable def PE (X:Cx) (e:Expr) (t:TE):Prop:=
 ∀(pins:List (Addr × Obj)) (s:Shared) (σ:St) (H:Hp) (Q:VK),Inv X pins σ H s->t σ H Q->wpAny (model X.prog X.w) X.A (eval e X.env) (EP X pins σ Q) X.xe s
noncomputable def PT (X:Cx) (e:Expr) (t:TT):Prop:=
 ∀(pins:List (Addr × Obj)) (s:Shared) (σ:St) (H:Hp) (Q:Bool->Hp->Prop),Inv X pins σ H s->t σ H Q->wpAny (model X.prog X.w) X.A (isTrue e X.env (eval e X.env)) (TP X pins σ Q) X.xe s
noncomputable def PW (X:Cx) (e:Expr) (t:TT):Prop:=
 ∀(whole:Sem Value) (pins:List (Addr × Obj)) (s:Shared) (σ:St) (H:Hp) (Q:Bool->Hp->Prop),Inv X pins σ H s->t σ H Q->wpAny (model X.prog X.w) X.A (isTrue e X.env whole) (TP X pins σ Q) X.xe s
theorem PW.pt {X:Cx}{e:Expr}{t:TT} (h:PW X e t):PT X e t:=h _
noncomputable def PA (X:Cx) (es:List Expr) (t:TA):Prop:=
 ∀(pos:Pos) (pins:List (Addr × Obj)) (s:Shared) (σ:St) (H:Hp) (Q:List V->Hp->Prop),Inv X pins σ H s->t σ H Q->wpAny (model X.prog X.w) X.A (spliced (backTo pos (starEach es X.env))) (AP X pins σ Q) X.xe s
noncomputable def PS (X:Cx) (st:Stmt) (t:TS):Prop:=
 ∀(pins:List (Addr × Obj)) (s:Shared) (σ:St) (H:Hp) (D:Ends),Inv X pins σ H s->t D σ H->wpAny (model X.prog X.w) X.A (exec st X.env) (SP X pins D) X.xe s
noncomputable def PSs (X:Cx) (st:List Stmt) (t:TS):Prop:=
 ∀(pins:List (Addr × Obj)) (s:Shared) (σ:St) (H:Hp) (D:Ends),Inv X pins σ H s->t D σ H->wpAny (model X.prog X.w) X.A (execs st X.env) (SP X pins D) X.xe s
theorem thn {α:Type}{t:Sem α}{Q Q':α->Shared->Prop}{M:Model}{A:Around}{E:Value->Shared->Prop}{s:Shared} (h:wpAny M A t Q E s) (hQ:∀a s,Q a s->Q' a s):wpAny M A t Q' E s:=wpAny_mono h hQ λ_ _ x=>x
end L2
namespace L2
open PySem PySem.Spec PyProof.Rows
section
variable {X:Cx}
noncomputable def dN (i:Nat):TE:=λσ H Q=>∃v,σ[i]?=some (some v)/\Q v H
noncomputable def tC (v:V):TE:=λ_ H Q=>Q v H
theorem xJ {i:Nat}{x:Str}{pos:Pos} (hN:X.N[i]?=some x) (hv:Vis X.env.scope x) (hd:(x == ("__debug__" : Str))=false:=by decide) (hcd:(x == ("__classdict__" : Str))=false:=by decide):PE X (.Name x pos) (dN i):=by
 intro pins s σ H Q I h
 obtain⟨v,e,h⟩:=h
 obtain⟨m,hn,hl⟩:=I.loc
 obtain⟨u,r,l⟩:=hl i x v hN e hv
 have fin:EP X pins σ Q u s:=⟨v,H,I,r,h⟩
 rcases l with⟨hk,hm⟩ | ⟨hk,c,hc,hcell⟩
 ·exact wpAny_Name (wpAny_loadName_local I.ok.kind hk hn hm fin) hd
 ·rcases hk with hk | hk
  ·exact wpAny_Name (wpAny_loadName_cell I.ok.kind hk hc hcell fin) hd
  ·exact wpAny_Name (wpAny_loadName_free I.ok.kind hk hc hcell fin hcd) hd
theorem ai {i j pos}:PE X (.Constant (.int i) j pos) (tC (.int i)):=λ_ _ _ H _ I h=>wpAny_Constant_int ⟨.int i,H,I.tok _,⟨_,rfl⟩,h⟩
theorem eJ {b j pos}:PE X (.Constant (.bool b) j pos) (tC (.bl b)):=λ_ _ _ H _ I h=>Constant_bool ⟨.bl b,H,I,rfl,h⟩
theorem gp {j pos}:PE X (.Constant .none j pos) (tC .non):=λ_ _ _ H _ I h=>Constant_none ⟨.non,H,I,rfl,h⟩
theorem bL {x j pos}:PE X (.Constant (.str x) j pos) (tC (.str x)):=λ_ _ _ H _ I h=>Calls.Constant_str ⟨.str x,H,I.tok _,⟨_,rfl⟩,h⟩
noncomputable def Gl (X:Cx) (x:Str):Prop:=X.env.kindOf x=some .globalImplicit
theorem nI {E:Value->Shared->Prop}{pins:List (Addr × Obj)}{s:Shared}{σ:St}{H:Hp}{x:Str}{u:Value}{pos:Pos}{Q:Value->Shared->Prop} (I:Inv X pins σ H s) (hg:Gl X x) (hm:X.mg x=some u) (h:Q u s)
  (hd:(x == ("__debug__" : Str))=false:=by decide):wpAny (model X.prog X.w) X.A (eval (.Name x pos) X.env) Q E s:=
 Calls.Name_function_global I.ok.kind hg (Calls.loadGlobal_global (by rw [I.ok.glob];exact I.mod.glob.keeps I.bk) hm h) hd
theorem im {E:Value->Shared->Prop}{pins:List (Addr × Obj)}{s:Shared}{σ:St}{H:Hp}{x:Str}{u:Value}{pos:Pos}{Q:Value->Shared->Prop} (I:Inv X pins σ H s) (hg:Gl X x) (hm:X.mg x=none) (hv:bootBuiltins x=some u) (h:Q u s)
  (hn:x≠"__name__":=by decide) (hd:(x == ("__debug__" : Str))=false:=by decide):wpAny (model X.prog X.w) X.A (eval (.Name x pos) X.env) Q E s:=by
 obtain⟨mb,h1,h2⟩:=I.mod.blt
 exact Calls.Name_function_global I.ok.kind hg (Calls.loadGlobal_builtin (by rw [I.ok.glob];exact I.mod.glob.keeps I.bk) hm (by rw [I.ok.blt];exact h1.keeps I.bk) ((h2 x hn).trans hv) h) hd
theorem dH {x:Str}{v:V}{u:Value}{pos:Pos} (hg:Gl X x) (hm:X.mg x=some u) (r:aU v u) (hd:(x == ("__debug__" : Str))=false:=by decide):PE X (.Name x pos) (tC v):=
 λ_ _ _ H _ I h=>nI I hg hm ⟨v,H,I,r,h⟩ hd
theorem gU {x:Str}{v:V}{u:Value}{pos:Pos} (hg:Gl X x) (hm:X.mg x=none) (hv:bootBuiltins x=some u) (r:aU v u) (hn:x≠"__name__":=by decide) (hd:(x == ("__debug__" : Str))=false:=by decide):PE X (.Name x pos) (tC v):=
 λ_ _ _ H _ I h=>im I hg hm hv ⟨v,H,I,r,h⟩ hn hd
variable {a b:Expr}{ta tb:TE}{pos:Pos}
noncomputable def PC (X:Cx) (op:CmpOp) (a b:Expr) (t:TE):Prop:=
 ∀(pins:List (Addr × Obj)) (s:Shared) (σ:St) (H:Hp) (Q:VK),Inv X pins σ H s->t σ H Q->
  wpAny (model X.prog X.w) X.A (eval a X.env) (λv s₁=>wpAny (model X.prog X.w) X.A (eval b X.env) (λu s₂=>wpAny (model X.prog X.w) X.A (compareOp op v u) (EP X pins σ Q) X.xe s₂) X.xe s₁) X.xe s
theorem oG (b:Expr){op:CmpOp} (h:op≠.In) (h2:op≠.NotIn):behindInMarks op b=false:=by
 have e1:(op == CmpOp.In)=false:=by cases op <;> first | rfl | exact absurd rfl h
 have e2:(op == CmpOp.NotIn)=false:=by cases op <;> first | rfl | exact absurd rfl h2
 cases b <;> simp [behindInMarks,e1,e2]
noncomputable def yY (ta:TE):TE:=λσ H Q=>ta σ H λx H1=>Q (.bl (decide (x=.non))) H1
noncomputable def yr (ta:TE):TE:=λσ H Q=>ta σ H λx H1=>Q (.bl (!decide (x=.non))) H1
theorem aU.none_iff {x:V}{v:Value} (r:aU x v):(v == Value.none)=decide (x=.non):=by
 cases x with
 | non=>cases r;rfl
 | bl _=>cases r;rfl
 | int _=>obtain⟨t,rfl⟩:=r;rfl
 | str _=>obtain⟨t,rfl⟩:=r;rfl
 | byt _=>obtain⟨t,rfl⟩:=r;rfl
 | flt _=>obtain⟨t,rfl⟩:=r;rfl
 | ref _=>cases r;rfl
 | ty _=>cases r;rfl
theorem nE {j pos'} (ha:PE X a ta):PC X .Is a (.Constant .none j pos') (yY ta):=by
 intro pins s σ H Q I h
 refine thn (ha pins s σ H _ I h) λv s1 ⟨x,H1,I1,r1,q1⟩=>?_
 exact Constant_none (is_none_gen ⟨.bl _,H1,I1,by rw [r1.none_iff];rfl,q1⟩)
theorem vV {j pos'} (ha:PE X a ta):PC X .IsNot a (.Constant .none j pos') (yr ta):=by
 intro pins s σ H Q I h
 refine thn (ha pins s σ H _ I h) λv s1 ⟨x,H1,I1,r1,q1⟩=>?_
 exact Constant_none (isnot_none_gen ⟨.bl _,H1,I1,by rw [r1.none_iff];rfl,q1⟩)
noncomputable def tB (t:TE):TT:=λσ H Q=>t σ H λx H1=>∃c,x=.bl c/\Q c H1
theorem xL {op:CmpOp}{t:TE} (h:PC X op a b t) (h1:behindInMarks op b=false:=by first | exact oG _ (by decide) (by decide) | rfl):PE X (.Compare a [op] [b] pos) t:=λpins s σ H Q I hw=>wpAny_Compare1 (h pins s σ H Q I hw) h1
theorem i7 {op:CmpOp}{t:TE} (h:PC X op a b t) (h1:behindInMarks op b=false:=by first | exact oG _ (by decide) (by decide) | rfl):PT X (.Compare a [op] [b] pos) (tB t):=by
 intro pins s σ H Q I hw
 refine wpAny_isTrue_Compare1 (thn (h pins s σ H _ I hw) λv s1 h1=>thn h1 λu s2 h2=>thn h2 λc s3 ⟨x,H1,I1,r1,q1⟩=>?_) h1
 obtain⟨d,rfl,q⟩:=q1
 cases r1
 exact wpAny_truthy_bool ⟨H1,I1,q⟩
theorem cC {e:Expr}{t:TE} (h:PE X e t) (he:∀whole,isTrue e X.env whole=(do let v <- whole;standAt e.pos;holding [v] (truthy v)):=by intro _;rfl):PT X e (tB t):=by
 intro pins s σ H Q I hw
 refine isTrue_plain (thn (h pins s σ H _ I hw) λv s1 ⟨x,H1,I1,r1,q1⟩=>?_) (he _)
 obtain⟨d,rfl,q⟩:=q1
 cases r1
 exact wpAny_truthy_bool ⟨H1,I1,q⟩
variable {tA tB':TT}{rest:List Expr}
noncomputable def yx (t u:TT):TT:=λσ H Q=>t σ H λc H1=>if c=true then u σ H1 Q else Q false H1
noncomputable def tOr (t u:TT):TT:=λσ H Q=>t σ H λc H1=>if c=true then Q true H1 else u σ H1 Q
noncomputable def yW (t:TT):TT:=λσ H Q=>t σ H λc H1=>Q (!c) H1
theorem dG (ha:PT X a tA):PW X (.BoolOp .And [a] pos) tA:=by
 intro wh pins s σ H Q I h
 refine isTrue_and (thn (ha pins s σ H Q I h) λc s1 e=>?_)
 cases c with
 | true=>exact isTrue_and_nil e
 | false=>exact e
theorem u6 (ha:PT X a tA):PW X (.BoolOp .Or [a] pos) tA:=by
 intro wh pins s σ H Q I h
 refine isTrue_or (thn (ha pins s σ H Q I h) λc s1 e=>?_)
 cases c with
 | false=>exact isTrue_or_nil e
 | true=>exact e
theorem eO (ha:PT X a tA) (hb:PW X (.BoolOp .And (b::rest) pos) tB'):PW X (.BoolOp .And (a::b::rest) pos) (yx tA tB'):=by
 intro wh pins s σ H Q I h
 refine isTrue_and (thn (ha pins s σ H _ I h) λc s1 ⟨H1,I1,q1⟩=>?_)
 cases c with
 | true=>exact hb wh pins s1 σ H1 Q I1 q1
 | false=>exact⟨H1,I1,q1⟩
theorem u7 (ha:PT X a tA) (hb:PW X (.BoolOp .Or (b::rest) pos) tB'):PW X (.BoolOp .Or (a::b::rest) pos) (tOr tA tB'):=by
 intro wh pins s σ H Q I h
 refine isTrue_or (thn (ha pins s σ H _ I h) λc s1 ⟨H1,I1,q1⟩=>?_)
 cases c with
 | true=>exact⟨H1,I1,q1⟩
 | false=>exact hb wh pins s1 σ H1 Q I1 q1
theorem cI (ha:PT X a tA):PT X (.UnaryOp .Not a pos) (yW tA):=by
 intro pins s σ H Q I h
 exact isTrue_not (ha pins s σ H (λc H1=>Q (!c) H1) I h)
noncomputable def wV (ta tb:TE):TE:=λσ H Q=>ta σ H λx H1=>∃c,x=.bl c/\if c=true then tb σ H1 Q else Q (.bl false) H1
noncomputable def yq (ta:TE):TE:=λσ H Q=>ta σ H λx H1=>∃c,x=.bl c/\Q (.bl (!c)) H1
theorem fu {op}{t:TE} (h:PE X a t):PE X (.BoolOp op [a] pos) t:=λpins s σ H Q I hw=>BoolOp_one (h pins s σ H Q I hw)
theorem dW (ha:PE X a ta) (hb:PE X (.BoolOp .And (b::rest) pos) tb):PE X (.BoolOp .And (a::b::rest) pos) (wV ta tb):=by
 intro pins s σ H Q I h
 refine BoolOp_and (thn (ha pins s σ H _ I h) λv s1 ⟨x,H1,I1,r1,q1⟩=>?_)
 obtain⟨c,rfl,q1⟩:=q1
 cases r1
 refine wpAny_truthy_bool ?_
 cases c with
 | true=>exact hb pins s1 σ H1 Q I1 q1
 | false=>exact⟨.bl false,H1,I1,rfl,q1⟩
theorem ub (ha:PE X a ta):PE X (.UnaryOp .Not a pos) (yq ta):=by
 intro pins s σ H Q I h
 refine UnaryOp_ (thn (ha pins s σ H _ I h) λv s1 ⟨x,H1,I1,r1,q1⟩=>?_)
 obtain⟨c,rfl,q1⟩:=q1
 cases r1
 exact not_of (wpAny_truthy_bool ⟨.bl (!c),H1,I1,rfl,q1⟩)
noncomputable def tIf (t:TT) (ta tb:TE):TE:=λσ H Q=>t σ H λc H1=>if c=true then ta σ H1 Q else tb σ H1 Q
theorem oB {c:Expr} (hc:PT X c tA) (ha:PE X a ta) (hb:PE X b tb):PE X (.IfExp c a b pos) (tIf tA ta tb):=by
 intro pins s σ H Q I h
 refine wpAny_IfExp (thn (hc pins s σ H _ I h) λd s1 ⟨H1,I1,q1⟩=>?_)
 cases d with
 | true=>exact ha pins s1 σ H1 Q I1 q1
 | false=>exact hb pins s1 σ H1 Q I1 q1
end
end L2
namespace L2
open PySem PySem.Spec PyProof.Rows
noncomputable def SqL (K:PySem.W.Frag) (H:Hp) (a:Addr) (xs:List V):Prop:=
 Rd H a (.lst xs)\/
  ∃(o:Obj) (its:Array Value) (n:Nat),K.lookup a=some o/\o.cls=.type "list"/\o.dict=none/\o.data=.seq its n/\its.size<=sizeLine/\aR xs its.toList
noncomputable def SqT (K:PySem.W.Frag) (H:Hp) (a:Addr) (xs:List V):Prop:=
 Rd H a (.tup xs)\/
  ∃(o:Obj) (its:Array Value) (n:Nat),K.lookup a=some o/\o.cls=.type "tuple"/\o.data=.seq its n/\its.size<=sizeLine/\aR xs its.toList
noncomputable def zw:Value->Option V
 | .none=>some .non
 | .bool b=>some (.bl b)
 | .int i _=>some (.int i)
 | .str x _=>some (.str x)
 | .bytes b _=>some (.byt b)
 | .float b _=>some (.flt b)
 | .ref a=>some (.ref a)
 | .type n=>some (.ty n)
 | _=>none
theorem aU.abs {x:V}{u:Value} (r:aU x u):zw u=some x:=by
 cases x with
 | non=>cases r;rfl
 | bl _=>cases r;rfl
 | int _=>obtain⟨t,rfl⟩:=r;rfl
 | str _=>obtain⟨t,rfl⟩:=r;rfl
 | byt _=>obtain⟨t,rfl⟩:=r;rfl
 | flt _=>obtain⟨t,rfl⟩:=r;rfl
 | ref _=>cases r;rfl
 | ty _=>cases r;rfl
theorem aU.inj {x y:V}{u:Value} (r:aU x u) (q:aU y u):x=y:=Option.some.inj (r.abs.symm.trans q.abs)
theorem aR.inj:∀{xs ys:List V}{us:List Value},aR xs us->aR ys us->xs=ys
 | _,_,_,.nil,.nil=>rfl
 | _,_,_,.cons r t,.cons r' t'=>by rw [r.inj r',aR.inj t t']
section
variable {X:Cx}{pins:List (Addr × Obj)}{σ:St}{H:Hp}{s:Shared}{a:Addr}{xs ys:List V}
theorem SqL.of {K:PySem.W.Frag} (h:H a=some (.lst xs)):SqL K H a xs:=.inl (.inl h)
theorem SqT.of {K:PySem.W.Frag} (h:H a=some (.tup xs)):SqT K H a xs:=.inl (.inl h)
theorem Inv.list (I:Inv X pins σ H s) (h:SqL X.K H a xs):∃its:List Value,aR xs its/\PlainL s.heap a its.toArray/\xs.length<=sizeLine:=by
 rcases h with h | ⟨o,its,n,hk,hc,hd,hs,hz,r⟩
 ·obtain⟨z,its,n,r,e⟩:=h.ok I.hok
  exact⟨its,r,⟨_,n,e,rfl,rfl,rfl⟩,z⟩
 ·refine⟨its.toList,r,⟨o,n,I.kIn a o hk,hc,hd,by simpa using hs⟩,?_⟩
  have e:=r.length
  simp only [Array.length_toList]at e
  omega
theorem Inv.tuple (I:Inv X pins σ H s) (h:SqT X.K H a xs):∃its:List Value,aR xs its/\IsTup s.heap a its.toArray/\xs.length<=sizeLine:=by
 rcases h with h | ⟨o,its,n,hk,hc,hs,hz,r⟩
 ·obtain⟨z,its,r,p⟩:=h.ok I.hok
  exact⟨its,r,p,z⟩
 ·refine⟨its.toList,r,⟨o,I.kIn a o hk,hc,n,by simpa using hs⟩,?_⟩
  have e:=r.length
  simp only [Array.length_toList]at e
  omega
theorem Inv.list_inj (I:Inv X pins σ H s) (h:SqL X.K H a xs) (h':SqL X.K H a ys):xs=ys:=by
 obtain⟨its,r,⟨o,n,e,_,_,d⟩,_⟩:=I.list h
 obtain⟨its',r',⟨o',n',e',_,_,d'⟩,_⟩:=I.list h'
 rw [e]at e';cases e'
 rw [d]at d'
 injection d' with d1 _
 have:its=its':=by simpa using congrArg Array.toList d1
 subst this
 exact r.inj r'
end
noncomputable abbrev Cx.wish (X:Cx) (E:Value->Shared->Prop):Cx:={ X with xe:=E }
noncomputable abbrev Cx.nox (X:Cx):Cx:=X.wish λ_ _=>False
theorem Cx.Ok.wish {X:Cx} (ok:X.Ok) (E:Value->Shared->Prop):(X.wish E).Ok:=
 ⟨ok.mod,ok.kind,ok.glob,ok.blt,ok.above,ok.inj,ok.has,ok.cab,ok.hd,ok.frames,ok.stk,ok.exf,ok.bs,ok.bsz,ok.noex,ok.exfs,ok.funs,ok.frf⟩
theorem Cx.Ok.unwish {X:Cx}{E:Value->Shared->Prop} (ok:(X.wish E).Ok):X.Ok:=
 ⟨ok.mod,ok.kind,ok.glob,ok.blt,ok.above,ok.inj,ok.has,ok.cab,ok.hd,ok.frames,ok.stk,ok.exf,ok.bs,ok.bsz,ok.noex,ok.exfs,ok.funs,ok.frf⟩
section
variable {X:Cx}{pins:List (Addr × Obj)}{σ:St}{H:Hp}{s:Shared}{E:Value->Shared->Prop}
theorem Inv.wish (I:Inv X pins σ H s) (E:Value->Shared->Prop):Inv (X.wish E) pins σ H s:=⟨I.ok.wish E,I.os,I.bare,I.base,I.loc,I.cell,I.free,I.freeC,I.pin,I.hok,I.len⟩
theorem Inv.unwish (I:Inv (X.wish E) pins σ H s):Inv X pins σ H s:=⟨I.ok.unwish,I.os,I.bare,I.base,I.loc,I.cell,I.free,I.freeC,I.pin,I.hok,I.len⟩
theorem SP.unwish {D:Ends}{f:Flow}{s':Shared} (h:SP (X.wish E) pins D f s'):SP X pins D f s':=by
 cases f with
 | next=>obtain⟨σ',H',I,q⟩:=h;exact⟨σ',H',I.unwish,q⟩
 | brk=>obtain⟨σ',H',I,q⟩:=h;exact⟨σ',H',I.unwish,q⟩
 | cont=>obtain⟨σ',H',I,q⟩:=h;exact⟨σ',H',I.unwish,q⟩
 | ret u=>obtain⟨v,σ',H',I,r,q⟩:=h;exact⟨v,σ',H',I.unwish,r,q⟩
theorem PSs.nox {st:List Stmt}{t:TS} (h:PSs X.nox st t):PSs X st t:=λpins s σ H D I hw=>
 wpAny_mono (h pins s σ H D (I.wish _) hw) (λ_ _ q=>q.unwish) λ_ _ z=>False.elim z
end
section
variable {X:Cx}{st:Stmt}{rest:List Stmt}{t u:TS}{e:Expr}{te:TE}{pos:Pos}
noncomputable def tz:TS:=λD σ H=>D.nx σ H
noncomputable def xh (t u:TS):TS:=λD σ H=>t { D with nx:=u D } σ H
theorem aG:PSs X [] tz:=λ_ _ σ H _ I h=>wpAny_execs_nil ⟨σ,H,I,h⟩
theorem aj (h1:PS X st t) (h2:PSs X rest u):PSs X (st::rest) (xh t u):=by
 intro pins s σ H D I h
 refine wpAny_execs_cons (thn (h1 pins s σ H { D with nx:=u D } I h) λf s1 q=>?_)
 cases f with
 | next=>
  obtain⟨σ',H',I',q⟩:=q
  exact h2 pins s1 σ' H' D I' q
 | ret v=>exact q
 | brk=>exact q
 | cont=>exact q
theorem al (h1:PS X st t):PSs X [st] t:=by
 intro pins s σ H D I h
 refine wpAny_execs_cons (thn (h1 pins s σ H D I h) λf s1 q=>?_)
 cases f with
 | next=>exact wpAny_execs_nil q
 | ret v=>exact q
 | brk=>exact q
 | cont=>exact q
theorem Inv.quiet {pins:List (Addr × Obj)}{σ:St}{H:Hp}{s:Shared} (I:Inv X pins σ H s):interactive X.env=false:=by simp [interactive,I.ok.kind]
noncomputable def wU (te:TE):TS:=λD σ H=>te σ H λ_ H1=>D.nx σ H1
theorem aX (he:PE X e te) (hs:swapsWith e none pos.line X.env=pure false:=by rfl):PS X (.Expr e pos) (wU te):=by
 intro pins s σ H D I h
 exact wpAny_Expr_any (thn (he pins s σ H _ I h) λv s1 ⟨x,H1,I1,r1,q1⟩=>⟨σ,H1,I1,q1⟩) I.quiet hs
noncomputable def yo (te:TE):TS:=λD σ H=>te σ H D.rt
theorem aB (he:PE X e te):PS X (.Return (some e) pos) (yo te):=by
 intro pins s σ H D I h
 exact wpAny_Return_some (thn (he pins s σ H _ I h) λv s1 ⟨x,H1,I1,r1,q1⟩=>⟨x,σ,H1,I1,r1,q1⟩)
noncomputable def xl (c:TT) (t u:TS):TS:=λD σ H=>c σ H λb H1=>if b=true then t D σ H1 else u D σ H1
theorem bp {c:Expr}{a b:List Stmt}{tc:TT} (hc:PT X c tc) (ha:PSs X a t) (hb:PSs X b u):PS X (.If c a b pos) (xl tc t u):=by
 intro pins s σ H D I h
 refine wpAny_If (thn (hc pins s σ H _ I h) λd s1 ⟨H1,I1,q1⟩=>?_)
 cases d with
 | true=>exact ha pins s1 σ H1 D I1 q1
 | false=>exact hb pins s1 σ H1 D I1 q1
noncomputable def xi:TS:=λ_ _ _=>False
theorem cE:PS X st xi:=λ_ _ _ _ _ _ h=>h.elim
end
noncomputable abbrev TG:=V->St->Hp->(St->Hp->Prop)->Prop
noncomputable abbrev TGs:=List V->St->Hp->(St->Hp->Prop)->Prop
noncomputable def PG (X:Cx) (target:Expr) (t:TG):Prop:=
 ∀(pins:List (Addr × Obj)) (s:Shared) (σ:St) (H:Hp) (v:V) (u:Value) (Q:St->Hp->Prop),Inv X pins σ H s->aU v u->t v σ H Q->
  wpAny (model X.prog X.w) X.A (assign target X.env u) (λ_ s'=>∃σ' H',Inv X pins σ' H' s'/\Q σ' H') X.xe s
noncomputable def PGs (X:Cx) (ts:List Expr) (t:TGs):Prop:=
 ∀(pins:List (Addr × Obj)) (s:Shared) (σ:St) (H:Hp) (vs:List V) (us:List Value) (Q:St->Hp->Prop),Inv X pins σ H s->aR vs us->t vs σ H Q->
  wpAny (model X.prog X.w) X.A (assignInOrder ((assignEach ts X.env).map (·.2)) us) (λ_ s'=>∃σ' H',Inv X pins σ' H' s'/\Q σ' H') X.xe s
noncomputable abbrev ye:=V->V->V->Hp->(Hp->Prop)->Prop
noncomputable def yU (X:Cx) (t:ye):Prop:=
 ∀(pins:List (Addr × Obj)) (s:Shared) (σ:St) (H:Hp) (o i v:V) (ov iv u:Value) (Q:Hp->Prop),Inv X pins σ H s->aU o ov->aU i iv->aU v u->t o i v H Q->
  wpAny (model X.prog X.w) X.A (setItem ov iv u) (λ_ s'=>∃H',Inv X pins σ H' s'/\Q H') X.xe s
section
variable {X:Cx}{pos:Pos}
noncomputable def aO (i:Nat):TG:=λv σ H Q=>Q (σ.set i (some v)) H
theorem ay {i:Nat}{x:Str} (hN:X.N.Nodup) (hi:X.N[i]?=some x) (hx:Loc X.env.scope x) (hf:X.fn x=true\/X.env.scope.names.lookup x=some .local:=by first | exact .inl rfl | exact .inr rfl | assumption):PG X (.Name x pos) (aO i):=by
 intro pins s σ H v u Q I r h
 exact wpAny_assign_Name (oh I hN hi hx r (λs' I'=>⟨_,H,I',h⟩) hf)
noncomputable def wF:TGs:=λvs σ H Q=>vs=[]/\Q σ H
noncomputable def ff (t:TG) (u:TGs):TGs:=λvs σ H Q=>∃v r,vs=v::r/\t v σ H λσ' H'=>u r σ' H' Q
theorem bS:PGs X [] wF:=by
 intro pins s σ H vs us Q I r h
 obtain⟨e,h⟩:=h
 subst e
 cases r
 exact assignInOrder_nil ⟨σ,H,I,h⟩
theorem aq {e:Expr}{es:List Expr}{t:TG}{u:TGs} (h1:PG X e t) (h2:PGs X es u)
  (hs:(assignEach (e::es) X.env).map (·.2)=assign e X.env::(assignEach es X.env).map (·.2):=by rfl):PGs X (e::es) (ff t u):=by
 intro pins s σ H vs us Q I r h
 obtain⟨v,vr,e1,h⟩:=h
 subst e1
 cases r with
 | cons r rr=>
  rw [hs]
  refine assignInOrder_cons (thn (h1 pins s σ H _ _ _ I r h) λ_ s1 ⟨σ1,H1,I1,q1⟩=>?_)
  exact h2 pins s1 σ1 H1 _ _ Q I1 rr q1
noncomputable def wE (K:PySem.W.Frag) (n:Nat) (t:TGs):TG:=λv σ H Q=>∃a xs,v=.ref a/\SqT K H a xs/\xs.length=n/\t xs σ H Q
theorem cD {es:List Expr}{k:Nat}{t:TGs}{n:Nat} (hc:X.calm=true) (h:PGs X es t)
  (hn:(assignEach es X.env).length=n:=by rfl) (hst:(assignEach es X.env).findIdx? (·.1)=none:=by rfl):PG X (.Tuple es k pos) (wE X.K n t):=by
 intro pins s σ H v u Q I r hw
 obtain⟨a,xs,e1,hq,hl,hw⟩:=hw
 subst e1
 cases r
 obtain⟨its,rv,ht,hz⟩:=I.tuple hq
 refine assign_Tuple_tuple (I.ok.hd hc) ht (by simp [hn,<- hl,rv.length]) hst λh' hx=>?_
 have I1:Inv X pins σ H { s with heap:=h' }:=I.kept (t':=s.toks) λb o e=>hx b o (Nat.ne_of_lt (Heap.lt_size e)) e
 exact h pins _ σ H xs _ Q I1 (by simpa using rv) hw
noncomputable def zr (to ti:TE) (t:ye):TG:=λv σ H Q=>to σ H λo H1=>ti σ H1 λi H2=>t o i v H2 λH3=>Q σ H3
theorem ua {o i:Expr}{to ti:TE}{t:ye} (ho:PE X o to) (hi:PE X i ti) (hs:yU X t)
  (ha:∀v,assign (.Subscript o i pos) X.env v=(do
   let ov <- holding [v] (eval o X.env)
   let iv <- holding [v,ov] (eval i X.env)
   standAt pos
   holding [v,ov,iv] (setItem ov iv v)
   release [v,ov,iv] []):=by intro _;rfl):PG X (.Subscript o i pos) (zr to ti t):=by
 intro pins s σ H v u Q I r h
 rw [ha]
 refine wpAny_bind (wpAny_holding (thn (ho pins s σ H _ I h) λov s1 ⟨x,H1,I1,r1,q1⟩=>?_))
 refine wpAny_bind (wpAny_holding (thn (hi pins s1 σ H1 _ I1 q1) λiv s2 ⟨y,H2,I2,r2,q2⟩=>?_))
 refine wpAny_bind (wpAny_standAt (wpAny_bind (wpAny_holding (thn (hs pins s2 σ H2 x y v ov iv u _ I2 r1 r2 r q2) λ_ s3 ⟨H3,I3,q3⟩=>?_))))
 exact wpAny_release ⟨σ,H3,I3,q3⟩
noncomputable def tH (te:TE) (g:TG):TS:=λD σ H=>te σ H λx H1=>g x σ H1 D.nx
theorem pE {tg e:Expr}{te:TE}{g:TG} (he:PE X e te) (hg:PG X tg g) (hs:swapsWithSole [tg] e pos.line X.env=pure false:=by rfl) (hw:swappedStores [tg] e X.env=pure none:=by rfl)
  (h1:(assignEach [tg] X.env).map (·.2)=[assign tg X.env]:=by rfl):PS X (.Assign [tg] e pos) (tH te g):=by
 intro pins s σ H D I h
 refine wpAny_Assign_stores (thn (he pins s σ H _ I h) λv s1 ⟨x,H1,I1,r1,q1⟩=>?_) hs hw
 rw [h1]
 exact thn (hg pins s1 σ H1 x v _ I1 r1 q1) λ_ s2 q=>q
theorem aI {i:Nat}{x:Str}{e:Expr}{te:TE}{pos':Pos} (hN:X.N.Nodup) (hi:X.N[i]?=some x) (hx:Loc X.env.scope x) (he:PE X e te) (hs:swapsWith e (some (.Name x pos')) pos.line X.env=pure false:=by rfl) (hf:X.fn x=true\/X.env.scope.names.lookup x=some .local:=by first | exact .inl rfl | exact .inr rfl | assumption) :
  PS X (.Assign [.Name x pos'] e pos) (tH te (aO i)):=by
 intro pins s σ H D I h
 refine wpAny_Assign_Name (thn (he pins s σ H _ I h) λv s1 ⟨y,H1,I1,r1,q1⟩=>?_) hs
 exact oh I1 hN hi hx r1 (λs2 I2=>⟨_,H1,I2,q1⟩) hf
end
section
variable {X:Cx}{pos:Pos}
end
structure It where
 go:Nat->Hp->Prop
 yld:Nat->Hp->V->Hp->Prop
 stop:Nat->Hp->Prop
noncomputable def gy (X:Cx) (pins:List (Addr × Obj)) (H:Hp) (b:Addr):Prop:=
 H b=none/\b≠X.env.locals/\b∉X.fs/\(b∈X.ex\/X.s₀.heap.objs.size<=b)/\(∀x c,X.env.cells.lookup x=some c->c≠b)/\∀p∈X.pn++pins,p.1≠b
theorem Inv.fpOk {X:Cx}{pins:List (Addr × Obj)}{σ:St}{H H':Hp}{s:Shared}{b:Addr} (I:Inv X pins σ H s) (hb:s.heap.objs.size<=b) (hn:H' b=none):gy X pins H' b:=by
 refine⟨hn,Nat.ne_of_gt (Nat.lt_of_lt_of_le I.lt hb),I.nofs hb,.inr (Nat.le_trans I.sz hb),λx c e z=>?_,λp hp z=>?_⟩
 ·obtain⟨v,q⟩:=I.cell x c e
  exact absurd (Nat.lt_of_lt_of_le q.lt (by rw [z];exact hb)) (Nat.lt_irrefl _)
 ·exact absurd (Nat.lt_of_lt_of_le (Heap.lt_size (I.pin p hp).1) (by rw [z];exact hb)) (Nat.lt_irrefl _)
structure Turn (P:Program) (w:World) (K:PySem.W.Frag) (tg:Expr) (J:It) (fp:List Addr) (it:Addr) (tn:Nat->Heap->Prop):Prop where
 mem:it∈fp
 obj:∀i h,tn i h->∀b∈fp,∃o,h.get? b=some o/\∀v,o.data≠.cell v
 keep:∀i h h',tn i h->(∀b∈fp,∀o,h.get? b=some o->h'.get? b=some o)->tn i h'
 item:∀(X:Cx),X.prog=P->X.w=w->X.K=K->X.calm=true->∀(i:Nat) (pins:List (Addr × Obj)) (s:Shared) (σ:St) (H:Hp) (E:Value->Shared->Prop),Inv X pins σ H s->(∀b∈fp,gy X pins H b)->tn i s.heap->J.go i H->
  wpAny (model P w) X.A (pyNext (.ref it)) (λr s1=>∃u,r=some u/\
   wpAny (model P w) X.A (letOwnedTupleGo tg (.ref it) u) (λ_ s2=>∃x H',Inv X pins σ H' s2/\aU x u/\J.yld i H x H'/\tn (i+1) s2.heap/\∀b∈fp,H' b=none) E s1) E s
 done:∀(X:Cx),X.prog=P->X.w=w->X.K=K->X.calm=true->∀(i:Nat) (pins:List (Addr × Obj)) (s:Shared) (σ:St) (H:Hp) (E:Value->Shared->Prop),Inv X pins σ H s->(∀b∈fp,gy X pins H b)->tn i s.heap->J.stop i H->
  wpAny (model P w) X.A (pyNext (.ref it)) (λr s1=>r=none/\Inv X pins σ H s1) E s
 self:∀(A:Around) (i:Nat) (s:Shared) (Q:Value->Shared->Prop) (E:Value->Shared->Prop),tn i s.heap->Q (.ref it) s->wpAny (model P w) A (pyIter (.ref it)) Q E s
noncomputable abbrev TI:=St->Hp->(It->Hp->Prop)->Prop
noncomputable def PIE (X:Cx) (pins:List (Addr × Obj)) (σ:St) (tg:Expr) (R:It->Hp->Prop) (itv:Value) (s2:Shared):Prop:=
 ∃(it:Addr) (fp:List Addr) (tn:Nat->Heap->Prop) (J:It) (H':Hp),itv=.ref it/\Inv X pins σ H' s2/\Turn X.prog X.w X.K tg J fp it tn/\tn 0 s2.heap/\(∀b∈fp,gy X pins H' b)/\R J H'
noncomputable def PI (X:Cx) (tg iter:Expr) (wi:TI):Prop:=
 ∀(pins:List (Addr × Obj)) (s:Shared) (σ:St) (H:Hp) (R:It->Hp->Prop),Inv X pins σ H s->wi σ H R->
  wpAny (model X.prog X.w) X.A (eval iter X.env) (λv s1=>wpAny (model X.prog X.w) X.A (pyIter v) (PIE X pins σ tg R) X.xe s1) X.xe s
theorem qK {M : Model} {A : Around} {E : Value → Shared → Prop} {s : Shared} {tg : Expr} {it : Addr} {u : Value} {o : Obj} {n : String} {vs : Array Value} {Q : Unit → Shared → Prop} (ho : s.heap.get? it = some o) (hc : o.cls = .type n) (hd : o.data = .fields vs)
    (hn : ["enumerate", "zip", "dict_itemiterator", "dict_reverseitemiterator", "odict_iterator", "itertools.zip_longest", "itertools.pairwise"].contains n = false) (hQ : Q () s) : wpAny M A (letOwnedTupleGo tg (.ref it) u) Q E s := by
  unfold letOwnedTupleGo
  cases tg <;> first
    | exact wpAny_pure hQ
    | (cases u <;> first
        | exact wpAny_pure hQ
        | (refine wpAny_bind (wpAny_load ho ?_)
           rw [hc, hd]
           show wpAny M A (if (["enumerate", "zip", "dict_itemiterator", "dict_reverseitemiterator", "odict_iterator", "itertools.zip_longest", "itertools.pairwise"].contains n && vs[0]? == some (rawInt _)) = true then _ else _) Q E s
           rw [if_neg (by intro h; rw [hn, Bool.false_and] at h; cases h)]
           exact wpAny_pure hQ))
noncomputable def Itl (K:PySem.W.Frag) (a:Addr):It:=
 ⟨λi H=>∃xs x,SqL K H a xs/\xs[i]?=some x,λi H x H'=>H'=H/\∀xs,SqL K H a xs->xs[i]?=some x,λi H=>∃xs,SqL K H a xs/\xs.length<=i⟩
noncomputable def Itr (lo:Int) (n:Nat):It:=⟨λi _=>i < n,λi H x H'=>H'=H/\x=.int (lo+i),λi _=>n<=i⟩
theorem qZ {P:Program}{w:World}{K:PySem.W.Frag}{tg:Expr} (a it:Addr):Turn P w K tg (Itl K a) [it] it (λi h=>h.IsListIter it a i) where
 mem:=by simp
 obj:=λi h st b hb=>by
  have e:b=it:=by simpa using hb
  subst e
  obtain⟨o,e,c,d⟩:=st
  exact⟨o,e,λv z=>by rw [d]at z;cases z⟩
 keep:=λi h h' st k=>st.at λo e=>k it (by simp) o e
 item:=by
  intro X hP hw hK hc i pins s σ H E I hf st hg
  subst hP hw hK
  obtain⟨xs,x,hq,hx⟩:=hg
  obtain⟨its,rv,p,hz⟩:=I.list hq
  obtain⟨u,hu,ru⟩:=rv.get hx
  obtain⟨f0,f1,f2,f3,f4,f5⟩:=hf it (by simp)
  refine wpAny_pyNext_list_item st p.isList (x:=u) (by simpa using hu) λh' st' sb=>?_
  have I1:Inv X pins σ H { s with heap:=h' }:=I.turned (t':=s.toks) (λb o hb e=>(sb.2 b hb).trans e) f0 f1 f3 f4 f5
  obtain⟨o,e,c,d⟩:=id st'
  exact⟨u,rfl,qK (s:={ s with heap:=h' }) e c d (by decide) ⟨x,H,I1,ru,⟨rfl,λys hy=>by rw [I.list_inj hy hq];exact hx⟩,st',λb hb=>(hf b hb).1⟩⟩
 done:=by
  intro X hP hw hK hc i pins s σ H E I hf st hg
  subst hP hw hK
  obtain⟨xs,hq,hx⟩:=hg
  obtain⟨its,rv,p,hz⟩:=I.list hq
  obtain⟨f0,f1,f2,f3,f4,f5⟩:=hf it (by simp)
  have hl:=rv.length
  exact wpAny_pyNext_list_end (I.ok.hd hc) st p.isList (by simp;omega) λh' eb=>⟨rfl,I.turned (t':=s.toks) (λb o hb e=>eb b o hb e) f0 f1 f3 f4 f5⟩
 self:=λ_ _ _ _ _ st h=>wpAny_pyIter_listiter st h
theorem oY {P:Program}{w:World}{K:PySem.W.Frag}{tg:Expr} (it:Addr) (lo:Int) (n:Nat):Turn P w K tg (Itr lo n) [it] it (λi h=>IsRangeIter h it (lo+(i:Nat) * 1) ((n:Int) - (i:Nat)) 1) where
 mem:=by simp
 obj:=λi h st b hb=>by
  have e:b=it:=by simpa using hb
  subst e
  exact⟨_,st,λv z=>by
   have z':Data.fields _=Data.cell v:=z
   cases z'⟩
 keep:=λi h h' st k=>k it (by simp) _ st
 item:=by
  intro X hP hw hK hc i pins s σ H E I hf st hg
  subst hP hw hK
  obtain⟨f0,f1,f2,f3,f4,f5⟩:=hf it (by simp)
  have W:=Walks.range (prog:=X.prog) (w:=X.w) (I.ok.hd hc) it lo 1 n
  refine W.item i s _ _ hg st λv h' tk hv st' kk=>?_
  obtain⟨t,rfl⟩:=hv
  have I1:Inv X pins σ H { s with heap:=h',toks:=tk }:=I.turned (λb o hb e=>kk b o (by simpa using hb) e) f0 f1 f3 f4 f5
  refine⟨_,rfl,qK (s:={ s with heap:=h',toks:=tk }) (n:="range_iterator") st' rfl rfl (by decide) ⟨.int (lo+i),H,I1,⟨t,?_⟩,⟨rfl,rfl⟩,st',λb hb=>(hf b hb).1⟩⟩
  rw [Int.mul_one]
 done:=by
  intro X hP hw hK hc i pins s σ H E I hf st hg
  subst hP hw hK
  obtain⟨f0,f1,f2,f3,f4,f5⟩:=hf it (by simp)
  exact wpAny_pyNext_range_end (I.ok.hd hc) st (by have:n<=i:=hg;omega) λh' eb=>⟨rfl,I.turned (t':=s.toks) (λb o hb e=>eb b o hb e) f0 f1 f3 f4 f5⟩
 self:=λ_ _ _ _ _ st h=>wpAny_pyIter_rangeiter st h
end L2
namespace L2
open PySem PySem.Spec PyProof.Rows
section
variable {X:Cx}{tg:Expr}
noncomputable def uL (K:PySem.W.Frag) (tl:TE):TI:=λσ H R=>tl σ H λx H1=>∃a,x=.ref a/\(∃xs,SqL K H1 a xs)/\R (Itl K a) H1
theorem bD {l:Expr}{tl:TE} (hl:PE X l tl):PI X tg l (uL X.K tl):=by
 intro pins s σ H R I h
 refine thn (hl pins s σ H _ I h) λv s1 ⟨x,H1,I1,r1,q1⟩=>?_
 obtain⟨a,e,⟨xs,hq⟩,q⟩:=q1
 subst e
 cases r1
 obtain⟨its,rv,p,hz⟩:=I1.list hq
 refine wpAny_pyIter_list p.isList ?_
 refine⟨s1.heap.objs.size,[s1.heap.objs.size],_,_,H1,rfl,I1.kept (t':=s1.toks) λb o e=>Heap.get?_push_of_some _ e,qZ a _,⟨_,Heap.get?_push_size _ rfl,rfl,rfl⟩,λb hb=>?_,q⟩
 have e:b=s1.heap.objs.size:=by simpa using hb
 subst e
 exact I1.fpOk (Nat.le_refl _) (I1.hok.fresh (Nat.le_refl _))
theorem u5 {pins:List (Addr × Obj)}{σ:St}{H:Hp}{s:Shared}{R:It->Hp->Prop}{E:Value->Shared->Prop}{lo hi:Int}{t u v:Tok}{tk:Nat} (I:Inv X pins σ H s) (h1 : -(2 ^ 62)<=lo) (h2:lo < 2 ^ 62) (h3 : -(2 ^ 62)<=hi) (h4:hi < 2 ^ 62)
  (q:R (Itr lo (hi - lo).toNat) H):wpAny (model X.prog X.w) X.A (pyIter (.ref s.heap.objs.size)) (PIE X pins σ tg R) E { s with heap:=s.heap.push { cls:=.type "range", data:=.fields #[.int lo t,.int hi u,.int 1 v] },toks:=tk }:=by
 refine wpAny_pyIter_range (IsRange.new ..) (small_one h1 h2 h3 h4) ?_
 have I1:Inv X pins σ H { s with heap:=s.heap.push { cls:=.type "range", data:=.fields #[.int lo t,.int hi u,.int 1 v] },toks:=tk }:=I.kept λb o e=>Heap.get?_push_of_some _ e
 refine⟨(s.heap.push { cls:=.type "range", data:=.fields #[.int lo t,.int hi u,.int 1 v] }).objs.size,[(s.heap.push { cls:=.type "range", data:=.fields #[.int lo t,.int hi u,.int 1 v] }).objs.size],_,_,H,rfl,
  I1.kept (t':=tk) λb o e=>Heap.get?_push_of_some _ e,oY _ lo (hi - lo).toNat,?_,λb hb=>?_,q⟩
 ·have e1:lo+((0:Nat):Int) * 1=lo:=by simp
  have e2:(((hi - lo).toNat:Nat):Int) - ((0:Nat):Int)=Builtin.Range.rangeSize lo hi 1:=by rw [rangeSize_one];split <;> omega
  show IsRangeIter _ _ (lo+((0:Nat):Int) * 1) ((((hi - lo).toNat:Nat):Int) - ((0:Nat):Int)) 1
  rw [e1,e2]
  exact Heap.get?_push_size _ rfl
 ·have e:b=(s.heap.push { cls:=.type "range", data:=.fields #[.int lo t,.int hi u,.int 1 v] }).objs.size:=by simpa using hb
  subst e
  exact I1.fpOk (Nat.le_refl _) (I1.hok.fresh (Nat.le_refl _))
noncomputable def yN (ta:TA):TI:=λσ H R=>ta σ H λvs H1=>∃j:Int,vs=[.int j]/\-(2 ^ 62)<=j/\j < 2 ^ 62/\R (Itr 0 j.toNat) H1
theorem fb {a:Expr}{ta:TA}{p pos:Pos} (hg:Gl X "range") (hm:X.mg "range" = none) (ha:PA X [a] ta) (hs:starEach [a] X.env=[(false,eval a X.env)]:=by rfl):PI X tg (.Call (.Name "range" p) [a] [] pos) (yN ta):=by
 intro pins s σ H R I h
 refine Call_ (im I hg hm boot_range (PyProof.Rows.callWith_type1 (thn (ha pos pins s σ H _ I h) λus s1 ⟨vs,H1,I1,r1,q1⟩=>?_) hs rfl))
 obtain⟨j,e,q1,q2,q⟩:=q1
 subst e
 cases r1 with
 | cons r rr=>
  cases rr
  obtain⟨t,rfl⟩:=r
  exact call_range_1 (u5 I1 (by omega) (by omega) q1 q2 (by simpa using q))
noncomputable def yZ (wi:TI) (g:TG) (tb:TS):TS:=λD σ H=>wi σ H λJ H1=>∃W:Nat->Nat->St->Hp->Prop,(∃m,W 0 m σ H1)/\∀i m σ H,W i m σ H->
 (J.stop i H/\D.nx σ H)\/(J.go i H/\∃N:St->Hp->Prop,(∀σ' H',N σ' H'->∃m',m' < m/\W (i+1) m' σ' H')/\∀x H',J.yld i H x H'->g x σ H' λσ2 H2=>tb { D with nx:=N,ct:=N,bk:=D.nx } σ2 H2)
noncomputable def kP (fp:List Addr) (h:Heap):List (Addr × Obj):=fp.filterMap λb=>(h.get? b).map λo=>(b,o)
theorem fz {fp:List Addr}{h:Heap}{b:Addr}{o:Obj} (hb:b∈fp) (e:h.get? b=some o):(b,o)∈kP fp h:=List.mem_filterMap.mpr ⟨b,hb,by rw [e];rfl⟩
theorem se {fp:List Addr}{h:Heap}{p:Addr × Obj} (hp:p∈kP fp h):p.1∈fp/\h.get? p.1=some p.2:=by
 obtain⟨b,hb,e⟩:=List.mem_filterMap.mp hp
 cases q:h.get? b with
 | none=>rw [q]at e;cases e
 | some o=>
  rw [q]at e
  have e':(b,o)=p:=Option.some.inj e
  subst e'
  exact⟨hb,q⟩
theorem Inv.pinned {pins:List (Addr × Obj)}{σ:St}{H:Hp}{s:Shared}{fp:List Addr} (I:Inv X pins σ H s) (hf:∀b∈fp,gy X pins H b) (ho:∀b∈fp,∃o,s.heap.get? b=some o/\∀v,o.data≠.cell v):Inv X (pins++kP fp s.heap) σ H s:=
 I.pins_of λp hp=>(List.mem_append.mp hp).elim (λz=>I.pin p (List.mem_append_right _ z)) λz=>by
  obtain⟨hb,e⟩:=se z
  obtain⟨f0,f1,f2,_⟩:=hf p.1 hb
  obtain⟨o,e',d⟩:=ho p.1 hb
  rw [e]at e';cases e'
  exact⟨e,f0,f1,f2,d⟩
theorem Inv.unpinned {pins pl:List (Addr × Obj)}{σ:St}{H:Hp}{s:Shared} (I:Inv X (pins++pl) σ H s):Inv X pins σ H s:=I.pins_of λp hp=>I.pin p (List.mem_append_right _ (List.mem_append_left _ hp))
theorem bU {iter:Expr}{body:List Stmt}{wi:TI}{g:TG}{tb:TS}{pos:Pos} (hp:PassesOwn (model X.prog X.w) X.A X.env X.xe) (hc:X.calm=true) (hi:PI X tg iter wi) (hg:PG X tg g) (hb:PSs X body tb)
  (hs:∀x,foldedSetIterable iter X.env x=pure x:=by intro _;rfl):PS X (.For tg iter body [] pos) (yZ wi g tb):=by
 intro pins s σ H D I h
 refine wpAny_For (thn (hi pins s σ H _ I h) λv s1 h1=>thn h1 λitv s2 h2=>?_) hs
 obtain⟨it,fp,tn,J,H2,e,I2,T,st2,f2,W,⟨m0,w0⟩,turn⟩:=h2
 subst e
 have stat:∀{H':Hp},(∀b∈fp,H' b=none)->∀b∈fp,gy X pins H' b:=λhn b hb=>⟨hn b hb,(f2 b hb).2⟩
 refine codeAny_forLoop_any (λn s'=>∃i σ' H',Inv X pins σ' H' s'/\tn i s'.heap/\(∀b∈fp,H' b=none)/\W i n σ' H') ?_ m0 ⟨0,σ,H2,I2,st2,λb hb=>(f2 b hb).1,w0⟩
 rintro n s3 ⟨i,σ3,H3,I3,st3,fr3,w3⟩
 rcases turn i n σ3 H3 w3 with⟨stop,qn⟩ | ⟨go,N,hN,step⟩
 ·refine wpAny_passesOwn hp (thn (T.done X rfl rfl rfl hc i pins s3 σ3 H3 X.xe I3 (stat fr3) st3 stop) λr s4 ⟨hr,I4⟩=>?_)
  subst hr
  exact wpAny_execs_nil ⟨σ3,H3,I4,qn⟩
 ·refine wpAny_passesOwn hp (thn (T.item X rfl rfl rfl hc i pins s3 σ3 H3 X.xe I3 (stat fr3) st3 go) λr s4 ⟨u,hr,h4⟩=>?_)
  subst hr
  refine wpAny_passesOwn hp (thn h4 λ_ s5 ⟨x,H5,I5,r5,y5,st5,fr5⟩=>?_)
  have I5':=I5.pinned (stat fr5) (T.obj _ _ st5)
  refine wpAny_passesOwn hp (thn (hg _ s5 σ3 H5 x u _ I5' r5 (step x H5 y5)) λ_ s6 ⟨σ6,H6,I6,q6⟩=>?_)
  refine wpAny_passesOwn hp (thn (hb _ s6 σ6 H6 _ I6 q6) λf s7 q7=>?_)
  have again:∀{σ7:St}{H7:Hp},Inv X (pins++kP fp s5.heap) σ7 H7 s7->N σ7 H7->∃m,m < n/\∃i σ' H',Inv X pins σ' H' s7/\tn i s7.heap/\(∀b∈fp,H' b=none)/\W i m σ' H':=λ{σ7 H7} I7 n7=>by
   obtain⟨m',hm,w7⟩:=hN σ7 H7 n7
   refine⟨m',hm,i+1,σ7,H7,I7.unpinned,T.keep _ _ _ st5 λb hb o e=>(I7.pin (b,o) (List.mem_append_right _ (List.mem_append_right _ (fz hb e)))).1,λb hb=>?_,w7⟩
   obtain⟨o,e,d⟩:=T.obj _ _ st5 b hb
   exact(I7.pin (b,o) (List.mem_append_right _ (List.mem_append_right _ (fz hb e)))).2.1
  cases f with
  | next=>obtain⟨σ7,H7,I7,n7⟩:=q7;exact again I7 n7
  | cont=>obtain⟨σ7,H7,I7,n7⟩:=q7;exact again I7 n7
  | brk=>obtain⟨σ7,H7,I7,q7⟩:=q7;exact⟨σ7,H7,I7.unpinned,q7⟩
  | ret v=>obtain⟨x7,σ7,H7,I7,r7,q7⟩:=q7;exact⟨x7,σ7,H7,I7.unpinned,r7,q7⟩
end
theorem bF {K:PySem.W.Frag}{a:Addr}{xs:List V}{g:TG}{tb:TS}{D:Ends}{σ:St}{H:Hp} (Pv:Nat->St->Hp->Prop) (h0:Pv 0 σ H) (hl:∀i σ H,i<=xs.length->Pv i σ H->SqL K H a xs)
  (hs:∀i x σ H,xs[i]?=some x->Pv i σ H->g x σ H λσ2 H2=>tb { D with nx:=Pv (i+1),ct:=Pv (i+1),bk:=D.nx } σ2 H2) (hd:∀σ H,Pv xs.length σ H->D.nx σ H) :
  ∃W:Nat->Nat->St->Hp->Prop,(∃m,W 0 m σ H)/\∀i m σ H,W i m σ H->
   ((Itl K a).stop i H/\D.nx σ H)\/((Itl K a).go i H/\∃N:St->Hp->Prop,(∀σ' H',N σ' H'->∃m',m' < m/\W (i+1) m' σ' H')/\∀x H',(Itl K a).yld i H x H'->g x σ H' λσ2 H2=>tb { D with nx:=N,ct:=N,bk:=D.nx } σ2 H2):=by
 refine⟨λi m σ H=>m=xs.length - i/\i<=xs.length/\Pv i σ H,⟨xs.length,by simp,Nat.zero_le _,h0⟩,?_⟩
 rintro i m σ H ⟨rfl,hi,p⟩
 have q:=hl i σ H hi p
 by_cases hlt:i < xs.length
 ·refine .inr ⟨⟨xs,xs[i],q,by simp [hlt]⟩,Pv (i+1),λσ' H' p'=>⟨xs.length - (i+1),by omega,rfl,hlt,p'⟩,λx H' y=>?_⟩
  obtain⟨e,y⟩:=y
  subst e
  exact hs i x σ _ (y xs q) p
 ·have e:i=xs.length:=by omega
  subst e
  exact .inl ⟨⟨xs,q,Nat.le_refl _⟩,hd σ H p⟩
theorem sF {lo:Int}{n:Nat}{g:TG}{tb:TS}{D:Ends}{σ:St}{H:Hp} (Pv:Nat->St->Hp->Prop) (h0:Pv 0 σ H)
  (hs:∀i σ H,i < n->Pv i σ H->g (.int (lo+i)) σ H λσ2 H2=>tb { D with nx:=Pv (i+1),ct:=Pv (i+1),bk:=D.nx } σ2 H2) (hd:∀σ H,Pv n σ H->D.nx σ H) :
  ∃W:Nat->Nat->St->Hp->Prop,(∃m,W 0 m σ H)/\∀i m σ H,W i m σ H->
   ((Itr lo n).stop i H/\D.nx σ H)\/((Itr lo n).go i H/\∃N:St->Hp->Prop,(∀σ' H',N σ' H'->∃m',m' < m/\W (i+1) m' σ' H')/\∀x H',(Itr lo n).yld i H x H'->g x σ H' λσ2 H2=>tb { D with nx:=N,ct:=N,bk:=D.nx } σ2 H2):=by
 refine⟨λi m σ H=>m=n - i/\i<=n/\Pv i σ H,⟨n,by simp,Nat.zero_le _,h0⟩,?_⟩
 rintro i m σ H ⟨rfl,hi,p⟩
 by_cases hlt:i < n
 ·refine .inr ⟨hlt,Pv (i+1),λσ' H' p'=>⟨n - (i+1),by omega,rfl,hlt,p'⟩,λx H' y=>?_⟩
  obtain⟨e,y⟩:=y
  subst e y
  exact hs i σ _ hlt p
 ·have e:i=n:=by omega
  subst e
  exact .inl ⟨Nat.le_refl _,hd σ H p⟩
end L2
namespace L2
open PySem PySem.Spec PyProof.Rows
noncomputable abbrev R2:=V->V->Hp->VK->Prop
noncomputable def OpR (X:Cx) (f:Value->Value->Sem Value) (r:R2):Prop:=
 ∀(pins:List (Addr × Obj)) (s:Shared) (σ:St) (H:Hp) (x y:V) (v u:Value) (Q:VK),Inv X pins σ H s->aU x v->aU y u->r x y H Q->
  wpAny (model X.prog X.w) X.A (f v u) (EP X pins σ Q) X.xe s
noncomputable def UnR (X:Cx) (f:Value->Sem Value) (r:V->Hp->VK->Prop):Prop:=
 ∀(pins:List (Addr × Obj)) (s:Shared) (σ:St) (H:Hp) (x:V) (v:Value) (Q:VK),Inv X pins σ H s->aU x v->r x H Q->
  wpAny (model X.prog X.w) X.A (f v) (EP X pins σ Q) X.xe s
noncomputable def eM (X:Cx) (f:Value) (r:List V->Hp->VK->Prop):Prop:=
 ∀(pins:List (Addr × Obj)) (s:Shared) (σ:St) (H:Hp) (xs:List V) (us:List Value) (Q:VK),Inv X pins σ H s->aR xs us->r xs H Q->
  wpAny (model X.prog X.w) X.A (call f us) (EP X pins σ Q) X.xe s
noncomputable def zA (X:Cx) (r:V->Hp->(Bool->Hp->Prop)->Prop):Prop:=
 ∀(pins:List (Addr × Obj)) (s:Shared) (σ:St) (H:Hp) (x:V) (v:Value) (Q:Bool->Hp->Prop),Inv X pins σ H s->aU x v->r x H Q->
  wpAny (model X.prog X.w) X.A (truthy v) (TP X pins σ Q) X.xe s
noncomputable def tOp (r:R2) (ta tb:TE):TE:=λσ H Q=>ta σ H λx H1=>tb σ H1 λy H2=>r x y H2 Q
noncomputable def tUn (r:V->Hp->VK->Prop) (ta:TE):TE:=λσ H Q=>ta σ H λx H1=>r x H1 Q
noncomputable def rI (C:Int->Int->Prop) (g:Int->Int->V):R2:=λx y H Q=>∃i j,x=.int i/\y=.int j/\C i j/\Q (g i j) H
noncomputable def rI0 (g:Int->Int->V):R2:=λx y H Q=>∃i j,x=.int i/\y=.int j/\Q (g i j) H
noncomputable def rU (g:Int->V):V->Hp->VK->Prop:=λx H Q=>∃i,x=.int i/\Q (g i) H
section
variable {X:Cx}{a b c:Expr}{ta tb tc:TE}{pos:Pos}
theorem ya (ha:PE X a ta) (hb:PE X b tb){pins:List (Addr × Obj)}{s:Shared}{σ:St}{H:Hp}{R:V->V->Hp->Prop} (I:Inv X pins σ H s)
  (h:ta σ H λx H1=>tb σ H1 λy H2=>R x y H2){Q:Value->Shared->Prop}{f:Value->Value->Sem Value}
  (hf:∀v u s2 x y H2,Inv X pins σ H2 s2->aU x v->aU y u->R x y H2->wpAny (model X.prog X.w) X.A (f v u) Q X.xe s2) :
  wpAny (model X.prog X.w) X.A (eval a X.env) (λv s₁=>wpAny (model X.prog X.w) X.A (eval b X.env) (λu s₂=>wpAny (model X.prog X.w) X.A (f v u) Q X.xe s₂) X.xe s₁) X.xe s:=by
 refine thn (ha pins s σ H _ I h) λv s1 ⟨x,H1,I1,r1,q1⟩=>?_
 refine thn (hb pins s1 σ H1 _ I1 q1) λu s2 ⟨y,H2,I2,r2,q2⟩=>?_
 exact hf v u s2 x y H2 I2 r1 r2 q2
theorem aF {op:Operator}{r:R2} (ho:OpR X (binaryOp op) r) (ha:PE X a ta) (hb:PE X b tb):PE X (.BinOp a op b pos) (tOp r ta tb):=by
 intro pins s σ H Q I h
 exact wpAny_BinOp (ya ha hb I h λv u s2 x y H2 I2 rx ry q=>ho pins s2 σ H2 x y v u Q I2 rx ry q)
theorem jw {op:UnaryOp}{r:V->Hp->VK->Prop} (ho:UnR X (unaryOp op) r) (ha:PE X a ta):PE X (.UnaryOp op a pos) (tUn r ta):=by
 intro pins s σ H Q I h
 exact UnaryOp_ (thn (ha pins s σ H _ I h) λv s1 ⟨x,H1,I1,r1,q1⟩=>ho pins s1 σ H1 x v Q I1 r1 q1)
theorem opI {f:Value->Value->Sem Value}{C:Int->Int->Prop}{g:Int->Int->Int}
  (rule:∀(i j:Int) (t u:Tok) (s:Shared) (Q:Value->Shared->Prop) (E:Value->Shared->Prop),C i j->Q (.int (g i j) s.toks) { s with toks:=s.toks+1 }->wpAny (model X.prog X.w) X.A (f (.int i t) (.int j u)) Q E s) :
  OpR X f (rI C λi j=>.int (g i j)):=by
 intro pins s σ H x y v u Q I rx ry h
 obtain⟨i,j,rfl,rfl,hc,q⟩:=h
 obtain⟨t,rfl⟩:=rx
 obtain⟨t',rfl⟩:=ry
 exact rule i j t t' s _ _ hc ⟨.int (g i j),H,I.tok _,⟨_,rfl⟩,q⟩
theorem yJ {f:Value->Value->Sem Value}{g:Int->Int->Int}
  (rule:∀(i j:Int) (t u:Tok) (s:Shared) (Q:Value->Shared->Prop) (E:Value->Shared->Prop),Q (.int (g i j) s.toks) { s with toks:=s.toks+1 }->wpAny (model X.prog X.w) X.A (f (.int i t) (.int j u)) Q E s) :
  OpR X f (rI0 λi j=>.int (g i j)):=by
 intro pins s σ H x y v u Q I rx ry h
 obtain⟨i,j,rfl,rfl,q⟩:=h
 obtain⟨t,rfl⟩:=rx
 obtain⟨t',rfl⟩:=ry
 exact rule i j t t' s _ _ ⟨.int (g i j),H,I.tok _,⟨_,rfl⟩,q⟩
theorem vY {f:Value->Value->Sem Value}{g:Int->Int->Bool}
  (rule:∀(i j:Int) (t u:Tok) (s:Shared) (Q:Value->Shared->Prop) (E:Value->Shared->Prop),Q (.bool (g i j)) s->wpAny (model X.prog X.w) X.A (f (.int i t) (.int j u)) Q E s) :
  OpR X f (rI0 λi j=>.bl (g i j)):=by
 intro pins s σ H x y v u Q I rx ry h
 obtain⟨i,j,rfl,rfl,q⟩:=h
 obtain⟨t,rfl⟩:=rx
 obtain⟨t',rfl⟩:=ry
 exact rule i j t t' s _ _ ⟨.bl (g i j),H,I,rfl,q⟩
noncomputable def zC (i j:Int):Prop:=0 < j/\j < 1073741824
noncomputable def vj (i j:Int):Prop:=0<=j/\j<=1000000/\i.natAbs < 2 ^ 64
noncomputable def yf (i j:Int):Prop:=(-(2 ^ 64) < i/\i < 2 ^ 64)\/(-(2 ^ 64) < j/\j < 2 ^ 64)
theorem yf.ok {i j:Int} (h:yf i j):IntMulOk i j:=by
 rcases h with⟨h1,h2⟩ | ⟨h1,h2⟩
 ·exact .of_left (intBits_le_64 h1 h2)
 ·exact .of_right (intBits_le_64 h1 h2)
theorem oX (k:Nat):(0:Int)<=2 ^ k:=by
 rw [two_pow_cast]
 exact Int.natCast_nonneg _
theorem bJ:OpR X (binaryOp .Add) (rI0 λi j=>.int (i+j)):=yJ λ_ _ _ _ _ _ _ q=>add_int q
theorem jk:OpR X (binaryOp .Sub) (rI0 λi j=>.int (i - j)):=yJ λ_ _ _ _ _ _ _ q=>sub_int q
theorem eQ:OpR X (binaryOp .Mult) (rI yf λi j=>.int (i * j)):=opI λ_ _ _ _ _ _ _ hc q=>mul_int q hc.ok
theorem vX:OpR X (binaryOp .FloorDiv) (rI zC λi j=>.int (i / j)):=opI λi j _ _ _ _ _ hc q=>by
 have h1:(0:Int) < j:=hc.1
 have h2:j < 1073741824:=hc.2
 exact floordiv_int (by omega) (by rw [Int.fdiv_eq_ediv_of_nonneg i (by omega)];exact q) (.inl (PyProof.noPylong_small (by omega)))
theorem dC:OpR X (binaryOp .Mod) (rI (λ_ j=>0 < j) λi j=>.int (i % j)):=opI λi j _ _ _ _ _ hc q=>by
 have h1:(0:Int) < j:=hc
 exact mod_int' (by omega) (by rw [Int.fmod_eq_emod_of_nonneg i (by omega)];exact q)
theorem jl:OpR X (binaryOp .Pow) (rI vj λi j=>.int (i ^ j.toNat)):=opI λ_ _ _ _ _ _ _ hc q=>pow_int_small hc.1 hc.2.1 hc.2.2 q
theorem uf:OpR X (binaryOp .RShift) (rI (λ_ j=>0<=j) λi j=>.int (i / 2 ^ j.toNat)):=opI λi j _ _ _ _ _ hc q=>
 rshift_int hc (by rw [Int.fdiv_eq_ediv_of_nonneg i (oX _)];exact q)
theorem unI {f:Value->Sem Value}{g:Int->Int}
  (rule:∀(i:Int) (t:Tok) (s:Shared) (Q:Value->Shared->Prop) (E:Value->Shared->Prop),Q (.int (g i) s.toks) { s with toks:=s.toks+1 }->wpAny (model X.prog X.w) X.A (f (.int i t)) Q E s) :
  UnR X f (rU λi=>.int (g i)):=by
 intro pins s σ H x v Q I rx h
 obtain⟨i,rfl,q⟩:=h
 obtain⟨t,rfl⟩:=rx
 exact rule i t s _ _ ⟨.int (g i),H,I.tok _,⟨_,rfl⟩,q⟩
theorem fN:UnR X (unaryOp .USub) (rU λi=>.int (-i)):=unI λ_ _ _ _ _ q=>neg_int q
end
noncomputable def xq:V->V->Bool
 | .non,.non=>true | .non,.int _=>true | .int _,.non=>true | .non,.bl _=>true | .bl _,.non=>true | .non,.str _=>true | .str _,.non=>true
 | .int _,.int _=>true | .bl _,.bl _=>true | .str _,.str _=>true | .byt _,.byt _=>true
 | .int _,.str _=>true | .str _,.int _=>true | .bl _,.str _=>true | .str _,.bl _=>true
 | _,_=>false
noncomputable def rEq:R2:=λx y H Q=>xq x y=true/\Q (.bl (decide (x=y))) H
noncomputable def rNe:R2:=λx y H Q=>xq x y=true/\Q (.bl (!decide (x=y))) H
theorem qP {i j:Int}:decide (V.int i=V.int j)=(i == j):=by
 rw [Bool.eq_iff_iff]
 simp
theorem uV {i j:Bool}:decide (V.bl i=V.bl j)=(i == j):=by
 rw [Bool.eq_iff_iff]
 simp
theorem qO {i j:Str}:decide (V.str i=V.str j)=(i == j):=by
 rw [Bool.eq_iff_iff]
 simp
theorem qQ {i j:Array UInt8}:decide (V.byt i=V.byt j)=(i.toList == j.toList):=by
 rw [Bool.eq_iff_iff]
 cases i
 cases j
 simp
section
variable {X:Cx}{a b c:Expr}{ta tb tc:TE}{pos:Pos}
theorem bj {pins:List (Addr × Obj)}{σ:St}{H:Hp}{s:Shared}{Q:VK}{k k':Bool} (I:Inv X pins σ H s) (q:Q (.bl k) H) (e:k=k'):EP X pins σ Q (.bool k') s:=by
 subst e
 exact⟨.bl k,H,I,rfl,q⟩
theorem dF:OpR X (compareOp .Eq) rEq:=by
 intro pins s σ H x y v u Q I rx ry h
 obtain⟨hs,q⟩:=h
 cases x with
 | non=>
  cases rx
  cases y with
  | non=>cases ry;exact PySem.EqNone.eq_none_none (bj I q (by simp))
  | bl j=>cases ry;exact PySem.EqNone.eq_none_bool (bj I q (by simp))
  | int j=>obtain⟨t',rfl⟩:=ry;exact PySem.EqNone.eq_none_int (bj I q (by simp))
  | str j=>obtain⟨t',rfl⟩:=ry;exact PySem.EqNone.eq_none_str (bj I q (by simp))
  | _=>exact absurd (show false=true from hs) Bool.false_ne_true
 | bl i=>
  cases rx
  cases y with
  | non=>cases ry;exact PySem.EqNone.eq_bool_none (bj I q (by simp))
  | bl j=>cases ry;exact eq_bool (bj I q uV)
  | str j=>obtain⟨t',rfl⟩:=ry;exact PySem.EqMixed.eq_bool_str (bj I q (by simp))
  | _=>exact absurd (show false=true from hs) Bool.false_ne_true
 | int i=>
  obtain⟨t,rfl⟩:=rx
  cases y with
  | non=>cases ry;exact PySem.EqNone.eq_int_none (bj I q (by simp))
  | int j=>obtain⟨t',rfl⟩:=ry;exact eq_int (bj I q qP)
  | str j=>obtain⟨t',rfl⟩:=ry;exact PySem.EqMixed.eq_int_str (bj I q (by simp))
  | _=>exact absurd (show false=true from hs) Bool.false_ne_true
 | str i=>
  obtain⟨t,rfl⟩:=rx
  cases y with
  | non=>cases ry;exact PySem.EqNone.eq_str_none (bj I q (by simp))
  | bl j=>cases ry;exact PySem.EqMixed.eq_str_bool (bj I q (by simp))
  | int j=>obtain⟨t',rfl⟩:=ry;exact PySem.EqMixed.eq_str_int (bj I q (by simp))
  | str j=>obtain⟨t',rfl⟩:=ry;exact eq_str (bj I q qO)
  | _=>exact absurd (show false=true from hs) Bool.false_ne_true
 | byt i=>
  obtain⟨t,rfl⟩:=rx
  cases y with
  | byt j=>obtain⟨t',rfl⟩:=ry;exact PySem.W.eq_bytes (bj I q qQ)
  | _=>exact absurd (show false=true from hs) Bool.false_ne_true
 | _=>cases y <;> exact absurd (show false=true from hs) Bool.false_ne_true
theorem wZ:OpR X (compareOp .NotEq) rNe:=by
 intro pins s σ H x y v u Q I rx ry h
 obtain⟨hs,q⟩:=h
 cases x with
 | non=>
  cases rx
  cases y with
  | non=>cases ry;exact PySem.EqNone.ne_none_none (bj I q (by simp))
  | bl j=>cases ry;exact PySem.EqNone.ne_none_bool (bj I q (by simp))
  | int j=>obtain⟨t',rfl⟩:=ry;exact PySem.EqNone.ne_none_int (bj I q (by simp))
  | str j=>obtain⟨t',rfl⟩:=ry;exact PySem.EqNone.ne_none_str (bj I q (by simp))
  | _=>exact absurd (show false=true from hs) Bool.false_ne_true
 | bl i=>
  cases rx
  cases y with
  | non=>cases ry;exact PySem.EqNone.ne_bool_none (bj I q (by simp))
  | bl j=>cases ry;exact ne_bool (bj I q (congrArg not uV))
  | str j=>obtain⟨t',rfl⟩:=ry;exact PySem.EqMixed.ne_bool_str (bj I q (by simp))
  | _=>exact absurd (show false=true from hs) Bool.false_ne_true
 | int i=>
  obtain⟨t,rfl⟩:=rx
  cases y with
  | non=>cases ry;exact PySem.EqNone.ne_int_none (bj I q (by simp))
  | int j=>obtain⟨t',rfl⟩:=ry;exact ne_int (bj I q (congrArg not qP))
  | str j=>obtain⟨t',rfl⟩:=ry;exact PySem.EqMixed.ne_int_str (bj I q (by simp))
  | _=>exact absurd (show false=true from hs) Bool.false_ne_true
 | str i=>
  obtain⟨t,rfl⟩:=rx
  cases y with
  | non=>cases ry;exact PySem.EqNone.ne_str_none (bj I q (by simp))
  | bl j=>cases ry;exact PySem.EqMixed.ne_str_bool (bj I q (by simp))
  | int j=>obtain⟨t',rfl⟩:=ry;exact PySem.EqMixed.ne_str_int (bj I q (by simp))
  | str j=>obtain⟨t',rfl⟩:=ry;exact ne_str (bj I q (congrArg not qO))
  | _=>exact absurd (show false=true from hs) Bool.false_ne_true
 | byt i=>
  obtain⟨t,rfl⟩:=rx
  cases y with
  | byt j=>obtain⟨t',rfl⟩:=ry;exact PySem.W.ne_bytes (bj I q (congrArg not qQ))
  | _=>exact absurd (show false=true from hs) Bool.false_ne_true
 | _=>cases y <;> exact absurd (show false=true from hs) Bool.false_ne_true
theorem qF:OpR X (compareOp .Lt) (rI0 λi j=>.bl (decide (i < j))):=vY λ_ _ _ _ _ _ _ q=>lt_int q
theorem eK:OpR X (compareOp .LtE) (rI0 λi j=>.bl (decide (i<=j))):=vY λ_ _ _ _ _ _ _ q=>le_int q
theorem x8:OpR X (compareOp .Gt) (rI0 λi j=>.bl (decide (j < i))):=vY λ_ _ _ _ _ _ _ q=>gt_int q
theorem x9:OpR X (compareOp .GtE) (rI0 λi j=>.bl (decide (j<=i))):=vY λ_ _ _ _ _ _ _ q=>ge_int q
theorem rP:OpR X (compareOp .In) (λx y H Q=>∃i j,x=.str i/\y=.str j/\Q (.bl (!(Builtin.Str.occurrences j i 0 j.length 1).isEmpty)) H):=by
 intro pins s σ H x y v u Q I rx ry h
 obtain⟨i,j,rfl,rfl,q⟩:=h
 obtain⟨t,rfl⟩:=rx
 obtain⟨t',rfl⟩:=ry
 exact in_str (bj I q rfl)
theorem aN (b:Expr){op:CmpOp} (h:op≠.In:=by decide) (h2:op≠.NotIn:=by decide):behindInMarks op b=false:=by
 have e1:(op == CmpOp.In)=false:=by cases op <;> first | rfl | exact absurd rfl h
 have e2:(op == CmpOp.NotIn)=false:=by cases op <;> first | rfl | exact absurd rfl h2
 cases b <;> simp [behindInMarks,e1,e2]
theorem cu {op:CmpOp}{r:R2} (ho:OpR X (compareOp op) r) (ha:PE X a ta) (hb:PE X b tb) (hm:behindInMarks op b=false):PE X (.Compare a [op] [b] pos) (tOp r ta tb):=by
 intro pins s σ H Q I h
 exact wpAny_Compare1 (ya ha hb I h λv u s2 x y H2 I2 rx ry q=>ho pins s2 σ H2 x y v u Q I2 rx ry q) hm
noncomputable def og (t:TE):TT:=λσ H Q=>t σ H λx H'=>∃k,x=.bl k/\Q k H'
theorem aQ {op:CmpOp}{r:R2} (ho:OpR X (compareOp op) r) (ha:PE X a ta) (hb:PE X b tb) (hm:behindInMarks op b=false):PT X (.Compare a [op] [b] pos) (og (tOp r ta tb)):=by
 intro pins s σ H Q I h
 refine wpAny_isTrue_Compare1 (thn (ha pins s σ H _ I h) λv s1 ⟨x,H1,I1,r1,q1⟩=>thn (hb pins s1 σ H1 _ I1 q1) λu s2 ⟨y,H2,I2,r2,q2⟩=>
  thn (ho pins s2 σ H2 x y v u _ I2 r1 r2 q2) λc s3 ⟨z,H3,I3,r3,k,e,q3⟩=>?_) hm
 subst e
 cases r3
 exact wpAny_truthy_bool ⟨H3,I3,q3⟩
noncomputable def tG (r r':R2) (ta tb tc:TE):TE:=λσ H Q=>ta σ H λx H1=>tb σ H1 λy H2=>r x y H2 λz H3=>∃k,z=.bl k/\
 (if k=true then tc σ H3 λw' H4=>r' y w' H4 Q else Q (.bl false) H3)
theorem oE {op op':CmpOp}{r r':R2} (ho:OpR X (compareOp op) r) (ho':OpR X (compareOp op') r') (ha:PE X a ta) (hb:PE X b tb) (hc:PE X c tc)
  (hm:lastMarks [op,op'] [b,c]=false:=by with_unfolding_all rfl):PE X (.Compare a [op,op'] [b,c] pos) (tG r r' ta tb tc):=by
 intro pins s σ H Q I h
 refine Compare_chain (thn (ha pins s σ H _ I h) λv s1 ⟨x,H1,I1,r1,q1⟩=>chain_link (thn (hb pins s1 σ H1 _ I1 q1) λu s2 ⟨y,H2,I2,r2,q2⟩=>
  thn (ho pins s2 σ H2 x y v u _ I2 r1 r2 q2) λd s3 ⟨z,H3,I3,r3,k,e,q3⟩=>?_)) hm
 subst e
 cases r3
 refine wpAny_truthy_bool ?_
 cases k with
 | false=>exact ite_ff ⟨.bl false,H3,I3,rfl,q3⟩
 | true=>exact ite_tt (chain_last (thn (hc pins s3 σ H3 _ I3 q3) λw' s4 ⟨z',H4,I4,r4,q4⟩=>ho' pins s4 σ H4 y z' u w' Q I4 r2 r4 q4))
theorem kN {op op':CmpOp}{r r':R2} (ho:OpR X (compareOp op) r) (ho':OpR X (compareOp op') r') (ha:PE X a ta) (hb:PE X b tb) (hc:PE X c tc)
  (hm:lastMarks [op,op'] [b,c]=false:=by with_unfolding_all rfl):PT X (.Compare a [op,op'] [b,c] pos) (og (tG r r' ta tb tc)):=by
 intro pins s σ H Q I h
 refine isTrue_chain (thn (ha pins s σ H _ I h) λv s1 ⟨x,H1,I1,r1,q1⟩=>test_link (thn (hb pins s1 σ H1 _ I1 q1) λu s2 ⟨y,H2,I2,r2,q2⟩=>
  thn (ho pins s2 σ H2 x y v u _ I2 r1 r2 q2) λd s3 ⟨z,H3,I3,r3,k,e,q3⟩=>?_)) hm
 subst e
 cases r3
 refine wpAny_truthy_bool ?_
 cases k with
 | false=>
  obtain⟨k',e',q'⟩:=q3
  cases e'
  exact ite_ff ⟨H3,I3,q'⟩
 | true=>
  refine ite_tt (test_last (thn (hc pins s3 σ H3 _ I3 q3) λw' s4 ⟨z',H4,I4,r4,q4⟩=>thn (ho' pins s4 σ H4 y z' u w' _ I4 r2 r4 q4) λd' s5 ⟨z2,H5,I5,r5,k2,e2,q5⟩=>?_))
  subst e2
  cases r5
  exact wpAny_truthy_bool ⟨H5,I5,q5⟩
noncomputable def yT (K:PySem.W.Frag) (x:V) (H:Hp) (k:Bool):Prop:=
 match x with
 | .non=>k=false
 | .bl b=>k=b
 | .int i=>k=(i != 0)
 | .str y=>y.length<=sizeLine/\k=((y.length:Int) != 0)
 | .byt y=>y.size<=sizeLine/\k=((y.size:Int) != 0)
 | .ref p=>(∃xs,SqL K H p xs/\k = !xs.isEmpty)\/(∃xs,SqT K H p xs/\k = !xs.isEmpty)\/∃kvs,H p=some (.dK kvs)/\k = !kvs.isEmpty
 | _=>False
theorem pV {κ:Type}{kvs:List (κ × V)}{vs:List (κ × Value)} (r:KV kvs vs):(!vs.isEmpty) = !kvs.isEmpty:=by
 cases r <;> rfl
theorem kY {xs:List V}{its:List Value} (r:aR xs its):(!its.toArray.isEmpty) = !xs.isEmpty:=by
 cases r <;> simp
theorem ig:(sizeLine:Nat) < 2 ^ 63:=by rw [sizeLine_eq];decide
theorem xg:zA X (λx H Q=>∃k,yT X.K x H k/\Q k H):=by
 intro pins s σ H x v Q I rx h
 obtain⟨k,e,q⟩:=h
 have hl:=ig
 have hs:sizeLine=16777216:=sizeLine_eq
 cases x with
 | non=>
  cases rx
  have e':k=false:=e
  subst e'
  exact truthy_none ⟨H,I,q⟩
 | bl b=>
  cases rx
  have e':k=b:=e
  subst e'
  exact wpAny_truthy_bool ⟨H,I,q⟩
 | int i=>
  obtain⟨t,rfl⟩:=rx
  have e':k=(i != 0):=e
  subst e'
  exact PySem.P.truthy_int ⟨H,I,q⟩
 | str y=>
  obtain⟨t,rfl⟩:=rx
  obtain⟨hy,e'⟩:y.length<=sizeLine/\k=((y.length:Int) != 0):=e
  subst e'
  exact PySem.P.truthy_str (by omega) ⟨H,I.tok _,q⟩
 | byt y=>
  obtain⟨t,rfl⟩:=rx
  obtain⟨hy,e'⟩:y.size<=sizeLine/\k=((y.size:Int) != 0):=e
  subst e'
  exact PySem.W.truthy_bytes (by omega) ⟨H,I.tok _,q⟩
 | ref p=>
  cases rx
  have e':(∃xs,SqL X.K H p xs/\k = !xs.isEmpty)\/(∃xs,SqT X.K H p xs/\k = !xs.isEmpty)\/∃kvs,H p=some (.dK kvs)/\k = !kvs.isEmpty:=e
  rcases e' with⟨xs,hx,e'⟩ | ⟨xs,hx,e'⟩ | ⟨kvs,hx,e'⟩
  ·subst e'
   obtain⟨its,r,pl,hz⟩:=I.list hx
   have hlen:=r.length
   exact wpAny_truthy_list pl.isList (by simp only [List.size_toArray];omega) ⟨H,I.tok _,by rw [kY r];exact q⟩
  ·subst e'
   obtain⟨its,r,pl,hz⟩:=I.tuple hx
   have hlen:=r.length
   exact truthy_tuple pl (by simp only [List.size_toArray];omega) ⟨H,I.tok _,by rw [kY r];exact q⟩
  ·subst e'
   obtain⟨hz,hS,vs,r,m⟩:kvs.length<=sizeLine/\(p == sysModules)=false/\∃vs,KV kvs vs/\s.heap.DictOf (be X.prog X.w) p vs:=I.hok p _ hx
   have hlen:kvs.length=vs.length:=Paired.length r
   exact wpAny_truthy_dict hS m (by omega) ⟨H,I.tok _,by rw [pV r];exact q⟩
 | _=>exact(show False from e).elim
theorem oz (ha:PE X a ta) (he:∀whole,isTrue a X.env whole=(do let v <- whole;standAt a.pos;holding [v] (truthy v))) :
  PT X a (λσ H Q=>ta σ H λx H'=>∃k,yT X.K x H' k/\Q k H'):=by
 intro pins s σ H Q I h
 exact isTrue_plain (thn (ha pins s σ H _ I h) λv s1 ⟨x,H1,I1,r1,q1⟩=>xg pins s1 σ H1 x v Q I1 r1 q1) (he _)
theorem i8:OpR X (binaryOp .Add) (λx y H Q=>∃i j,x=.str i/\y=.str j/\i.length+j.length<=sizeLine/\Q (.str (i++j)) H):=by
 intro pins s σ H x y v u Q I rx ry h
 obtain⟨i,j,rfl,rfl,hz,q⟩:=h
 obtain⟨t,rfl⟩:=rx
 obtain⟨t',rfl⟩:=ry
 exact add_str (λt' tk=>⟨.str (i++j),H,I.tok _,⟨_,rfl⟩,q⟩) hz
theorem fK {x:V}{us:List Value} (r:aR [x] us):∃u,us=[u]/\aU x u:=by
 cases r with
 | cons r1 r2=>cases r2;exact⟨_,rfl,r1⟩
theorem qo {x y:V}{us:List Value} (r:aR [x,y] us):∃u w',us=[u,w']/\aU x u/\aU y w':=by
 cases r with
 | cons r1 r2=>
  cases r2 with
  | cons r3 r4=>cases r4;exact⟨_,_,rfl,r1,r3⟩
theorem jr (hc:X.calm=true):eM X (.builtin "max") (λxs H Q=>∃i j,xs=[.int i,.int j]/\Q (.int (if j > i then j else i)) H):=by
 intro pins s σ H xs us Q I r h
 obtain⟨i,j,rfl,q⟩:=h
 obtain⟨u,w',rfl,⟨t,rfl⟩,⟨t',rfl⟩⟩:=qo r
 refine max_two_ints (I.ok.hd hc) λh' tk k=>⟨_,H,I.kept k,?_,q⟩
 by_cases hj:j > i
 ·rw [if_pos hj,if_pos hj];exact⟨_,rfl⟩
 ·rw [if_neg hj,if_neg hj];exact⟨_,rfl⟩
theorem gX (hc:X.calm=true):eM X (.builtin "min") (λxs H Q=>∃i j,xs=[.int i,.int j]/\Q (.int (if j < i then j else i)) H):=by
 intro pins s σ H xs us Q I r h
 obtain⟨i,j,rfl,q⟩:=h
 obtain⟨u,w',rfl,⟨t,rfl⟩,⟨t',rfl⟩⟩:=qo r
 refine min_two_ints (I.ok.hd hc) λh' tk k=>⟨_,H,I.kept k,?_,q⟩
 by_cases hj:j < i
 ·rw [if_pos hj,if_pos hj];exact⟨_,rfl⟩
 ·rw [if_neg hj,if_neg hj];exact⟨_,rfl⟩
theorem mK:eM X (.type "int") (λxs H Q=>(∃i,xs=[.int i]/\Q (.int i) H)\/∃k,xs=[.bl k]/\Q (.int (if k then 1 else 0)) H):=by
 intro pins s σ H xs us Q I r h
 rcases h with⟨i,rfl,q⟩ | ⟨k,rfl,q⟩
 ·obtain⟨u,rfl,t,rfl⟩:=fK r
  exact call_int_int ⟨.int i,H,I,⟨_,rfl⟩,q⟩
 ·obtain⟨u,rfl,r1⟩:=fK r
  cases r1
  exact call_int_bool ⟨.int (if k then 1 else 0),H,I.tok _,⟨_,rfl⟩,q⟩
end
end L2
namespace L2
open PySem PySem.Spec PyProof.Rows
structure ObjM (h:Heap) (x dx C:Addr) (mA:Str->Option Value):Prop where
 obj:h.get? x=some (PySem.W.instObj C dx)
 ns:h.Ns1 dx mA
 ne:dx≠x
theorem si {h:Heap}{dx:Addr}{mA:Str->Option Value} (n:h.Ns1 dx mA):∃od,h.get? dx=some od/\∀name,PySem.W.lookIn name od=some (mA name):=by
 obtain⟨o,es,ep,ho,hd,hk,_,hm⟩:=n
 refine⟨o,ho,λname=>?_⟩
 have e:=hm name
 unfold nsFind findBy at e
 rw [<- Array.find?_toList]at e
 unfold PySem.W.lookIn
 rw [hd]
 dsimp only
 split
 ·rename_i y q
  rw [q]at e
  exact congrArg some e
 ·rename_i q
  rw [q]at e
  have a:es.toList.any (·.refKey)=false:=by
   rw [List.any_eq_false]
   intro y hy
   obtain⟨z,t,hkey⟩:=hk y (Array.mem_toList_iff.mp hy)
   simp [DictEntry.refKey,hkey]
  have a':¬es.toList.any (·.refKey)=true:=by rw [a];exact Bool.false_ne_true
  rw [if_neg a']
  exact congrArg some e
theorem ObjM.look {h:Heap}{x dx C:Addr}{mA:Str->Option Value} (I:ObjM h x dx C mA):∃od,PySem.W.InstAt h x (PySem.W.instObj C dx) C (some od)/\∀name,PySem.W.lookIn name od=some (mA name):=
 let ⟨od,ho,hl⟩:=si I.ns
 ⟨od,⟨I.obj,rfl,rfl,ho⟩,hl⟩
section
variable {prog:Program}{w:World}{A:Around}{E:Value->Shared->Prop}{s:Shared}{K:PySem.W.Frag}{x dx C f:Addr}{mA:Str->Option Value}{name:Str}{v:Value}
theorem wD {expr:Bool}{Q:Value->Shared->Prop} (X:K.In s.heap) (I:ObjM s.heap x dx C mA) (hg:PySem.W.plainGet K C name=true) (hh:PySem.W.hasDictIn K C=true)
  (ha:PySem.W.findIn K (.ref C) name=some none) (hv:mA name=some v) (hv':PySem.W.handedIn v=true) (h:Q v { s with toks:=s.toks+1 }) :
  wpAny (model prog w) A (getAttr (.ref x) name expr) Q E s:=by
 obtain⟨od,J,hl⟩:=I.look
 exact PySem.W.get_value X J (PySem.W.plainGet_of hg).1 (PySem.W.findObj_own hh ha rfl (by rw [hl,hv])) hv' h
theorem uN {pl:Sem Bool}{Q:Value × List Value->Shared->Prop} (X:K.In s.heap) (I:ObjM s.heap x dx C mA) (hg:PySem.W.plainGet K C name=true)
  (hf:PySem.W.findIn K (.ref C) name=some (some (.ref f))) (ht:PySem.W.isFn K (.ref f)=true) (hv:mA name=none) (h:Q (.ref f,[.ref x]) s) :
  wpAny (model prog w) A (getMethod (.ref x) name pl) Q E s:=by
 obtain⟨od,J,hl⟩:=I.look
 exact PySem.W.method_fn X J (PySem.W.plainGet_of hg).1 (PySem.W.plainGet_of hg).2 hf (beq_iff_eq.mp ht) (by show (PySem.W.lookIn name od).map (·.isSome)=some false;rw [hl,hv];rfl) h
theorem vA {ns:List Str}{Q:Unit->Shared->Prop} (X:K.In s.heap) (I:ObjM s.heap x dx C mA)
  (hs:PySem.W.findIn K (.ref C) "__setattr__" = some (some (.builtin "object.__setattr__"))) (hp:PySem.W.plainOver K C=true) (ht:PySem.W.takerIn K C name=some none) (hh:PySem.W.hasDictIn K C=true)
  (hw:PySem.Within mA ns) (hsz:ns.length<=sizeLine)
  (h:∀h',ObjM h' x dx C (λy=>if y=name then some v else mA y)->Heap.SameBut dx s.heap h'->Q () { s with heap:=h',toks:=s.toks+2 }) :
  wpAny (model prog w) A (setAttr (.ref x) name v) Q E s:=by
 obtain⟨od,J,hl⟩:=I.look
 refine PySem.W.set_plain X J hs (PySem.W.osa_open (s:={ s with toks:=s.toks+1 }) (r:=none) X J hp ht λb=>?_)
 obtain⟨cd,hc,hd'⟩:=PySem.W.any_some hh
 have hx:s.heap.get? x=some ⟨.ref C,some dx,.plain,#[]⟩:=I.obj
 refine wpAny_bind (wpAny_pure (wpAny_bind (wpAny_bind (wpAny_loadPart hx (wpAny_bind (PySem.W.Looks.here (s:={ s with toks:=s.toks+1 }) (PySem.W.looks_clsIn X hc) ?_))))))
 rw [hd']
 refine wpAny_pure (a:=some dx) (wpAny_bind (wpAny_pure (wpAny_bind ?_)))
 refine wpAny_nsSet1 (s:={ s with toks:=s.toks+1 }) I.ns λh' hn2 hs2=>?_
 obtain⟨oD,esD,epD,hoD,hdD,hcD⟩:=hn2.count (PySem.Within.cons name v hw)
 refine wpAny_bind (wpAny_lookBehind hoD (by rw [hdD];exact pastItsLine_dict (Nat.le_trans hcD (by rw [List.length_cons];omega))) ?_)
 exact wpAny_pure (h _ ⟨(hs2.2 _ (Ne.symm I.ne)).trans I.obj,hn2,I.ne⟩ hs2)
theorem uz {R:Result->Shared->Prop}{vs:List Value}{kw:List (Str × Value)} (X:K.In s.heap) (hm:PySem.W.makesIn K C=true)
  (hi:PySem.W.findIn K (.ref C) "__init__" = some (some (.ref f))) (hf:PySem.W.typeIn K (.ref f)=some (.type "function"))
  (h:codeAny (model prog w) (A.under (.builtin "type.__call__" ⟨.ref C::vs,kw⟩)) (.call (.ref f) ⟨.ref (s.heap.objs.size+1)::vs,kw⟩) (PySem.W.InitBack (s.heap.objs.size+1) R)
   { s with heap:=(s.heap.push PySem.W.emptyDict).push (PySem.W.instObj C s.heap.objs.size) }) :
  codeAny (model prog w) A (.call (.ref C) ⟨vs,kw⟩) R s:=by
 obtain⟨hh,g,d,t,os⟩:=s
 exact PySem.W.make_core (PySem.W.makes_of X hm) (PySem.W.looks_findIn X hi) (λself=>PySem.W.bind_fn X self hf) (.inl rfl) h
end
noncomputable def aW (f:Str) (v:V):List (Str × V)->List (Str × V)
 | []=>[(f,v)]
 | (g,x)::r=>if g=f then (g,v)::r else (g,x)::aW f v r
theorem jy (f g:Str) (v:V):∀fs:List (Str × V),(aW f v fs).lookup g=if g=f then some v else fs.lookup g
 | []=>by
  show List.lookup g [(f,v)]=_
  by_cases h:g=f
  ·have hb:(g == f)=true:=beq_iff_eq.mpr h
   simp only [List.lookup,hb,if_pos h]
  ·have hb:(g == f)=false:=beq_eq_false_iff_ne.mpr h
   simp only [List.lookup,hb,if_neg h]
 | (k,x)::r=>by
  have ih:=jy f g v r
  rw [show aW f v ((k,x)::r)=(if k=f then (k,v)::r else (k,x)::aW f v r) from rfl]
  by_cases hk:k=f
  ·rw [if_pos hk]
   by_cases h:g=k
   ·have hb:(g == k)=true:=beq_iff_eq.mpr h
    simp only [List.lookup,hb,if_pos (h.trans hk)]
   ·have hb:(g == k)=false:=beq_eq_false_iff_ne.mpr h
    simp only [List.lookup,hb,if_neg (λe:g=f=>h (e.trans hk.symm))]
  ·rw [if_neg hk]
   by_cases h:g=k
   ·have hb:(g == k)=true:=beq_iff_eq.mpr h
    simp only [List.lookup,hb,if_neg (λe:g=f=>hk (h.symm.trans e))]
   ·have hb:(g == k)=false:=beq_eq_false_iff_ne.mpr h
    simp only [List.lookup,hb]
    exact ih
theorem jo (f:Str) (v:V):∀fs:List (Str × V),f∈(aW f v fs).map (·.1)/\∀g,g∈fs.map (·.1)->g∈(aW f v fs).map (·.1)
 | []=>⟨by simp [aW],λg h=>by simp at h⟩
 | (k,x)::r=>by
  obtain⟨i1,i2⟩:=jo f v r
  rw [show aW f v ((k,x)::r)=(if k=f then (k,v)::r else (k,x)::aW f v r) from rfl]
  by_cases hk:k=f
  ·rw [if_pos hk]
   subst hk
   exact⟨by simp,λg h=>by simpa using h⟩
  ·rw [if_neg hk]
   refine⟨?_,λg h=>?_⟩
   ·rw [List.map_cons]
    exact List.mem_cons_of_mem _ i1
   ·rw [List.map_cons]at h ⊢
    rcases List.mem_cons.mp h with e | e
    ·exact List.mem_cons.mpr (.inl e)
    ·exact List.mem_cons_of_mem _ (i2 g e)
theorem bE (f:Str) (v:V):∀fs:List (Str × V),(aW f v fs).length<=fs.length+1
 | []=>by simp [aW]
 | (k,x)::r=>by
  have ih:=bE f v r
  rw [show aW f v ((k,x)::r)=(if k=f then (k,v)::r else (k,x)::aW f v r) from rfl]
  by_cases hk:k=f
  ·rw [if_pos hk,List.length_cons,List.length_cons];omega
  ·rw [if_neg hk,List.length_cons,List.length_cons];omega
theorem fJ.some_of {v:V}{o:Option Value} (r:fJ (some v) o):∃u,o=some u/\aU v u:=by
 cases o with
 | none=>exact(show False from r).elim
 | some u=>exact⟨u,rfl,r⟩
theorem fJ.none_of {o:Option Value} (r:fJ none o):o=none:=by
 cases o with
 | none=>rfl
 | some u=>exact(show False from r).elim
theorem sx {v:V}{u:Value} (r:aU v u):PySem.W.handedIn u=true:=by
 cases v with
 | non=>cases (show u=Value.none from r);rfl
 | bl b=>cases (show u=Value.bool b from r);rfl
 | int i=>obtain⟨t,e⟩:=(show ∃t,u=Value.int i t from r);cases e;rfl
 | str x=>obtain⟨t,e⟩:=(show ∃t,u=Value.str x t from r);cases e;rfl
 | byt b=>obtain⟨t,e⟩:=(show ∃t,u=Value.bytes b t from r);cases e;rfl
 | flt b=>obtain⟨t,e⟩:=(show ∃t,u=Value.float b t from r);cases e;rfl
 | ref a=>cases (show u=Value.ref a from r);rfl
 | ty n=>cases (show u=Value.type n from r);rfl
section
variable {P:Program}{w:World}{H H':Hp}{h h':Heap}{a C dx:Addr}{fs fs':List (Str × V)}
theorem jX (hok:HOk P w H h) (e:H a=some (.ins C dx fs)):∃mA,ObjM h a dx C mA/\(∀f,fJ (fs.lookup f) (mA f))/\PySem.Within mA (fs.map (·.1))/\fs.length<=1000/\H dx=some (.own a):=by
 obtain⟨d,z,ne,ob,mA,n,r,q⟩:=(show bG P w H h a (.ins C dx fs) from hok a _ e)
 exact⟨mA,⟨ob,n,ne⟩,r,q,z,d⟩
end
structure Cls (K:PySem.W.Frag) (C:Addr):Prop where
 pg:PySem.W.plainGet K C Str.empty=true
 hd:PySem.W.hasDictIn K C=true
 po:PySem.W.plainOver K C=true
 sa:PySem.W.findIn K (.ref C) "__setattr__" = some (some (.builtin "object.__setattr__"))
theorem Cls.get {K:PySem.W.Frag}{C:Addr} (c:Cls K C) (f:Str):PySem.W.plainGet K C f=true:=c.pg
noncomputable def dE (K:PySem.W.Frag) (C:Addr) (f:Str):Prop:=PySem.W.findIn K (.ref C) f=some none
theorem dE.taker {K:PySem.W.Frag}{C:Addr}{f:Str} (n:dE K C f):PySem.W.takerIn K C f=some none:=by
 unfold PySem.W.takerIn
 rw [show PySem.W.findIn K (.ref C) f=some none from n]
 rfl
structure Con (K:PySem.W.Frag) (C:Addr) (f:Str) (v:V) (u:Value):Prop where
 at_:PySem.W.findIn K (.ref C) f=some (some u)
 rel:aU v u
 get:PySem.W.specialIn K u "__get__" = some none
 cp:PySem.W.copiedNames.contains f=false
structure Meth (K:PySem.W.Frag) (C:Addr) (m:Str) (f:Addr):Prop where
 at_:PySem.W.findIn K (.ref C) m=some (some (.ref f))
 fn:PySem.W.isFn K (.ref f)=true
 kp:PySem.W.keepIn K (.ref f)=true
section
variable {X:Cx}{pins:List (Addr × Obj)}{σ:St}{H:Hp}{s:Shared}{a C dx:Addr}{fs:List (Str × V)}{f:Str}{v:V}{A:Around}{E:Value->Shared->Prop}
theorem pZ {b:Bool}{Q:Value->Shared->Prop} (I:Inv X pins σ H s) (e:H a=some (.ins C dx fs)) (c:Cls X.K C) (n:dE X.K C f) (l:fs.lookup f=some v)
  (h:∀u s',Inv X pins σ H s'->aU v u->Q u s'):wpAny (model X.prog X.w) A (getAttr (.ref a) f b) Q E s:=by
 obtain⟨mA,O,r,_,_,_⟩:=jX I.hok e
 obtain⟨u,hu,ru⟩:=fJ.some_of (v:=v) (o:=mA f) (by rw [<- l];exact r f)
 exact wD I.kIn O (c.get f) c.hd n hu (sx ru) (h u _ (I.tok _) ru)
theorem lb {m:Str}{g:Addr}{pl:Sem Bool}{Q:Value × List Value->Shared->Prop} (I:Inv X pins σ H s) (e:H a=some (.ins C dx fs)) (c:Cls X.K C) (k:Meth X.K C m g) (l:fs.lookup m=none)
  (h:Q (.ref g,[.ref a]) s):wpAny (model X.prog X.w) A (getMethod (.ref a) m pl) Q E s:=by
 obtain⟨mA,O,r,_,_,_⟩:=jX I.hok e
 have hn:mA m=none:=fJ.none_of (by rw [<- l];exact r m)
 exact uN I.kIn O (c.get m) k.at_ k.fn hn h
theorem pj {y:V}{u:Value}{Q:Unit->Shared->Prop} (I:Inv X pins σ H s) (e:H a=some (.ins C dx fs)) (c:Cls X.K C) (n:dE X.K C f) (hl:fs.length < 1000) (ry:aU y u)
  (h:∀s',Inv X pins σ (upd H a (.ins C dx (aW f y fs))) s'->Q () s'):wpAny (model X.prog X.w) A (setAttr (.ref a) f u) Q E s:=by
 obtain⟨mA,O,r,wi,_,ho⟩:=jX I.hok e
 have hz:(fs.map (·.1)).length<=sizeLine:=by rw [List.length_map,sizeLine_eq];omega
 refine vA I.kIn O c.sa c.po n.taker c.hd wi hz λh' O' sb=>h _ ?_
 have hd:∃o,h'.get? dx=some o:=let ⟨o,_,_,e',_⟩:=O'.ns;⟨o,e'⟩
 refine I.write (x:=a) (e:=dx) (by rw [e];exact True.intro) (.inr ho) (λb q hb z=>(sb.2 b hb).trans z) hd ?_
 refine⟨by rw [ag O.ne];exact ho,?_,O.ne,O'.obj,_,O'.ns,λg=>?_,λg hg=>?_⟩
 ·have:=bE f y fs;omega
 ·show fJ ((aW f y fs).lookup g) (if g=f then some u else mA g)
  rw [jy]
  by_cases q:g=f
  ·rw [if_pos q,if_pos q];exact ry
  ·rw [if_neg q,if_neg q];exact r g
 ·by_cases q:g=f
  ·rw [q];exact(jo f y fs).1
  ·refine(jo f y fs).2 g (wi g λz=>hg ?_)
   show (if g=f then some u else mA g)=none
   rw [if_neg q];exact z
theorem Inv.made (I:Inv X pins σ H s):Inv X pins σ (upd (upd H s.heap.objs.size (.own (s.heap.objs.size+1))) (s.heap.objs.size+1) (.ins C s.heap.objs.size []))
  { s with heap:=(s.heap.push PySem.W.emptyDict).push (PySem.W.instObj C s.heap.objs.size) }:=by
 have e1:(s.heap.push PySem.W.emptyDict).get? s.heap.objs.size=some PySem.W.emptyDict:=Heap.get?_push_size s.heap rfl
 have e2:((s.heap.push PySem.W.emptyDict).push (PySem.W.instObj C s.heap.objs.size)).get? (s.heap.objs.size+1)=some (PySem.W.instObj C s.heap.objs.size):=by
  have:=Heap.get?_push_size (s.heap.push PySem.W.emptyDict) (o:=PySem.W.instObj C s.heap.objs.size) rfl
  rwa [Heap.size_push]at this
 have e3:(s.heap.push PySem.W.emptyDict).Ns s.heap.objs.size (λ_=>none):=⟨PySem.W.emptyDict,#[],_,e1,rfl,(λe he=>absurd he (by simp)),λ_=>rfl⟩
 have I1:=I.laid (a:=s.heap.objs.size) (o:=.own (s.heap.objs.size+1)) (h':=s.heap.push PySem.W.emptyDict) (t':=s.toks) (λb u q=>Heap.get?_push_of_some _ q) (Nat.le_refl _) ⟨_,e1⟩
 refine I1.laid (a:=s.heap.objs.size+1) (o:=.ins C s.heap.objs.size []) (t':=s.toks) (λb u q=>Heap.get?_push_of_some _ q) (Nat.le_of_eq (Heap.size_push _ _)) ?_
 have ne:s.heap.objs.size≠s.heap.objs.size+1:=Nat.ne_of_lt (Nat.lt_succ_self _)
 refine⟨by rw [ag ne,ad],Nat.zero_le _,ne,e2,λ_=>none,(Heap.Ns1.of_empty e3).at λo q=>Heap.get?_push_of_some _ q,λ_=>True.intro,λy hy=>absurd rfl hy⟩
theorem wO {prog:Program}{w:World}{env:Env}{e:Expr}{f:Str}{pos:Pos}{s:Shared}{Q:Value->Shared->Prop} (hb:attributeBase e f env (eval e env)=eval e env)
  (h:wpAny (model prog w) A (eval e env) (λo s₁=>wpAny (model prog w) A (getAttr o f true) Q E s₁) E s):wpAny (model prog w) A (eval (.Attribute e f pos) env) Q E s:=
 Attribute_any_ h (by rw [arm_eval_Attribute,hb])
end
noncomputable def z0 (K:PySem.W.Frag) (ta:TE) (f:Str):TE:=λσ H Q=>ta σ H λx H1=>∃a C dx fs v,x=.ref a/\H1 a=some (.ins C dx fs)/\Cls K C/\dE K C f/\fs.lookup f=some v/\Q v H1
noncomputable def yC (K:PySem.W.Frag) (ta tv:TE) (f:Str):TS:=λD σ H=>tv σ H λy H1=>ta σ H1 λx H2=>∃a C dx fs,x=.ref a/\H2 a=some (.ins C dx fs)/\Cls K C/\dE K C f/\fs.length < 1000/\
 D.nx σ (upd H2 a (.ins C dx (aW f y fs)))
section
variable {X:Cx}{o e value:Expr}{f:Str}{pos pos' tpos:Pos}{ta tv:TE}
theorem bW (he:PE X e ta) (hb:attributeBase e f X.env (eval e X.env)=eval e X.env):PE X (.Attribute e f pos) (z0 X.K ta f):=by
 intro pins s σ H Q I h
 refine wO hb (thn (he pins s σ H _ I h) λu s1 ⟨x,H1,I1,rx,a,C,dx,fs,v,ex,ea,c,n,l,q⟩=>?_)
 subst ex
 obtain rfl:u=Value.ref a:=rx
 exact pZ I1 ea c n l λu' s2 I2 ru=>⟨v,H1,I2,ru,q⟩
theorem kO (ha:PE X o ta) (hv:PE X value tv) (hs:swapsWith value (some (.Attribute o f pos')) pos.line X.env=pure false):PS X (.Assign [.Attribute o f pos'] value pos) (yC X.K ta tv f):=by
 intro pins s σ H D I h
 refine plainObj_wpAny_Assign_Attribute (thn (hv pins s σ H _ I h) λu s1 ⟨y,H1,I1,ry,q⟩=>thn (ha pins s1 σ H1 _ I1 q) λov s2 ⟨x,H2,I2,rx,a,C,dx,fs,ex,ea,c,n,l,q2⟩=>?_) hs
 subst ex
 obtain rfl:ov=Value.ref a:=rx
 exact pj I2 ea c n l ry λs3 I3=>⟨σ,_,I3,q2⟩
end
section
variable {X:Cx}{pins:List (Addr × Obj)}{σ:St}{H:Hp}{s:Shared}{A:Around}{E:Value->Shared->Prop}{Q:Value->Shared->Prop}{c:Value}{b:Bool}
inductive TyOf (K:PySem.W.Frag) (H:Hp):V->Value->Prop where
 | non:TyOf K H .non (.type "NoneType")
 | bl (x:Bool):TyOf K H (.bl x) (.type "bool")
 | int (i:Int):TyOf K H (.int i) (.type "int")
 | str (x:Str):TyOf K H (.str x) (.type "str")
 | flt (x:UInt64):TyOf K H (.flt x) (.type "float")
 | lst {a:Addr}{xs:List V} (e:H a=some (.lst xs)):TyOf K H (.ref a) (.type "list")
 | frz {a:Addr}{o:Obj}{xs:List V} (e:H a=some (.frz o (.lst xs))):TyOf K H (.ref a) (.type "list")
 | tup {a:Addr}{xs:List V} (e:H a=some (.tup xs)):TyOf K H (.ref a) (.type "tuple")
 | dK {a:Addr}{kvs:List (Key × V)} (e:H a=some (.dK kvs)):TyOf K H (.ref a) (.type "dict")
 | dT {a:Addr}{kvs:List (List Key × V)} (e:H a=some (.dT kvs)):TyOf K H (.ref a) (.type "dict")
 | ins {a C dx:Addr}{fs:List (Str × V)} (e:H a=some (.ins C dx fs)) (cl:Cls K C) (ha:PySem.W.findIn K (.ref C) "__class__" = some (some (.builtin "object.__class__")))
   (hn:PySem.W.specialIn K (.builtin "object.__class__") "__get__" = some (some (.builtin "getset_descriptor.__get__"))) (htk:PySem.W.takesIn K (.builtin "object.__class__")=some true)
   (hm:PySem.W.mroIn K C (.type "object")=some true):TyOf K H (.ref a) (.ref C)
theorem sr {x:V}{u t:Value} (I:Inv X pins σ H s) (rx:aU x u) (ty:TyOf X.K H x t) (e:PySem.W.kitOne X.K t c=some b) (h:∀tk,Q (.bool b) { s with toks:=tk }) :
  wpAny (model X.prog X.w) A (call (.builtin "isinstance") [u,c]) Q E s:=by
 cases ty with
 | non=>cases (show u=Value.none from rx);exact PySem.W.kia_one PySem.W.kitx_none I.kIn True.intro e (λz=>nomatch z) h
 | bl y=>cases (show u=Value.bool y from rx);exact PySem.W.kia_one PySem.W.kitx_bool I.kIn True.intro e (λz=>nomatch z) h
 | int i=>obtain⟨t,q⟩:=(show ∃t,u=Value.int i t from rx);cases q;exact PySem.W.kia_one PySem.W.kitx_int I.kIn True.intro e (λz=>nomatch z) h
 | str y=>obtain⟨t,q⟩:=(show ∃t,u=Value.str y t from rx);cases q;exact PySem.W.kia_one PySem.W.kitx_str I.kIn True.intro e (λz=>nomatch z) h
 | flt y=>obtain⟨t,q⟩:=(show ∃t,u=Value.float y t from rx);cases q;exact PySem.W.kia_one PySem.W.kitx_float I.kIn True.intro e (λz=>nomatch z) h
 | @lst a xs ea=>
  cases (show u=Value.ref a from rx)
  obtain⟨_,_,n,_,h1⟩:=(show bG X.prog X.w H s.heap a (.lst xs) from I.hok a _ ea)
  exact PySem.W.kia_one PySem.W.kitx_list I.kIn ⟨_,h1,rfl⟩ e (λz=>nomatch z) h
 | @frz a ob xs ea=>
  cases (show u=Value.ref a from rx)
  obtain⟨_,_,_,n,_,h1⟩:=(show bG X.prog X.w H s.heap a (.frz ob (.lst xs)) from I.hok a _ ea)
  exact PySem.W.kia_one PySem.W.kitx_list I.kIn ⟨_,h1,rfl⟩ e (λz=>nomatch z) h
 | @tup a xs ea=>
  cases (show u=Value.ref a from rx)
  obtain⟨_,_,_,p⟩:=(show bG X.prog X.w H s.heap a (.tup xs) from I.hok a _ ea)
  obtain⟨o,h1,h2,_⟩:=p
  exact PySem.W.kia_one PySem.W.kitx_tuple I.kIn ⟨o,h1,h2⟩ e (λz=>nomatch z) h
 | @dK a kvs ea=>
  cases (show u=Value.ref a from rx)
  obtain⟨_,_,vs,_,p⟩:=(show bG X.prog X.w H s.heap a (.dK kvs) from I.hok a _ ea)
  obtain⟨o,es,ep,h1,h2,_⟩:=p
  exact PySem.W.kia_one PySem.W.kitx_dict I.kIn ⟨o,h1,h2.1⟩ e (λz=>nomatch z) h
 | @dT a kvs ea=>
  cases (show u=Value.ref a from rx)
  obtain⟨_,_,xs,_,o,es,ep,h1,h2,_⟩:=(show bG X.prog X.w H s.heap a (.dT kvs) from I.hok a _ ea)
  exact PySem.W.kia_one PySem.W.kitx_dict I.kIn ⟨o,h1,h2.1⟩ e (λz=>nomatch z) h
 | @ins a C dx fs ea cl ha hn htk hm=>
  cases (show u=Value.ref a from rx)
  obtain⟨mA,O,_⟩:=jX I.hok ea
  obtain⟨od,J,_⟩:=O.look
  exact PySem.W.kia_one (PySem.W.kitx_own (cl.get _) cl.hd ha hn htk hm) I.kIn J e (λz=>nomatch z) h
end
end L2
namespace L2
open PySem PySem.Spec PyProof.Rows
structure Room (k:Nat) (A:Around):Prop where
 hd:A.handled=none
 dp:A.depth+3 * k+5 < recursionLimit
 un:A.units+16 * k+200 < cLine
theorem Room.mono {j k:Nat}{A:Around} (r:Room k A) (h:j<=k):Room j A:=⟨r.hd,by have:=r.dp;omega,by have:=r.un;omega⟩
theorem Room.deeper {k:Nat}{A:Around} (r:Room (k+1) A) (env:Env):Room k (A.deeper env):=
 ⟨r.hd,by have:=r.dp;show A.depth+1+3 * k+5 < _;omega,by have:=r.un;show A.units+3+16 * k+200 < _;omega⟩
theorem pR {A:Around}{C:Addr}{us:List Value}{kw:List (Str × Value)}:(A.under (.builtin "type.__call__" ⟨.ref C::us,kw⟩)).depth=A.depth+1:=by
 first | rfl | simp [Around.under,Code.weight,Code.isCreation,Code.isGuard,Code.isCaller,Code.frames,Code.isFrame,guardIds]
theorem pQ {A:Around}{C:Addr}{us:List Value}{kw:List (Str × Value)}:(A.under (.builtin "type.__call__" ⟨.ref C::us,kw⟩)).units=A.units+1:=by
 first | rfl | simp [Around.under,Code.cUnits,Code.frames,Code.isFrame]
theorem Room.make {k:Nat}{A:Around} (r:Room (k+1) A) (C:Addr) (us:List Value) (kw:List (Str × Value)):Room k (A.under (.builtin "type.__call__" ⟨.ref C::us,kw⟩)):=
 ⟨r.hd,by have:=r.dp;rw [pR];omega,by have:=r.un;rw [pQ];omega⟩
theorem Room.depth {k:Nat}{A:Around} (r:Room k A):A.depth < recursionLimit:=by have:=r.dp;omega
theorem Room.units {k:Nat}{A:Around} (r:Room k A):A.units+64 < cLine:=by have:=r.un;omega
noncomputable def cn:TA:=λ_ H Q=>Q [] H
noncomputable def cK (ta:TE) (tr:TA):TA:=λσ H Q=>ta σ H λx H1=>tr σ H1 λxs H2=>Q (x::xs) H2
section
variable {X:Cx}{e:Expr}{es:List Expr}{te:TE}{t:TA}{pos:Pos}
theorem ae:PA X [] cn:=λ_ _ _ _ H Q I h=>Calls.spliced_nil ⟨[],H,I,.nil,h⟩
theorem aa (ha:PE X e te) (hr:PA X es t) (hs:starEach (e::es) X.env=(false,eval e X.env)::starEach es X.env:=by rfl):PA X (e::es) (cK te t):=by
 intro pos pins s σ H Q I h
 rw [hs]
 show wpAny _ _ (spliced ((false,eval e X.env)::backTo pos (starEach es X.env))) _ _ s
 refine Calls.spliced_cons (thn (ha pins s σ H _ I h) λu s1 ⟨x,H1,I1,r1,q1⟩=>?_)
 exact thn (hr pos pins s1 σ H1 _ I1 q1) λus s2 ⟨xs,H2,I2,r2,q2⟩=>⟨x::xs,H2,I2,.cons r1 r2,q2⟩
noncomputable def vo (t:TA):TE:=λσ H Q=>t σ H λxs H1=>xs.length<=sizeLine/\∀p,H1 p=none->Q (.ref p) (upd H1 p (.tup xs))
noncomputable def tE (t:TA):TE:=λσ H Q=>t σ H λxs H1=>xs.length<=sizeLine/\∀p,H1 p=none->Q (.ref p) (upd H1 p (.lst xs))
theorem bC {x1} (h:PA X es t):PE X (.Tuple es x1 pos) (vo t):=by
 intro pins s σ H Q I hq
 refine wpAny_Tuple_spliced (thn (h pos pins s σ H _ I hq) λus s1 ⟨xs,H1,I1,r,z,q⟩=>⟨by rw [<- r.length];exact z,?_⟩)
 have hf:H1 s1.heap.objs.size=none:=I1.hok.fresh (Nat.le_refl _)
 refine⟨.ref s1.heap.objs.size,upd H1 s1.heap.objs.size (.tup xs),I1.laid (t':=s1.toks) (λb u e=>Heap.get?_push_of_some _ e) (Nat.le_refl _) ?_,rfl,q _ hf⟩
 exact⟨z,us,r,⟨_,Heap.get?_push_size _ rfl,rfl,_,rfl⟩⟩
theorem bx (h:PA X es t):PE X (.List es pos) (tE t):=by
 intro pins s σ H Q I hq
 refine wpAny_List_spliced (thn (h pos pins s σ H _ I hq) λus s1 ⟨xs,H1,I1,r,z,q⟩=>⟨by rw [<- r.length];exact z,?_⟩)
 have hf:H1 s1.heap.objs.size=none:=I1.hok.fresh (Nat.le_refl _)
 refine⟨.ref s1.heap.objs.size,upd H1 s1.heap.objs.size (.lst xs),I1.laid (t':=s1.toks) (λb u e=>Heap.get?_push_of_some _ e) (Nat.le_refl _) ?_,rfl,q _ hf⟩
 exact⟨z,us,0,r,Heap.get?_push_size _ rfl⟩
end
noncomputable abbrev Sp:=List V->Hp->VK->XK->Prop
noncomputable abbrev CXT:=List Env->Hp->Shared->XK->Value->Shared->Prop
structure Env0 (P:Program) (w:World) (K:PySem.W.Frag) (mg:Str->Option Value) (base:Heap) (A:Around) (outer:List Env) (s:Shared) (H:Hp):Prop where
 frames:A.frames=some outer
 mod:Mod K mg base
 bs:∀b o,base.get? b=some o->s.heap.get? b=some o/\H b=none
 bsz:base.objs.size<=s.heap.objs.size
 funs:s.heap.FunFrames base outer
 frf:∀b∈frs outer,H b=none
 hok:HOk P w H s.heap
 bare:AllBare s.gens
noncomputable def CE (outer:List Env) (P:Program) (w:World) (H:Hp) (s:Shared) (Q:VK) (u:Value) (s':Shared):Prop:=
 ∃v H',s'.os=s.os/\AllBare s'.gens/\Un (frs outer) [] H H' s.heap s'.heap/\HOk P w H' s'.heap/\aU v u/\Q v H'
noncomputable def CR (CX:CXT) (outer:List Env) (P:Program) (w:World) (H:Hp) (s:Shared) (Q:VK) (E:XK) (r:Result) (s':Shared):Prop:=
 match r with
 | .ok (.ret u)=>CE outer P w H s Q u s'
 | .ok _=>False
 | .error e=>CX outer H s E e s'
structure FnOk (P:Program) (w:World) (K:PySem.W.Frag) (mg:Str->Option Value) (base:Heap) (CX:CXT) (k:Nat) (f:Addr) (fd:FuncData) (ps:List Str) (sp:Sp):Prop where
 len:∀vs H Q E,sp vs H Q E->vs.length=ps.length
 run:∀(A:Around) (outer:List Env) (s:Shared) (H:Hp) (args:Args) (us:List Value) (vs:List V) (Q:VK) (E:XK),Room k A->Env0 P w K mg base A outer s H->BindsTo s fd args (ps.zip us)->aR vs us->sp vs H Q E->
  codeAny (model P w) A (.call (.ref f) args) (CR CX outer P w H s Q E) s
theorem Env0.make {P:Program}{w:World}{K:PySem.W.Frag}{mg:Str->Option Value}{base:Heap}{A:Around}{outer:List Env}{s:Shared}{H:Hp} (e:Env0 P w K mg base A outer s H) (C:Addr) (us:List Value) (kw:List (Str × Value)) :
  Env0 P w K mg base (A.under (.builtin "type.__call__" ⟨.ref C::us,kw⟩)) outer s H:=⟨by first | exact e.frames | (simpa [Around.under,Code.envs,Code.isFrame,pushEnvs] using e.frames),e.mod,e.bs,e.bsz,e.funs,e.frf,e.hok,e.bare⟩
section
variable {X:Cx}{pins:List (Addr × Obj)}{σ:St}{H:Hp}{s s':Shared}
theorem Inv.env0 (I:Inv X pins σ H s):Env0 X.prog X.w X.K X.mg X.base X.A X.stack s H:=
 ⟨I.ok.frames,I.ok.mod,I.bs,Nat.le_trans I.ok.bsz I.sz,I.stack,I.stkFree,I.hok,I.bare⟩
theorem Inv.after {Q:VK}{u:Value} (I:Inv X pins σ H s) (h:CE X.stack X.prog X.w H s Q u s'):EP X pins σ Q u s':=by
 obtain⟨v,H',os,bare,un,hok,r,q⟩:=h
 obtain⟨hh,g,d,t,os'⟩:=s'
 obtain rfl:os'=s.os:=os
 exact⟨v,H',I.call (h':=hh) (g':=g) (d':=d) (t':=t) (ch:=[]) un hok bare (λb z=>absurd z (by simp)),r,q⟩
end
noncomputable def qp (sp:Sp) (dvs:List V) (E:XK) (t:TA):TE:=λσ H Q=>t σ H λvs H1=>sp (vs++dvs) H1 Q E
noncomputable def wT (C:Addr) (m:Str) (sp:Sp) (dvs:List V) (E:XK) (ta:TE) (t:TA):TE:=λσ H Q=>ta σ H λx H1=>∃a dx fs,x=.ref a/\H1 a=some (.ins C dx fs)/\fs.lookup m=none/\
 t σ H1 λvs H2=>sp (x::(vs++dvs)) H2 Q E
noncomputable def yu (C:Addr) (sp:Sp) (dvs:List V) (E:XK) (t:TA):TE:=λσ H Q=>t σ H λvs H1=>∀x dx,H1 x=none->H1 dx=none->dx≠x->
 sp (.ref x::(vs++dvs)) (upd (upd H1 dx (.own x)) x (.ins C dx [])) (λv H2=>v=.non/\Q (.ref x) H2) E
noncomputable def eN (K:PySem.W.Frag) (fd:FuncData) (ps:List Str) (ds:List Value):Prop:=
 ∀(s:Shared) (us:List Value),K.In s.heap->(us++ds).length=ps.length->BindsTo s fd ⟨us,[]⟩ (ps.zip (us++ds))
theorem eN.all {K:PySem.W.Frag}{fd:FuncData}{ps:List Str} (h:∀us:List Value,us.length=ps.length->bindArgs fd ⟨us,[]⟩=pure (ps.zip us)):eN K fd ps []:=λs us _ hl=>by
 rw [List.append_nil]at hl ⊢
 exact .of_eq (h us hl)
noncomputable def ir (CX:CXT) (X:Cx) (E:XK):Prop:=∀(pins:List (Addr × Obj)) (σ:St) (H:Hp) (s:Shared) (e:Value) (s':Shared),Inv X pins σ H s->CX X.stack H s E e s'->X.xe e s'
section
variable {X:Cx}{CX:CXT}{k:Nat}{f C:Addr}{fd:FuncData}{ps:List Str}{sp:Sp}{dvs:List V}{ds:List Value}{E:XK}{x m:Str}{p pos apos:Pos}{e o:Expr}{es:List Expr}{ta:TE}{t:TA}
theorem pA {pins:List (Addr × Obj)}{σ:St}{H:Hp}{s:Shared}{Q:VK}{us:List Value}{vs:List V} (F:FnOk X.prog X.w X.K X.mg X.base CX k f fd ps sp) (hr:Room k X.A) (hb:eN X.K fd ps ds) (hd:aR dvs ds) (hx:ir CX X E)
  (I:Inv X pins σ H s) (r:aR vs us) (h:sp (vs++dvs) H Q E):wpAny (model X.prog X.w) X.A (call (.ref f) us) (EP X pins σ Q) X.xe s:=by
 have r2:aR (vs++dvs) (us++ds):=r.append hd
 have hl:(us++ds).length=ps.length:=by rw [<- r2.length];exact F.len _ _ _ _ h
 refine wpAny_call (codeAny_mono (F.run X.A X.stack s H ⟨us,[]⟩ (us++ds) (vs++dvs) Q E hr I.env0 (hb s us I.kIn hl) r2 h) λr s' hq=>?_)
 cases r with
 | error e=>exact hx pins σ H s e s' I hq
 | ok fl=>
  cases fl with
  | ret u=>exact I.after hq
  | next=>exact False.elim hq
  | brk=>exact False.elim hq
  | cont=>exact False.elim hq
theorem am (F:FnOk X.prog X.w X.K X.mg X.base CX k f fd ps sp) (hr:Room k X.A) (hg:Gl X x) (hm:X.mg x=some (.ref f)) (hk:PySem.W.keepIn X.K (.ref f)=true) (hb:eN X.K fd ps ds) (hd:aR dvs ds) (hx:ir CX X E)
  (ha:PA X (e::es) t) (hdb:(x == ("__debug__" : Str))=false:=by decide) (he:starEach (e::es) X.env=(false,eval e X.env)::starEach es X.env:=by rfl) (hpl:(backTo pos (starEach es X.env)).any (·.1)=false:=by rfl) :
  PE X (.Call (.Name x p) (e::es) [] pos) (qp sp dvs E t):=by
 intro pins s σ H Q I h
 refine wpAny_Call_Name_kw (nI I hg hm ?_ hdb)
 refine PySem.W.callWith_K (h₀:=X.base) I.ok.mod.kin hk (thn (ha pos pins s σ H _ I h) λus s1 ⟨vs,H1,I1,r,q⟩=>⟨I1.kIn,?_⟩) he hpl
 exact pA F hr hb hd hx I1 r q
theorem bi {pl:Sem Bool} (he:PE X o ta) (c:Cls X.K C) (hm:Meth X.K C m f) (F:FnOk X.prog X.w X.K X.mg X.base CX k f fd ps sp) (hr:Room k X.A) (hb:eN X.K fd ps ds) (hd:aR dvs ds) (hx:ir CX X E) (ha:PA X (e::es) t)
  (hst:starEach (e::es) X.env=(false,eval e X.env)::starEach es X.env:=by rfl) (hpl:(backTo pos (starEach es X.env)).any (·.1)=false:=by rfl)
  (ht:eval (.Call (.Attribute o m apos) (e::es) [] pos) X.env=(do
   let ov <- eval o X.env
   standAt apos.atName
   let (f,first) <- holding [ov] (getMethod ov m pl)
   callWith pos f first (backTo pos (starEach (e::es) X.env)) (backToKw pos (keywordEach [] X.env))):=by rfl) :
  PE X (.Call (.Attribute o m apos) (e::es) [] pos) (wT C m sp dvs E ta t):=by
 intro pins s σ H Q I h
 refine PySem.W.methodCall_KW (pl:=pl) (thn (he pins s σ H _ I h) λu s1 ⟨x,H1,I1,rx,a,dx,fs,ex,ea,l,q⟩=>?_) ht
 subst ex
 obtain rfl:u=Value.ref a:=rx
 refine lb I1 ea c hm l ?_
 refine PySem.W.callWith_K (first:=[.ref a]) (h₀:=X.base) I.ok.mod.kin hm.kp (thn (ha pos pins s1 σ H1 _ I1 q) λus s2 ⟨vs,H2,I2,r,q2⟩=>⟨I2.kIn,?_⟩) hst hpl
 exact pA (us:=.ref a::us) (vs:=.ref a::vs) F hr hb hd hx I2 (.cons rfl r) q2
theorem dr {pl:Sem Bool} (he:PE X o ta) (c:Cls X.K C) (hm:Meth X.K C m f) (F:FnOk X.prog X.w X.K X.mg X.base CX k f fd ps sp) (hr:Room k X.A) (hb:eN X.K fd ps ds) (hd:aR dvs ds) (hx:ir CX X E)
  (ht:eval (.Call (.Attribute o m apos) [] [] pos) X.env=(do
   let ov <- eval o X.env
   standAt apos.atName
   let (f,first) <- holding [ov] (getMethod ov m pl)
   callWith pos f first (backTo pos (starEach [] X.env)) (backToKw pos (keywordEach [] X.env))):=by rfl) :
  PE X (.Call (.Attribute o m apos) [] [] pos) (wT C m sp dvs E ta cn):=by
 intro pins s σ H Q I h
 refine PySem.W.methodCall_KW (pl:=pl) (thn (he pins s σ H _ I h) λu s1 ⟨x,H1,I1,rx,a,dx,fs,ex,ea,l,q⟩=>?_) ht
 subst ex
 obtain rfl:u=Value.ref a:=rx
 refine lb I1 ea c hm l ?_
 exact PySem.W.callWith_K0 (first:=[.ref a]) I1.kIn hm.kp (pA (us:=[.ref a]) (vs:=[.ref a]) F hr hb hd hx I1 (.cons rfl .nil) q)
structure Mk (K:PySem.W.Frag) (C f:Addr):Prop where
 makes:PySem.W.makesIn K C=true
 init:PySem.W.findIn K (.ref C) "__init__" = some (some (.ref f))
 fn:PySem.W.isFn K (.ref f)=true
 kp:PySem.W.keepIn K (.ref C)=true
theorem tX {pins:List (Addr × Obj)}{σ:St}{H:Hp}{s:Shared}{Q:VK}{us:List Value}{vs:List V} (M:Mk X.K C f) (F:FnOk X.prog X.w X.K X.mg X.base CX k f fd ps sp) (hr:Room (k+1) X.A) (hb:eN X.K fd ps ds) (hd:aR dvs ds)
  (hx:ir CX X E) (I:Inv X pins σ H s) (r:aR vs us)
  (h:∀x dx,H x=none->H dx=none->dx≠x->sp (.ref x::(vs++dvs)) (upd (upd H dx (.own x)) x (.ins C dx [])) (λv H2=>v=.non/\Q (.ref x) H2) E) :
  wpAny (model X.prog X.w) X.A (call (.ref C) us) (EP X pins σ Q) X.xe s:=by
 have hq:=h (s.heap.objs.size+1) s.heap.objs.size (I.hok.fresh (Nat.le_succ _)) (I.hok.fresh (Nat.le_refl _)) (Nat.ne_of_lt (Nat.lt_succ_self _))
 have I2:=Inv.made (C:=C) I
 have r2:aR (V.ref (s.heap.objs.size+1)::(vs++dvs)) (Value.ref (s.heap.objs.size+1)::(us++ds)):=.cons rfl (r.append hd)
 have hl:(Value.ref (s.heap.objs.size+1)::us++ds).length=ps.length:=by
  have e:=r2.length
  rw [F.len _ _ _ _ hq]at e
  exact e.symm
 refine wpAny_call (uz (f:=f) I.kIn M.makes M.init (beq_iff_eq.mp M.fn) (codeAny_mono (F.run _ X.stack _ _ ⟨Value.ref (s.heap.objs.size+1)::us,[]⟩ (Value.ref (s.heap.objs.size+1)::(us++ds)) _ _ E (hr.make C us [])
  (I2.env0.make C us []) (hb _ (Value.ref (s.heap.objs.size+1)::us) I2.kIn hl) r2 hq) λr s' hq'=>?_))
 cases r with
 | error e=>exact hx pins σ _ _ e s' I2 hq'
 | ok fl=>
  cases fl with
  | ret u=>
   obtain⟨v,H',I3,rv,ev,q3⟩:=I2.after hq'
   subst ev
   exact⟨rv,⟨V.ref (s.heap.objs.size+1),H',I3,rfl,q3⟩⟩
  | next=>exact False.elim hq'
  | brk=>exact False.elim hq'
  | cont=>exact False.elim hq'
theorem vT (M:Mk X.K C f) (F:FnOk X.prog X.w X.K X.mg X.base CX k f fd ps sp) (hr:Room (k+1) X.A) (hg:Gl X x) (hm:X.mg x=some (.ref C)) (hb:eN X.K fd ps ds) (hd:aR dvs ds) (hx:ir CX X E)
  (ha:PA X (e::es) t) (hdb:(x == ("__debug__" : Str))=false:=by decide) (he:starEach (e::es) X.env=(false,eval e X.env)::starEach es X.env:=by rfl) (hpl:(backTo pos (starEach es X.env)).any (·.1)=false:=by rfl) :
  PE X (.Call (.Name x p) (e::es) [] pos) (yu C sp dvs E t):=by
 intro pins s σ H Q I h
 refine wpAny_Call_Name_kw (nI I hg hm ?_ hdb)
 refine PySem.W.callWith_K (h₀:=X.base) I.ok.mod.kin M.kp (thn (ha pos pins s σ H _ I h) λus s1 ⟨vs,H1,I1,r,q⟩=>⟨I1.kIn,?_⟩) he hpl
 exact tX M F hr hb hd hx I1 r q
end
noncomputable def PK (X:Cx) (kws:List Keyword) (t:TA):Prop:=
 ∀(pos:Pos) (pins:List (Addr × Obj)) (s:Shared) (σ:St) (H:Hp) (Q:List V->Hp->Prop),Inv X pins σ H s->t σ H Q->wpAny (model X.prog X.w) X.A (evalAll ((backToKw pos (keywordEach kws X.env)).map (·.2))) (AP X pins σ Q) X.xe s
section
variable {X:Cx}{CX:CXT}{k:Nat}{f C:Addr}{fd:FuncData}{ps ks:List Str}{sp:Sp}{E:XK}{x m:Str}{p pos apos kpos:Pos}{e o:Expr}{es:List Expr}{kws:List Keyword}{te ta:TE}{t tk:TA}{nm:Option Str}
theorem xG:PK X [] cn:=λ_ _ _ _ H Q I h=>wpAny_evalAll_nil ⟨[],H,I,.nil,h⟩
theorem vQ (ha:PE X e te) (hr:PK X kws t):PK X (⟨nm,e,kpos⟩::kws) (cK te t):=by
 intro pos pins s σ H Q I h
 show wpAny _ _ (evalAll ((do let v <- eval e X.env;standAt pos;pure v)::(backToKw pos (keywordEach kws X.env)).map (·.2))) _ _ s
 refine wpAny_evalAll_cons (wpAny_bind (thn (ha pins s σ H _ I h) λu s1 ⟨x,H1,I1,r1,q1⟩=>wpAny_bind (wpAny_standAt (wpAny_pure ?_))))
 exact thn (hr pos pins s1 σ H1 _ I1 q1) λus s2 ⟨xs,H2,I2,r2,q2⟩=>⟨x::xs,H2,I2,.cons r1 r2,q2⟩
variable {g:List Value->List Value->List Value}{gV:List V->List V->List V}
end
structure FnScope (N P:List Str) (sc:Scope):Prop where
 kind:sc.kind=.function
 co:sc.isCoroutine=false
 gen:sc.isGenerator=false
 nd:N.Nodup
 pre:N.take P.length=P
 par:∀x∈P,sc.names.lookup x=some .local\/sc.names.lookup x=some .cell
 nofree:∀y∈sc.names,y.2≠.free
theorem mP {kindOf:Str->Option NameKind}{x:Str}:∀{binds:List (Str × Value)}{m:Str->Option Value},(∀v,(x,v)∉binds)->bindL kindOf binds m x=m x
 | [],_,_=>rfl
 | (n,v)::r,m,h=>by
  unfold bindL
  rw [mP λw hw=>h w (List.mem_cons_of_mem _ hw)]
  split
  ·have:x≠n:=by rintro rfl;exact h v List.mem_cons_self
   simp [this]
  ·rfl
theorem mR {kindOf:Str->Option NameKind}{x:Str}:∀{binds:List (Str × Value)}{m:Str->Option Value},(∀v,(x,v)∉binds)->bindC kindOf binds m x=m x
 | [],_,_=>rfl
 | (n,v)::r,m,h=>by
  unfold bindC
  rw [mR λw hw=>h w (List.mem_cons_of_mem _ hw)]
  split
  ·rfl
  ·have:x≠n:=by rintro rfl;exact h v List.mem_cons_self
   simp [this]
theorem mQ {kindOf:Str->Option NameKind}{x:Str}{v:Value}:∀{P:List Str}{vs:List Value}{i:Nat}{m:Str->Option Value},P.Nodup->P[i]?=some x->vs[i]?=some v->kindOf x=some .local->
  bindL kindOf (P.zip vs) m x=some v
 | [],_,_,_,_,h,_,_=>by simp at h
 | _::_,[],_,_,_,_,h,_=>by simp at h
 | p::P,w::vs,0,m,nd,h1,h2,hk=>by
  simp at h1 h2;subst h1;subst h2
  show bindL kindOf ((p,w)::P.zip vs) m p=_
  unfold bindL
  rw [mP λv hv=>(List.nodup_cons.mp nd).1 (List.of_mem_zip hv).1,if_pos hk]
  simp
 | p::P,w::vs,i+1,m,nd,h1,h2,hk=>by
  show bindL kindOf ((p,w)::P.zip vs) m x=_
  unfold bindL
  exact mQ (i:=i) (List.nodup_cons.mp nd).2 (by simpa using h1) (by simpa using h2) hk
theorem mS {kindOf:Str->Option NameKind}{x:Str}{v:Value}:∀{P:List Str}{vs:List Value}{i:Nat}{m:Str->Option Value},P.Nodup->P[i]?=some x->vs[i]?=some v->kindOf x≠some .local->
  bindC kindOf (P.zip vs) m x=some v
 | [],_,_,_,_,h,_,_=>by simp at h
 | _::_,[],_,_,_,_,h,_=>by simp at h
 | p::P,w::vs,0,m,nd,h1,h2,hk=>by
  simp at h1 h2;subst h1;subst h2
  show bindC kindOf ((p,w)::P.zip vs) m p=_
  unfold bindC
  rw [mR λv hv=>(List.nodup_cons.mp nd).1 (List.of_mem_zip hv).1,if_neg hk]
  simp
 | p::P,w::vs,i+1,m,nd,h1,h2,hk=>by
  show bindC kindOf ((p,w)::P.zip vs) m x=_
  unfold bindC
  exact mS (i:=i) (List.nodup_cons.mp nd).2 (by simpa using h1) (by simpa using h2) hk
noncomputable def eR (N:List Str) (vs:List V):St:=vs.map some++List.replicate (N.length - vs.length) none
noncomputable def qc (CX:CXT) (P:Program) (w:World) (K:PySem.W.Frag) (mg:Str->Option Value) (base:Heap) (N:List Str) (qual:Str) (scope:Scope) (f:Addr) (cd:Value) (A:Around) (outer:List Env) (s:Shared) (H:Hp) (E:XK):Cx where
 prog:=P
 w:=w
 K:=K
 mg:=mg
 base:=base
 A:=A.deeper (envOfC qual scope s.heap.objs.size f cd)
 N:=N
 s₀:=s
 H₀:=H
 env:=envOfC qual scope s.heap.objs.size f cd
 outer:=outer
 stack:=envOfC qual scope s.heap.objs.size f cd::outer
 ex:=[]
 calm:=true
 fn:=λ_=>true
 pn:=[]
 xe:=λe s'=>wpAny (model P w) (A.deeper (envOfC qual scope s.heap.objs.size f cd)) (leaving (envOfC qual scope s.heap.objs.size f cd) e) (λ_ s''=>CX outer H s E e s'') (λe' s''=>CX outer H s E e' s'') s'
theorem oR {sc:Scope}{n:Nat}{x:Str} (h:sc.names.lookup x=some .cell):∃c,(cellsFrom n sc.names []).lookup x=some c:=by
 have q:=PySem.W.cellsFrom_some sc.names n [] (.inl h)
 exact Option.isSome_iff_exists.mp q
theorem su {CX:CXT}{P:Program}{w:World}{K:PySem.W.Frag}{mg:Str->Option Value}{base:Heap}{N ps:List Str}{qual:Str}{scope:Scope}{f:Addr}{cd:Value}{A:Around}{outer:List Env}{s s1:Shared}{H:Hp}{E:XK}{us:List Value}{vs:List V}
  (S:FnScope N ps scope) (hd:A.handled=none) (e0:Env0 P w K mg base A outer s H) (hl:vs.length=ps.length) (r:aR vs us)
  (x:InCallC s s.heap.objs.size (bindL (envOfC qual scope s.heap.objs.size f cd).kindOf (ps.zip us) λ_=>none) (cellsFrom (s.heap.objs.size+1) scope.names []) (bindC (envOfC qual scope s.heap.objs.size f cd).kindOf (ps.zip us) λ_=>none) s1) :
  Inv (qc CX P w K mg base N qual scope f cd A outer s H E) [] (eR N vs) H s1:=by
 have hpl:ps.length<=N.length:=by have:=congrArg List.length S.pre;rw [List.length_take]at this;omega
 obtain⟨h1,tk,rfl,hk⟩:=x.done
 have noA:∀b:Addr,b∉(qc CX P w K mg base N qual scope f cd A outer s H E).ex:=λb z=>absurd (show b∈([]:List Addr) from z) (by simp)
 refine⟨⟨e0.mod,S.kind,rfl,rfl,Nat.le_refl _,λy z c h1 h2=>?_,λy hy=>?_,λy c _ h=>?_,λ_=>hd,Around.frames_deeper e0.frames,.inr ⟨rfl,rfl⟩,λb z=>absurd z (noA b),e0.bs,e0.bsz,λb _ _=>noA b,λb z=>absurd z (noA b),e0.funs,e0.frf⟩,
  rfl,e0.bare,Un.kept hk,⟨_,x.toInCall.ns,λi y v h1 h2 h3=>?_⟩,λy c h=>⟨_,x.cell y c h⟩,e0.hok.fresh (Nat.le_refl _),λy c h=>?_,λp hp=>absurd (show p∈([]:List (Addr × Obj)) from hp) (by simp),e0.hok.kept hk,?_⟩
 ·exact name_of_addr x.apart (PySem.mem_of_lookup h1) (PySem.mem_of_lookup h2)
 ·have hy:scope.names.lookup y=some .cell\/scope.names.lookup y=some .free:=hy
  rcases hy with hy | hy
  ·exact oR hy
  ·exact absurd rfl (S.nofree _ (PySem.mem_of_lookup hy))
 ·exact Nat.le_of_lt (x.above y c (PySem.mem_of_lookup h))
 ·have hi:i < vs.length:=by
   unfold eR at h2
   by_cases hi:i < vs.length
   ·exact hi
   ·rw [List.getElem?_append_right (by simpa using hi)]at h2
    rw [List.getElem?_replicate]at h2
    split at h2 <;> cases h2
  have ha:vs[i]?=some v:=by
   unfold eR at h2
   rw [List.getElem?_append_left (by simpa using hi),List.getElem?_map]at h2
   cases e:vs[i]? with
   | none=>rw [e]at h2;cases h2
   | some a=>rw [e]at h2;cases h2;rfl
  obtain⟨u,hu,rv⟩:=r.get ha
  have hp:ps[i]?=some y:=by
   rw [<- S.pre,List.getElem?_take_of_lt (by omega)];exact h1
  have ndP:ps.Nodup:=by rw [<- S.pre];exact S.nd.sublist (List.take_sublist _ _)
  refine⟨u,rv,?_⟩
  rcases S.par y (List.mem_of_getElem? hp) with k | k
  ·exact .inl ⟨k,mQ ndP hp hu k⟩
  ·obtain⟨c,e⟩:=oR (n:=s.heap.objs.size+1) k
   refine .inr ⟨.inl k,c,e,?_⟩
   have q:=x.cell y c e
   rw [mS ndP hp hu (by show scope.names.lookup y≠_;rw [k];decide)]at q
   exact q
 ·exact e0.hok.fresh (Nat.le_of_lt (x.above y c (PySem.mem_of_lookup h)))
 ·unfold eR
  show _=N.length
  rw [List.length_append,List.length_map,List.length_replicate]
  omega
theorem uQ {CX:CXT}{P:Program}{w:World}{K:PySem.W.Frag}{mg:Str->Option Value}{base:Heap}{k:Nat}{f:Addr}{name qual:Str}{params:Arguments}{body:List Stmt}{scope:Scope}{dV kV doc pm cdv ct oc:Value}{an od:Option Addr}
  {osl:Array (Option Value)}{N ps:List Str}{sp:Sp} (lk:K.lookup f=some ⟨oc,od,.func (PySem.W.fnOf name qual params body scope dV kV doc pm an cdv ct),osl⟩) (hcd:PySem.W.codeIn K cdv qual=true) (S:FnScope N ps scope)
  (len:∀vs H Q E,sp vs H Q E->vs.length=ps.length)
  (hbody:∀(A:Around) (outer:List Env) (s:Shared) (H:Hp) (vs:List V) (Q:VK) (E:XK),Room k (A.deeper (envOfC qual scope s.heap.objs.size f cdv))->sp vs H Q E->
   ∃t,PSs (qc CX P w K mg base N qual scope f cdv A outer s H E) body t/\t { nx:=λ_ H'=>Q .non H',rt:=Q } (eR N vs) H) :
  FnOk P w K mg base CX (k+1) f (PySem.W.fnOf name qual params body scope dV kV doc pm an cdv ct) ps sp:=by
 refine⟨len,λA outer s H args us vs Q E hr e0 hb r hsp=>?_⟩
 have hl:=len _ _ _ _ hsp
 have KX:K.In s.heap:=e0.mod.kin.keeps λb o e=>(e0.bs b o e).1
 have lim:s.heap.NoLimit:=e0.mod.nolimit.keeps λb o e=>(e0.bs b o e).1
 have hkind:∀y∈ps.zip us,scope.names.lookup y.1=some .local\/(scope.names.lookup y.1=some .cell/\((cellsFrom (s.heap.objs.size+1) scope.names []).lookup y.1).isSome=true):=λ⟨n,v⟩ hy=>by
  rcases S.par n (List.of_mem_zip hy).1 with q | q
  ·exact .inl q
  ·exact .inr ⟨q,PySem.W.cellsFrom_some _ _ _ (.inl q)⟩
 refine codeAny_call_function hr.depth (KX _ _ lk) rfl S.co S.gen rfl (PySem.W.codeRec_of KX hcd) (hb _ _ _ _ ?_)
 refine wpAny_newFunctionEnv_cells S.kind hkind λenv he s1 x=>?_
 subst he
 refine⟨lim.keeps x.toInCall.keep,codeAny_func ?_⟩
 obtain⟨t,ht,hq⟩:=hbody A outer s H vs Q E (hr.deeper _) hsp
 have I:Inv (qc CX P w K mg base N qual scope f cdv A outer s H E) [] (eR N vs) H s1:=su S hr.hd e0 hl r x
 refine wpAny_mono (ht [] s1 (eR N vs) H _ I hq) (λfl s' hs=>?_) λe s' hs=>hs
 have fin:∀{σ':St}{H':Hp}{v:V}{u:Value},Inv (qc CX P w K mg base N qual scope f cdv A outer s H E) [] σ' H' s'->aU v u->Q v H'->CE outer P w H s Q u s':=
  λ{σ' H' v u} J rv q=>⟨v,H',J.os,J.bare,J.base,J.hok,rv,q⟩
 cases fl with
 | ret u=>
  obtain⟨v,σ',H',J,rv,q⟩:=hs
  exact fin J rv q
 | next=>
  obtain⟨σ',H',J,q⟩:=hs
  exact fin (v:=V.non) (u:=Value.none) J rfl q
 | brk=>
  obtain⟨_,_,_,q⟩:=hs
  exact False.elim q
 | cont=>
  obtain⟨_,_,_,q⟩:=hs
  exact False.elim q
end L2
namespace L2
open PySem PySem.Spec PyProof.Rows
section
variable {X:Cx}{x:Str}{p pos:Pos}{e:Expr}{es:List Expr}{t:TA}{id T:String}{r:List V->Hp->VK->Prop}
noncomputable def tCB (r:List V->Hp->VK->Prop) (t:TA):TE:=λσ H Q=>t σ H λvs H1=>r vs H1 Q
theorem aJ (hc:eM X (.builtin id) r) (hg:Gl X x) (hm:X.mg x=none) (hv:bootBuiltins x=some (.builtin id)) (ha:PA X (e::es) t) (hn:x≠"__name__":=by decide) (hdb:(x == ("__debug__" : Str))=false:=by decide)
  (he:starEach (e::es) X.env=(false,eval e X.env)::starEach es X.env:=by rfl) (hpl:(backTo pos (starEach es X.env)).any (·.1)=false:=by rfl):PE X (.Call (.Name x p) (e::es) [] pos) (tCB r t):=by
 intro pins s σ H Q I h
 refine wpAny_Call_Name_kw (im I hg hm hv ?_ hn hdb)
 exact PyProof.Rows.callWith_builtin1 (thn (ha pos pins s σ H _ I h) λus s1 ⟨vs,H1,I1,r1,q1⟩=>hc pins s1 σ H1 vs us Q I1 r1 q1) he hpl
theorem ce (hc:eM X (.type T) r) (hg:Gl X x) (hm:X.mg x=none) (hv:bootBuiltins x=some (.type T)) (ha:PA X (e::es) t) (hn:x≠"__name__":=by decide) (hdb:(x == ("__debug__" : Str))=false:=by decide)
  (he:starEach (e::es) X.env=(false,eval e X.env)::starEach es X.env:=by rfl) (hpl:(backTo pos (starEach es X.env)).any (·.1)=false:=by rfl):PE X (.Call (.Name x p) (e::es) [] pos) (tCB r t):=by
 intro pins s σ H Q I h
 refine wpAny_Call_Name_kw (im I hg hm hv ?_ hn hdb)
 exact PyProof.Rows.callWith_type1 (thn (ha pos pins s σ H _ I h) λus s1 ⟨vs,H1,I1,r1,q1⟩=>hc pins s1 σ H1 vs us Q I1 r1 q1) he hpl
end
end L2
namespace HT
open PySem PyProof.Rows
section
open PySem.SeqAt
open PySem.AutoSeq1 (wpAny_loadPart')
open PySem.MeetsSeq PySem.MeetsSeq2 PySem.MeetsSeq3
end
section
variable {prog:Program}{w:World}{A:Around}{E:Value->Shared->Prop}{s:Shared}
theorem cat_tup {t b:Addr}{vs ws:List Value}{Q:Value->Shared->Prop} (ht:IsTup s.heap t vs.toArray) (hb:IsTup s.heap b ws.toArray) (hv:vs≠[])
  (h1:ws=[]->Q (.ref t) s) (h2:ws≠[]->Q (.ref s.heap.objs.size) { s with heap:=s.heap.push { cls:=.type "tuple", data:=.seq (vs++ws).toArray } })
  (hsz:vs.length+ws.length<=sizeLine):wpAny (model prog w) A (binaryOp .Add (.ref t) (.ref b)) Q E s:=by
 obtain⟨⟨cls,dd,data,sl⟩,ho,hc,n,hd⟩:=id ht
 obtain⟨⟨cls2,dd2,data2,sl2⟩,ho2,hc2,n2,hd2⟩:=id hb
 simp only at hc hd hc2 hd2
 subst hc hd hc2 hd2
 have e:vs.toArray++ws.toArray=(vs++ws).toArray:=by simp
 by_cases hw:ws=[]
 ·exact concat_meets ⟨_,ho,rfl⟩ ⟨_,ho2,rfl⟩ noFill_tuple_add seq_tuple_add PySem.F.slot_tuple_add PySem.F.entry_tuple_add (PySem.F.args_tuple_add_2 _ _)
   (tuple_addW1 t b vs.toArray ws.toArray n n2 dd dd2 sl sl2 (by simpa using hv) (by simp [hw])) ⟨ho,ho2,h1 hw⟩
 ·refine concat_meets ⟨_,ho,rfl⟩ ⟨_,ho2,rfl⟩ noFill_tuple_add seq_tuple_add PySem.F.slot_tuple_add PySem.F.entry_tuple_add (PySem.F.args_tuple_add_2 _ _)
   (tuple_addW2 t b vs.toArray ws.toArray n n2 dd dd2 sl sl2 (by simpa using hv) (by simpa using hw) (by rw [List.size_toArray,List.size_toArray];exact hsz)) ⟨ho,ho2,?_⟩
  rw [e]
  exact h2 hw
noncomputable def sIx (n d:Nat):Option Int->Nat
 | none=>d
 | some v=>if v < 0 then (v+(n:Int)).toNat else min v.toNat n
theorem sIx_none (n d:Nat):sIx n d none=d:=rfl
theorem sIx_nat (n d k:Nat):sIx n d (some (k:Int))=min k n:=by
 show (if (k:Int) < 0 then ((k:Int)+(n:Int)).toNat else min (k:Int).toNat n)=min k n
 rw [if_neg (by omega),Int.toNat_natCast]
theorem xC (n d:Nat) (hd:d<=n) (o:Option Int):sIx n d o<=n:=by
 cases o with
 | none=>exact hd
 | some v=>
  show (if v < 0 then (v+(n:Int)).toNat else min v.toNat n)<=n
  by_cases hv:v < 0
  ·rw [if_pos hv];omega
  ·rw [if_neg hv];exact Nat.min_le_right _ _
theorem qS (v:Int) (n d:Nat):(if v < 0 then max (v+(n:Int)) 0 else min v (n:Int))=((sIx n d (some v):Nat):Int):=by
 show (if v < 0 then max (v+(n:Int)) 0 else min v (n:Int))=(((if v < 0 then (v+(n:Int)).toNat else min v.toNat n):Nat):Int)
 by_cases hv:v < 0
 ·simp only [if_pos hv];omega
 ·simp only [if_neg hv];omega
theorem qi (lo hi:Option Int) (n:Nat):Builtin.Slice.sliceAdjust lo hi 1 (n:Int)=(((sIx n 0 lo:Nat):Int),((sIx n n hi:Nat):Int)):=by
 have h1:¬((1:Int) < 0):=by omega
 unfold Builtin.Slice.sliceAdjust
 simp only [h1,if_false]
 refine Prod.ext ?_ ?_
 ·cases lo with
  | none=>rfl
  | some v=>exact qS v n 0
 ·cases hi with
  | none=>rfl
  | some v=>exact qS v n n
theorem pF (i j:Nat):Builtin.Slice.slicePlaces (i:Int) (j:Int) 1=j - i:=by
 unfold Builtin.Slice.slicePlaces
 have h1:(1:Int) > 0:=by omega
 simp only [h1,if_true,Int.ediv_one]
 split <;> omega
theorem kH {v:Value}{o:Option Int}{Q:Option Int->Shared->Prop} (p:IsPart v o) (h:Q o s):wpAny (model prog w) A (Builtin.Slice.slicePartIndex v) Q E s:=by
 cases p with
 | none=>exact slicePart_none h
 | int i t=>exact slicePart_int h
theorem iY {sl:Addr}{vl vu:Value}{lo hi:Option Int}{n:Nat}{Q:Int × Int × Nat->Shared->Prop} (hs:s.heap.IsSliceOf sl vl vu .none) (pl:IsPart vl lo) (pu:IsPart vu hi)
  (h:Q (((sIx n 0 lo:Nat):Int),1,sIx n n hi - sIx n 0 lo) s):wpAny (model prog w) A (Builtin.Slice.sliceApplied (.ref sl) (pure (n:Int))) Q E s:=by
 obtain⟨os,hos,hcs,hds⟩:=id hs
 unfold Builtin.Slice.sliceApplied Builtin.Slice.sliceFields
 refine wpAny_bind (wpAny_bind (wpAny_field hos hds (x:=vl) rfl (wpAny_bind (wpAny_field hos hds (x:=vu) rfl (wpAny_bind (wpAny_field hos hds (x:=.none) rfl (wpAny_pure ?_)))))))
 refine wpAny_bind (slicePart_none ?_)
 show wpAny _ _ (if ((1:Int) == 0)=true then _ else _) _ _ s
 rw [if_neg (by decide)]
 refine wpAny_bind (kH pl (wpAny_bind (kH pu (wpAny_bind (wpAny_pure ?_)))))
 show wpAny _ _ (match Builtin.Slice.sliceAdjust lo hi 1 (n:Int) with | (lo,hi)=>pure (lo,(1:Int),Builtin.Slice.slicePlaces lo hi 1)) _ _ s
 rw [qi lo hi n]
 show wpAny _ _ (pure (((sIx n 0 lo:Nat):Int),(1:Int),Builtin.Slice.slicePlaces ((sIx n 0 lo:Nat):Int) ((sIx n n hi:Nat):Int) 1)) _ _ s
 rw [pF]
 exact wpAny_pure h
theorem u9 (xs:Array Value) (i k:Nat):((List.range k).filterMap λ(m:Nat)=>xs[((i:Int)+(m:Int) * 1).toNat]?).toArray=((xs.toList.drop i).take k).toArray:=by
 have e:(λ(m:Nat)=>xs[((i:Int)+(m:Int) * 1).toNat]?)=λm=>xs[i+m]?:=by
  funext m
  have:((i:Int)+(m:Int) * 1).toNat=i+m:=by omega
  rw [this]
 rw [e]
 have:=pick_run xs i k
 rw [List.filterMap_map]at this
 have e2:((λx=>xs[x]?) ∘ λx=>i+x)=λm=>xs[i+m]?:=rfl
 rw [e2]at this
 rw [this]
theorem getItem_tuple_cut {t sl:Addr}{items:Array Value}{vl vu:Value}{lo hi:Option Int}{Q:Value->Shared->Prop} (ht:IsTup s.heap t items) (hs:s.heap.IsSliceOf sl vl vu .none) (pl:IsPart vl lo) (pu:IsPart vu hi)
  (hw:¬(sIx items.size 0 lo=0/\sIx items.size items.size hi=items.size))
  (h:Q (.ref s.heap.objs.size) { s with heap:=s.heap.push { cls:=.type "tuple", data:=.seq ((items.toList.drop (sIx items.size 0 lo)).take (sIx items.size items.size hi - sIx items.size 0 lo)).toArray } })
  (hsz:items.size<=sizeLine):wpAny (model prog w) A (getItem (.ref t) (.ref sl)) Q E s:=by
 have htake:sizeOk (.seq ((items.toList.drop (sIx items.size 0 lo)).take (sIx items.size items.size hi - sIx items.size 0 lo)).toArray):=by
  show ((items.toList.drop (sIx items.size 0 lo)).take (sIx items.size items.size hi - sIx items.size 0 lo)).toArray.size<=sizeLine
  rw [List.size_toArray,List.length_take,List.length_drop,Array.length_toList]
  omega
 have hj:sIx items.size items.size hi<=items.size:=xC _ _ (Nat.le_refl _) hi
 obtain⟨os,hos,hcs,hds⟩:=id hs
 have hTs:s.TypeIs (.ref sl) "slice":=⟨os,hos,hcs⟩
 unfold getItem
 try with_reducible refine wpAny_holding ?_
 first | refine wpAny_bind (wpAny_pure ?_) | skip
 refine wpAny_bind (wpAny_sequenceKey ht.typeIs (by decide) ?_)
 refine wpAny_bind (wpAny_callSpecial?_slot (name:=Str.ofString "__getitem__") ht.typeIs PyProof.Rows.slot_tuple_getitem
  (wpAny_call_entry PyProof.Rows.slot_tuple_getitem ht.typeIs entry_tuple_getitem ?_ (args_tuple_getitem _ _)))
 show wpAny _ _ (Builtin.Tuple.tupleItemsOf (.ref t) >>= _) _ _ s
 refine wpAny_bind (tupleItemsOf_ ht ?_)
 refine wpAny_bind (wpAny_typeOf hTs ?_)
 rw [if_pos (by decide)]
 refine wpAny_bind (iY hs pl pu ?_)
 have hno:¬((((sIx items.size 0 lo:Nat):Int) == 0 && (1:Int) == 1 && (sIx items.size items.size hi - sIx items.size 0 lo) == items.size)=true):=by
  intro q
  rw [Bool.and_eq_true,Bool.and_eq_true]at q
  have q1:((sIx items.size 0 lo:Nat):Int)=0:=eq_of_beq q.1.1
  have q2:sIx items.size items.size hi - sIx items.size 0 lo=items.size:=eq_of_beq q.2
  exact hw ⟨by omega,by omega⟩
 show wpAny _ _ (if (((sIx items.size 0 lo:Nat):Int) == 0 && (1:Int) == 1 && (sIx items.size items.size hi - sIx items.size 0 lo) == items.size)=true then _ else _) _ _ s
 rw [if_neg hno,u9]
 first
  | exact wpAny_bind (m:=Builtin.Tuple.tupleExact _) (wpAny_newObj_type (wpAny_pure ⟨_,rfl,wpAny_pure h⟩) htake)
  | exact wpAny_bind (m:=Builtin.Tuple.tupleExact _) (wpAny_newObj_type (wpAny_bind (wpAny_pure (wpAny_pure ⟨_,rfl,wpAny_pure h⟩))) htake)
  | exact wpAny_bind (wpAny_bind (m:=Builtin.Tuple.tupleExact _) (wpAny_newObj_type (wpAny_pure (wpAny_pure ⟨_,rfl,wpAny_pure h⟩)) htake))
  | exact wpAny_bind (wpAny_bind (m:=Builtin.Tuple.tupleExact _) (wpAny_newObj_type (wpAny_pure ⟨_,rfl,wpAny_pure h⟩) htake))
end
end HT
namespace L2
open PySem PySem.Spec PyProof.Rows
noncomputable abbrev TO:=St->Hp->(Option Int->Hp->Prop)->Prop
noncomputable def PO (X:Cx) (e:Option Expr) (t:TO):Prop:=
 ∀(pins:List (Addr × Obj)) (s:Shared) (σ:St) (H:Hp) (Q:Option Int->Hp->Prop),Inv X pins σ H s->t σ H Q->
  wpAny (model X.prog X.w) X.A (evalPart e X.env) (λu s'=>∃o H',Inv X pins σ H' s'/\IsPart u o/\Q o H') X.xe s
noncomputable def vp:TO:=λ_ H Q=>Q none H
noncomputable def yp (t:TE):TO:=λσ H Q=>t σ H λx H1=>∃i,x=.int i/\Q (some i) H1
section
variable {X:Cx}{e:Expr}{te:TE}{lo hi:Option Expr}{tl th:TO}{pos p2:Pos}
theorem cT:PO X none vp:=by
 intro pins s σ H Q I h
 rw [evalPart_none]
 exact wpAny_pure ⟨none,H,I,.none,h⟩
theorem bY (h:PE X e te):PO X (some e) (yp te):=by
 intro pins s σ H Q I hw
 rw [evalPart_some]
 refine thn (h pins s σ H _ I hw) λu s1 ⟨x,H1,I1,r1,q1⟩=>?_
 obtain⟨i,rfl,q⟩:=q1
 obtain⟨t,rfl⟩:=r1
 exact⟨some i,H1,I1,.int i t,q⟩
noncomputable def SlR (X:Cx) (r:V->Option Int->Option Int->Hp->VK->Prop):Prop:=
 ∀(pins:List (Addr × Obj)) (s:Shared) (σ:St) (H:Hp) (x:V) (v vl vu:Value) (lo hi:Option Int) (sl:Addr) (Q:VK),Inv X pins σ H s->aU x v->s.heap.IsSliceOf sl vl vu .none->IsPart vl lo->IsPart vu hi->r x lo hi H Q->
  ∃T id,typeLookup (.type T) "__getitem__" = pure (some (.builtin id))/\s.TypeIs v T/\wpAny (model X.prog X.w) X.A (getItem v (.ref sl)) (EP X pins σ Q) X.xe s
noncomputable def tSl (r:V->Option Int->Option Int->Hp->VK->Prop) (te:TE) (tl th:TO):TE:=λσ H Q=>te σ H λx H1=>tl σ H1 λl H2=>th σ H2 λu H3=>r x l u H3 Q
theorem bV {r:V->Option Int->Option Int->Hp->VK->Prop} (hr:SlR X r) (he:PE X e te) (hl:PO X lo tl) (hu:PO X hi th):PE X (.Subscript e (.Slice lo hi none p2) pos) (tSl r te tl th):=by
 intro pins s σ H Q I h
 refine Subscript_ (thn (he pins s σ H _ I h) λv s1 ⟨x,H1,I1,r1,q1⟩=>?_)
 refine wpAny_Slice (thn (hl pins s1 σ H1 _ I1 q1) λvl s2 ⟨l,H2,I2,pl,q2⟩=>thn (hu pins s2 σ H2 _ I2 q2) λvu s3 ⟨u,H3,I3,pu,q3⟩=>?_)
 rw [evalPart_none]
 refine wpAny_pure ?_
 have I4:Inv X pins σ H3 { s3 with heap:=s3.heap.push { cls:=.type "slice", data:=.fields #[vl,vu,.none] } }:=I3.kept (t':=s3.toks) λb ob q=>Heap.get?_push_of_some _ q
 obtain⟨T,id,hT,ht,hg⟩:=hr pins { s3 with heap:=s3.heap.push { cls:=.type "slice", data:=.fields #[vl,vu,.none] } } σ H3 x v vl vu l u s3.heap.objs.size Q I4 r1 (Heap.IsSliceOf.new ..) pl pu q3
 show wpAny (model X.prog X.w) X.A (subscriptTail e (.Slice lo hi none p2) v (.ref s3.heap.objs.size)) (EP X pins σ Q) X.xe { s3 with heap:=s3.heap.push { cls:=.type "slice", data:=.fields #[vl,vu,.none] } }
 exact tail_any (ops:=[.ref s3.heap.objs.size,v]) ht hT hg (by with_unfolding_all rfl)
noncomputable def cutV (xs:List V) (lo hi:Option Int):List V:=(xs.drop (HT.sIx xs.length 0 lo)).take (HT.sIx xs.length xs.length hi - HT.sIx xs.length 0 lo)
theorem gw (xs:List V) (lo hi:Option Int):(cutV xs lo hi).length<=xs.length:=by
 unfold cutV
 rw [List.length_take,List.length_drop]
 exact Nat.le_trans (Nat.min_le_right _ _) (Nat.sub_le _ _)
noncomputable def zf (K:PySem.W.Frag):V->Option Int->Option Int->Hp->VK->Prop:=λx lo hi H Q=>∃a xs,x=.ref a/\SqT K H a xs/\
 ¬(HT.sIx xs.length 0 lo=0/\HT.sIx xs.length xs.length hi=xs.length)/\∀p,H p=none->Q (.ref p) (upd H p (.tup (cutV xs lo hi)))
theorem hW:SlR X (zf X.K):=by
 intro pins s σ H x v vl vu lo hi sl Q I rx hs pl pu h
 obtain⟨a,xs,rfl,hx,hw,q⟩:=h
 cases rx
 obtain⟨its,r,ht,hz⟩:=I.tuple hx
 have hlen:its.toArray.size=xs.length:=by rw [List.size_toArray];exact r.length.symm
 refine⟨"tuple", _,PyProof.Rows.slot_tuple_getitem.lookup,ht.typeIs,?_⟩
 refine HT.getItem_tuple_cut ht hs pl pu (by rw [hlen];exact hw) ?_ (by rw [hlen];exact hz)
 rw [hlen]
 refine⟨.ref s.heap.objs.size,_,I.laid (t':=s.toks) (o:=.tup (cutV xs lo hi)) (λb ob q=>Heap.get?_push_of_some _ q) (Nat.le_refl _) ?_,rfl,q _ (I.hok.fresh (Nat.le_refl _))⟩
 exact⟨Nat.le_trans (gw xs lo hi) hz,_,(r.drop (HT.sIx xs.length 0 lo)).take (HT.sIx xs.length xs.length hi - HT.sIx xs.length 0 lo),IsTup.new _ _⟩
noncomputable def yI (K:PySem.W.Frag):R2:=λx y H Q=>∃a b xs ys,x=.ref a/\y=.ref b/\SqT K H a xs/\SqT K H b ys/\xs≠[]/\xs.length+ys.length<=sizeLine/\
 (ys=[]->Q (.ref a) H)/\(ys≠[]->∀p,H p=none->Q (.ref p) (upd H p (.tup (xs++ys))))
theorem aR.nil_iff {xs:List V}{us:List Value} (r:aR xs us):us=[]↔xs=[]:=by
 cases r with
 | nil=>simp
 | cons _ _=>simp
theorem qG:OpR X (binaryOp .Add) (yI X.K):=by
 intro pins s σ H x y v u Q I rx ry h
 obtain⟨a,b,xs,ys,rfl,rfl,ha,hb,hx,hz,q1,q2⟩:=h
 cases rx
 cases ry
 obtain⟨its,r1,p1,_⟩:=I.tuple ha
 obtain⟨its2,r2,p2,_⟩:=I.tuple hb
 refine HT.cat_tup p1 p2 (λz=>hx (r1.nil_iff.mp z)) (λz=>⟨.ref a,H,I,rfl,q1 (r2.nil_iff.mp z)⟩) (λz=>?_) (by rw [<- r1.length,<- r2.length];exact hz)
 refine⟨.ref s.heap.objs.size,_,I.laid (t':=s.toks) (o:=.tup (xs++ys)) (λb ob q=>Heap.get?_push_of_some _ q) (Nat.le_refl _) ?_,rfl,q2 (λw=>z (r2.nil_iff.mpr w)) _ (I.hok.fresh (Nat.le_refl _))⟩
 exact⟨by rw [List.length_append];exact hz,_,r1.append r2,IsTup.new _ _⟩
end
end L2
namespace L2
open PySem PySem.Spec PyProof.Rows
noncomputable def ixN (n:Nat) (i:Int):Option Nat:=if 0<=i then (if i < n then some i.toNat else none) else if -(n:Int)<=i then some (i+n).toNat else none
noncomputable def atI {α:Type} (xs:List α) (i:Int):Option α:=(ixN xs.length i).bind λj=>xs[j]?
theorem qJ {n:Nat}{i:Int}{j:Nat} (h:ixN n i=some j):seqIndex? i n=some j/\j < n/\-(n:Int)<=i/\i < n:=by
 unfold ixN at h
 by_cases h0:0<=i
 ·rw [if_pos h0]at h
  by_cases h1:i < n
  ·rw [if_pos h1]at h
   have e:i.toNat=j:=Option.some.inj h
   exact⟨by rw [seqIndex_of h0 h1,e],by omega,by omega,h1⟩
  ·rw [if_neg h1]at h;cases h
 ·rw [if_neg h0]at h
  by_cases h1 : -(n:Int)<=i
  ·rw [if_pos h1]at h
   have e:(i+n).toNat=j:=Option.some.inj h
   exact⟨by rw [seqIndex_neg (by omega) h1,e],by omega,h1,by omega⟩
  ·rw [if_neg h1]at h;cases h
theorem nX {α:Type}{xs:List α}{i:Int}{v:α} (h:atI xs i=some v):∃j,seqIndex? i xs.length=some j/\xs[j]?=some v/\j < xs.length/\-(xs.length:Int)<=i/\i < xs.length:=by
 unfold atI at h
 cases e:ixN xs.length i with
 | none=>rw [e]at h;cases h
 | some j=>
  rw [e]at h
  obtain⟨h1,h2,h3,h4⟩:=qJ e
  exact⟨j,h1,h,h2,h3,h4⟩
theorem dk {α:Type}{xs:List α}{j:Nat}{v:α} (h:xs[j]?=some v):atI xs (j:Int)=some v:=by
 have hj:j < xs.length:=(List.getElem?_eq_some_iff.mp h).1
 have e:ixN xs.length (j:Int)=some j:=by
  unfold ixN
  rw [if_pos (by omega),if_pos (by omega)];simp
 unfold atI;rw [e];exact h
theorem lC {α:Type} (xs:List α) (v:α):atI (xs++[v]) (-1)=some v:=by
 have hl:(xs++[v]).length=xs.length+1:=by simp
 have e:ixN (xs++[v]).length (-1)=some xs.length:=by
  unfold ixN
  rw [hl,if_neg (by decide),if_pos (by omega)]
  congr 1
  omega
 unfold atI
 rw [e]
 show (xs++[v])[xs.length]?=some v
 simp
noncomputable def wQ (b:Expr):Prop:=∀o i,subscripted b false o i=operate [o,i] (getItem o i)
noncomputable def IxR (X:Cx) (r:R2):Prop:=
 ∀(value slice:Expr) (pins:List (Addr × Obj)) (s:Shared) (σ:St) (H:Hp) (x y:V) (v u:Value) (Q:VK),Inv X pins σ H s->aU x v->aU y u->r x y H Q->
  subscripted slice false v u=operate [v,u] (getItem v u)->wpAny (model X.prog X.w) X.A (subscriptTail value slice v u) (EP X pins σ Q) X.xe s
noncomputable def MtR (X:Cx) (id:String) (r:V->List V->Hp->VK->Prop):Prop:=
 ∀(pins:List (Addr × Obj)) (s:Shared) (σ:St) (H:Hp) (x:V) (xs:List V) (v:Value) (us:List Value) (Q:VK),Inv X pins σ H s->aU x v->aR xs us->r x xs H Q->
  wpAny (model X.prog X.w) X.A (call (.builtin id) (v::us)) (EP X pins σ Q) X.xe s
section
variable {X:Cx}{a b:Expr}{ta tb:TE}{pos:Pos}
theorem aM {r:R2} (hr:IxR X r) (ha:PE X a ta) (hb:PE X b tb) (hs:wQ b):PE X (.Subscript a b pos) (tOp r ta tb):=by
 intro pins s σ H Q I h
 exact Subscript_ (ya ha hb I h λv u s2 x y H2 I2 rx ry q=>hr a b pins s2 σ H2 x y v u Q I2 rx ry q (hs _ _))
noncomputable def zi (K:PySem.W.Frag):R2:=λx y H Q=>∃p xs i v,x=.ref p/\y=.int i/\SqL K H p xs/\atI xs i=some v/\Q v H
noncomputable def yH (K:PySem.W.Frag):R2:=λx y H Q=>∃p xs i v,x=.ref p/\y=.int i/\SqT K H p xs/\atI xs i=some v/\Q v H
noncomputable def zh:R2:=λx y H Q=>∃z i c,x=.str z/\y=.int i/\z.length<=sizeLine/\atI z.cps.toList i=some c/\Q (.str ⟨#[c]⟩) H
theorem bA:IxR X (zi X.K):=by
 intro value slice pins s σ H x y v u Q I rx ry h hs
 obtain⟨p,xs,i,z,rfl,rfl,hq,he,q⟩:=h
 cases rx
 obtain⟨t,rfl⟩:=ry
 obtain⟨its,r,pl,hz⟩:=I.list hq
 obtain⟨j,h1,h2,h3,h4,h5⟩:=nX he
 obtain⟨w,ew,rw'⟩:=r.get h2
 have hl:=r.length
 have hn:=ig
 have fin:EP X pins σ Q w s:=⟨z,H,I,rw',q⟩
 by_cases h0:0<=i
 ·have hj:i.toNat=j:=by
   rw [seqIndex_of h0 h5]at h1
   exact Option.some.inj h1
  exact item_listR pl.isList h0 (by omega) (by rw [hj];simpa using ew) fin hs
 ·have hj:(i+(its.toArray.size:Int)).toNat=j:=by
   rw [seqIndex_neg (by omega) h4]at h1
   rw [List.size_toArray,<- hl]
   exact Option.some.inj h1
  exact subscriptTail_builtinR (x:=w) pl.isList.typeIs slot_list_getitem.lookup
   (wpAny_getItem_list_neg (Q:=λr s'=>r=w/\EP X pins σ Q r s') pl.isList (by omega) (by rw [List.size_toArray] <;> omega) (by omega) (by rw [hj];simpa using ew) ⟨rfl,fin⟩) hs
theorem aY:IxR X (yH X.K):=by
 intro value slice pins s σ H x y v u Q I rx ry h hs
 obtain⟨p,xs,i,z,rfl,rfl,hq,he,q⟩:=h
 cases rx
 obtain⟨t,rfl⟩:=ry
 obtain⟨its,r,pl,hz⟩:=I.tuple hq
 obtain⟨j,h1,h2,h3,h4,h5⟩:=nX he
 obtain⟨w,ew,rw'⟩:=r.get h2
 have hl:=r.length
 have hn:=ig
 have fin:EP X pins σ Q w s:=⟨z,H,I,rw',q⟩
 exact subscriptTail_builtinR (x:=w) pl.typeIs slot_tuple_getitem.lookup
  (getItem_tuple (j:=j) (Q:=λr s'=>r=w/\EP X pins σ Q r s') pl (by omega) (by omega) (by rw [List.size_toArray,<- hl];exact h1) (by simpa using ew) ⟨rfl,fin⟩) hs
theorem uH:IxR X zh:=by
 intro value slice pins s σ H x y v u Q I rx ry h hs
 obtain⟨z,i,c,rfl,rfl,hz,he,q⟩:=h
 obtain⟨t,rfl⟩:=rx
 obtain⟨t',rfl⟩:=ry
 obtain⟨j,h1,h2,h3,h4,h5⟩:=nX he
 have hl:z.cps.toList.length=z.length:=by simp [Str.length]
 rw [hl]at h1 h4 h5
 have hn:=ig
 exact tail_any (typeIs_str s z t) slot_str_getitem.lookup (getItem_str (c:=c) (by
  have e1:decide (i < -(2 ^ 63:Int))=false:=decide_eq_false (by omega)
  have e2:decide (i>=2 ^ 63)=false:=decide_eq_false (by omega)
  rw [e1,e2,Bool.or_false]) (by rw [h1];simpa using h2) ⟨.str ⟨#[c]⟩,H,I.tok _,⟨_,rfl⟩,q⟩) hs
theorem pP (its:List Value) (n j:Nat) (u:Value):Obj.mapSeq (·.setIfInBounds j u) { cls:=.type "list", data:=.seq its.toArray n }={ cls:=.type "list", data:=.seq (its.set j u).toArray n }:=by
 simp [Obj.mapSeq]
theorem Inv.lst {pins:List (Addr × Obj)}{σ:St}{H:Hp}{s:Shared}{p:Addr}{xs:List V} (I:Inv X pins σ H s) (h:H p=some (.lst xs)) :
  ∃(its:List Value) (n:Nat),aR xs its/\s.heap.get? p=some { cls:=.type "list", data:=.seq its.toArray n }/\xs.length<=sizeLine:=by
 obtain⟨z,its,n,r,e⟩:=I.hok p _ h
 exact⟨its,n,r,e,z⟩
theorem Inv.lstUpd {pins:List (Addr × Obj)}{σ:St}{H:Hp}{s:Shared}{p:Addr}{xs ys:List V}{its its':List Value}{n n':Nat}{f:Obj->Obj} (I:Inv X pins σ H s) (h:H p=some (.lst xs))
  (ho:s.heap.get? p=some { cls:=.type "list", data:=.seq its.toArray n }) (hf:f { cls:=.type "list", data:=.seq its.toArray n }={ cls:=.type "list", data:=.seq its'.toArray n' }) (r:aR ys its') (hz:ys.length<=sizeLine) (t:Nat) :
  Inv X pins σ (upd H p (.lst ys)) { s with heap:=s.heap.update p f,toks:=t }:=by
 have e:(s.heap.update p f).get? p=some { cls:=.type "list", data:=.seq its'.toArray n' }:=by
  rw [Heap.get?_update_self f ho (by rw [hf] <;> rfl),hf]
 refine I.write (x:=p) (e:=p) (by rw [h];trivial) (.inl rfl) (λb u hb q=>(Heap.get?_update_other _ _ (Ne.symm hb)).trans q) ⟨_,e⟩ ?_
 exact⟨hz,its',n',r,e⟩
noncomputable def yG:V->V->V->Hp->(Hp->Prop)->Prop:=λo i v H Q=>∃p xs k j,o=.ref p/\i=.int k/\H p=some (.lst xs)/\ixN xs.length k=some j/\Q (upd H p (.lst (xs.set j v)))
theorem om:yU X yG:=by
 intro pins s σ H o i v ov iv u Q I ro ri rv h
 obtain⟨p,xs,k,j,rfl,rfl,hp,hj,q⟩:=h
 cases ro
 obtain⟨t,rfl⟩:=ri
 obtain⟨its,n,r,ho,hz⟩:=I.lst hp
 obtain⟨h1,h2,h3,h4⟩:=qJ hj
 have hl:=r.length
 have hn:=ig
 have I':Inv X pins σ (upd H p (.lst (xs.set j v))) { s with heap:=s.heap.update p (Obj.mapSeq (·.setIfInBounds j u)) }:=
  I.lstUpd hp ho (pP its n j u) (r.set rv j) (by rw [List.length_set];exact hz) s.toks
 by_cases h0:0<=k
 ·have hk:k.toNat=j:=by
   rw [seqIndex_of h0 h4]at h1
   exact Option.some.inj h1
  exact PySem.W.ki_setAt ho h0 (by omega) (by rw [List.size_toArray,<- hl];exact h4) (by rw [hk];exact⟨_,I',q⟩)
 ·have hk:(k+(its.toArray.size:Int)).toNat=j:=by
   rw [seqIndex_neg (by omega) h3]at h1
   rw [List.size_toArray,<- hl]
   exact Option.some.inj h1
  exact PySem.W.ki_setBack ho (by omega) (by rw [List.size_toArray,<- hl];exact h3) (by omega) (by rw [hk];exact⟨_,I',q⟩)
theorem n9 (lo hi:Option Int) (n:Nat):(sliceBounds lo hi none n).1=((HT.sIx n 0 lo:Nat):Int)/\(sliceBounds lo hi none n).2.1=((HT.sIx n n hi:Nat):Int)/\(sliceBounds lo hi none n).2.2=1:=by
 refine⟨?_,?_,rfl⟩
 ·cases lo with
  | none=>simp [sliceBounds,HT.sIx]
  | some i=>
   simp only [sliceBounds,HT.sIx,Option.getD_none,show (1:Int) > 0 by decide,if_true]
   by_cases h:i < 0
   ·simp only [h,if_true] <;> omega
   ·simp only [h,if_false] <;> omega
 ·cases hi with
  | none=>simp [sliceBounds,HT.sIx]
  | some i=>
   simp only [sliceBounds,HT.sIx,Option.getD_none,show (1:Int) > 0 by decide,if_true]
   by_cases h:i < 0
   ·simp only [h,if_true] <;> omega
   ·simp only [h,if_false] <;> omega
theorem lG (its:List Value) (lo hi:Option Int):slicePick its.toArray lo hi none=((its.drop (HT.sIx its.length 0 lo)).take (HT.sIx its.length its.length hi - HT.sIx its.length 0 lo)).toArray:=by
 obtain⟨h1,h2,h3⟩:=n9 lo hi its.toArray.size
 unfold slicePick
 rw [h1,h2,h3]
 simp only [sliceRange_one,pick_run,List.size_toArray] <;> rfl
noncomputable def zg (K:PySem.W.Frag):V->Option Int->Option Int->Hp->VK->Prop:=λx lo hi H Q=>∃a xs,x=.ref a/\SqL K H a xs/\∀p,H p=none->Q (.ref p) (upd H p (.lst (cutV xs lo hi)))
theorem ni:SlR X (zg X.K):=by
 intro pins s σ H x v vl vu lo hi sl Q I rx hs pl pu h
 obtain⟨a,xs,rfl,hx,q⟩:=h
 cases rx
 obtain⟨its,r,ht,hz⟩:=I.list hx
 have hlen:=r.length
 refine⟨"list", _,slot_list_getitem.lookup,ht.isList.typeIs,?_⟩
 refine wpAny_getItem_list_slice ht.isList hs pl pu .none (by simp) ?_ (by rw [List.size_toArray] <;> omega)
 rw [lG,<- hlen]
 refine⟨.ref s.heap.objs.size,_,I.laid (t':=s.toks) (o:=.lst (cutV xs lo hi)) (λb ob q=>Heap.get?_push_of_some _ q) (Nat.le_refl _) ?_,rfl,q _ (I.hok.fresh (Nat.le_refl _))⟩
 exact⟨Nat.le_trans (gw xs lo hi) hz,_,0,(r.drop (HT.sIx xs.length 0 lo)).take (HT.sIx xs.length xs.length hi - HT.sIx xs.length 0 lo),Heap.get?_push_size _ rfl⟩
noncomputable def iO:V->Bool
 | .non=>true
 | .bl _=>true
 | .int _=>true
 | .str _=>true
 | _=>false
noncomputable def eqV:V->V->Bool
 | .non,.non=>true
 | .bl a,.bl b=>a == b
 | .bl a,.int b=>(if a then 1 else 0) == b
 | .int a,.bl b=>a == (if b then 1 else 0)
 | .int a,.int b=>a == b
 | .str a,.str b=>a == b
 | _,_=>false
theorem y8 {A:Around}{s:Shared}{y x:V}{u v:Value} (ry:aU y u) (rx:aU x v) (fy:iO y=true) (fx:iO x=true):SeqAt.EqAt A s u v (eqV y x):=by
 cases y with
 | non=>
  cases ry
  cases x with
  | non=>cases rx;exact SeqAt.EqAt.same _
  | bl b=>cases rx;exact SeqAt.EqAt.none_bool b
  | int b=>obtain⟨t,rfl⟩:=rx;exact SeqAt.EqAt.none_int b t
  | str b=>obtain⟨t,rfl⟩:=rx;exact SeqAt.EqAt.none_str b t
  | _=>exact absurd (show false=true from fx) Bool.false_ne_true
 | bl a=>
  cases ry
  cases x with
  | non=>cases rx;exact SeqAt.EqAt.bool_none a
  | bl b=>cases rx;exact SeqAt.EqAt.bool_bool a b
  | int b=>obtain⟨t,rfl⟩:=rx;exact SeqAt.EqAt.bool_int a b t
  | str b=>obtain⟨t,rfl⟩:=rx;exact SeqAt.EqAt.bool_str a b t
  | _=>exact absurd (show false=true from fx) Bool.false_ne_true
 | int a=>
  obtain⟨t',rfl⟩:=ry
  cases x with
  | non=>cases rx;exact SeqAt.EqAt.int_none a t'
  | bl b=>cases rx;exact SeqAt.EqAt.int_bool a t' b
  | int b=>obtain⟨t,rfl⟩:=rx;exact SeqAt.EqAt.int_int a t' b t
  | str b=>obtain⟨t,rfl⟩:=rx;exact SeqAt.EqAt.int_str a t' b t
  | _=>exact absurd (show false=true from fx) Bool.false_ne_true
 | str a=>
  obtain⟨t',rfl⟩:=ry
  cases x with
  | non=>cases rx;exact SeqAt.EqAt.str_none a t'
  | bl b=>cases rx;exact SeqAt.EqAt.str_bool a t' b
  | int b=>obtain⟨t,rfl⟩:=rx;exact SeqAt.EqAt.str_int a t' b t
  | str b=>obtain⟨t,rfl⟩:=rx;exact SeqAt.EqAt.str_str a t' b t
  | _=>exact absurd (show false=true from fx) Bool.false_ne_true
 | _=>exact absurd (show false=true from fy) Bool.false_ne_true
noncomputable def eqU (x:V) (u:Value):Bool:=match u with
 | .none=>eqV .non x
 | .bool b=>eqV (.bl b) x
 | .int i _=>eqV (.int i) x
 | .str z _=>eqV (.str z) x
 | _=>false
theorem uS {x y:V}{u:Value} (r:aU y u) (f:iO y=true):eqU x u=eqV y x:=by
 cases y with
 | non=>cases r;rfl
 | bl b=>cases r;rfl
 | int i=>obtain⟨t,rfl⟩:=r;rfl
 | str z=>obtain⟨t,rfl⟩:=r;rfl
 | _=>exact absurd (show false=true from f) Bool.false_ne_true
theorem nY {x:V}:∀{xs:List V}{us:List Value},aR xs us->xs.all iO=true->us.any (eqU x)=xs.any λy=>eqV y x
 | _,_,.nil,_=>rfl
 | y::xs,u::us,.cons r t,f=>by
  rw [List.all_cons,Bool.and_eq_true]at f
  rw [List.any_cons,List.any_cons,uS r f.1,nY t f.2]
theorem kS {A:Around}{s:Shared}{x:V}{v:Value} (rx:aU x v) (fx:iO x=true):∀{xs:List V}{us:List Value},aR xs us->xs.all iO=true->∀u∈us,SeqAt.EqAt A s u v (eqU x u)
 | _,_,.nil,_=>λu hu=>by cases hu
 | y::xs,u::us,.cons r t,f=>λu' hu=>by
  rw [List.all_cons,Bool.and_eq_true]at f
  rcases List.mem_cons.mp hu with rfl | hu
  ·rw [uS r f.1];exact y8 r rx f.1 fx
  ·exact kS rx fx t f.2 u' hu
noncomputable def inV (x:V) (xs:List V):Bool:=xs.any λy=>eqV y x
noncomputable def rIn (K:PySem.W.Frag) (neg:Bool):R2:=λx y H Q=>∃p xs,y=.ref p/\(SqL K H p xs\/SqT K H p xs)/\iO x=true/\xs.all iO=true/\Q (.bl (if neg then !inV x xs else inV x xs)) H
theorem nG:OpR X (compareOp .NotIn) (rIn X.K true):=by
 intro pins s σ H x y v u Q I rx ry h
 obtain⟨p,xs,rfl,hq,fx,fs,q⟩:=h
 cases ry
 rcases hq with hq | hq
 ·obtain⟨its,r,pl,hz⟩:=I.list hq
  refine SeqAt.notIn_listAt (eqU x) pl.isList (λw hw=>kS rx fx r fs w (by simpa using hw)) ⟨.bl _,H,I,rfl,?_⟩
  rw [show its.toArray.any (eqU x)=its.any (eqU x) by simp,nY r fs]
  exact q
 ·obtain⟨its,r,pl,hz⟩:=I.tuple hq
  refine SeqAt.notIn_tupleAt (eqU x) pl (λw hw=>kS rx fx r fs w (by simpa using hw)) ⟨.bl _,H,I,rfl,?_⟩
  rw [show its.toArray.any (eqU x)=its.any (eqU x) by simp,nY r fs]
  exact q
theorem aZ:eM X (.builtin "len") (λxs H Q=>∃p ys,xs=[.ref p]/\(SqL X.K H p ys\/SqT X.K H p ys)/\Q (.int ys.length) H):=by
 intro pins s σ H xs us Q I r h
 obtain⟨p,ys,rfl,hq,q⟩:=h
 obtain⟨u,rfl,rx⟩:=fK r
 cases rx
 have hn:=ig
 rcases hq with hq | hq
 ·obtain⟨its,r',pl,hz⟩:=I.list hq
  have hlen:=r'.length
  exact Calls.call_len_list pl.isList (by simp only [List.size_toArray] <;> omega) ⟨.int ys.length,H,I.tok _,⟨s.toks+1,by rw [List.size_toArray,hlen]⟩,q⟩
 ·obtain⟨its,r',pl,hz⟩:=I.tuple hq
  have hlen:=r'.length
  exact len_tuple pl (by simp only [List.size_toArray] <;> omega) ⟨.int ys.length,H,I.tok _,⟨s.toks+1,by rw [List.size_toArray,hlen]⟩,q⟩
theorem iQ:eM X (.builtin "len") (λxs H Q=>∃z,xs=[.str z]/\z.length<=sizeLine/\Q (.int z.length) H):=by
 intro pins s σ H xs us Q I r h
 obtain⟨z,rfl,hz,q⟩:=h
 obtain⟨u,rfl,t,rfl⟩:=fK r
 have hn:=ig
 exact len_str (by omega) ⟨.int z.length,H,I.tok _,⟨_,rfl⟩,q⟩
theorem cV:eM X (.type "list") (λxs H Q=>∃p ys,xs=[.ref p]/\(SqL X.K H p ys\/SqT X.K H p ys)/\∀l,H l=none->Q (.ref l) (upd H l (.lst ys))):=by
 intro pins s σ H xs us Q I r h
 obtain⟨p,ys,rfl,hq,q⟩:=h
 obtain⟨u,rfl,rx⟩:=fK r
 cases rx
 have fin:∀(its:List Value),aR ys its->ys.length<=sizeLine->∀(h':Heap) (c':Nat),(∀b o',s.heap.get? b=some o'->h'.get? b=some o')->
   h'.get? s.heap.objs.size=some { cls:=.type "list", dict:=none,data:=.seq its.toArray c',slots:=#[] }->EP X pins σ Q (.ref s.heap.objs.size) { s with heap:=h' }:=λits r' hz h' c' kp e=>
  ⟨.ref s.heap.objs.size,_,I.laid (t':=s.toks) kp (Nat.le_refl _) (show bG X.prog X.w _ h' _ (.lst ys) from ⟨hz,its,c',r',e⟩),rfl,q _ (I.hok.fresh (Nat.le_refl _))⟩
 rcases hq with hq | hq
 ·obtain⟨its,r',pl,hz⟩:=I.list hq
  have hlen:=r'.length
  obtain⟨o,ho,hc,n,hd⟩:=pl.isList
  exact call_list_seq p (.inl rfl) ho hc hd (λh' c' kp e=>fin its r' hz h' c' kp e) (by simp only [List.size_toArray] <;> omega)
 ·obtain⟨its,r',pl,hz⟩:=I.tuple hq
  have hlen:=r'.length
  obtain⟨o,ho,hc,n,hd⟩:=pl
  exact call_list_seq p (.inr rfl) ho hc hd (λh' c' kp e=>fin its r' hz h' c' kp e) (by simp only [List.size_toArray] <;> omega)
noncomputable def tyV (K:PySem.W.Frag) (T:String) (x:V) (H:Hp):Prop:=match x with
 | .str _=>T = "str"
 | .int _=>T = "int"
 | .ref p=>(T = "list"/\∃xs,SqL K H p xs)\/(T = "tuple"/\∃o,K.lookup p=some o/\o.cls=.type "tuple"/\o.dict=none)\/
   (T = "dict"/\((∃kvs,H p=some (.dK kvs))\/∃kvs,H p=some (.dT kvs)))\/(T = "set"/\∃S n,H p=some (.set S n))
 | _=>False
theorem xf {pins:List (Addr × Obj)}{σ:St}{H:Hp}{s:Shared}{T:String}{x:V}{v:Value} (I:Inv X pins σ H s) (r:aU x v) (ty:tyV X.K T x H) :
  s.TypeIs v T/\∀a,v=.ref a->∃ob,s.heap.get? a=some ob/\ob.dict=none:=by
 cases x with
 | str z=>
  obtain⟨t,rfl⟩:=r
  cases (show T = "str" from ty)
  exact⟨typeIs_str s z t,λ_ e=>nomatch e⟩
 | int i=>
  obtain⟨t,rfl⟩:=r
  cases (show T = "int" from ty)
  exact⟨typeIs_int s i t,λ_ e=>nomatch e⟩
 | ref p=>
  cases r
  rcases ty with⟨rfl,xs,hq⟩ | ⟨rfl,o,hk,hc,hd⟩ | ⟨rfl,hk⟩ | ⟨rfl,S,n,hk⟩
  ·obtain⟨its,_,pl,_⟩:=I.list hq
   refine⟨pl.isList.typeIs,λa e=>?_⟩
   cases e
   obtain⟨o,n,e,c,hd,_⟩:=pl
   exact⟨o,e,hd⟩
  ·refine⟨⟨o,I.kIn p o hk,hc⟩,λa e=>?_⟩
   cases e
   exact⟨o,I.kIn _ o hk,hd⟩
  ·have z:∃o,s.heap.get? p=some o/\o.ExactDict:=by
    rcases hk with⟨kvs,hk⟩ | ⟨kvs,hk⟩
    ·obtain⟨_,_,_,_,o,_,_,e,ex,_⟩:=I.hok p _ hk
     exact⟨o,e,ex⟩
    ·obtain⟨_,_,_,_,o,_,_,e,ex,_⟩:=I.hok p _ hk
     exact⟨o,e,ex⟩
   obtain⟨o,e,ex⟩:=z
   refine⟨⟨o,e,ex.1⟩,λa e2=>?_⟩
   cases e2
   exact⟨o,e,ex.2.1⟩
  ·obtain⟨o,_,_,_,e,ex,_⟩:=I.hok p _ hk
   refine⟨⟨o,e,ex.1⟩,λa e2=>?_⟩
   cases e2
   exact⟨o,e,ex.2.1⟩
 | _=>exact False.elim ty
noncomputable def tBM (K:PySem.W.Frag) (T:String) (r:V->List V->Hp->VK->Prop) (to:TE) (t:TA):TE:=λσ H Q=>to σ H λx H1=>tyV K T x H1/\t σ H1 λxs H2=>r x xs H2 Q
variable {o e:Expr}{es:List Expr}{to:TE}{t:TA}{name:Str}{apos cpos:Pos}{T id:String}{r:V->List V->Hp->VK->Prop}
theorem cY (pa:PlainAttrs T) (slot:Slot T name id) (hty:typeOf (.builtin id)=pure (.type "method_descriptor")) (hm:MtR X id r) (ho:PE X o to) (ha:PA X (e::es) t)
  (hbase:attributeBase o name X.env (eval o X.env)=eval o X.env:=by rfl)
  (hfew:((backTo cpos (starEach (e::es) X.env)).all (λx=>!x.1) && (backToKw cpos (keywordEach [] X.env)).all (λx=>x.1.isSome)
   && decide ((e::es).length+([]:List Keyword).length+(if ([]:List Keyword).isEmpty then 0 else 1) < 30))=true:=by rfl)
  (hline:(apos.endLine == cpos.line)=true:=by rfl) (hs:starEach (e::es) X.env=(false,eval e X.env)::starEach es X.env:=by rfl) (hplain:(backTo cpos (starEach es X.env)).any (·.1)=false:=by rfl) :
  PE X (.Call (.Attribute o name apos) (e::es) [] cpos) (tBM X.K T r to t):=by
 intro pins s σ H Q I h
 refine wpAny_Call_method_late hbase hfew hline rfl (thn (ho pins s σ H _ I h) λv s1 ⟨x,H1,I1,r1,ty,q1⟩=>?_)
 obtain⟨h1,h2⟩:=xf I1 r1 ty
 refine⟨T,id,pa,slot,hty,h1,h2,?_⟩
 have hA:=ha cpos pins s1 σ H1 _ I1 q1
 rw [hs]at hA ⊢
 refine Calls.callWith_builtin (by show (false || (backTo cpos (starEach es X.env)).any (·.1))=false;rw [hplain] <;> rfl) (Calls.evalArgs_plain ?_)
 exact thn hA λus s2 ⟨vs,H2,I2,r2,q2⟩=>hm pins s2 σ H2 x vs v us Q I2 r1 r2 q2
end
end L2
namespace L2
open PySem PySem.Spec PyProof.Rows
noncomputable def MtM (X:Cx) (id:String) (r:V->List V->Hp->VK->Prop):Prop:=
 ∀(pins:List (Addr × Obj)) (s:Shared) (σ:St) (H:Hp) (x:V) (xs:List V) (v:Value) (us:List Value) (Q:VK),Inv X pins σ H s->aU x v->aR xs us->r x xs H Q->
  wpAny (model X.prog X.w) X.A (call (.builtin id) (v::us)) (EP X pins σ Q) X.xe s
theorem aR.one:∀{x:V}{us:List Value},aR [x] us->∃u,us=[u]/\aU x u
 | _,_,.cons r .nil=>⟨_,rfl,r⟩
section
variable {X:Cx}{pins:List (Addr × Obj)}{σ:St}{H:Hp}{s:Shared}{l b:Addr}{xs ys zs:List V}
theorem Inv.lset {its its':List Value}{n:Nat}{f:Array Value->Array Value}{t':Nat} (I:Inv X pins σ H s) (hH:H l=some (.lst xs))
  (e:s.heap.get? l=some { cls:=.type "list", data:=.seq its.toArray n }) (hf:f its.toArray=its'.toArray) (hv:aR ys its') (hz:ys.length<=sizeLine) :
  Inv X pins σ (upd H l (.lst ys)) { s with heap:=s.heap.update l (Obj.mapSeq f),toks:=t' }:=by
 have q:=PySem.IsL.update e f
 rw [hf]at q
 refine I.write (x:=l) (e:=l) (by rw [hH];exact trivial) (.inl rfl) (λb' u hb hu=>(Heap.get?_update_other s.heap (Obj.mapSeq f) (Ne.symm hb)).trans hu) ⟨_,q⟩ ?_
 exact⟨hz,its',_,hv,q⟩
theorem Inv.lnew {its:List Value}{t':Nat} (I:Inv X pins σ H s) (hv:aR ys its) (hz:ys.length<=sizeLine) :
  Inv X pins σ (upd H s.heap.objs.size (.lst ys)) { s with heap:=s.heap.push { cls:=.type "list", data:=.seq its.toArray },toks:=t' }:=
 I.laid (λ_ _ q=>Heap.get?_push_of_some _ q) (Nat.le_refl _) ⟨hz,its,0,hv,Heap.get?_push_size _ rfl⟩
theorem Inv.fresh (I:Inv X pins σ H s):H s.heap.objs.size=none:=I.hok.fresh (Nat.le_refl _)
theorem Inv.lstM (I:Inv X pins σ H s) (hH:H l=some (.lst xs)):xs.length<=sizeLine/\∃(its:List Value) (n:Nat),aR xs its/\xs.length=its.length/\s.heap.get? l=some { cls:=.type "list", data:=.seq its.toArray n }:=by
 obtain⟨z,its,n,r,e⟩:=I.hok l _ hH
 exact⟨z,its,n,r,r.length,e⟩
end
section
variable {X:Cx}
noncomputable def qC:V->List V->Hp->VK->Prop:=λx vs H Q=>∃l xs y,x=.ref l/\vs=[y]/\H l=some (.lst xs)/\xs.length < sizeLine/\Q .non (upd H l (.lst (xs++[y])))
theorem bf:MtM X "list.append" qC:=by
 intro pins s σ H x vs v us Q I rx rv h
 obtain⟨l,xs,y,rfl,rfl,hH,hz,q⟩:=h
 cases rx
 obtain⟨u,rfl,ru⟩:=rv.one
 obtain⟨z,its,n,r,hl,e⟩:=I.lstM hH
 refine call_meets F.slot_list_append ⟨_,e,rfl⟩ F.entry_list_append (F.args_list_append_2 _ _) (PySem.list_append l its.toArray n u (by rw [List.size_toArray];omega)) ⟨e,?_⟩
 refine⟨.non,_,I.lset (its':=its++[u]) hH e (by simp) (r.append (.cons ru .nil)) ?_,rfl,q⟩
 rw [List.length_append,List.length_singleton]
 omega
noncomputable def zm:R2:=λx y H Q=>∃l b xs zs,x=.ref l/\y=.ref b/\H l=some (.lst xs)/\H b=some (.lst zs)/\xs.length+zs.length<=sizeLine/\∀p,H p=none->Q (.ref p) (upd H p (.lst (xs++zs)))
theorem pH:OpR X (binaryOp .Add) zm:=by
 intro pins s σ H x y v u Q I rx ry h
 obtain⟨l,b,xs,zs,rfl,rfl,hH,hB,hz,q⟩:=h
 cases rx
 cases ry
 obtain⟨z,its,n,r,hl,e⟩:=I.lstM hH
 obtain⟨z2,its2,n2,r2,hl2,e2⟩:=I.lstM hB
 refine PySem.P.add_list e e2 ?_ (by rw [List.size_toArray,List.size_toArray];omega)
 have ea:its.toArray++its2.toArray=(its++its2).toArray:=by simp
 rw [ea]
 exact⟨.ref _,_,I.lnew (t':=s.toks) (r.append r2) (by rw [List.length_append];omega),rfl,q _ I.fresh⟩
end
section
variable {prog:Program}{w:World}{A:Around}{E:Value->Shared->Prop}{s:Shared}
end
section
variable {X:Cx}
end
end L2
namespace L2
open PySem PySem.Spec PyProof.Rows
section
variable {κ:Type} [DecidableEq κ]
noncomputable def valV (kvs:List (κ × V)) (k:κ):Option V:=(kvs.find? λkv=>decide (kv.1=k)).map (·.2)
noncomputable def cH (kvs:List (κ × V)) (k:κ) (v:V):List (κ × V):=
 if (kvs.any λkv=>decide (kv.1=k))=true then kvs.map (λkv=>if kv.1=k then (kv.1,v) else kv) else kvs++[(k,v)]
noncomputable def zD (kvs:List (κ × V)) (k:κ):List (κ × V):=kvs.filter λkv=>decide (kv.1≠k)
theorem ci {p:κ × V}{r:List (κ × V)}{k:κ} (e:p.1=k):valV (p::r) k=some p.2:=by simp [valV,List.find?_cons,e]
theorem cj {p:κ × V}{r:List (κ × V)}{k:κ} (e:¬p.1=k):valV (p::r) k=valV r k:=by simp [valV,List.find?_cons,e]
theorem fM (k:κ):∀kvs:List (κ × V),(kvs.any λkv=>decide (kv.1=k))=(valV kvs k).isSome
 | []=>rfl
 | p::r=>by
  rw [List.any_cons]
  by_cases e:p.1=k
  ·simp only [ci e,decide_eq_true e,Bool.true_or,Option.isSome_some]
  ·rw [cj e,decide_eq_false e,Bool.false_or];exact fM k r
theorem o7 (k j:κ) (y:V):∀kvs:List (κ × V),valV (kvs.map λkv=>if kv.1=k then (kv.1,y) else kv) j=(valV kvs j).map λx=>if j=k then y else x
 | []=>rfl
 | p::r=>by
  have ih:=o7 k j y r
  rw [List.map_cons]
  by_cases h:p.1=k
  ·rw [if_pos h]
   by_cases e:p.1=j
   ·rw [ci (p:=(p.1,y)) e,ci e,Option.map_some,if_pos (e.symm.trans h)]
   ·rw [cj (p:=(p.1,y)) e,cj e,ih]
  ·rw [if_neg h]
   by_cases e:p.1=j
   ·rw [ci (p:=p) e,ci e,Option.map_some,if_neg (λz=>h (e.trans z))]
   ·rw [cj (p:=p) e,cj e,ih]
theorem lL (k j:κ) (y:V):∀kvs:List (κ × V),valV kvs k=none->valV (kvs++[(k,y)]) j=if j=k then some y else valV kvs j
 | [],_=>by
  by_cases e:k=j
  ·rw [if_pos e.symm];exact ci (p:=(k,y)) e
  ·rw [if_neg (λz=>e z.symm)];exact cj (p:=(k,y)) e
 | p::r,hn=>by
  rw [List.cons_append]
  have hk:¬p.1=k:=λz=>by rw [ci z]at hn;cases hn
  rw [cj hk]at hn
  have ih:=lL k j y r hn
  by_cases e:p.1=j
  ·rw [ci e,ci e,if_neg (λz=>hk (e.trans z))]
  ·rw [cj e,cj e,ih]
theorem fL (kvs:List (κ × V)) (k j:κ) (y:V):valV (cH kvs k y) j=if j=k then some y else valV kvs j:=by
 unfold cH
 by_cases a:(kvs.any λkv=>decide (kv.1=k))=true
 ·rw [if_pos a,o7]
  rw [fM]at a
  by_cases e:j=k
  ·obtain⟨x,hx⟩:=Option.isSome_iff_exists.mp a
   rw [if_pos e,e,hx,Option.map_some,if_pos rfl]
  ·rw [if_neg e]
   cases valV kvs j with
   | none=>rfl
   | some x=>rw [Option.map_some,if_neg e]
 ·rw [if_neg a]
  refine lL k j y kvs ?_
  rw [fM]at a
  cases q:valV kvs k with
  | none=>rfl
  | some x=>rw [q]at a;exact(a rfl).elim
theorem du (kvs:List (κ × V)) (k:κ) (v:V):(cH kvs k v).length<=kvs.length+1:=by
 unfold cH
 split
 ·rw [List.length_map];omega
 ·rw [List.length_append,List.length_cons,List.length_nil];omega
theorem fJ.isSome_eq {o:Option V}{u:Option Value} (r:fJ o u):o.isSome=u.isSome:=by
 cases o with
 | none=>cases u with
  | none=>rfl
  | some _=>exact(show False from r).elim
 | some _=>cases u with
  | none=>exact(show False from r).elim
  | some _=>rfl
theorem fJ.getD {o:Option V}{u:Option Value}{d:V}{d':Value} (r:fJ o u) (rd:aU d d'):aU (o.getD d) (u.getD d'):=by
 cases o with
 | none=>cases u with
  | none=>exact rd
  | some _=>exact(show False from r).elim
 | some _=>cases u with
  | none=>exact(show False from r).elim
  | some _=>exact r
theorem KV.val {kvs:List (κ × V)}{vs:List (κ × Value)} (r:KV kvs vs) (k:κ):fJ (valV kvs k) (valueAt vs k):=by
 unfold KV at r
 induction r with
 | nil=>exact True.intro
 | @cons p q ps qs h t ih=>
  obtain⟨h1,h2⟩:=h
  by_cases e:p.1=k
  ·have e':q.1=k:=h1.symm.trans e
   have b:valueAt (q::qs) k=some q.2:=by simp [valueAt,List.find?_cons,e']
   rw [ci e,b];exact h2
  ·have e':¬q.1=k:=λz=>e (h1.trans z)
   have b:valueAt (q::qs) k=valueAt qs k:=by simp [valueAt,List.find?_cons,e']
   rw [cj e,b];exact ih
theorem KV.any {kvs:List (κ × V)}{vs:List (κ × Value)} (r:KV kvs vs) (k:κ):(kvs.any λkv=>decide (kv.1=k))=vs.any λkv=>decide (kv.1=k):=by
 unfold KV at r
 induction r with
 | nil=>rfl
 | cons h t ih=>rw [List.any_cons,List.any_cons,ih,h.1]
theorem KV.repl {kvs:List (κ × V)}{vs:List (κ × Value)} (r:KV kvs vs) (k:κ){y:V}{u:Value} (ry:aU y u) :
  KV (kvs.map λkv=>if kv.1=k then (kv.1,y) else kv) (vs.map λkv=>if kv.1=k then (kv.1,u) else kv):=by
 unfold KV at r ⊢
 induction r with
 | nil=>exact .nil
 | @cons p q ps qs h t ih=>
  rw [List.map_cons,List.map_cons]
  refine .cons ?_ ih
  obtain⟨h1,h2⟩:=h
  by_cases e:p.1=k
  ·rw [if_pos e,if_pos (h1.symm.trans e)];exact⟨h1,ry⟩
  ·rw [if_neg e,if_neg (λz=>e (h1.trans z))];exact⟨h1,h2⟩
theorem KV.put {kvs:List (κ × V)}{vs:List (κ × Value)} (r:KV kvs vs) (k:κ){y:V}{u:Value} (ry:aU y u):KV (cH kvs k y) (stored vs k u):=by
 unfold cH stored
 rw [r.any k]
 by_cases e:(vs.any λkv=>decide (kv.1=k))=true
 ·rw [if_pos e,if_pos e];exact r.repl k ry
 ·rw [if_neg e,if_neg e];exact Paired.snoc r ⟨rfl,ry⟩
theorem KV.keys {kvs:List (κ × V)}{vs:List (κ × Value)} (r:KV kvs vs):kvs.map (·.1)=vs.map (·.1):=by
 unfold KV at r
 induction r with
 | nil=>rfl
 | cons h t ih=>rw [List.map_cons,List.map_cons,ih,h.1]
theorem KV.length {kvs:List (κ × V)}{vs:List (κ × Value)} (r:KV kvs vs):kvs.length=vs.length:=Paired.length r
end
theorem jA {P:Program}{w:World}{k:Key}{u:Value} (r:aU (kV k) u):(be P w).is k u=true:=by
 cases k with
 | inl i=>obtain⟨t,e⟩:=(show ∃t,u=Value.int i t from r);subst e;exact oI P w i t
 | inr x=>obtain⟨t,e⟩:=(show ∃t,u=Value.str x t from r);subst e;exact oH P w x t
theorem mE {P:Program}{w:World}:∀{ks:List Key}{us:List Value},aR (ks.map kV) us->ItemsAre (be P w) ks us
 | [],_,r=>by rw [List.map_nil]at r;cases r;exact .nil
 | k::ks,_,r=>by
  rw [List.map_cons]at r
  cases r with
  | cons h t=>exact .cons (jA h) (mE t)
noncomputable abbrev KT (H:Hp):List (List Key × V)->List (List Key × Addr × Value)->Prop:=Paired λp q=>p.1=q.1/\H q.2.1=some (.tup (p.1.map kV))/\aU p.2 q.2.2
theorem KT.val {H:Hp}{kvs:List (List Key × V)}{xs:List (List Key × Addr × Value)} (r:KT H kvs xs) (k:List Key):fJ (valV kvs k) ((atKey xs k).map (·.2)):=by
 induction r with
 | nil=>exact True.intro
 | @cons p q ps qs h t ih=>
  obtain⟨h1,_,h2⟩:=h
  by_cases e:p.1=k
  ·have e':q.1=k:=h1.symm.trans e
   have b:atKey (q::qs) k=some q.2:=by simp [atKey,List.find?_cons,e']
   rw [ci e,b];exact h2
  ·have e':¬q.1=k:=λz=>e (h1.trans z)
   have b:atKey (q::qs) k=atKey qs k:=by simp [atKey,List.find?_cons,e']
   rw [cj e,b];exact ih
theorem KT.repl {H:Hp}{kvs:List (List Key × V)}{xs:List (List Key × Addr × Value)} (r:KT H kvs xs) (k:List Key){y:V}{u:Value} (ry:aU y u) :
  KT H (kvs.map λkv=>if kv.1=k then (kv.1,y) else kv) (xs.map (putAt k u)):=by
 induction r with
 | nil=>exact .nil
 | @cons p q ps qs h t ih=>
  rw [List.map_cons,List.map_cons]
  refine .cons ?_ ih
  obtain⟨h1,h2,h3⟩:=h
  unfold putAt
  by_cases e:p.1=k
  ·rw [if_pos e,if_pos (h1.symm.trans e)];exact⟨h1,h2,ry⟩
  ·rw [if_neg e,if_neg (λz=>e (h1.trans z))];exact⟨h1,h2,h3⟩
theorem KT.put {H:Hp}{kvs:List (List Key × V)}{xs:List (List Key × Addr × Value)} (r:KT H kvs xs) (k:List Key){b:Addr}{y:V}{u:Value} (hb:H b=some (.tup (k.map kV))) (ry:aU y u) :
  KT H (cH kvs k y) (storedH xs k b u):=by
 have e:(kvs.any λkv=>decide (kv.1=k))=(atKey xs k).isSome:=by
  rw [fM,(r.val k).isSome_eq,Option.isSome_map]
 unfold cH storedH
 rw [e]
 by_cases q:(atKey xs k).isSome=true
 ·rw [if_pos q,if_pos q];exact r.repl k ry
 ·rw [if_neg q,if_neg q];exact Paired.snoc r ⟨rfl,hb,ry⟩
theorem KT.keeps {H H':Hp}{kvs:List (List Key × V)}{xs:List (List Key × Addr × Value)} (r:KT H kvs xs) (ht:∀b ys,H b=some (.tup ys)->H' b=some (.tup ys)):KT H' kvs xs:=
 Paired.mapP r λ_ _ z=>⟨z.1,ht _ _ z.2.1,z.2.2⟩
section
variable {P:Program}{w:World}{H:Hp}{h:Heap}{a:Addr}
theorem wX {u:HO} (ok:HOk P w H h) (e:Rd H a u):bG P w H h a u:=e.ok ok
theorem li {kvs:List (Key × V)} (ok:HOk P w H h) (e:Rd H a (.dK kvs)):kvs.length<=sizeLine/\(a == sysModules)=false/\∃vs,KV kvs vs/\h.DictOf (be P w) a vs:=
 show bG P w H h a (.dK kvs) from wX ok e
theorem uU {kvs:List (Key × V)} (ok:HOk P w H h) (e:H a=some (.dK kvs)):kvs.length<=sizeLine/\(a == sysModules)=false/\∃vs,KV kvs vs/\h.DictOf (be P w) a vs:=li ok (.inl e)
theorem jp {ks:List Key} (ok:HOk P w H h) (e:H a=some (.tup (ks.map kV))):(tupleKind (be P w)).is h ks a:=by
 obtain⟨_,its,r,o,h1,h2,n,h3⟩:=(show bG P w H h a (.tup (ks.map kV)) from ok a _ e)
 exact⟨o,its.toArray,n,h1,h2,h3,by simpa using mE r⟩
theorem lh {kvs:List (List Key × V)} (ok:HOk P w H h) (e:Rd H a (.dT kvs)):kvs.length<=sizeLine/\(a == sysModules)=false/\
  ∃xs,KT H kvs xs/\h.DictOfH (tupleKind (be P w)) a xs:=by
 obtain⟨z,y,xs,r,o,es,ep,h1,h2,h3,h4,h5⟩:=(show bG P w H h a (.dT kvs) from wX ok e)
 refine⟨z,y,xs,r,o,es,ep,h1,h2,h3,h4,λx hx=>?_,h5⟩
 have all:∀{l:List (List Key × V)}{m:List (List Key × Addr × Value)},KT H l m->∀x∈m,(tupleKind (be P w)).is h x.1 x.2.1:=by
  intro l m q
  induction q with
  | nil=>intro x hx;exact nomatch hx
  | @cons p q ps qs hq t ih=>
   intro x hx
   rcases List.mem_cons.mp hx with e | hx
   ·subst e
    exact jp ok (by rw [<- hq.1];exact hq.2.1)
   ·exact ih x hx
 exact all r x hx
theorem yP {kvs:List (List Key × V)} (ok:HOk P w H h) (e:H a=some (.dT kvs)):kvs.length<=sizeLine/\(a == sysModules)=false/\
  ∃xs,KT H kvs xs/\h.DictOfH (tupleKind (be P w)) a xs:=lh ok (.inl e)
end
noncomputable def cQ (H:Hp) (a:Addr) (y:V) (r:Option V):Prop:=
 (∃kvs k,Rd H a (.dK kvs)/\y=kV k/\r=valV kvs k)\/∃kvs k b,Rd H a (.dT kvs)/\y=.ref b/\H b=some (.tup (k.map kV))/\r=valV kvs k
noncomputable def qj (H:Hp) (a:Addr) (y v:V) (H':Hp):Prop:=
 (∃kvs k,H a=some (.dK kvs)/\y=kV k/\kvs.length < sizeLine/\H'=upd H a (.dK (cH kvs k v)))\/
 ∃kvs k b,H a=some (.dT kvs)/\y=.ref b/\H b=some (.tup (k.map kV))/\kvs.length < sizeLine/\H'=upd H a (.dT (cH kvs k v))
theorem cQ.k {H:Hp}{a:Addr}{kvs:List (Key × V)}{k:Key} (e:H a=some (.dK kvs)):cQ H a (kV k) (valV kvs k):=.inl ⟨kvs,k,.inl e,rfl,rfl⟩
theorem qj.k {H:Hp}{a:Addr}{kvs:List (Key × V)}{k:Key}{v:V} (e:H a=some (.dK kvs)) (hl:kvs.length < sizeLine):qj H a (kV k) v (upd H a (.dK (cH kvs k v))):=.inl ⟨kvs,k,e,rfl,hl,rfl⟩
section
variable {X:Cx}{pins:List (Addr × Obj)}{σ:St}{H:Hp}{s:Shared}{a:Addr}{y v:V}{u r:Value}{o:Option V}{A:Around}{E:Value->Shared->Prop}
theorem Inv.big (I:Inv X pins σ H s):sysModules < s.heap.objs.size:=by
 have h:mainGlobals < s.heap.objs.size:=(I.mod.glob.keeps I.bk).lt
 exact Nat.lt_trans (by decide) h
theorem sO {Q:Value->Shared->Prop} (hu:A.units+1 < cLine) (I:Inv X pins σ H s) (g:cQ H a y (some v)) (ry:aU y u) (h:∀w' s',Inv X pins σ H s'->aU v w'->Q w' s') :
  wpAny (model X.prog X.w) A (getItem (.ref a) u) Q E s:=by
 rcases g with⟨kvs,k,e,ey,l⟩ | ⟨kvs,k,b,e,ey,eb,l⟩
 ·subst ey
  obtain⟨z,hd,vs,rel,dd⟩:=li I.hok e
  obtain⟨w',hw,rw'⟩:=fJ.some_of (v:=v) (o:=valueAt vs k) (by rw [l];exact rel.val k)
  exact wpAny_getItem_of (jA ry) dd.mapOf hw (h w' _ (I.tok _) rw')
 ·subst ey
  cases (show u=Value.ref b from ry)
  obtain⟨z,hd,xs,rel,dd⟩:=lh I.hok e
  obtain⟨w',hw,rw'⟩:=fJ.some_of (v:=v) (o:=(atKey xs k).map (·.2)) (by rw [l];exact rel.val k)
  obtain⟨p,hp,hp2⟩:=Option.map_eq_some_iff.mp hw
  refine wpAny_getItem_heap (tupleKind_room_in1 hu) (jp I.hok eb) dd hp ?_
  rw [hp2]
  exact h w' _ (I.tok _) rw'
theorem zu {Q:Value->Shared->Prop} (hu:A.units+1 < cLine) (I:Inv X pins σ H s) (g:cQ H a y o) (ry:aU y u) (h:∀s',Inv X pins σ H s'->Q (.bool o.isSome) s') :
  wpAny (model X.prog X.w) A (compareOp .In u (.ref a)) Q E s:=by
 rcases g with⟨kvs,k,e,ey,l⟩ | ⟨kvs,k,b,e,ey,eb,l⟩
 ·subst ey
  obtain⟨z,hd,vs,rel,dd⟩:=li I.hok e
  refine wpAny_in_of (jA ry) hd dd.mapOf ?_
  rw [<- (rel.val k).isSome_eq,<- l]
  exact h _ (I.tok _)
 ·subst ey
  cases (show u=Value.ref b from ry)
  obtain⟨z,hd,xs,rel,dd⟩:=lh I.hok e
  refine wpAny_in_heap (tupleKind_room_in1 hu) (jp I.hok eb) hd dd ?_
  have q:=(rel.val k).isSome_eq
  rw [Option.isSome_map]at q
  rw [<- q,<- l]
  exact h _ (I.tok _)
theorem wJ {Q:Value->Shared->Prop} (hu:A.units+1 < cLine) (I:Inv X pins σ H s) (g:cQ H a y o) (ry:aU y u) (h:∀s',Inv X pins σ H s'->Q (.bool (!o.isSome)) s') :
  wpAny (model X.prog X.w) A (compareOp .NotIn u (.ref a)) Q E s:=by
 rcases g with⟨kvs,k,e,ey,l⟩ | ⟨kvs,k,b,e,ey,eb,l⟩
 ·subst ey
  obtain⟨z,hd,vs,rel,dd⟩:=li I.hok e
  refine wpAny_notIn_of (jA ry) hd dd.mapOf ?_
  rw [<- (rel.val k).isSome_eq,<- l]
  exact h _ (I.tok _)
 ·subst ey
  cases (show u=Value.ref b from ry)
  obtain⟨z,hd,xs,rel,dd⟩:=lh I.hok e
  refine wpAny_notIn_heap (tupleKind_room_in1 hu) (jp I.hok eb) hd dd ?_
  have q:=(rel.val k).isSome_eq
  rw [Option.isSome_map]at q
  rw [<- q,<- l]
  exact h _ (I.tok _)
theorem nR {h':Heap}{t':Nat}{ob:HO} (I:Inv X pins σ H s) (mu:Mut (H a)) (hs:Heap.SameBut a s.heap h') (he:∃q,h'.get? a=some q) (new:bG X.prog X.w (upd H a ob) h' a ob) :
  Inv X pins σ (upd H a ob) { s with heap:=h',toks:=t' }:=
 I.write (x:=a) (e:=a) mu (.inl rfl) (λb q hb z=>(hs.2 b hb).trans z) he new
theorem nM {P:Program}{w:World}{H':Hp}{h':Heap}{kvs:List (Key × V)}{vs:List (Key × Value)} (z:kvs.length<=sizeLine) (hd:(a == sysModules)=false) (rel:KV kvs vs) (dd:h'.DictOf (be P w) a vs) :
  bG P w H' h' a (.dK kvs):=⟨z,hd,vs,rel,dd⟩
theorem sN {H':Hp}{Q:Unit->Shared->Prop} (hu:A.units+1 < cLine) (I:Inv X pins σ H s) (g:qj H a y v H') (ry:aU y u) (rv:aU v r) (h:∀s',Inv X pins σ H' s'->Q () s') :
  wpAny (model X.prog X.w) A (setItem (.ref a) u r) Q E s:=by
 rcases g with⟨kvs,k,e,ey,l,eH⟩ | ⟨kvs,k,b,e,ey,eb,l,eH⟩
 ·subst ey eH
  obtain⟨z,hd,vs,rel,dd⟩:=uU I.hok e
  have hz:vs.length<=sizeLine:=by rw [<- rel.length];exact z
  have hl:(cH kvs k v).length<=sizeLine:=by have:=du kvs k v;omega
  refine wpAny_setItem_pairs (hsz:=hz) (jA ry) dd λh' dd' hs=>h _ ?_
  have he:∃q,h'.get? a=some q:=let ⟨q,_,_,hq,_⟩:=dd';⟨q,hq⟩
  exact nR I (by rw [e];exact True.intro) hs he (nM hl hd (rel.put k rv) dd')
 ·subst ey eH
  cases (show u=Value.ref b from ry)
  obtain⟨z,hd,xs,rel,dd⟩:=yP I.hok e
  have hz:xs.length<=sizeLine:=by rw [<- Paired.length rel];exact z
  have hl:(cH kvs k v).length<=sizeLine:=by have:=du kvs k v;omega
  refine wpAny_setItem_heap (hsz:=hz) (tupleKind_room_in1 hu) (jp I.hok eb) dd λh' dd' hs=>h _ ?_
  obtain⟨q,es,ep,hq,h2,h3,h4,_,h5⟩:=dd'
  refine nR I (by rw [e];exact True.intro) hs ⟨q,hq⟩ ⟨hl,hd,_,(rel.put k eb rv).keeps λc ys ec=>?_,q,es,ep,hq,h2,h3,h4,h5⟩
  rw [ag (aD ec e (λz=>nomatch z))]
  exact ec
end
section
variable {X:Cx}{pins:List (Addr × Obj)}{σ:St}{H:Hp}{s:Shared}{a:Addr}{kvs:List (Key × V)}{k:Key}{u:Value}{A:Around}{E:Value->Shared->Prop}
end
noncomputable def yV (i:Expr):Prop:=∀ov iv,subscripted i false ov iv=operate [ov,iv] (getItem ov iv)
theorem vt {prog:Program}{w:World}{A:Around}{E:Value->Shared->Prop}{s:Shared}{env:Env}{value slice:Expr}{pos:Pos}{T id:String}{Q:Value->Shared->Prop}
  (hl:typeLookup (.type T) "__getitem__" = pure (some (.builtin id))) (hs:yV slice)
  (h:wpAny (model prog w) A (eval value env) (λo s₁=>wpAny (model prog w) A (eval slice env) (λi s₂=>s₂.TypeIs o T/\wpAny (model prog w) A (getItem o i) Q E s₂) E s₁) E s) :
  wpAny (model prog w) A (eval (.Subscript value slice pos) env) Q E s:=by
 refine Subscript_ (wpAny_mono h (λo s₁ h₁=>wpAny_mono h₁ (λi s₂ h₂=>?_) λ_ _ x=>x) λ_ _ x=>x)
 obtain⟨hT,h₂⟩:=h₂
 unfold subscriptTail
 refine wpAny_bind ?_
 rw [getitemInPython_of_ne hT.not_modules]
 refine wpAny_bind (wpAny_specialOf hT hl ?_)
 have fin:wpAny (model prog w) A (subscripted slice false o i) (λr s₃=>wpAny (model prog w) A (letTemporaryGo value o r >>= λ_=>pure r) Q E s₃) E s₂:=by
  rw [hs o i]
  exact wpAny_operating (wpAny_mono h₂ (λr s₃ h₃=>wpAny_bind (wpAny_letTemporaryGo (wpAny_pure h₃))) λ_ _ x=>x)
 first
  | exact wpAny_pure (wpAny_bind fin)
  | exact wpAny_bind (wpAny_pure (wpAny_bind fin))
  | exact wpAny_bind fin
theorem oP {X:Cx}{pins:List (Addr × Obj)}{σ:St}{H:Hp}{s:Shared}{a:Addr}{y:V}{o:Option V} (I:Inv X pins σ H s) (g:cQ H a y o):s.TypeIs (.ref a) "dict":=by
 rcases g with⟨kvs,k,e,_,_⟩ | ⟨kvs,k,b,e,_,_,_⟩
 ·obtain⟨_,_,vs,_,dd⟩:=li I.hok e
  exact dd.typeIs
 ·obtain⟨_,_,xs,_,dd⟩:=lh I.hok e
  exact dd.typeIs
noncomputable def yw (td ty:TE):TE:=λσ H Q=>td σ H λx H1=>ty σ H1 λy H2=>∃a v,x=.ref a/\cQ H2 a y (some v)/\Q v H2
noncomputable def zd (ty td:TE):TE:=λσ H Q=>ty σ H λy H1=>td σ H1 λx H2=>∃a o,x=.ref a/\cQ H2 a y o/\Q (.bl o.isSome) H2
noncomputable def vq (ty td:TE):TE:=λσ H Q=>ty σ H λy H1=>td σ H1 λx H2=>∃a o,x=.ref a/\cQ H2 a y o/\Q (.bl (!o.isSome)) H2
noncomputable def yF (td ty tv:TE):TS:=λD σ H=>tv σ H λv H1=>td σ H1 λx H2=>ty σ H2 λy H3=>∃a H4,x=.ref a/\qj H3 a y v H4/\D.nx σ H4
section
variable {X:Cx}{o i e value:Expr}{pos pos' tpos:Pos}{td ty tv:TE}
theorem bZ (hu:X.A.units+1 < cLine) (ho:PE X o td) (hi:PE X i ty) (hs:yV i):PE X (.Subscript o i pos) (yw td ty):=by
 intro pins s σ H Q I h
 refine vt PySem.F.slot_dict_getitem.lookup hs (thn (ho pins s σ H _ I h) λu s1 ⟨x,H1,I1,rx,q1⟩=>thn (hi pins s1 σ H1 _ I1 q1) λiv s2 ⟨y,H2,I2,ry,a,v,ex,g,q2⟩=>?_)
 subst ex
 obtain rfl:u=Value.ref a:=rx
 exact⟨oP I2 g,sO hu I2 g ry λw' s3 I3 rw'=>⟨v,H2,I3,rw',q2⟩⟩
theorem xM (hu:X.A.units+1 < cLine) (hi:PE X i ty) (ho:PE X o td):PC X .In i o (zd ty td):=by
 intro pins s σ H Q I h
 refine thn (hi pins s σ H _ I h) λiv s1 ⟨y,H1,I1,ry,q1⟩=>thn (ho pins s1 σ H1 _ I1 q1) λu s2 ⟨x,H2,I2,rx,a,ov,ex,g,q2⟩=>?_
 subst ex
 obtain rfl:u=Value.ref a:=rx
 exact zu hu I2 g ry λs3 I3=>⟨.bl ov.isSome,H2,I3,rfl,q2⟩
theorem mw (hu:X.A.units+1 < cLine) (hi:PE X i ty) (ho:PE X o td):PC X .NotIn i o (vq ty td):=by
 intro pins s σ H Q I h
 refine thn (hi pins s σ H _ I h) λiv s1 ⟨y,H1,I1,ry,q1⟩=>thn (ho pins s1 σ H1 _ I1 q1) λu s2 ⟨x,H2,I2,rx,a,ov,ex,g,q2⟩=>?_
 subst ex
 obtain rfl:u=Value.ref a:=rx
 exact wJ hu I2 g ry λs3 I3=>⟨.bl (!ov.isSome),H2,I3,rfl,q2⟩
theorem nB (hu:X.A.units+1 < cLine) (ho:PE X o td) (hi:PE X i ty) (hv:PE X value tv) (hs:swapsWith value (some (.Subscript o i pos')) pos.line X.env=pure false) :
  PS X (.Assign [.Subscript o i pos'] value pos) (yF td ty tv):=by
 intro pins s σ H D I h
 refine wpAny_Assign_Subscript (thn (hv pins s σ H _ I h) λr s1 ⟨v,H1,I1,rv,q1⟩=>thn (ho pins s1 σ H1 _ I1 q1) λu s2 ⟨x,H2,I2,rx,q2⟩=>thn (hi pins s2 σ H2 _ I2 q2) λiv s3 ⟨y,H3,I3,ry,a,H4,ex,g,q3⟩=>?_) hs
 subst ex
 obtain rfl:u=Value.ref a:=rx
 exact sN hu I3 g ry rv λs4 I4=>⟨σ,H4,I4,q3⟩
end
theorem oO {P:Program}{w:World}{H:Hp} (h:Heap) (hb:sysModules < h.objs.size):bG P w H (h.push { cls:=.type "dict", data:=.dict #[] }) h.objs.size (.dK []):=
 ⟨Nat.zero_le _,beq_eq_false_iff_ne.mpr (Ne.symm (Nat.ne_of_lt hb)),[],.nil,Heap.DictOf.new h⟩
noncomputable def xm:TE:=λ_ H Q=>∀p,H p=none->Q (.ref p) (upd H p (.dK []))
section
variable {X:Cx}{pos:Pos}
theorem oC:PE X (.Dict [] [] pos) xm:=λpins s σ H Q I h=>
 wpAny_Dict_empty ⟨.ref s.heap.objs.size,_,I.laid (a:=s.heap.objs.size) (o:=.dK []) (t':=s.toks) (λ_ _ q=>Heap.get?_push_of_some _ q) (Nat.le_refl _) (oO s.heap I.big),rfl,h _ (I.hok.fresh (Nat.le_refl _))⟩
end
noncomputable def p7:List (TE × TE)->St->Hp->(List (V × V)->Hp->Prop)->Prop
 | [],_,H,Q=>Q [] H
 | (tk,tv)::r,σ,H,Q=>tk σ H λx H1=>tv σ H1 λy H2=>p7 r σ H2 λps H3=>Q ((x,y)::ps) H3
noncomputable abbrev VV:List (V × V)->List (Value × Value)->Prop:=Paired λp q=>aU p.1 q.1/\aU p.2 q.2
noncomputable def PPs (X:Cx) (pos:Pos) (keys:List (Option Expr)) (values:List Expr) (trs:List (TE × TE)):Prop:=
 ∀(pins:List (Addr × Obj)) (s:Shared) (σ:St) (H:Hp) (Q:List (V × V)->Hp->Prop),Inv X pins σ H s->p7 trs σ H Q->
  wpAny (model X.prog X.w) X.A (evalPairs (pairTrees keys values X.env pos)) (λvs s'=>∃ps H',Inv X pins σ H' s'/\VV ps vs/\Q ps H') X.xe s
theorem vP {X:Cx}{pos:Pos}:PPs X pos [] [] []:=λpins s σ H Q I h=>pairTrees_nil_walk ⟨[],H,I,.nil,h⟩
theorem iI {X:Cx}{pos:Pos}{k v:Expr}{ks:List (Option Expr)}{vs:List Expr}{tk tv:TE}{trs:List (TE × TE)} (hk:PE X k tk) (hv:PE X v tv) (hr:PPs X pos ks vs trs) :
  PPs X pos (some k::ks) (v::vs) ((tk,tv)::trs):=λpins s σ H Q I h=>
 pairTrees_cons_walk (thn (hk pins s σ H _ I h) λu s1 ⟨x,H1,I1,rx,q1⟩=>thn (hv pins s1 σ H1 _ I1 q1) λw2 s2 ⟨y,H2,I2,ry,q2⟩=>
  thn (hr pins s2 σ H2 _ I2 q2) λws s3 ⟨ps,H3,I3,rel,q3⟩=>⟨(x,y)::ps,H3,I3,.cons ⟨rx,ry⟩ rel,q3⟩)
noncomputable def jn (kvs more:List (Key × V)):List (Key × V):=more.foldl (λacc kv=>cH acc kv.1 kv.2) kvs
theorem KV.merge:∀{more:List (Key × V)}{rs:List (Key × Value)}{kvs:List (Key × V)}{vs:List (Key × Value)},KV more rs->KV kvs vs->KV (jn kvs more) (merged vs rs):=by
 intro more rs kvs vs r
 unfold KV at r
 induction r generalizing kvs vs with
 | nil=>intro q;exact q
 | @cons p q ps qs h t ih=>
  intro r0
  have e:KV (cH kvs p.1 p.2) (stored vs q.1 q.2):=by
   have:=r0.put p.1 h.2
   rw [<- h.1];exact this
  exact ih e
theorem hU:∀(more kvs:List (Key × V)),(jn kvs more).length<=kvs.length+more.length
 | [],kvs=>by show kvs.length<=kvs.length+0;omega
 | p::r,kvs=>by
  have h1:=hU r (cH kvs p.1 p.2)
  have h2:=du kvs p.1 p.2
  show (jn (cH kvs p.1 p.2) r).length<=_
  rw [List.length_cons];omega
theorem ly {P:Program}{w:World}:∀{kvs:List (Key × V)}{ws:List (Value × Value)},VV (kvs.map λkv=>(kV kv.1,kv.2)) ws->∃rs,Carries (be P w) ws rs/\KV kvs rs
 | [],_,r=>by rw [List.map_nil]at r;cases r;exact⟨[],True.intro,.nil⟩
 | p::kvs,_,r=>by
  rw [List.map_cons]at r
  cases r with
  | @cons a b as bs h t=>
   obtain⟨rs,c,q⟩:=ly (P:=P) (w:=w) t
   obtain⟨b1,b2⟩:=b
   exact⟨(p.1,b2)::rs,⟨jA h.1,rfl,c⟩,.cons ⟨rfl,h.2⟩ q⟩
noncomputable def yv (trs:List (TE × TE)):TE:=λσ H Q=>∀p,H p=none->p7 trs σ (upd H p (.dK [])) λps H2=>H2 p=some (.dK [])/\∃kvs:List (Key × V),ps=kvs.map (λkv=>(kV kv.1,kv.2))/\kvs.length<=15/\Q (.ref p) (upd H2 p (.dK (jn [] kvs)))
theorem vU {X:Cx}{pos:Pos}{keys:List (Option Expr)}{values:List Expr}{trs:List (TE × TE)} (h:PPs X pos keys values trs) (hall:keys.all (·.isSome)=true) (hl:keys.length=values.length) (h0:keys≠[])
  (h15:keys.length<=15):PE X (.Dict keys values pos) (yv trs):=by
 intro pins s σ H Q I q
 have hn:=I.hok.fresh (Nat.le_refl s.heap.objs.size)
 have I1:=I.laid (a:=s.heap.objs.size) (o:=.dK []) (h':=s.heap.push { cls:=.type "dict", data:=.dict #[] }) (t':=s.toks) (λ_ _ q=>Heap.get?_push_of_some _ q) (Nat.le_refl _) (oO s.heap I.big)
 refine wpAny_Dict_walk (knd:=be X.prog X.w) hall hl h0 h15 (thn (h pins _ σ _ _ I1 (q _ hn)) λws s2 ⟨ps,H2,I2,rel,e,kvs,ep,lk,q2⟩=>?_)
 subst ep
 obtain⟨rs,c,rk⟩:=ly (P:=X.prog) (w:=X.w) rel
 obtain⟨z,hd,vs0,r0,dd⟩:=uU I2.hok e
 cases r0
 refine⟨rs,c,dd,λh' dd' hs=>⟨.ref s.heap.objs.size,_,?_,rfl,q2⟩⟩
 have hz:(jn [] kvs).length<=sizeLine:=by
  have h1:=hU kvs []
  rw [List.length_nil]at h1
  rw [sizeLine_eq];omega
 have he:∃q,h'.get? s.heap.objs.size=some q:=let ⟨q,_,_,hq,_⟩:=dd';⟨q,hq⟩
 exact nR I2 (by rw [e];exact True.intro) hs he (nM hz hd (rk.merge .nil) dd')
structure M1 (X:Cx) (o:Expr) (m:Str) (apos:Pos) (e:Expr) (cpos:Pos):Prop where
 base:attributeBase o m X.env (eval o X.env)=eval o X.env
 few:((backTo cpos (starEach [e] X.env)).all (λx=>!x.1) && (backToKw cpos (keywordEach [] X.env)).all (λx=>x.1.isSome)
  && decide (([e]:List Expr).length+([]:List Keyword).length+(if ([]:List Keyword).isEmpty then 0 else 1) < 30))=true
 line:(apos.endLine == cpos.line)=true
 trees:backTo cpos (starEach [e] X.env)=[(false,eval e X.env)]
noncomputable def IsD (H:Hp) (a:Addr):Prop:=(∃kvs,Rd H a (.dK kvs))\/∃kvs,Rd H a (.dT kvs)
theorem xX {X:Cx}{pins:List (Addr × Obj)}{σ:St}{H:Hp}{s:Shared}{a:Addr} (I:Inv X pins σ H s) (d:IsD H a) :
  s.TypeIs (.ref a) "dict"/\(∀b,Value.ref a=.ref b->∃ob,s.heap.get? b=some ob/\ob.dict=none)/\(a == sysModules)=false:=by
 rcases d with⟨kvs,e⟩ | ⟨kvs,e⟩
 ·obtain⟨_,hd,vs,_,dd⟩:=li I.hok e
  refine⟨dd.typeIs,λb q=>?_,hd⟩
  cases q
  obtain⟨ob,_,_,h1,h2,_⟩:=dd
  exact⟨ob,h1,h2.2.1⟩
 ·obtain⟨_,hd,xs,_,dd⟩:=lh I.hok e
  refine⟨dd.typeIs,λb q=>?_,hd⟩
  cases q
  obtain⟨ob,_,_,h1,h2,_⟩:=dd
  exact⟨ob,h1,h2.2.1⟩
section
variable {X:Cx}{pins:List (Addr × Obj)}{σ:St}{H:Hp}{s:Shared}{a:Addr}{y d:V}{u r:Value}{o:Option V}{A:Around}{E:Value->Shared->Prop}
theorem y9 {Q:Value->Shared->Prop} (hu:A.units+1 < cLine) (I:Inv X pins σ H s) (g:cQ H a y o) (ry:aU y u) (h:∀w' s',Inv X pins σ H s'->aU (o.getD .non) w'->Q w' s') :
  wpAny (model X.prog X.w) A (call (.builtin "dict.get") [.ref a,u]) Q E s:=by
 rcases g with⟨kvs,k,e,ey,l⟩ | ⟨kvs,k,b,e,ey,eb,l⟩
 ·subst ey
  obtain⟨z,hd,vs,rel,dd⟩:=li I.hok e
  refine call_meetsIn PySem.F.slot_dict_get dd.typeIs PySem.F.entry_dict_get (PySem.F.args_dict_get_2 _ _) (meets_dict_get (be X.prog X.w) a (jA ry) hd) ⟨_,dd.mapOf,h _ _ (I.tok _) ?_⟩
  rw [l]
  exact(rel.val k).getD rfl
 ·subst ey
  cases (show u=Value.ref b from ry)
  obtain⟨z,hd,xs,rel,dd⟩:=lh I.hok e
  refine call_meetsIn PySem.F.slot_dict_get dd.typeIs PySem.F.entry_dict_get (PySem.F.args_dict_get_2 _ _) (meetsH_dict_get (tupleKind (be X.prog X.w)) a b hd) ⟨tupleKind_room_in1 hu,k,xs,jp I.hok eb,dd,h _ _ (I.tok _) ?_⟩
  rw [l]
  exact(rel.val k).getD rfl
end
noncomputable def xo (td ty:TE):TE:=λσ H Q=>td σ H λx H1=>∃a,x=.ref a/\IsD H1 a/\ty σ H1 λy H2=>∃o,cQ H2 a y o/\Q (o.getD .non) H2
section
variable {X:Cx}{o e f:Expr}{apos cpos:Pos}{td ty tx:TE}
theorem uc (hu:X.A.units+1 < cLine) (ho:PE X o td) (he:PE X e ty) (m:M1 X o "get" apos e cpos):PE X (.Call (.Attribute o "get" apos) [e] [] cpos) (xo td ty):=by
 intro pins s σ H Q I h
 refine wpAny_Call_method m.base m.few m.line PySem.F.plainAttrs_dict PySem.F.slot_dict_get PySem.F.type_dict_get (thn (ho pins s σ H _ I h) λu s1 ⟨x,H1,I1,rx,a,ex,d,q1⟩=>?_)
 subst ex
 obtain rfl:u=Value.ref a:=rx
 obtain⟨t1,t2,_⟩:=xX I1 d
 refine⟨t1,t2,?_⟩
 rw [m.trees]
 refine Calls.callWith_builtin rfl (Calls.evalArgs_plain (Calls.spliced_cons (thn (he pins s1 σ H1 _ I1 q1) λiv s2 ⟨y,H2,I2,ry,ov,g,q2⟩=>Calls.spliced_nil ?_)))
 exact y9 hu I2 g ry λw' s3 I3 rw'=>⟨_,H2,I3,rw',q2⟩
end
section
variable {X:Cx}{pins:List (Addr × Obj)}{σ:St}{H:Hp}{s:Shared}{a:Addr}{kvs:List (Key × V)}{A:Around}{E:Value->Shared->Prop}
end
section
variable {X:Cx}{pins:List (Addr × Obj)}{σ:St}{H:Hp}{s:Shared}{a:Addr}{y:V}{u:Value}{A:Around}{E:Value->Shared->Prop}
end
end L2
namespace Att
open PySem PySem.W PySem.Calls PyProof.Rows
theorem jF {P:Params}{h:Heap}:∀(ns:List Int) (vs:List Value),WellAll P h vs (ns.map WData.int)->IntsAre vs ns:=by
 intro ns
 induction ns with
 | nil=>
  intro vs w
  rw [List.map_nil]at w
  cases w
  exact .nil
 | cons n ns ih=>
  intro vs w
  rw [List.map_cons]at w
  cases w with
  | cons a b=>
   cases a
   exact .cons _ _ (ih _ b)
theorem rc {l:OpenLaw}{n:Nat} (hn:l.most=some n){P:Params}{h:Heap}{args:List WData}{vals:List Value}
  (hpre:l.row.toRowW.claim.pre args=true) (hwl:WellAll P h vals args) :
  ∃a vs ns,vals=[Value.ref a]/\args=[WData.list (ns.map WData.int)]/\h.get? a=some { cls:=.type "list", data:=.seq vs.toArray }/\IntsAre vs ns/\ns.length<=n:=by
 have hsh:WShape.hasAll [] args [.list .int]=true:=(pre_splitW hpre).1
 have hc:l.pre.holds [] { args:=args }=true:=(pre_splitW hpre).2
 obtain⟨d,r,rfl,h1,h2⟩:=hasAllW_cons hsh
 obtain rfl:=hasAllW_nil h2
 obtain⟨xs,rfl,h3⟩:=hasW_list h1
 obtain⟨ns,rfl⟩:=items_int h3
 have hlen:ns.length<=n:=by
  unfold OpenLaw.pre at hc
  have h4:(WTm.not (.lt (.lit (.int (n:Int))) (.len (.arg 0)))).holds [] { args:=[.list (ns.map .int)] }=true:=by
   have h4:=(holds_andW hc).1
   rw [hn]at h4
   exact h4
  have h5:=condW_of h4 (w_not (w_lt w_lit (w_len_list (w_arg rfl))))
  rw [List.length_map]at h5
  refine Nat.le_of_not_lt λq=>?_
  have q':(n:Int) < ((ns.length:Nat):Int):=by omega
  first
   | (rw [decide_eq_true q']at h5;exact absurd h5 (by decide))
   | (simp at h5;omega)
 cases hwl with
 | cons w1 w2=>
  cases w2
  cases w1 with
  | list ho hall=>exact⟨_,_,ns,rfl,rfl,ho,jF ns _ hall,hlen⟩
theorem rJ (l:OpenLaw) (args:List WData):l.row.toRowW.claim.post args (.bool true) args=true:=
 postW_of (r:=l.row.toRowW) (X:=(true == true))
  (show WShape.has [] (.bool true) .bool=true by first | rfl | decide | simp [WShape.has,WShape.arms,WShape.armsAll])
  (show (WTm.eq .res (.lit (.bool true))).value [] { args:=args,res:=some (.bool true),after:=args }=some (.bool (true == true)) from w_eq_bool (w_res rfl) w_lit) rfl
theorem attach_call {l:OpenLaw}{n:Nat}{q:Program}{loose:List Str}{XP:(Str->Option Value)->Heap->Prop}{YP:World->Heap->Prop}{d:DefRec}
  (hn:l.most=some n) (hdf:d.params.defaults=[])
  (call:∀(w:World) (s₀ s₁:Shared) (mg mb:Str->Option Value) (fa:Addr) (o:Obj) (pm cd doc:Value) (a:Addr) (vs:List Value) (ns:List Int),
   Ground q loose [] XP w s₀ mg mb s₁.heap->YP w s₁.heap->
   s₁.heap.get? fa=some o->o.data=.func (docDef d.name d.params d.body d.scope pm cd doc)->s₁.heap.CodeRec cd d.name->mg d.name=some (.ref fa)->
   s₁.heap.get? a=some { cls:=.type "list", data:=.seq vs.toArray }->IntsAre vs ns->ns.length<=n->s₁.gens = #[]->
   codeAny (model l.prog w) callerA (.call (.ref fa) ⟨[.ref a],[]⟩) (λr s'=>r=.ok (.ret (.bool true))/\OldK s₁.heap s'.heap/\s'.os=s₁.os/\AllBare s'.gens) s₁) :
  WalkO q loose XP YP l.row.toRowW d [] (λf vs=>PySem.call f vs):=by
 intro w s₀ s₁ mg mb G Y fa o pm cd doc dV kV ho hd hcd hD hmg hg args vals as hpre hlay hrd hwl hlo
 obtain rfl:dV=.none:=Dflts.none hD hdf
 obtain rfl:kV=.none:=Dflts.noKw hD
 obtain⟨a,vs,ns,rfl,rfl,hobj,hints,hlen⟩:=rc hn hpre hwl
 refine enter_call (codeAny_mono (call w s₀ s₁ mg mb fa o pm cd doc a vs ns G Y ho (fd_plain hd) hcd hmg hobj hints hlen hg) λr s' hq=>?_)
 obtain⟨rfl,h2,h3,h4⟩:=hq
 exact⟨.inl ⟨.bool true,.bool true,[],rfl,λ_=>rfl,.bool true,rJ l _,λ_=>⟨List.Pairwise.nil,λ_ hm=>(nomatch hm)⟩⟩,h2,h3,h4⟩
section
variable {prog:Program}{w:World}{A:Around}{E:Value->Shared->Prop}{s:Shared}{K:Frag}
noncomputable def noObjs (h:Heap):Heap:={ h with objs:=#[] }
theorem noObjs_get (h:Heap) (b:Addr):(noObjs h).get? b=none:=by
 cases e:(noObjs h).get? b with
 | none=>rfl
 | some o=>exact absurd (Heap.lt_size e) (Nat.not_lt_zero _)
noncomputable def ledger (h:Heap) (L d:Addr):List (Addr × Obj):=(List.range h.objs.size).filterMap λa=>if a=L\/a=d then none else (h.get? a).map λo=>(a,o)
theorem mem_ledger {h:Heap}{L d a:Addr}{o:Obj}:(a,o)∈ledger h L d↔a≠L/\a≠d/\h.get? a=some o:=by
 unfold ledger
 rw [List.mem_filterMap]
 constructor
 ·rintro⟨b,_,e⟩
  split at e
  ·cases e
  ·rename_i hb
   obtain⟨o',ho,e'⟩:=Option.map_eq_some_iff.mp e
   cases e'
   exact⟨λq=>hb (.inl q),λq=>hb (.inr q),ho⟩
 ·rintro⟨n1,n2,ho⟩
  refine⟨a,List.mem_range.mpr (Heap.lt_size ho),?_⟩
  rw [if_neg (show ¬(a=L\/a=d) from λq=>q.elim n1 n2),ho] <;> rfl
theorem fr_all {h:Heap}{L:Addr}{m:Str->Option Value} (n:h.Ns L m):Fr (noObjs h) L h m:=
 ⟨n,λb o e=>(by rw [noObjs_get]at e;cases e),Nat.zero_le _⟩
end
end Att
namespace L2
open PySem PySem.Spec PyProof.Rows
theorem lK:∀{vs:List Value}{ns:List Int},IntsAre vs ns->aR (ns.map V.int) vs
 | _,_,.nil=>.nil
 | _,_,.cons n t h=>.cons ⟨t,rfl⟩ (lK h)
noncomputable def zF (H:Hp):Prop:=∀b,H b=none\/∃o xs,H b=some (.frz o (.lst xs))
end L2
namespace L2
open PySem PySem.Spec PyProof.Rows
noncomputable abbrev KOf {K:PySem.W.Frag}{h:Heap} (_:K.In h):PySem.W.Frag:=K
end L2
namespace L2
open PySem PySem.Spec PyProof.Rows
noncomputable def ca (s:Stmt) (j:Nat):Stmt:=match s with
 | .ClassDef _ _ _ body _ _ _ _ _ _ _=>body.getD j (.Pass ⟨0,0,0,0⟩)
 | _=>.Pass ⟨0,0,0,0⟩
noncomputable def az (s:Stmt):Arguments:=match s with
 | .FunctionDef _ a _ _ _ _ _ _ _ _=>a
 | _=>{ posonlyargs:=[],args:=[],vararg:=none,kwonlyargs:=[],kw_defaults:=[],kwarg:=none,defaults:=[] }
noncomputable def au (s:Stmt):List Stmt:=match s with
 | .FunctionDef _ _ b _ _ _ _ _ _ _=>b
 | _=>[]
noncomputable def ah (s:Stmt):Scope:=match s with
 | .FunctionDef _ _ _ _ _ _ sc _ _ _=>sc
 | _=>{ kind:=.function,names:=[],isGenerator:=false,isCoroutine:=false }
noncomputable abbrev CX0:CXT:=λ_ _ _ _ _ _=>False
noncomputable abbrev E0:XK:=λ_ _ _=>False
theorem ao {X:Cx}:ir CX0 X E0:=λ_ _ _ _ _ _ _ h=>h.elim
structure Fun (K:PySem.W.Frag) (x qual:Str) (st:Stmt) (f:Addr) (fd:FuncData):Prop where
 ex:∃(oc:Value) (od:Option Addr) (kV doc pm:Value) (an:Option Addr) (cdv ct:Value) (osl:Array (Option Value)),
  fd=PySem.W.fnOf x qual (az st) (au st) (ah st) .none kV doc pm an cdv ct/\K.lookup f=some ⟨oc,od,.func fd,osl⟩/\PySem.W.codeIn K cdv qual=true
 kp:PySem.W.keepIn K (.ref f)=true
section
variable {P:Program}{w:World}{K:PySem.W.Frag}{mg:Str->Option Value}{base:Heap}
theorem Fun.ok {x qual:Str}{st:Stmt}{f:Addr}{fd:FuncData}{N ps:List Str}{k:Nat}{sp:Sp} (F:Fun K x qual st f fd) (S:FnScope N ps (ah st)) (len:∀vs H Q E,sp vs H Q E->vs.length=ps.length)
  (hbody:∀(cdv:Value) (A:Around) (outer:List Env) (s:Shared) (H:Hp) (vs:List V) (Q:VK) (E:XK),Room k (A.deeper (envOfC qual (ah st) s.heap.objs.size f cdv))->sp vs H Q E->
   ∃t,PSs (qc CX0 P w K mg base N qual (ah st) f cdv A outer s H E).nox (au st) t/\t { nx:=λ_ H'=>Q .non H',rt:=Q } (eR N vs) H):FnOk P w K mg base CX0 (k+1) f fd ps sp:=by
 obtain⟨oc,od,kV,doc,pm,an,cdv,ct,osl,rfl,lk,hcd⟩:=F.ex
 refine uQ lk hcd S len λA outer s H vs Q E hr hsp=>?_
 obtain⟨t,h,q⟩:=hbody cdv A outer s H vs Q E hr hsp
 exact⟨t,h.nox,q⟩
theorem Fun.binds {x qual:Str}{st:Stmt}{f:Addr}{fd:FuncData}{ps:List Str} (F:Fun K x qual st f fd)
  (h:∀(kV doc pm:Value) (an:Option Addr) (cdv ct:Value) (us:List Value),us.length=ps.length->bindArgs (PySem.W.fnOf x qual (az st) (au st) (ah st) .none kV doc pm an cdv ct) ⟨us,[]⟩=pure (ps.zip us)):eN K fd ps []:=by
 obtain⟨oc,od,kV,doc,pm,an,cdv,ct,osl,rfl,lk,hcd⟩:=F.ex
 exact .all (h kV doc pm an cdv ct)
theorem aK {x qual:Str}{st:Stmt}{f:Addr}{oc:Value}{od an:Option Addr}{osl:Array (Option Value)}{kV doc pm cdv ct:Value} (l:K.lookup f=some ⟨oc,od,.func (PySem.W.fnOf x qual (az st) (au st) (ah st) .none kV doc pm an cdv ct),osl⟩)
  (c:PySem.W.codeIn K cdv qual=true) (k:PySem.W.keepIn K (.ref f)=true):Fun K x qual st f (PySem.W.fnOf x qual (az st) (au st) (ah st) .none kV doc pm an cdv ct):=⟨⟨oc,od,kV,doc,pm,an,cdv,ct,osl,rfl,l,c⟩,k⟩
end
theorem bu {A:Around}{k:Nat} (hr:Room k A):A.units+1 < cLine:=Nat.lt_of_le_of_lt (Nat.add_le_add_left (by decide:1<=64) _) hr.units
theorem bB {n:Nat} (h:n<=1000):n < sizeLine:=Nat.lt_of_le_of_lt h (by decide)
section
variable {X:Cx}
theorem pv (i:Nat){x:Str}{pos:Pos} (hN:X.N[i]?=some x:=by rfl) (hv:Vis X.env.scope x:=by first | exact Or.inl rfl | exact Or.inr (Or.inl rfl) | exact Or.inr (Or.inr rfl)) (hd:(x == ("__debug__" : Str))=false:=by decide)
  (hcd:(x == ("__classdict__" : Str))=false:=by decide):PE X (.Name x pos) (dN i):=xJ hN hv hd hcd
end
theorem br {A B:Prop} (h:B):if false=true then A else B:=by
 rw [if_neg Bool.false_ne_true]
 exact h
theorem cg {A B:Prop} (h:A):if true=true then A else B:=by
 rw [if_pos rfl]
 exact h
theorem fI {c A B:Prop} [Decidable c] (h1:c->A) (h2:¬c->B):if c then A else B:=by
 by_cases h:c
 ·rw [if_pos h]
  exact h1 h
 ·rw [if_neg h]
  exact h2 h
noncomputable def zE (H H':Hp):Prop:=∀b o,H b=some o->H' b=some o
section
variable {κ:Type} [DecidableEq κ]
end
end L2
set_option maxHeartbeats 4000000
namespace L2
open PySem PySem.Spec PyProof.Rows
section
variable {X:Cx}{pins:List (Addr × Obj)}{σ:St}{H:Hp}{s:Shared}{h':Heap}
theorem Inv.table {P:Addr}{ps more:Array Value}{t':Nat} (I:Inv X pins σ H s) (e:H P=some (.tbl ps)) (k:∀b o,b≠P->s.heap.get? b=some o->h'.get? b=some o)
  (hP:h'.get? P=some { cls:=.none,data:=.fields (ps++more) }):Inv X pins σ (upd H P (.tbl (ps++more))) { s with heap:=h',toks:=t' }:=by
 have nP:∀b,H b=none->b≠P:=λb n z=>by rw [z,e]at n;cases n
 refine I.un ⟨λb o q n _ _=>k b o (nP b n) q,λb o q n _ _=>⟨o.slots,k b o (nP b n) q⟩,λb o q n _=>by rw [ag (nP b n)];exact n,λb o q _=>?_,λb xs q=>?_,λb o u q=>?_,λb qs q=>?_⟩ λb u q=>?_
 ·by_cases z:b=P
  ·exact⟨_,by rw [z];exact hP⟩
  ·exact⟨o,k b o z q⟩
 ·rw [ag (aD q e (by intro z;cases z))];exact q
 ·rw [ag (aD q e (by intro z;cases z))];exact q
 ·by_cases z:b=P
  ·subst z;rw [e]at q;cases q;exact⟨more,ad⟩
  ·exact⟨#[],by rw [ag z,q];simp⟩
 ·by_cases z:b=P
  ·subst z;rw [ad]at q;cases q;exact hP
  ·rw [ag z]at q
   refine(I.hok b u q).stay (λc v hc r=>k c v ?_ r) (λc r=>by rw [ag (aD r e (by intro z;cases z))];exact r) λc xs r=>by rw [ag (aD r e (by intro z;cases z))];exact r
   rcases hc with hc | hc
   ·rw [hc];exact z
   ·exact aD hc e (by intro z;cases z)
theorem Inv.track {a:Addr}{o:HO} (I:Inv X pins σ H s) (hs:X.s₀.heap.objs.size<=a) (f:gy X pins H a) (new:bG X.prog X.w (upd H a o) s.heap a o):Inv X pins σ (upd H a o) s:=by
 obtain⟨hn,hL,hfs,_,hcl,hpn⟩:=f
 have ne:∀b u,H b=some u->b≠a:=λb u q=>af q hn
 refine⟨I.ok,I.os,I.bare,⟨I.base.keep,I.base.slot,λb ob q n hx=>?_,I.base.there,λb xs q=>?_,λb ob u q=>?_,λb ps q=>?_⟩,I.loc,I.cell,?_,λx c q=>?_,λp hp=>?_,λb u q=>?_,I.len⟩
 ·rw [ag (Nat.ne_of_lt (Nat.lt_of_lt_of_le (Heap.lt_size q) hs))];exact I.base.free b ob q n hx
 ·have r:=I.base.tups b xs q
  rw [ag (ne b _ r)];exact r
 ·have r:=I.base.frzs b ob u q
  rw [ag (ne b _ r)];exact r
 ·obtain⟨m,r⟩:=I.base.tbls b ps q
  exact⟨m,by rw [ag (ne b _ r)];exact r⟩
 ·rw [ag (Ne.symm hL)];exact I.free
 ·rw [ag (hcl x c q)];exact I.freeC x c q
 ·obtain⟨e,n,r⟩:=I.pin p hp
  exact⟨e,by rw [ag (hpn p hp)];exact n,r⟩
 ·by_cases z:b=a
  ·subst z;rw [ad]at q;cases q;exact new
  ·rw [ag z]at q
   exact(I.hok b u q).stay (λ_ _ _ r=>r) (λc r=>by rw [ag (ne c _ r)];exact r) λc xs r=>by rw [ag (ne c _ r)];exact r
end
noncomputable def bH (c:Addr) (q:Str):Heap->Prop:=λh=>h.CodeRec (.ref c) q
theorem bH.st {c:Addr}{q:Str}{h1 h2:Heap} (x:bH c q h1) (k:∀o,h1.get? c=some o->h2.get? c=some o):bH c q h2:=by
 obtain⟨c',o,vs,t,e,g,r⟩:=x
 cases e
 exact⟨c,o,vs,t,rfl,k o g,r⟩
theorem bH.obj {c:Addr}{q:Str}{h:Heap} (x:bH c q h):∃o,h.get? c=some o:=by
 obtain⟨c',o,vs,t,e,g,r⟩:=x
 cases e
 exact⟨o,g⟩
noncomputable def o4 (f:Addr) (params:Arguments) (body:Expr) (scope:Scope) (q:Str) (c:Addr):Heap->Prop:=λh=>∃pm ctv,h.get? f=some (PySem.W.kla_obj "<lambda>" q params body scope [] pm c ctv)
theorem o4.st {f:Addr}{params:Arguments}{body:Expr}{scope:Scope}{q:Str}{c:Addr}{h1 h2:Heap} (x:o4 f params body scope q c h1) (k:∀o,h1.get? f=some o->h2.get? f=some o):o4 f params body scope q c h2:=by
 obtain⟨pm,ctv,e⟩:=x
 exact⟨pm,ctv,k _ e⟩
noncomputable def dJ (P:Addr) (pos:Pos) (q:Str) (H:Hp):Prop:=
 H P=some (.tbl #[])\/∃c,H P=some (.tbl #[rawInt pos.line,rawInt pos.col,.ref c])/\H c=some (.ext (bH c q))
theorem dJ.tbl {P:Addr}{pos:Pos}{q:Str}{H:Hp} (L:dJ P pos q H):∃ps,H P=some (.tbl ps):=by
 rcases L with L | ⟨c,L,_⟩
 ·exact⟨_,L⟩
 ·exact⟨_,L⟩
structure Go (P:Addr) (pos:Pos) (q:Str) (H H':Hp):Prop where
 same:∀b o,b≠P->H b=some o->H' b=some o
 lam:dJ P pos q H'
theorem Go.refl {P:Addr}{pos:Pos}{q:Str}{H:Hp} (L:dJ P pos q H):Go P pos q H H:=⟨λ_ _ _ e=>e,L⟩
theorem Go.trans {P:Addr}{pos:Pos}{q:Str}{H H1 H2:Hp} (a:Go P pos q H H1) (b:Go P pos q H1 H2):Go P pos q H H2:=⟨λc o n e=>b.same c o n (a.same c o n e),b.lam⟩
theorem Go.at {P:Addr}{pos:Pos}{q:Str}{H H':Hp} (G:Go P pos q H H') (L:dJ P pos q H){b:Addr}{o:HO} (e:H b=some o) (n:∀ps,o≠.tbl ps):H' b=some o:=by
 obtain⟨ps,eP⟩:=L.tbl
 exact G.same b o (aD e eP (n ps)) e
theorem dJ.upd_new {P:Addr}{pos:Pos}{q:Str}{H:Hp} (L:dJ P pos q H){a:Addr}{o:HO} (hn:H a=none):dJ P pos q (upd H a o):=by
 rcases L with L | ⟨c,L,Lc⟩
 ·exact .inl (by rw [ag (af L hn)];exact L)
 ·exact .inr ⟨c,by rw [ag (af L hn)];exact L,by rw [ag (af Lc hn)];exact Lc⟩
theorem Go.new {P:Addr}{pos:Pos}{q:Str}{H:Hp} (L:dJ P pos q H){a:Addr}{o:HO} (hn:H a=none):Go P pos q H (upd H a o):=
 ⟨λb u _ e=>by rw [ag (af e hn)];exact e,L.upd_new hn⟩
theorem dJ.upd_own {P:Addr}{pos:Pos}{q:Str}{H:Hp} (L:dJ P pos q H){a:Addr}{o u:HO} (ha:H a=some u) (n1:∀ps,u≠.tbl ps) (n2:∀φ,u≠.ext φ):dJ P pos q (upd H a o):=by
 rcases L with L | ⟨c,L,Lc⟩
 ·exact .inl (by rw [ag (aD L ha (n1 _).symm)];exact L)
 ·exact .inr ⟨c,by rw [ag (aD L ha (n1 _).symm)];exact L,by rw [ag (aD Lc ha (n2 _).symm)];exact Lc⟩
noncomputable def yX (P:Addr) (pos:Pos) (q:Str) (params:Arguments) (body:Expr) (scope:Scope):TE:=λ_ H Q=>dJ P pos q H/\
 ∀H' f c,Go P pos q H H'->H f=none->H' c=some (.ext (bH c q))->H' f=some (.ext (o4 f params body scope q c))->Q (.ref f) H'
section
variable {X:Cx}
theorem xK {params:Arguments}{body:Expr}{scope:Scope}{pos:Pos}{c P:Addr} (hcd:X.env.code=.ref c) (hC:PySem.W.CodeHd X.base c P) (hB:X.base.BuiltinsAt X.mg P)
  (hdef:defaultsOf params X.env=([],[])) (hcl:closureFor scope X.env=pure []):PE X (.Lambda params body scope pos) (yX P pos (X.env.qual++"<lambda>") params body scope):=by
 intro pins s σ H Q I hh
 obtain⟨L,h⟩:=hh
 refine PySem.W.kla_eval hdef ?_
 have hg:s.heap.Ns mainGlobals X.mg:=I.ok.mod.glob.keeps I.bk
 have hgP:mainGlobals≠P:=λz=>by
  obtain⟨o,es,ep,e,_⟩:=I.ok.mod.glob
  have n:=(I.bs _ _ e).2
  obtain⟨ps,eP⟩:=L.tbl
  rw [z,eP]at n
  cases n
 rcases L with L | ⟨c1,L,Lc⟩
 ·have hP:s.heap.get? P=some (PySem.W.tabObj #[]):=I.hok P _ L
  have hPlt:P < s.heap.objs.size:=Heap.lt_size hP
  refine PySem.W.kla_makeFunction hcl I.ok.glob hg hcd (hC.keeps I.bk) hP trivial rfl hgP (hB.keeps I.bk) λc' ctv h' tk hx hge hlt hrec htb=>?_
  have fge:s.heap.objs.size<=h'.objs.size:=Nat.le_trans hge (Nat.le_of_lt hlt)
  have nc:H c'=none:=I.hok.fresh hge
  have nf:H h'.objs.size=none:=I.hok.fresh fge
  have cP:c'≠P:=Nat.ne_of_gt (Nat.lt_of_lt_of_le hPlt hge)
  have fP:h'.objs.size≠P:=Nat.ne_of_gt (Nat.lt_of_lt_of_le hPlt fge)
  have cf:c'≠h'.objs.size:=Nat.ne_of_lt hlt
  have I1:=I.table (h':=h'.push (PySem.W.kla_obj "<lambda>" (X.env.qual++"<lambda>") params body scope [] ((X.mg "__name__").getD .none) c' ctv)) (more:=#[rawInt pos.line,rawInt pos.col,.ref c']) (t':=tk) L
   (λb o z q=>Heap.get?_push_of_some _ (hx b o z q)) (Heap.get?_push_of_some _ htb)
  have e0:(#[]:Array Value)++#[rawInt pos.line,rawInt pos.col,.ref c'] = #[rawInt pos.line,rawInt pos.col,.ref c']:=by simp
  rw [e0]at I1
  have rec':bH c' (X.env.qual++"<lambda>") (h'.push (PySem.W.kla_obj "<lambda>" (X.env.qual++"<lambda>") params body scope [] ((X.mg "__name__").getD .none) c' ctv)):=
   bH.st (show bH c' _ h' from hrec) λo q=>Heap.get?_push_of_some _ q
  have I2:=I1.track (a:=c') (o:=.ext (bH c' (X.env.qual++"<lambda>"))) (Nat.le_trans I.sz hge) (I.fpOk hge (by rw [ag cP];exact nc)) ⟨rec',rec'.obj,λh1 h2 x k=>x.st k⟩
  have fn':o4 h'.objs.size params body scope (X.env.qual++"<lambda>") c' (h'.push (PySem.W.kla_obj "<lambda>" (X.env.qual++"<lambda>") params body scope [] ((X.mg "__name__").getD .none) c' ctv)):=⟨_,_,Heap.get?_push_size _ rfl⟩
  have I3:=I2.track (a:=h'.objs.size) (o:=.ext (o4 h'.objs.size params body scope (X.env.qual++"<lambda>") c')) (Nat.le_trans I.sz fge)
   (I.fpOk fge (by rw [ag cf.symm,ag fP];exact nf)) ⟨fn',⟨_,Heap.get?_push_size _ rfl⟩,λh1 h2 x k=>x.st k⟩
  refine⟨.ref h'.objs.size,_,I3,rfl,h _ _ c' ⟨λb o z q=>?_,.inr ⟨c',?_,?_⟩⟩ nf ?_ ad⟩
  ·rw [ag (af q nf),ag (af q nc),ag z];exact q
  ·rw [ag fP.symm,ag cP.symm,ad]
  ·rw [ag cf,ad]
  ·rw [ag cf,ad]
 ·have hP:s.heap.get? P=some (PySem.W.tabObj #[rawInt pos.line,rawInt pos.col,.ref c1]):=I.hok P _ L
  refine PySem.W.kla_makeFunctionHit (cv:=.ref c1) hcl I.ok.glob hg hcd (hC.keeps I.bk) hP (by simp [TriplesOk,rawInt]) (by simp [codeAmong,rawInt]) (hB.keeps I.bk) λctv h' tk hk hsz=>?_
  have nf:H h'.objs.size=none:=I.hok.fresh hsz
  have fn':o4 h'.objs.size params body scope (X.env.qual++"<lambda>") c1 (h'.push { cls:=.type "function", data:=.func (PySem.W.kla_fn "<lambda>" (X.env.qual++"<lambda>") params body scope [] ((X.mg "__name__").getD .none) (.ref c1) ctv) }):=⟨_,_,Heap.get?_push_size _ rfl⟩
  have I1:=I.laid (a:=h'.objs.size) (o:=.ext (o4 h'.objs.size params body scope (X.env.qual++"<lambda>") c1)) (t':=tk) (λb u q=>Heap.get?_push_of_some _ (hk b u q)) hsz ⟨fn',⟨_,Heap.get?_push_size _ rfl⟩,λh1 h2 x k=>x.st k⟩
  refine⟨.ref h'.objs.size,_,I1,rfl,h _ _ c1 (Go.new (.inr ⟨c1,L,Lc⟩) nf) nf ?_ ad⟩
  rw [ag (af Lc nf)];exact Lc
end
section
variable {prog:Program}{w:World}{A:Around}{E:Value->Shared->Prop}{s:Shared}
theorem uC {f c p:Addr}{k:Int}{t:Tok}{r:List Value}{pa p1 p2 p3:Pos}{j:Nat}{q:Str}{pm ctv:Value}{scope:Scope}{Q:Value->Shared->Prop}
  (hA:A.depth < recursionLimit)
  (hf:s.heap.get? f=some (PySem.W.kla_obj "<lambda>" q { posonlyargs:=[],args:=[{ arg:="row", annotation:=none,pos:=pa }],vararg:=none,kwonlyargs:=[],kw_defaults:=[],kwarg:=none,defaults:=[] }
   (.Subscript (.Name "row" p1) (.Constant (.int 0) j p2) p3) scope [] pm c ctv))
  (hsc:scope.kind=.function) (hsn:scope.names=[(PySem.Str.ofString "row", .local)]) (hsg:scope.isGenerator=false) (hsco:scope.isCoroutine=false)
  (hc:s.heap.CodeRec (.ref c) q) (hp:IsTup s.heap p (Value.int k t::r).toArray) (hr:r.length < 1000) (lim:s.heap.NoLimit)
  (hq:∀h₁ tk,(∀b o,s.heap.get? b=some o->h₁.get? b=some o)->Q (.int k t) { s with heap:=h₁,toks:=tk }) :
  wpAny (model prog w) A (call (.ref f) [.ref p]) Q E s:=by
 refine wpAny_call (PySem.W.kla_callFunE hA hf rfl hsco hsg rfl hc ?_)
 have hb:∀(pm' cdv ctv':Value),bindArgs (PySem.W.kla_fn "<lambda>" q { posonlyargs:=[],args:=[{ arg:="row", annotation:=none,pos:=pa }],vararg:=none,kwonlyargs:=[],kw_defaults:=[],kwarg:=none,defaults:=[] }
   (.Subscript (.Name "row" p1) (.Constant (.int 0) j p2) p3) scope [] pm' cdv ctv') ⟨[.ref p],[]⟩=(pure [(("row" : Str),Value.ref p)]:Sem (List (Str × Value))):=λ_ _ _=>rfl
 rw [hb]
 refine wpAny_pure (wpAny_newFunctionEnv (by rw [hsn];intro y hy;rw [List.mem_singleton.mp hy];intro z;cases z) (by rw [hsn];intro y hy;rw [List.mem_singleton.mp hy];rfl) (λh₁ hns hsb=>⟨lim.fresh _ hsb,?_⟩) hsc)
 have keep:∀b o,s.heap.get? b=some o->h₁.get? b=some o:=λb o e=>(hsb.2 b (Nat.ne_of_lt (Heap.lt_size e))).trans (Heap.get?_push_of_some _ e)
 refine PySem.W.kla_codeExpr ?_
 refine Subscript_ (wpAny_Name (wpAny_loadName_local hsc (by show scope.names.lookup _=_;rw [hsn];rfl) hns rfl ?_) (by decide))
 refine wpAny_Constant_int ?_
 have hp1:IsTup h₁ p (Value.int k t::r).toArray:=by
  obtain⟨o,e,rest⟩:=hp
  exact⟨o,keep _ _ e,rest⟩
 refine subscriptTail_builtinR (x:=.int k t) (T:="tuple") hp1.typeIs slot_tuple_getitem.lookup ?_ rfl
 refine getItem_tuple (j:=0) hp1 (by decide) (by decide) ?_ (by simp) ⟨rfl,hq h₁ _ keep⟩
 simp [seqIndex?]
end
end L2
namespace L2
open PySem PySem.Spec PyProof.Rows
noncomputable def jY:Bool->Keyed->Array Keyed->Nat->Nat->Nat->StateT SortSt Sem (Option Nat):=sortPriv% PySem.Builtin.gallop
section
variable {prog:Program}{w:World}{A:Around}{E:Value->Shared->Prop}{s:Shared}
theorem jW {st:SortSt}{x y:Int}{t u:Tok}{p q:Value}{R:Option Bool->SortSt->Prop} (hk:kindOf st=oneType') (h:R (some (decide (x < y))) st):wpS (model prog w) A E s (lt' (.int x t,p) (.int y u,q)) R st:=by
 rw [lt'_eq]
 refine wpS_bind (wpS_get ?_)
 rw [hk,keyLt'_oneType]
 refine wpS_bind (wpS_lift (wpAny_attempt (oneLt_int ⟨rfl,?_⟩)))
 exact wpS_pure h
theorem xc {st:SortSt}{n:Nat} (β:Nat->Bool){lo hi:Nat}{Q:(Option (Option Nat) × Nat × Nat)->SortSt->Prop}{F:Nat->(Option (Option Nat) × Nat × Nat)->StateT SortSt Sem (ForInStep (Option (Option Nat) × Nat × Nat))}
  (mono:∀i j,i<=j->j < n->β j=true->β i=true)
  (stop:∀x lo hi {R:ForInStep (Option (Option Nat) × Nat × Nat)->SortSt->Prop},hi<=lo->R (.done (none,lo,hi)) st->wpS (model prog w) A E s (F x (none,lo,hi)) R st)
  (up:∀x lo hi {R:ForInStep (Option (Option Nat) × Nat × Nat)->SortSt->Prop},lo < hi->hi<=n->β (lo+(hi - lo) / 2)=true->R (.yield (none,lo+(hi - lo) / 2+1,hi)) st->wpS (model prog w) A E s (F x (none,lo,hi)) R st)
  (dn:∀x lo hi {R:ForInStep (Option (Option Nat) × Nat × Nat)->SortSt->Prop},lo < hi->hi<=n->β (lo+(hi - lo) / 2)=false->R (.yield (none,lo,lo+(hi - lo) / 2)) st->wpS (model prog w) A E s (F x (none,lo,hi)) R st)
  (h1:lo<=hi) (h2:hi<=n) (h3:∀i,i < lo->β i=true) (h4:∀i,hi<=i->i < n->β i=false)
  (h:∀k,k<=n->(∀i,i < k->β i=true)->(∀i,k<=i->i < n->β i=false)->Q (none,k,k) st):wpS (model prog w) A E s (forIn [:n] (none,lo,hi) F) Q st:=by
 refine wpS_forRange (I:=λi c st'=>st'=st/\∃lo hi,c=(none,lo,hi)/\lo<=hi/\hi<=n/\hi - lo<=n - i/\(∀j,j < lo->β j=true)/\(∀j,hi<=j->j < n->β j=false)) ?_ ?_ ⟨rfl,lo,hi,rfl,h1,h2,by omega,h3,h4⟩
 ·rintro i c st' _ hi' ⟨rfl,lo,hi,rfl,g1,g2,g3,g4,g5⟩
  by_cases hl:hi<=lo
  ·have e:lo=hi:=by omega
   subst e
   exact stop _ _ _ hl (h lo g2 g4 g5)
  ·have l:lo < hi:=by omega
   cases e:β (lo+(hi - lo) / 2) with
   | true=>exact up _ _ _ l g2 e ⟨rfl,_,_,rfl,by omega,g2,by omega,λj hj=>mono j _ (by omega) (by omega) e,g5⟩
   | false=>
    refine dn _ _ _ l g2 e ⟨rfl,_,_,rfl,by omega,by omega,by omega,g4,λj hj hn=>?_⟩
    cases ej:β j with
    | false=>rfl
    | true=>rw [mono _ j hj hn ej]at e;exact absurd e (by decide)
 ·rintro c st' ⟨rfl,lo,hi,rfl,g1,g2,g3,g4,g5⟩
  have e:lo=hi:=by omega
  subst e
  exact h lo g2 g4 g5
theorem lc {st:SortSt}{Q:Option Nat->SortSt->Prop}{left:Bool}{arr:Array Keyed}{key:Keyed}{base n hint:Nat} (β:Nat->Bool) (hh:hint < n)
  (bey:∀(i:Nat){R:Option Bool->SortSt->Prop},i < n->R (some (β i)) st->wpS (model prog w) A E s (do let x <- elem' arr (base+i);if left=true then lt' x key else (do let r <- lt' key x;pure (Option.map (λb=>!b) r))) R st)
  (mono:∀i j,i<=j->j < n->β j=true->β i=true)
  (h:∀k,k<=n->(∀i,i < k->β i=true)->(∀i,k<=i->i < n->β i=false)->Q (some k) st):wpS (model prog w) A E s (jY left key arr base n hint) Q st:=by
 have dmono:∀i j,i<=j->j < n->β i=false->β j=false:=λi j hij hj e=>by
  cases ej:β j with
  | false=>rfl
  | true=>rw [mono i j hij hj ej]at e;exact absurd e (by decide)
 unfold jY
 k_delta "gallop"
 dsimp only
 refine wpS_bind (bey hint hh ?_)
 dsimp only
 cases eh:β hint with
 | true=>
  rw [if_pos rfl]
  refine wpS_bind (wpS_mono (wpS_forRange (I:=λi c st'=>st'=st/\∃last ofs,c=(none,last,ofs)/\last < ofs/\i < ofs/\hint+last < n/\β (hint+last)=true)
   (Q:=λc st'=>st'=st/\∃last ofs,c=(none,last,ofs)/\last < ofs/\hint+last < n/\β (hint+last)=true/\(hint+ofs < n->β (hint+ofs)=false)) ?step ?fin ⟨rfl,0,1,rfl,by omega,by omega,by omega,eh⟩) ?post)
  case fin=>
   rintro c st' ⟨rfl,last,ofs,rfl,a1,a2,a3,a4⟩
   exact⟨rfl,last,ofs,rfl,a1,a3,a4,λ_=>by omega⟩
  case step=>
   rintro i c st' _ hi ⟨rfl,last,ofs,rfl,a1,a2,a3,a4⟩
   dsimp only
   by_cases hm:ofs>=n - hint
   ·rw [if_pos hm]
    exact wpS_pure ⟨rfl,last,ofs,rfl,a1,a3,a4,λ_=>by omega⟩
   ·rw [if_neg hm]
    refine wpS_bind (bey (hint+ofs) (by omega) ?_)
    dsimp only
    cases eo:β (hint+ofs) with
    | true=>
     rw [if_neg (by decide)]
     exact wpS_pure ⟨rfl,ofs,2 * ofs+1,rfl,by omega,by omega,by omega,eo⟩
    | false=>
     rw [if_pos (show (!false)=true from rfl)]
     exact wpS_pure ⟨rfl,last,ofs,rfl,a1,a3,a4,λ_=>eo⟩
  case post=>
   rintro c st' ⟨rfl,last,ofs,rfl,a1,a3,a4,a5⟩
   dsimp only
   refine wpS_bind (xc β mono (λx lo hi R hl r=>?_) (λx lo hi R hl hn e r=>?_) (λx lo hi R hl hn e r=>?_) (by omega) (by omega) (λi hi=>mono i (hint+last) (by omega) a3 a4) (λi hi hn=>?_) λk k1 k2 k3=>?_)
   ·dsimp only
    rw [if_pos hl]
    exact wpS_pure r
   ·dsimp only
    rw [if_neg (by omega)]
    refine wpS_bind (bey _ (by omega) ?_)
    rw [e]
    exact wpS_pure r
   ·dsimp only
    rw [if_neg (by omega)]
    refine wpS_bind (bey _ (by omega) ?_)
    rw [e]
    exact wpS_pure r
   ·exact dmono (hint+ofs) i (by omega) hn (a5 (by omega))
   ·exact wpS_pure (h k k1 k2 k3)
 | false=>
  rw [if_neg (by decide)]
  refine wpS_bind (wpS_mono (wpS_forRange (I:=λi c st'=>st'=st/\∃last ofs,c=(none,last,ofs)/\last < ofs/\i < ofs/\last<=hint/\β (hint - last)=false)
   (Q:=λc st'=>st'=st/\∃last ofs,c=(none,last,ofs)/\last < ofs/\last<=hint/\β (hint - last)=false/\(ofs<=hint->β (hint - ofs)=true)) ?step ?fin ⟨rfl,0,1,rfl,by omega,by omega,by omega,eh⟩) ?post)
  case fin=>
   rintro c st' ⟨rfl,last,ofs,rfl,a1,a2,a3,a4⟩
   exact⟨rfl,last,ofs,rfl,a1,a3,a4,λ_=>by omega⟩
  case step=>
   rintro i c st' _ hi ⟨rfl,last,ofs,rfl,a1,a2,a3,a4⟩
   dsimp only
   by_cases hm:ofs>=hint+1
   ·rw [if_pos hm]
    exact wpS_pure ⟨rfl,last,ofs,rfl,a1,a3,a4,λ_=>by omega⟩
   ·rw [if_neg hm]
    refine wpS_bind (bey (hint - ofs) (by omega) ?_)
    dsimp only
    cases eo:β (hint - ofs) with
    | false=>
     rw [if_neg (by decide)]
     exact wpS_pure ⟨rfl,ofs,2 * ofs+1,rfl,by omega,by omega,by omega,eo⟩
    | true=>
     rw [if_pos rfl]
     exact wpS_pure ⟨rfl,last,ofs,rfl,a1,a3,a4,λ_=>eo⟩
  case post=>
   rintro c st' ⟨rfl,last,ofs,rfl,a1,a3,a4,a5⟩
   dsimp only
   refine wpS_bind (xc β mono (λx lo hi R hl r=>?_) (λx lo hi R hl hn e r=>?_) (λx lo hi R hl hn e r=>?_) (by omega) (by omega) (λi hi=>?_) (λi hi hn=>dmono (hint - last) i hi hn a4) λk k1 k2 k3=>?_)
   ·dsimp only
    rw [if_pos hl]
    exact wpS_pure r
   ·dsimp only
    rw [if_neg (by omega)]
    refine wpS_bind (bey _ (by omega) ?_)
    rw [e]
    exact wpS_pure r
   ·dsimp only
    rw [if_neg (by omega)]
    refine wpS_bind (bey _ (by omega) ?_)
    rw [e]
    exact wpS_pure r
   ·exact mono i (hint - ofs) (by omega) (by omega) (a5 (by omega))
   ·exact wpS_pure (h k k1 k2 k3)
end
end L2
namespace L2
open PySem PySem.Spec PyProof.Rows
structure SG (a₀:Array Keyed) (p:Array (Nat × Nat × Nat)) (st:SortSt):Prop where
 pm:(arrOf st).Perm a₀
 kd:kindOf st=oneType'
 fl:failedOf st=none
 pd:pendingOf st=p
theorem SG.sz {a₀ p st} (g:SG a₀ p st):(arrOf st).size=a₀.size:=g.pm.size_eq
theorem SG.arr {a₀ p st} (g:SG a₀ p st){xs:Array Keyed} (hp:xs.Perm (arrOf st)):SG a₀ p (setArr st xs):=⟨hp.trans g.pm,g.kd,g.fl,g.pd⟩
theorem SG.get {a₀ p st} (g:SG a₀ p st) (h0:IntKeys a₀){i:Nat} (hi:i < a₀.size):∃t q,(arrOf st)[i]?=some (.int (K (arrOf st) i) t,q):=by
 have hi':i < (arrOf st).size:=by rw [g.sz];exact hi
 obtain⟨n,t,hn⟩:=h0 _ ((Array.perm_iff_toList_perm.mp g.pm).mem_iff.mp (show (arrOf st)[i]∈_ by simp))
 have e:=getElem?_pos (arrOf st) i hi'
 have e2:(arrOf st)[i]=(.int n t,(arrOf st)[i].2):=Prod.ext hn rfl
 refine⟨t,(arrOf st)[i].2,?_⟩
 unfold K
 rw [e,e2]
 rfl
noncomputable def Ris (xs:Array Keyed) (a b:Nat):Prop:=∀i j,a<=i->i<=j->j < b->K xs i<=K xs j
noncomputable def Fal (xs:Array Keyed) (a b:Nat):Prop:=∀i j,a<=i->i<=j->j < b->K xs j<=K xs i
noncomputable def Low (xs ys:Array Keyed) (lo:Nat):Prop:=∀k,k < lo->K xs k=K ys k
theorem Low.rfl' {xs:Array Keyed} {lo}:Low xs xs lo:=λ_ _=>rfl
theorem Low.then {xs ys zs:Array Keyed} {lo} (h:Low xs ys lo) (g:Low ys zs lo):Low xs zs lo:=λk hk=>(h k hk).trans (g k hk)
theorem Ris.one {xs:Array Keyed} {a b} (h:b<=a+1):Ris xs a b:=λi j h1 h2 h3=>by
 have:i=j:=by omega
 rw [this];exact Int.le_refl _
theorem kT {xs:Array Keyed}{lo i j:Nat} (hj:j<=xs.size) (hl:lo<=i):Low (mirror xs i j ((j - i) / 2)) xs lo:=λk hk=>by
 rw [K_mirror hj,if_neg (by omega)]
section
variable {prog:Program}{w:World}{A:Around}{E:Value->Shared->Prop}{s:Shared}{a₀:Array Keyed}{p:Array (Nat × Nat × Nat)}
theorem ltG {st:SortSt}{i j:Nat}{Q:Option Bool->SortSt->Prop} (g:SG a₀ p st) (h0:IntKeys a₀) (hi:i < a₀.size) (hj:j < a₀.size)
  (h:Q (some (decide (K (arrOf st) i < K (arrOf st) j))) st):wpS (model prog w) A E s (ltAt' i j) Q st:=by
 obtain⟨_,_,e1⟩:=g.get h0 hi
 obtain⟨_,_,e2⟩:=g.get h0 hj
 exact wpS_ltAt g.kd e1 e2 h
theorem vM {st:SortSt}{i j:Nat}{Q:Unit->SortSt->Prop} (h:Q () (setArr st (mirror (arrOf st) i j ((j - i) / 2)))):wpS (model prog w) A E s (reverseSlice' i j) Q st:=by
 rw [reverseSlice'_eq]
 exact wpS_modify h
noncomputable def ve (lo a nrem:Nat):StateT SortSt Sem (Option (Option Nat) × Nat):=
 forIn [a:nrem] ((none,a):Option (Option Nat) × Nat) λ_ c=>do
  let x <- ltAt' (lo+c.snd) (lo+c.snd - 1)
  match x with
  | some less=>if less=true then pure (ForInStep.done (none,c.snd)) else pure (ForInStep.yield (none,c.snd+1))
  | _=>pure (ForInStep.done (some none,c.snd))
noncomputable def uT (lo n nrem:Nat):StateT SortSt Sem (Option Nat):=do
 reverseSlice' lo (lo+n)
 let c <- ve lo n nrem
 match c.fst with
 | some r=>pure r
 | none=>pure (some c.snd)
noncomputable def qN (lo n nrem:Nat):StateT SortSt Sem (Option (Option Nat) × Nat × Nat):=
 forIn [n:nrem] ((none,n,0):Option (Option Nat) × Nat × Nat) λ_ c=>do
  let x <- ltAt' (lo+c.snd.fst) (lo+c.snd.fst - 1)
  match x with
  | some less=>
   if less=true then
    if c.snd.snd > 0 then do
     reverseSlice' (lo+c.snd.fst - (c.snd.snd+1)) (lo+c.snd.fst)
     pure (ForInStep.yield (none,c.snd.fst+1,0))
    else pure (ForInStep.yield (none,c.snd.fst+1,0))
   else do
    let x <- ltAt' (lo+c.snd.fst - 1) (lo+c.snd.fst)
    match x with
    | some more=>
     if more=true then pure (ForInStep.done (none,c.snd.fst,c.snd.snd))
     else pure (ForInStep.yield (none,c.snd.fst+1,c.snd.snd+1))
    | _=>pure (ForInStep.done (some none,c.snd.fst,c.snd.snd))
  | _=>pure (ForInStep.done (some none,c.snd.fst,c.snd.snd))
noncomputable def oN (lo n nrem:Nat):StateT SortSt Sem (Option Nat):=do
 liftM (rule "list.sort.descending-run")
 let c <- qN lo (n+1) nrem
 match c.fst with
 | some r=>pure r
 | none=>
  if c.snd.snd > 0 then do
   reverseSlice' (lo+c.snd.fst - (c.snd.snd+1)) (lo+c.snd.fst)
   uT lo c.snd.fst nrem
  else uT lo c.snd.fst nrem
theorem sP (lo nrem:Nat):countRun' lo nrem=(do
  let c <- ve lo 1 nrem
  match c.fst with
  | some r=>pure r
  | none=>
   if (c.snd == nrem)=true then pure (some c.snd)
   else if c.snd > 1 then do
    let x <- ltAt' lo (lo+c.snd - 1)
    match x with
    | some rose=>if rose=true then pure (some c.snd) else do
      reverseSlice' lo (lo+c.snd)
      oN lo c.snd nrem
    | _=>pure none
   else oN lo c.snd nrem):=by
 rw [countRun'_eq]
 dsimp only
 unfold oN uT qN ve
 congr 1
 funext c
 obtain⟨r,n⟩:=c
 cases r with
 | some r=>rfl
 | none=>
  dsimp only
  split
  ·rfl
  ·split
   ·congr 1
    funext x
    cases x with
    | none=>rfl
    | some rose=>
     dsimp only
     split
     ·rfl
     ·congr 1;funext _;congr 1;funext _;congr 1;funext c2
      obtain⟨r2,n2,q2⟩:=c2
      cases r2 with
      | some r2=>rfl
      | none=>
       dsimp only
       split
       ·congr 1;funext _;congr 1;funext _;congr 1;funext c3
        obtain⟨r3,n3⟩:=c3
        cases r3 <;> rfl
       ·congr 1;funext _;congr 1;funext c3
        obtain⟨r3,n3⟩:=c3
        cases r3 <;> rfl
   ·congr 1;funext _;congr 1;funext c2
    obtain⟨r2,n2,q2⟩:=c2
    cases r2 with
    | some r2=>rfl
    | none=>
     dsimp only
     split
     ·congr 1;funext _;congr 1;funext _;congr 1;funext c3
      obtain⟨r3,n3⟩:=c3
      cases r3 <;> rfl
     ·congr 1;funext _;congr 1;funext c3
      obtain⟨r3,n3⟩:=c3
      cases r3 <;> rfl
theorem qm {st:SortSt}{lo a nrem:Nat}{Q:Option (Option Nat) × Nat->SortSt->Prop} (h0:IntKeys a₀) (hn:lo+nrem<=a₀.size) (ha:1<=a) (han:a<=nrem) (g:SG a₀ p st)
  (hs:Ris (arrOf st) lo (lo+a))
  (h:∀n,a<=n->n<=nrem->Ris (arrOf st) lo (lo+n)->(n=nrem\/K (arrOf st) (lo+n) < K (arrOf st) (lo+n - 1))->Q (none,n) st) :
  wpS (model prog w) A E s (ve lo a nrem) Q st:=by
 unfold ve
 refine wpS_forRange (I:=λx c u=>u=st/\c=(none,x)/\Ris (arrOf st) lo (lo+x)) ?step ?fin ⟨rfl,rfl,hs⟩
 case fin=>
  rintro c u ⟨rfl,rfl,r⟩
  rw [Nat.max_eq_right han]at r ⊢
  exact h nrem han (Nat.le_refl _) r (.inl rfl)
 case step=>
  rintro x c u ax xn ⟨rfl,rfl,r⟩
  dsimp only
  refine wpS_bind (ltG g h0 (by omega) (by omega) ?_)
  by_cases less:K (arrOf u) (lo+x) < K (arrOf u) (lo+x - 1)
  ·rw [decide_eq_true less]
   try dsimp only
   exact wpS_pure (h x ax (by omega) r (.inr less))
  ·rw [decide_eq_false less]
   refine wpS_pure ⟨rfl,rfl,λi j h1 h2 h3=>?_⟩
   by_cases hj:j < lo+x
   ·exact r i j h1 h2 hj
   ·have ej:j=lo+x:=by omega
    by_cases ei:i=j
    ·rw [ei];exact Int.le_refl _
    ·rw [ej]
     exact Int.le_trans (r i (lo+x - 1) h1 (by omega) (by omega)) (Int.not_lt.mp less)
theorem ql {st:SortSt}{lo n nrem:Nat}{Q:Option Nat->SortSt->Prop} (h0:IntKeys a₀) (hn:lo+nrem<=a₀.size) (h1:1<=n) (hnn:n<=nrem) (g:SG a₀ p st)
  (hs:Fal (arrOf st) lo (lo+n)) (h:∀m u,SG a₀ p u->Low (arrOf u) (arrOf st) lo->1<=m->m<=nrem->Ris (arrOf u) lo (lo+m)->Q (some m) u) :
  wpS (model prog w) A E s (uT lo n nrem) Q st:=by
 unfold uT
 have sz:lo+n<=(arrOf st).size:=by rw [g.sz];omega
 refine wpS_bind (vM ?_)
 have g':SG a₀ p (setArr st (mirror (arrOf st) lo (lo+n) ((lo+n - lo) / 2))):=g.arr (mirror_perm _ _ _ _)
 refine wpS_bind (qm h0 hn h1 hnn g' (λi j a1 a2 a3=>?_) λm m1 m2 m3 _=>wpS_pure (h m _ g' (kT sz (Nat.le_refl _)) (by omega) m2 m3))
 show K (mirror (arrOf st) lo (lo+n) _) i<=K (mirror (arrOf st) lo (lo+n) _) j
 rw [K_mirror sz,K_mirror sz,if_pos ⟨a1,by omega⟩,if_pos ⟨by omega,a3⟩]
 exact hs _ _ (by omega) (by omega) (by omega)
theorem sX {st:SortSt}{lo n nrem:Nat}{Q:Option (Option Nat) × Nat × Nat->SortSt->Prop} (h0:IntKeys a₀) (hn:lo+nrem<=a₀.size) (h1:1<=n) (hnn:n<=nrem) (g:SG a₀ p st)
  (hs:Fal (arrOf st) lo (lo+n))
  (h:∀m q u,SG a₀ p u->Low (arrOf u) (arrOf st) lo->n<=m->m<=nrem->Fal (arrOf u) lo (lo+m)->q+1<=m->(∀i,lo+m - (q+1)<=i->i < lo+m->K (arrOf u) i=K (arrOf u) (lo+m - 1))->Q (none,m,q) u) :
  wpS (model prog w) A E s (qN lo n nrem) Q st:=by
 unfold qN
 refine wpS_forRange (I:=λx c u=>∃q,c=(none,x,q)/\SG a₀ p u/\Low (arrOf u) (arrOf st) lo/\Fal (arrOf u) lo (lo+x)/\q+1<=x/\
   (∀i,lo+x - (q+1)<=i->i < lo+x->K (arrOf u) i=K (arrOf u) (lo+x - 1))) ?step ?fin ⟨0,rfl,g,Low.rfl',hs,by omega,λi a1 a2=>by congr 1;omega⟩
 case fin=>
  rintro c u ⟨q,rfl,g1,l1,f1,q1,e1⟩
  rw [Nat.max_eq_right hnn]at f1 q1 e1 ⊢
  exact h nrem q u g1 l1 hnn (Nat.le_refl _) f1 q1 e1
 case step=>
  rintro x c u ax xn ⟨q,rfl,g1,l1,f1,q1,e1⟩
  dsimp only
  have sz:lo+x<=(arrOf u).size:=by rw [g1.sz];omega
  refine wpS_bind (ltG g1 h0 (by omega) (by omega) ?_)
  by_cases less:K (arrOf u) (lo+x) < K (arrOf u) (lo+x - 1)
  ·rw [decide_eq_true less]
   try dsimp only
   have st1:∀xs:Array Keyed,(∀k,K xs k=K (arrOf u) k)->Fal xs lo (lo+(x+1)):=by
    intro xs hk i j a1 a2 a3
    rw [hk,hk]
    by_cases hj:j < lo+x
    ·exact f1 i j a1 a2 hj
    ·have ej:j=lo+x:=by omega
     by_cases ei:i=j
     ·rw [ei];exact Int.le_refl _
     ·rw [ej]
      exact Int.le_trans (Int.le_of_lt less) (f1 i (lo+x - 1) a1 (by omega) (by omega))
   by_cases hq:q > 0
   ·rw [if_pos rfl,if_pos hq]
    refine wpS_bind (vM (wpS_pure ⟨0,rfl,g1.arr (mirror_perm _ _ _ _),λk hk=>?_,st1 _ (K_mirror_equal sz e1),by omega,λi a1 a2=>by congr 1;omega⟩))
    exact(K_mirror_equal sz e1 k).trans (l1 k hk)
   ·rw [if_pos rfl,if_neg hq]
    exact wpS_pure ⟨0,rfl,g1,l1,st1 _ (λ_=>rfl),by omega,λi a1 a2=>by congr 1;omega⟩
  ·rw [decide_eq_false less]
   dsimp only
   rw [if_neg (by decide)]
   refine wpS_bind (ltG g1 h0 (by omega) (by omega) ?_)
   by_cases more:K (arrOf u) (lo+x - 1) < K (arrOf u) (lo+x)
   ·rw [decide_eq_true more]
    exact wpS_pure (h x q u g1 l1 ax (by omega) f1 q1 e1)
   ·rw [decide_eq_false more]
    have ex:K (arrOf u) (lo+x)=K (arrOf u) (lo+x - 1):=by omega
    refine wpS_pure ⟨q+1,rfl,g1,l1,λi j a1 a2 a3=>?_,by omega,λi a1 a2=>?_⟩
    ·by_cases hj:j < lo+x
     ·exact f1 i j a1 a2 hj
     ·have ej:j=lo+x:=by omega
      by_cases ei:i=j
      ·rw [ei];exact Int.le_refl _
      ·rw [ej,ex];exact f1 i (lo+x - 1) a1 (by omega) (by omega)
    ·rw [show lo+(x+1) - 1=lo+x by omega]
     by_cases ei:i=lo+x
     ·rw [ei]
     ·rw [ex];exact e1 i (by omega) (by omega)
theorem o5 {st:SortSt}{lo n nrem:Nat}{Q:Option Nat->SortSt->Prop} (h0:IntKeys a₀) (hn:lo+nrem<=a₀.size) (hnn:n+1<=nrem) (g:SG a₀ p st)
  (hs:Fal (arrOf st) lo (lo+(n+1))) (h:∀m u,SG a₀ p u->Low (arrOf u) (arrOf st) lo->1<=m->m<=nrem->Ris (arrOf u) lo (lo+m)->Q (some m) u) :
  wpS (model prog w) A E s (oN lo n nrem) Q st:=by
 unfold oN
 refine wpS_bind (wpS_lift (wpAny_rule ⟨rfl,?_⟩))
 refine wpS_bind (sX h0 hn (by omega) hnn g hs λm q u g1 l1 m1 m2 f1 q1 e1=>?_)
 dsimp only
 have sz:lo+m<=(arrOf u).size:=by rw [g1.sz];omega
 by_cases hq:q > 0
 ·rw [if_pos hq]
  refine wpS_bind (vM (ql h0 hn (by omega) m2 (g1.arr (mirror_perm _ _ _ _)) (λi j a1 a2 a3=>?_) λm' u' g2 l2 k1 k2 k3=>h m' u' g2 (λk hk=>?_) k1 k2 k3))
  ·show K (mirror (arrOf u) _ _ _) j<=K (mirror (arrOf u) _ _ _) i
   rw [K_mirror_equal sz e1,K_mirror_equal sz e1]
   exact f1 i j a1 a2 a3
  ·exact((l2 k hk).trans (K_mirror_equal sz e1 k)).trans (l1 k hk)
 ·rw [if_neg hq]
  exact ql h0 hn (by omega) m2 g1 f1 λm' u' g2 l2=>h m' u' g2 (l2.then l1)
theorem qW {st:SortSt}{lo nrem:Nat}{Q:Option Nat->SortSt->Prop} (h0:IntKeys a₀) (hn:lo+nrem<=a₀.size) (h1:1<=nrem) (g:SG a₀ p st)
  (h:∀m u,SG a₀ p u->Low (arrOf u) (arrOf st) lo->1<=m->m<=nrem->Ris (arrOf u) lo (lo+m)->Q (some m) u) :
  wpS (model prog w) A E s (countRun' lo nrem) Q st:=by
 rw [sP]
 refine wpS_bind (qm h0 hn (Nat.le_refl 1) h1 g (Ris.one (Nat.le_refl _)) λn n1 n2 r1 o1=>?_)
 dsimp only
 by_cases hnn:n=nrem
 ·rw [if_pos (by simpa using hnn)]
  exact wpS_pure (h n st g Low.rfl' n1 n2 r1)
 ·rw [if_neg (by simpa using hnn)]
  have less:=o1.resolve_left hnn
  by_cases hgt:n > 1
  ·rw [if_pos hgt]
   refine wpS_bind (ltG g h0 (by omega) (by omega) ?_)
   by_cases rose:K (arrOf st) lo < K (arrOf st) (lo+n - 1)
   ·rw [decide_eq_true rose]
    exact wpS_pure (h n st g Low.rfl' n1 n2 r1)
   ·rw [decide_eq_false rose]
    dsimp only
    rw [if_neg (by decide)]
    have sz:lo+n<=(arrOf st).size:=by rw [g.sz];omega
    have all:∀k,lo<=k->k < lo+n->K (arrOf st) k=K (arrOf st) (lo+n - 1):=by
     intro k k1 k2
     have b1:=r1 lo k (Nat.le_refl _) k1 k2
     have b2:=r1 k (lo+n - 1) k1 (by omega) (by omega)
     omega
    refine wpS_bind (vM (o5 h0 hn (by omega) (g.arr (mirror_perm _ _ _ _)) (λi j a1 a2 a3=>?_) λm u g2 l2=>h m u g2 (l2.then (kT sz (Nat.le_refl _)))))
    show K (mirror (arrOf st) _ _ _) j<=K (mirror (arrOf st) _ _ _) i
    rw [K_mirror_equal sz all,K_mirror_equal sz all]
    by_cases hj:j < lo+n
    ·rw [all i a1 (by omega),all j (by omega) hj];exact Int.le_refl _
    ·have ej:j=lo+n:=by omega
     by_cases ei:i=j
     ·rw [ei];exact Int.le_refl _
     ·rw [all i a1 (by omega),ej];exact Int.le_of_lt less
  ·rw [if_neg hgt]
   have en:n=1:=by omega
   subst en
   refine o5 h0 hn (by omega) g (λi j a1 a2 a3=>?_) h
   by_cases ei:i=j
   ·rw [ei];exact Int.le_refl _
   ·rw [show i=lo+1 - 1 by omega,show j=lo+1 by omega]
    exact Int.le_of_lt less
theorem vk {st:SortSt}{lo n ok:Nat}{Q:Bool->SortSt->Prop} (h0:IntKeys a₀) (hn:lo+n<=a₀.size) (hok:ok<=n) (g:SG a₀ p st) (hs:Ris (arrOf st) lo (lo+ok))
  (h:∀u,SG a₀ p u->Low (arrOf u) (arrOf st) lo->Ris (arrOf u) lo (lo+n)->Q true u):wpS (model prog w) A E s (binarySort' lo n ok) Q st:=by
 rw [binarySort'_eq]
 dsimp only
 refine wpS_bind (wpS_mono (wpS_forRange (I:=λk c u=>c=(none,())/\SG a₀ p u/\Low (arrOf u) (arrOf st) lo/\Ris (arrOf u) lo (lo+min k n))
  (Q:=λc u=>c=(none,())/\SG a₀ p u/\Low (arrOf u) (arrOf st) lo/\Ris (arrOf u) lo (lo+n)) ?step ?fin ?init) ?post)
 case post=>
  rintro c u ⟨rfl,g1,l1,r1⟩
  exact wpS_pure (h u g1 l1 r1)
 case init=>
  refine⟨rfl,g,Low.rfl',?_⟩
  by_cases e:ok=0
  ·exact Ris.one (by omega)
  ·exact λi j a1 a2 a3=>hs i j a1 a2 (by omega)
 case fin=>
  rintro c u ⟨hc,g1,l1,r1⟩
  exact⟨hc,g1,l1,λi j a1 a2 a3=>r1 i j a1 a2 (by omega)⟩
 case step=>
  rintro k c u ak kn ⟨rfl,g1,l1,r1⟩
  rw [Nat.min_eq_left (Nat.le_of_lt kn)]at r1
  try dsimp only
  refine wpS_bind (wpS_mono (wpS_forRange (I:=λx c v=>v=u/\∃l r,c=(none,l,r)/\l<=r/\r<=k/\r - l<=k - x/\
    (∀i,lo<=i->i < lo+l->K (arrOf u) i<=K (arrOf u) (lo+k))/\(∀i,lo+r<=i->i < lo+k->K (arrOf u) (lo+k) < K (arrOf u) i))
   (Q:=λc v=>v=u/\∃l r,c=(none,l,r)/\l<=k/\
    (∀i,lo<=i->i < lo+l->K (arrOf u) i<=K (arrOf u) (lo+k))/\(∀i,lo+l<=i->i < lo+k->K (arrOf u) (lo+k) < K (arrOf u) i)) ?istep ?ifin ?iinit) ?ipost)
  case iinit=>exact⟨rfl,0,k,rfl,by omega,by omega,by omega,λi _ _=>by omega,λi _ _=>by omega⟩
  case ifin=>
   rintro c v ⟨rfl,l,r,rfl,b1,b2,b3,b4,b5⟩
   have e:l=r:=by omega
   subst e
   exact⟨rfl,l,l,rfl,b2,b4,b5⟩
  case istep=>
   rintro x c v _ xk ⟨rfl,l,r,rfl,b1,b2,b3,b4,b5⟩
   dsimp only
   by_cases ge:l>=r
   ·rw [if_pos ge]
    have e:l=r:=by omega
    subst e
    exact wpS_pure ⟨rfl,l,l,rfl,b2,b4,b5⟩
   ·rw [if_neg ge]
    refine wpS_bind (ltG g1 h0 (by omega) (by omega) ?_)
    by_cases less:K (arrOf v) (lo+k) < K (arrOf v) (lo+(l+r) / 2)
    ·rw [decide_eq_true less]
     refine wpS_pure ⟨rfl,l,(l+r) / 2,rfl,by omega,by omega,by omega,b4,λi a1 a2=>?_⟩
     exact Int.lt_of_lt_of_le less (r1 _ _ (by omega) a1 a2)
    ·rw [decide_eq_false less]
     refine wpS_pure ⟨rfl,(l+r) / 2+1,r,rfl,by omega,by omega,by omega,λi a1 a2=>?_,b5⟩
     exact Int.le_trans (r1 i (lo+(l+r) / 2) a1 (by omega) (by omega)) (Int.not_lt.mp less)
  case ipost=>
   rintro c v ⟨rfl,l,r,rfl,b1,b2,b3⟩
   dsimp only
   rw [moveDown'_eq]
   have sz:lo+k < (arrOf v).size:=by rw [g1.sz];omega
   refine wpS_bind (wpS_modify (wpS_pure ⟨rfl,g1.arr (bubble_perm _ _ _),λi hi=>?_,λi j a1 a2 a3=>?_⟩))
   ·refine Eq.trans ?_ (l1 i hi)
    show K (bubble (arrOf v) (lo+k) (lo+k - (lo+l))) i=_
    rw [K_bubble sz (by omega),if_neg (by omega),if_neg (by omega)]
   ·show K (bubble (arrOf v) (lo+k) (lo+k - (lo+l))) i<=K (bubble (arrOf v) (lo+k) (lo+k - (lo+l))) j
    rw [K_bubble sz (by omega),K_bubble sz (by omega),show lo+k - (lo+k - (lo+l))=lo+l from Nat.sub_sub_self (by omega)]
    have a4:j < lo+(k+1):=by omega
    repeat' split
    all_goals first
     | (exfalso;omega)
     | exact Int.le_refl _
     | exact b2 _ (by omega) (by omega)
     | exact Int.le_of_lt (b3 _ (by omega) (by omega))
     | exact r1 _ _ (by omega) (by omega) (by omega)
end
end L2
namespace L2
open PySem PySem.Spec PyProof.Rows
noncomputable def ky (q:Keyed):Int:=numOf q.1
theorem wR {xs:Array Keyed}{i:Nat}{q:Keyed} (h:xs[i]?=some q):K xs i=ky q:=by
 unfold K ky;rw [h]
structure Mg (a b out:Array Keyed):Prop where
 pm:out.toList.Perm (a.toList++b.toList)
 so:(out.toList.map ky).Pairwise (·<=·)
structure LoI (a b out:Array Keyed) (ia ib:Nat):Prop where
 pm:out.toList.Perm (a.toList.take ia++b.toList.take ib)
 so:(out.toList.map ky).Pairwise (·<=·)
 ba:∀o∈out.toList,∀i,ia<=i->i < a.size->ky o<=K a i
 bb:∀o∈out.toList,∀j,ib<=j->j < b.size->ky o<=K b j
theorem bt (a:Array Keyed) (i k:Nat):(a.extract i (i+k)).toList=(a.toList.drop i).take k:=by
 rw [Array.toList_extract,List.extract_eq_take_drop,Nat.add_sub_cancel_left]
theorem bq {a:Array Keyed}{i k:Nat}{o:Keyed} (h:o∈(a.toList.drop i).take k):∃j,i<=j/\j < i+k/\j < a.size/\ky o=K a j:=by
 obtain⟨n,hn,e⟩:=List.getElem_of_mem h
 rw [List.length_take,List.length_drop,Array.length_toList]at hn
 refine⟨i+n,by omega,by omega,by omega,?_⟩
 rw [wR (q:=o)]
 rw [List.getElem_take,List.getElem_drop]at e
 rw [<- e]
 simp only [Array.getElem_toList]
 rw [getElem?_pos a (i+n) (by omega)]
theorem iJ {a:Array Keyed} (r:Ris a 0 a.size) (i k:Nat):(((a.toList.drop i).take k).map ky).Pairwise (·<=·):=by
 rw [List.pairwise_iff_getElem]
 intro m n hm hn hmn
 rw [List.length_map,List.length_take,List.length_drop,Array.length_toList]at hm hn
 rw [List.getElem_map,List.getElem_map,List.getElem_take,List.getElem_take,List.getElem_drop,List.getElem_drop]
 have h:=r (i+m) (i+n) (by omega) (by omega) (by omega)
 rw [wR (getElem?_pos a (i+m) (by omega)),wR (getElem?_pos a (i+n) (by omega))]at h
 exact h
theorem kq (l:List Keyed) (i k:Nat):l.take (i+k)=l.take i++(l.drop i).take k:=by
 rw [List.take_add]
theorem LoI.takeA {a b out:Array Keyed}{ia ib k:Nat} (h:LoI a b out ia ib) (ra:Ris a 0 a.size) (rb:Ris b 0 b.size) (hb:∀i,ia<=i->i < ia+k->i < a.size->ib < b.size->K a i<=K b ib) :
  LoI a b (out++a.extract ia (ia+k)) (ia+k) ib:=by
 refine⟨?_,?_,?_,?_⟩
 ·rw [Array.toList_append,bt,kq]
  refine(h.pm.append_right _).trans ?_
  rw [List.append_assoc,List.append_assoc]
  exact List.Perm.append_left _ List.perm_append_comm
 ·rw [Array.toList_append,bt,List.map_append,List.pairwise_append]
  refine⟨h.so,iJ ra _ _,λx hx y hy=>?_⟩
  obtain⟨o,ho,rfl⟩:=List.mem_map.mp hx
  obtain⟨q,hq,rfl⟩:=List.mem_map.mp hy
  obtain⟨j,j1,j2,j3,e⟩:=bq hq
  rw [e]
  exact h.ba o ho j j1 j3
 ·intro o ho i i1 i2
  rw [Array.toList_append,bt]at ho
  rcases List.mem_append.mp ho with ho | ho
  ·exact h.ba o ho i (by omega) i2
  ·obtain⟨j,j1,j2,j3,e⟩:=bq ho
   rw [e]
   exact ra j i (by omega) (by omega) i2
 ·intro o ho i i1 i2
  rw [Array.toList_append,bt]at ho
  rcases List.mem_append.mp ho with ho | ho
  ·exact h.bb o ho i i1 i2
  ·obtain⟨j,j1,j2,j3,e⟩:=bq ho
   rw [e]
   exact Int.le_trans (hb j j1 j2 j3 (by omega)) (rb ib i (by omega) i1 i2)
theorem LoI.takeB {a b out:Array Keyed}{ia ib k:Nat} (h:LoI a b out ia ib) (ra:Ris a 0 a.size) (rb:Ris b 0 b.size) (hb:∀i,ib<=i->i < ib+k->i < b.size->ia < a.size->K b i<=K a ia) :
  LoI a b (out++b.extract ib (ib+k)) ia (ib+k):=by
 refine⟨?_,?_,?_,?_⟩
 ·rw [Array.toList_append,bt,kq,<- List.append_assoc]
  exact h.pm.append_right _
 ·rw [Array.toList_append,bt,List.map_append,List.pairwise_append]
  refine⟨h.so,iJ rb _ _,λx hx y hy=>?_⟩
  obtain⟨o,ho,rfl⟩:=List.mem_map.mp hx
  obtain⟨q,hq,rfl⟩:=List.mem_map.mp hy
  obtain⟨j,j1,j2,j3,e⟩:=bq hq
  rw [e]
  exact h.bb o ho j j1 j3
 ·intro o ho i i1 i2
  rw [Array.toList_append,bt]at ho
  rcases List.mem_append.mp ho with ho | ho
  ·exact h.ba o ho i i1 i2
  ·obtain⟨j,j1,j2,j3,e⟩:=bq ho
   rw [e]
   exact Int.le_trans (hb j j1 j2 j3 (by omega)) (ra ia i (by omega) i1 i2)
 ·intro o ho i i1 i2
  rw [Array.toList_append,bt]at ho
  rcases List.mem_append.mp ho with ho | ho
  ·exact h.bb o ho i (by omega) i2
  ·obtain⟨j,j1,j2,j3,e⟩:=bq ho
   rw [e]
   exact rb j i (by omega) (by omega) i2
theorem eZ {a out:Array Keyed}{i:Nat}{x:Keyed} (h:a[i]?=some x):out.push x=out++a.extract i (i+1):=by
 apply Array.ext'
 obtain⟨hi,e⟩:=Array.getElem?_eq_some_iff.mp h
 rw [Array.toList_push,Array.toList_append,bt,List.drop_eq_getElem_cons (by rw [Array.length_toList];exact hi)]
 rw [List.take_succ_cons,List.take_zero,Array.getElem_toList,e]
theorem LoI.fin {a b out:Array Keyed} (h:LoI a b out a.size b.size):Mg a b out:=by
 refine⟨?_,h.so⟩
 have:=h.pm
 rwa [List.take_of_length_le (by simp),List.take_of_length_le (by simp)]at this
theorem LoI.done {a b out:Array Keyed}{ia ib:Nat} (h:LoI a b out ia ib) (ra:Ris a 0 a.size) (rb:Ris b 0 b.size) (ha:ia<=a.size) (hb:ib=b.size) :
  Mg a b (out++a.extract ia a.size++b.extract ib b.size):=by
 have h1:=(h.takeA (k:=a.size - ia) ra rb λi _ _ _ hh=>by omega).takeB (k:=b.size - ib) ra rb λi _ _ _ hh=>by omega
 rw [show ia+(a.size - ia)=a.size from Nat.add_sub_of_le (by omega),show ib+(b.size - ib)=b.size from Nat.add_sub_of_le (by omega)]at h1
 exact h1.fin
theorem LoI.lastA {a b out:Array Keyed}{ia ib:Nat} (h:LoI a b out ia ib) (ra:Ris a 0 a.size) (rb:Ris b 0 b.size) (ha:ia+1=a.size) (hb:ib<=b.size)
  (hl:∀j,j < b.size->K b j<=K a (a.size - 1)):Mg a b (out++b.extract ib b.size++a.extract ia a.size):=by
 have h1:=(h.takeB (k:=b.size - ib) ra rb λi _ _ hi _=>by rw [show ia=a.size - 1 by omega];exact hl i hi).takeA (k:=a.size - ia) ra rb λi _ _ _ hh=>by omega
 rw [show ia+(a.size - ia)=a.size from Nat.add_sub_of_le (by omega),show ib+(b.size - ib)=b.size from Nat.add_sub_of_le (by omega)]at h1
 exact h1.fin
structure HiI (a b o:Array Keyed) (na nb:Nat):Prop where
 pm:o.toList.Perm (a.toList.drop na++b.toList.drop nb)
 so:(o.toList.map ky).Pairwise (·<=·)
 ba:∀q∈o.toList,∀i,i < na->i < a.size->K a i<=ky q
 bb:∀q∈o.toList,∀j,j < nb->j < b.size->K b j<=ky q
theorem dZ (l:List Keyed) (i k:Nat):l.drop i=(l.drop i).take k++l.drop (i+k):=by
 rw [<- List.drop_drop,List.take_append_drop]
theorem HiI.takeA {a b o:Array Keyed}{na nb i k:Nat} (h:HiI a b o na nb) (e:na=i+k) (ra:Ris a 0 a.size) (rb:Ris b 0 b.size) (hn:nb<=b.size) (hb:∀j,i<=j->j < na->j < a.size->0 < nb->K b (nb - 1)<=K a j) :
  HiI a b (a.extract i na++o) i nb:=by
 subst e
 refine⟨?_,?_,?_,?_⟩
 ·rw [Array.toList_append,bt]
  refine(List.Perm.append_left _ h.pm).trans ?_
  rw [<- List.append_assoc,<- dZ]
 ·rw [Array.toList_append,bt,List.map_append,List.pairwise_append]
  refine⟨iJ ra _ _,h.so,λx hx y hy=>?_⟩
  obtain⟨q,hq,rfl⟩:=List.mem_map.mp hx
  obtain⟨p,hp,rfl⟩:=List.mem_map.mp hy
  obtain⟨j,j1,j2,j3,e⟩:=bq hq
  rw [e]
  exact h.ba p hp j j2 j3
 ·intro q hq j j1 j2
  rw [Array.toList_append,bt]at hq
  rcases List.mem_append.mp hq with hq | hq
  ·obtain⟨m,m1,m2,m3,e⟩:=bq hq
   rw [e]
   exact ra j m (by omega) (by omega) m3
  ·exact h.ba q hq j (by omega) j2
 ·intro q hq j j1 j2
  rw [Array.toList_append,bt]at hq
  rcases List.mem_append.mp hq with hq | hq
  ·obtain⟨m,m1,m2,m3,e⟩:=bq hq
   rw [e]
   exact Int.le_trans (rb j (nb - 1) (by omega) (by omega) (by omega)) (hb m m1 m2 m3 (by omega))
  ·exact h.bb q hq j j1 j2
theorem HiI.takeB {a b o:Array Keyed}{na nb i k:Nat} (h:HiI a b o na nb) (e:nb=i+k) (ra:Ris a 0 a.size) (rb:Ris b 0 b.size) (hn:na<=a.size) (hb:∀j,i<=j->j < nb->j < b.size->0 < na->K a (na - 1)<=K b j) :
  HiI a b (b.extract i nb++o) na i:=by
 subst e
 refine⟨?_,?_,?_,?_⟩
 ·rw [Array.toList_append,bt]
  refine(List.Perm.append_left _ h.pm).trans ?_
  rw [dZ b.toList i k,<- List.append_assoc,<- List.append_assoc,<- dZ]
  exact List.Perm.append_right _ List.perm_append_comm
 ·rw [Array.toList_append,bt,List.map_append,List.pairwise_append]
  refine⟨iJ rb _ _,h.so,λx hx y hy=>?_⟩
  obtain⟨q,hq,rfl⟩:=List.mem_map.mp hx
  obtain⟨p,hp,rfl⟩:=List.mem_map.mp hy
  obtain⟨j,j1,j2,j3,e⟩:=bq hq
  rw [e]
  exact h.bb p hp j j2 j3
 ·intro q hq j j1 j2
  rw [Array.toList_append,bt]at hq
  rcases List.mem_append.mp hq with hq | hq
  ·obtain⟨m,m1,m2,m3,e⟩:=bq hq
   rw [e]
   exact Int.le_trans (ra j (na - 1) (by omega) (by omega) (by omega)) (hb m m1 m2 m3 (by omega))
  ·exact h.ba q hq j j1 j2
 ·intro q hq j j1 j2
  rw [Array.toList_append,bt]at hq
  rcases List.mem_append.mp hq with hq | hq
  ·obtain⟨m,m1,m2,m3,e⟩:=bq hq
   rw [e]
   exact rb j m (by omega) (by omega) m3
  ·exact h.bb q hq j (by omega) j2
theorem eY {a out:Array Keyed}{i:Nat}{x:Keyed} (h:a[i]?=some x):(out.push x).reverse=a.extract i (i+1)++out.reverse:=by
 rw [eZ h,Array.reverse_append]
 congr 1
 apply Array.ext'
 rw [Array.toList_reverse,bt]
 obtain⟨hi,e⟩:=Array.getElem?_eq_some_iff.mp h
 rw [List.drop_eq_getElem_cons (by rw [Array.length_toList];exact hi)]
 rw [List.take_succ_cons,List.take_zero]
 rfl
theorem qA (out x:Array Keyed):(out++x.reverse).reverse=x++out.reverse:=by
 rw [Array.reverse_append,Array.reverse_reverse]
theorem HiI.fin {a b o:Array Keyed} (h:HiI a b o 0 0):Mg a b o:=⟨h.pm,h.so⟩
theorem HiI.done {a b o:Array Keyed}{na nb:Nat} (h:HiI a b o na nb) (ra:Ris a 0 a.size) (rb:Ris b 0 b.size) (ha:na=0) (hb:nb<=b.size) :
  Mg a b (a.extract 0 na++b.extract 0 nb++o):=by
 have h1:=(h.takeB (i:=0) (k:=nb) (by omega) ra rb (by omega) λj _ _ _ hh=>by omega).takeA (i:=0) (k:=na) (by omega) ra rb (by omega) λj _ _ _ hh=>by omega
 rw [<- Array.append_assoc]at h1
 exact h1.fin
theorem HiI.firstB {a b o:Array Keyed}{na nb:Nat} (h:HiI a b o na nb) (ra:Ris a 0 a.size) (rb:Ris b 0 b.size) (ha:na<=a.size) (hb:nb=1) (hz:0 < b.size)
  (hl:∀j,j < a.size->K b 0<=K a j):Mg a b (b.extract 0 nb++a.extract 0 na++o):=by
 subst hb
 have h1:=(h.takeA (i:=0) (k:=na) (by omega) ra rb (by omega) λj _ _ hj _=>hl j hj).takeB (i:=0) (k:=1) (by omega) ra rb (by omega) λj _ _ _ hh=>by omega
 rw [<- Array.append_assoc]at h1
 exact h1.fin
end L2
namespace L2
open PySem PySem.Spec PyProof.Rows
noncomputable def loX:Array Keyed->Array Keyed->StateT SortSt Sem (Array Keyed):=sortPriv% PySem.Builtin.mergeLo
noncomputable def hiX:Array Keyed->Array Keyed->StateT SortSt Sem (Array Keyed):=sortPriv% PySem.Builtin.mergeHi
noncomputable def yy:Nat->StateT SortSt Sem Unit:=sortPriv% PySem.Builtin.setMinGallop
noncomputable def IK (a:Array Keyed):Prop:=∀i,i < a.size->∃t q,a[i]?=some (.int (K a i) t,q)
structure SS (st u:SortSt):Prop where
 ar:arrOf u=arrOf st
 pd:pendingOf u=pendingOf st
 kd:kindOf u=oneType'
 fl:failedOf u=none
section
variable {prog:Program}{w:World}{A:Around}{E:Value->Shared->Prop}{s:Shared}
theorem cA {st:SortSt}{arr:Array Keyed}{i:Nat}{x:Keyed}{Q:Keyed->SortSt->Prop} (h:arr[i]?=some x) (q:Q x st):wpS (model prog w) A E s (elem' arr i) Q st:=by
 rw [elem'_eq,h]
 exact wpS_pure q
theorem qy {st u:SortSt}{g:Nat}{Q:Unit->SortSt->Prop} (h:SS st u) (q:∀v,SS st v->Q () v):wpS (model prog w) A E s (yy g) Q u:=by
 unfold yy
 k_delta "setMinGallop"
 exact wpS_modify (q _ ⟨h.ar,h.pd,h.kd,h.fl⟩)
theorem y6 {st u:SortSt}{arr:Array Keyed}{c:Int}{t:Tok}{q:Value}{base n hint:Nat}{Q:Option Nat->SortSt->Prop} (g:SS st u) (ik:IK arr) (hn:base+n<=arr.size) (r:Ris arr base (base+n)) (hh:hint < n)
  (h:∀k,k<=n->(∀i,i < k->K arr (base+i)<=c)->(∀i,k<=i->i < n->c < K arr (base+i))->Q (some k) u) :
  wpS (model prog w) A E s (jY false (.int c t,q) arr base n hint) Q u:=by
 refine lc (λi=>!decide (c < K arr (base+i))) hh (λi R hi hr=>?_) (λi j hij hj e=>?_) λk k1 k2 k3=>h k k1 (λi hi=>?_) λi i1 i2=>?_
 ·obtain⟨t2,q2,e⟩:=ik (base+i) (by omega)
  refine wpS_bind (cA e ?_)
  rw [if_neg (by decide)]
  exact wpS_bind (jW g.kd (wpS_pure hr))
 ·have:=r (base+i) (base+j) (by omega) (by omega) (by omega)
  simp only [Bool.not_eq_true',decide_eq_false_iff_not]at e ⊢
  omega
 ·have:=k2 i hi
  simp only [Bool.not_eq_true',decide_eq_false_iff_not]at this
  omega
 ·have:=k3 i i1 i2
  simpa using this
theorem xZ {st u:SortSt}{arr:Array Keyed}{c:Int}{t:Tok}{q:Value}{base n hint:Nat}{Q:Option Nat->SortSt->Prop} (g:SS st u) (ik:IK arr) (hn:base+n<=arr.size) (r:Ris arr base (base+n)) (hh:hint < n)
  (h:∀k,k<=n->(∀i,i < k->K arr (base+i) < c)->(∀i,k<=i->i < n->c<=K arr (base+i))->Q (some k) u) :
  wpS (model prog w) A E s (jY true (.int c t,q) arr base n hint) Q u:=by
 refine lc (λi=>decide (K arr (base+i) < c)) hh (λi R hi hr=>?_) (λi j hij hj e=>?_) λk k1 k2 k3=>h k k1 (λi hi=>?_) λi i1 i2=>?_
 ·obtain⟨t2,q2,e⟩:=ik (base+i) (by omega)
  refine wpS_bind (cA e ?_)
  rw [if_pos rfl]
  exact jW g.kd hr
 ·have:=r (base+i) (base+j) (by omega) (by omega) (by omega)
  simp only [decide_eq_true_eq]at e ⊢
  omega
 ·simpa using k2 i hi
 ·have:=k3 i i1 i2
  simp only [decide_eq_false_iff_not]at this
  omega
theorem Ris.sub {xs:Array Keyed}{a b c d:Nat} (r:Ris xs a b) (h1:a<=c) (h2:d<=b):Ris xs c d:=λi j x y z=>r i j (by omega) y (by omega)
theorem yg {a b:Array Keyed}{st u:SortSt}{Q:Array Keyed->SortSt->Prop} (g:SS st u) (ia:IK a) (ib:IK b) (ra:Ris a 0 a.size) (rb:Ris b 0 b.size) (za:0 < a.size) (zb:0 < b.size)
  (hf:∀i,i < a.size->K b 0<=K a i) (hl:∀j,j < b.size->K b j < K a (a.size - 1))
  (h:∀out v,SS st v->Mg a b out->Q out v):wpS (model prog w) A E s (loX a b) Q u:=by
 unfold loX
 k_delta "mergeLo"
 dsimp only
 refine wpS_bind (wpS_lift (wpAny_rule ⟨rfl,?_⟩))
 obtain⟨t0,q0,e0⟩:=ib 0 zb
 refine wpS_bind (cA e0 ?_)
 have L0:LoI a b #[(.int (K b 0) t0,q0)] 0 1:=by
  have:=(LoI.takeB (a:=a) (b:=b) (out:=#[]) (ia:=0) (ib:=0) (k:=1) ⟨by simp,by simp,by simp,by simp⟩ ra rb λi i1 i2 i3 i4=>by rw [show i=0 by omega];exact hf 0 i4)
  rw [<- eZ e0]at this
  exact this
 by_cases b1:1=b.size
 ·rw [if_pos (by simpa using b1)]
  exact wpS_pure (h _ _ g (L0.done ra rb (by omega) b1))
 rw [if_neg (by simpa using b1)]
 by_cases a1:0+1=a.size
 ·rw [if_pos (by simpa using a1)]
  exact wpS_pure (h _ _ g (L0.lastA ra rb a1 (by omega) λj hj=>Int.le_of_lt (hl j hj)))
 rw [if_neg (by simpa using a1)]
 refine wpS_bind (wpS_get ?_)
 refine wpS_bind (wpS_mono (wpS_forRange (I:=λx c v=>SS st v/\∃out i j m,c=(none,out,i,j,m)/\LoI a b out i j/\i+1 < a.size/\j < b.size/\x+1<=i+j)
  (Q:=λc v=>SS st v/\∃r out i j m,c=(some r,out,i,j,m)/\Mg a b r) ?step ?fin ⟨g,_,0,1,_,rfl,L0,by omega,by omega,by omega⟩) ?post)
 case post=>
  rintro c v ⟨g',r,out,i,j,m,rfl,hm⟩
  exact wpS_pure (h r v g' hm)
 case fin=>
  rintro c v ⟨g',out,i,j,m,rfl,L,x1,x2,x3⟩
  exfalso
  omega
 case step=>
  rintro x c v _ xn ⟨g1,out,i,j,m,rfl,L,x1,x2,x3⟩
  dsimp only
  refine wpS_bind (wpS_mono (wpS_forRange (I:=λy c v=>SS st v/\∃out i' j' ac bc,c=(none,out,i',j',ac,bc)/\LoI a b out i' j'/\i'+1 < a.size/\j' < b.size/\i+j+y<=i'+j')
   (Q:=λc v=>SS st v/\∃o out i' j' ac bc,c=(o,out,i',j',ac,bc)/\((∃r,o=some r/\Mg a b r)\/(o=none/\LoI a b out i' j'/\i'+1 < a.size/\j' < b.size/\i+j+1<=i'+j'))) ?step1 ?fin1 ⟨g1,out,i,j,0,0,rfl,L,x1,x2,by omega⟩) ?post1)
  case fin1=>
   rintro c v ⟨g',out,i',j',ac,bc,rfl,L',y1,y2,y3⟩
   exact⟨g',_,out,i',j',ac,bc,rfl,.inr ⟨rfl,L',y1,y2,by omega⟩⟩
  case step1=>
   rintro y c v _ yn ⟨g2,out,i',j',ac,bc,rfl,L',y1,y2,y3⟩
   dsimp only
   obtain⟨tb,qb,eb⟩:=ib j' y2
   obtain⟨ta,qa,ea⟩:=ia i' (by omega)
   refine wpS_bind (cA eb ?_)
   refine wpS_bind (cA ea ?_)
   refine wpS_bind (jW g2.kd ?_)
   by_cases less:K b j' < K a i'
   ·rw [decide_eq_true less]
    dsimp only
    rw [if_pos rfl]
    refine wpS_bind (cA eb ?_)
    have L2:=L'.takeB (k:=1) ra rb λn n1 n2 n3 n4=>by rw [show n=j' by omega];exact Int.le_of_lt less
    rw [<- eZ eb]at L2
    by_cases eb1:j'+1=b.size
    ·rw [if_pos (by simpa using eb1)]
     exact wpS_pure ⟨g2,_,_,_,_,_,_,rfl,.inl ⟨_,rfl,L2.done ra rb (by omega) eb1⟩⟩
    ·rw [if_neg (by simpa using eb1)]
     split
     ·exact wpS_pure ⟨g2,_,_,_,_,_,_,rfl,.inr ⟨rfl,L2,y1,by omega,by omega⟩⟩
     ·exact wpS_pure ⟨g2,_,_,_,_,_,rfl,L2,y1,by omega,by omega⟩
   ·rw [decide_eq_false less]
    dsimp only
    rw [if_neg (by decide)]
    refine wpS_bind (cA ea ?_)
    have L2:=L'.takeA (k:=1) ra rb λn n1 n2 n3 n4=>by rw [show n=i' by omega];omega
    rw [<- eZ ea]at L2
    by_cases ea1:i'+1+1=a.size
    ·rw [if_pos (by simpa using ea1)]
     exact wpS_pure ⟨g2,_,_,_,_,_,_,rfl,.inl ⟨_,rfl,L2.lastA ra rb ea1 (by omega) λj hj=>Int.le_of_lt (hl j hj)⟩⟩
    ·rw [if_neg (by simpa using ea1)]
     split
     ·exact wpS_pure ⟨g2,_,_,_,_,_,_,rfl,.inr ⟨rfl,L2,by omega,y2,by omega⟩⟩
     ·exact wpS_pure ⟨g2,_,_,_,_,_,rfl,L2,by omega,y2,by omega⟩
  case post1=>
   rintro c v ⟨g2,o,out,i',j',ac,bc,rfl,(⟨r,rfl,hm⟩ | ⟨rfl,L',y1,y2,y3⟩)⟩
   ·exact wpS_pure ⟨g2,_,_,_,_,_,rfl,hm⟩
   dsimp only
   refine wpS_bind (wpS_lift (wpAny_rule ⟨rfl,?_⟩))
   refine wpS_bind (wpS_mono (wpS_forRange (I:=λy c v=>SS st v/\∃out i' j' mg ac bc,c=(none,out,i',j',mg,ac,bc)/\LoI a b out i' j'/\i'+1 < a.size/\j' < b.size/\i+j+1<=i'+j')
    (Q:=λc v=>SS st v/\∃o out i' j' mg ac bc,c=(o,out,i',j',mg,ac,bc)/\((∃r,o=some r/\Mg a b r)\/(o=none/\LoI a b out i' j'/\i'+1 < a.size/\j' < b.size/\i+j+1<=i'+j'))) ?step2 ?fin2 ⟨g2,out,i',j',_,ac,bc,rfl,L',y1,y2,y3⟩) ?post2)
   case fin2=>
    rintro c v ⟨g',out,i',j',mg,ac,bc,rfl,L',y1,y2,y3⟩
    exact⟨g',_,out,i',j',mg,ac,bc,rfl,.inr ⟨rfl,L',y1,y2,y3⟩⟩
   case post2=>
    rintro c v ⟨g3,o,out,i',j',mg,ac,bc,rfl,(⟨r,rfl,hm⟩ | ⟨rfl,L',y1,y2,y3⟩)⟩
    ·exact wpS_pure ⟨g3,_,_,_,_,_,rfl,hm⟩
    dsimp only
    refine wpS_bind (qy g3 λv2 g4=>?_)
    exact wpS_pure ⟨g4,_,_,_,_,rfl,L',y1,y2,by omega⟩
   case step2=>
    rintro y c v _ yn ⟨g3,out,i',j',mg,ac,bc,rfl,L',y1,y2,y3⟩
    dsimp only
    obtain⟨tb,qb,eb⟩:=ib j' y2
    by_cases hmg:mg > 1
    case' pos=>rw [if_pos hmg]
    case' neg=>rw [if_neg hmg]
    all_goals
     refine wpS_bind (qy g3 λv2 g4=>?_)
     refine wpS_bind (cA eb ?_)
     refine wpS_bind (y6 g4 ia (by omega) (ra.sub (by omega) (by omega)) (by omega) λk k1 k2 k3=>?_)
     dsimp only
     have kz:i'+k < a.size:=by
      apply Classical.byContradiction
      intro hk
      have e1:=k2 (a.size - 1 - i') (by omega)
      rw [show i'+(a.size - 1 - i')=a.size - 1 from Nat.add_sub_of_le (by omega)]at e1
      have e2:=hl j' y2
      omega
     have kl:K b j' < K a (i'+k):=k3 k (Nat.le_refl _) (by omega)
     have L2:=L'.takeA (k:=k) ra rb λn n1 n2 n3 n4=>by
      have:=k2 (n - i') (by omega)
      rwa [show i'+(n - i')=n from Nat.add_sub_of_le (by omega)]at this
     by_cases hk:k > 0
     case' pos=>
      rw [if_pos hk]
      by_cases ea1:i'+k+1=a.size
      ·rw [if_pos (by simpa using ea1)]
       exact wpS_pure ⟨g4,_,_,_,_,_,_,_,rfl,.inl ⟨_,rfl,L2.lastA ra rb ea1 (by omega) λj hj=>Int.le_of_lt (hl j hj)⟩⟩
      rw [if_neg (by simpa using ea1),if_neg (by simp only [beq_iff_eq];omega)]
      have I1:i'+k+1 < a.size:=by omega
      have I2:i+j+1<=i'+k+j':=by omega
      clear k1 k2 k3 L' y1 y3
      generalize i'+k=I at *
      generalize out++a.extract i' I=O at *
     case' neg=>
      rw [if_neg hk]
      have e:k=0:=by omega
      subst e
      clear L2
      have L2:=L'
      have I1:=y1
      have I2:=y3
      rw [Nat.add_zero]at kl kz
      clear k1 k2 k3 L' y1 y3
      generalize i'=I at *
      generalize out=O at *
     all_goals
      refine wpS_bind (cA eb ?_)
      have L3:=L2.takeB (k:=1) ra rb λn n1 n2 n3 n4=>by rw [show n=j' by omega];exact Int.le_of_lt kl
      rw [<- eZ eb]at L3
      by_cases eb1:j'+1=b.size
      ·rw [if_pos (by simpa using eb1)]
       exact wpS_pure ⟨g4,_,_,_,_,_,_,_,rfl,.inl ⟨_,rfl,L3.done ra rb (by omega) eb1⟩⟩
      rw [if_neg (by simpa using eb1)]
      obtain⟨ta,qa,ea⟩:=ia I (by omega)
      refine wpS_bind (cA ea ?_)
      refine wpS_bind (xZ g4 ib (by omega) (rb.sub (by omega) (by omega)) (by omega) λm m1 m2 m3=>?_)
      dsimp only
      have L4:=L3.takeB (k:=m) ra rb λn n1 n2 n3 n4=>by
       have:=m2 (n - (j'+1)) (by omega)
       rw [show j'+1+(n - (j'+1))=n from Nat.add_sub_of_le (by omega)]at this
       exact Int.le_of_lt this
      by_cases hm:m > 0
      case' pos=>
       rw [if_pos hm]
       by_cases eb2:j'+1+m=b.size
       ·rw [if_pos (by simpa using eb2)]
        exact wpS_pure ⟨g4,_,_,_,_,_,_,_,rfl,.inl ⟨_,rfl,L4.done ra rb (by omega) eb2⟩⟩
       rw [if_neg (by simpa using eb2)]
       have L5:=L4.takeA (k:=1) ra rb λn n1 n2 n3 n4=>by
        rw [show n=I by omega];exact m3 m (Nat.le_refl _) (by omega)
      case' neg=>
       rw [if_neg hm]
       have e:m=0:=by omega
       subst e
       have L5:=L3.takeA (k:=1) ra rb λn n1 n2 n3 n4=>by
        rw [show n=I by omega];exact m3 0 (Nat.le_refl _) (by omega)
      all_goals
       refine wpS_bind (cA ea ?_)
       rw [<- eZ ea]at L5
       by_cases ea2:I+1+1=a.size
       ·rw [if_pos (by simpa using ea2)]
        exact wpS_pure ⟨g4,_,_,_,_,_,_,_,rfl,.inl ⟨_,rfl,L5.lastA ra rb ea2 (by omega) λj hj=>Int.le_of_lt (hl j hj)⟩⟩
       rw [if_neg (by simpa using ea2)]
       split
       ·exact wpS_pure ⟨g4,_,_,_,_,_,_,_,rfl,.inr ⟨rfl,L5,by omega,by omega,by omega⟩⟩
       ·exact wpS_pure ⟨g4,_,_,_,_,_,_,rfl,L5,by omega,by omega,by omega⟩
end
end L2
namespace L2
open PySem PySem.Spec PyProof.Rows
section
variable {prog:Program}{w:World}{A:Around}{E:Value->Shared->Prop}{s:Shared}
theorem yh {a b:Array Keyed}{st u:SortSt}{Q:Array Keyed->SortSt->Prop} (g:SS st u) (ia:IK a) (ib:IK b) (ra:Ris a 0 a.size) (rb:Ris b 0 b.size) (za:0 < a.size) (zb:0 < b.size)
  (hf:∀i,i < a.size->K b 0 < K a i) (hl:∀j,j < b.size->K b j < K a (a.size - 1))
  (h:∀out v,SS st v->Mg a b out->Q out v):wpS (model prog w) A E s (hiX a b) Q u:=by
 unfold hiX
 k_delta "mergeHi"
 dsimp only
 refine wpS_bind (wpS_lift (wpAny_rule ⟨rfl,?_⟩))
 obtain⟨t0,q0,e0⟩:=ia (a.size - 1) (by omega)
 refine wpS_bind (cA e0 ?_)
 have hf':∀j,j < a.size->K b 0<=K a j:=λj hj=>Int.le_of_lt (hf j hj)
 have L0:HiI a b (Array.reverse #[(.int (K a (a.size - 1)) t0,q0)]) (a.size - 1) b.size:=by
  have:=(HiI.takeA (a:=a) (b:=b) (o:=(#[]:Array Keyed).reverse) (na:=a.size) (nb:=b.size) (i:=a.size - 1) (k:=1) ⟨by simp,by simp,by simp,by simp⟩ (by omega) ra rb (by omega) λj i1 i2 i3 i4=>by rw [show j=a.size - 1 by omega];exact Int.le_of_lt (hl _ (by omega)))
  have e1:=eY (out:=#[]) e0
  rw [show a.size - 1+1=a.size by omega]at e1
  rw [<- e1]at this
  exact this
 by_cases a1:a.size - 1=0
 ·rw [if_pos (by simpa using a1)]
  exact wpS_pure (h _ _ g (L0.done ra rb a1 (by omega)))
 rw [if_neg (by simpa using a1)]
 by_cases b1:b.size=1
 ·rw [if_pos (by simpa using b1)]
  exact wpS_pure (h _ _ g (L0.firstB ra rb (by omega) b1 zb hf'))
 rw [if_neg (by simpa using b1)]
 refine wpS_bind (wpS_get ?_)
 refine wpS_bind (wpS_mono (wpS_forRange (I:=λx c v=>SS st v/\∃i j out m,c=(none,i,j,out,m)/\HiI a b out.reverse i j/\0 < i/\i<=a.size/\1 < j/\j<=b.size/\i+j+x+1<=a.size+b.size)
  (Q:=λc v=>SS st v/\∃r i j out m,c=(some r,i,j,out,m)/\Mg a b r) ?step ?fin ⟨g,_,_,_,_,rfl,L0,by omega,by omega,by omega,by omega,by omega⟩) ?post)
 case post=>
  rintro c v ⟨g',r,i,j,out,m,rfl,hm⟩
  exact wpS_pure (h r v g' hm)
 case fin=>
  rintro c v ⟨g',i,j,out,m,rfl,L,x1,x2,x3,x4,x5⟩
  exfalso
  omega
 case step=>
  rintro x c v _ xn ⟨g1,i,j,out,m,rfl,L,x1,x2,x3,x4,x5⟩
  dsimp only
  refine wpS_bind (wpS_mono (wpS_forRange (I:=λy c v=>SS st v/\∃i' j' out ac bc,c=(none,i',j',out,ac,bc)/\HiI a b out.reverse i' j'/\0 < i'/\i'<=a.size/\1 < j'/\j'<=b.size/\i'+j'+y<=i+j)
   (Q:=λc v=>SS st v/\∃o i' j' out ac bc,c=(o,i',j',out,ac,bc)/\((∃r,o=some r/\Mg a b r)\/(o=none/\HiI a b out.reverse i' j'/\0 < i'/\i'<=a.size/\1 < j'/\j'<=b.size/\i'+j'+1<=i+j))) ?step1 ?fin1 ⟨g1,i,j,out,0,0,rfl,L,x1,x2,x3,x4,by omega⟩) ?post1)
  case fin1=>
   rintro c v ⟨g',i',j',out,ac,bc,rfl,L',y1,y2,y3,y4,y5⟩
   exact⟨g',_,i',j',out,ac,bc,rfl,.inr ⟨rfl,L',y1,y2,y3,y4,by omega⟩⟩
  case step1=>
   rintro y c v _ yn ⟨g2,i',j',out,ac,bc,rfl,L',y1,y2,y3,y4,y5⟩
   dsimp only
   obtain⟨tb,qb,eb⟩:=ib (j' - 1) (by omega)
   obtain⟨ta,qa,ea⟩:=ia (i' - 1) (by omega)
   refine wpS_bind (cA eb ?_)
   refine wpS_bind (cA ea ?_)
   refine wpS_bind (jW g2.kd ?_)
   by_cases less:K b (j' - 1) < K a (i' - 1)
   ·rw [decide_eq_true less]
    dsimp only
    rw [if_pos rfl]
    refine wpS_bind (cA ea ?_)
    have L2:=L'.takeA (i:=i' - 1) (k:=1) (by omega) ra rb y4 λn n1 n2 n3 n4=>by rw [show n=i' - 1 by omega];exact Int.le_of_lt less
    have e1:=eY (out:=out) ea
    rw [show i' - 1+1=i' by omega]at e1
    rw [<- e1]at L2
    by_cases ea1:i' - 1=0
    ·rw [if_pos (by simpa using ea1)]
     exact wpS_pure ⟨g2,_,_,_,_,_,_,rfl,.inl ⟨_,rfl,L2.done ra rb ea1 y4⟩⟩
    ·rw [if_neg (by simpa using ea1)]
     split
     ·exact wpS_pure ⟨g2,_,_,_,_,_,_,rfl,.inr ⟨rfl,L2,by omega,by omega,y3,y4,by omega⟩⟩
     ·exact wpS_pure ⟨g2,_,_,_,_,_,rfl,L2,by omega,by omega,y3,y4,by omega⟩
   ·rw [decide_eq_false less]
    dsimp only
    rw [if_neg (by decide)]
    refine wpS_bind (cA eb ?_)
    have L2:=L'.takeB (i:=j' - 1) (k:=1) (by omega) ra rb y2 λn n1 n2 n3 n4=>by rw [show n=j' - 1 by omega];omega
    have e1:=eY (out:=out) eb
    rw [show j' - 1+1=j' by omega]at e1
    rw [<- e1]at L2
    by_cases eb1:j' - 1=1
    ·rw [if_pos (by simpa using eb1)]
     exact wpS_pure ⟨g2,_,_,_,_,_,_,rfl,.inl ⟨_,rfl,L2.firstB ra rb y2 eb1 zb hf'⟩⟩
    ·rw [if_neg (by simpa using eb1)]
     split
     ·exact wpS_pure ⟨g2,_,_,_,_,_,_,rfl,.inr ⟨rfl,L2,y1,y2,by omega,by omega,by omega⟩⟩
     ·exact wpS_pure ⟨g2,_,_,_,_,_,rfl,L2,y1,y2,by omega,by omega,by omega⟩
  case post1=>
   rintro c v ⟨g2,o,i',j',out,ac,bc,rfl,(⟨r,rfl,hm⟩ | ⟨rfl,L',y1,y2,y3,y4,y5⟩)⟩
   ·exact wpS_pure ⟨g2,_,_,_,_,_,rfl,hm⟩
   dsimp only
   refine wpS_bind (wpS_lift (wpAny_rule ⟨rfl,?_⟩))
   refine wpS_bind (wpS_mono (wpS_forRange (I:=λy c v=>SS st v/\∃i' j' out mg ac bc,c=(none,i',j',out,mg,ac,bc)/\HiI a b out.reverse i' j'/\0 < i'/\i'<=a.size/\1 < j'/\j'<=b.size/\i'+j'+1<=i+j)
    (Q:=λc v=>SS st v/\∃o i' j' out mg ac bc,c=(o,i',j',out,mg,ac,bc)/\((∃r,o=some r/\Mg a b r)\/(o=none/\HiI a b out.reverse i' j'/\0 < i'/\i'<=a.size/\1 < j'/\j'<=b.size/\i'+j'+1<=i+j))) ?step2 ?fin2 ⟨g2,i',j',out,_,ac,bc,rfl,L',y1,y2,y3,y4,y5⟩) ?post2)
   case fin2=>
    rintro c v ⟨g',i',j',out,mg,ac,bc,rfl,L',y1,y2,y3,y4,y5⟩
    exact⟨g',_,i',j',out,mg,ac,bc,rfl,.inr ⟨rfl,L',y1,y2,y3,y4,y5⟩⟩
   case post2=>
    rintro c v ⟨g3,o,i',j',out,mg,ac,bc,rfl,(⟨r,rfl,hm⟩ | ⟨rfl,L',y1,y2,y3,y4,y5⟩)⟩
    ·exact wpS_pure ⟨g3,_,_,_,_,_,rfl,hm⟩
    dsimp only
    refine wpS_bind (qy g3 λv2 g4=>?_)
    exact wpS_pure ⟨g4,_,_,_,_,rfl,L',y1,y2,y3,y4,by omega⟩
   case step2=>
    rintro y c v _ yn ⟨g3,i',j',out,mg,ac,bc,rfl,L',y1,y2,y3,y4,y5⟩
    dsimp only
    obtain⟨tb,qb,eb⟩:=ib (j' - 1) (by omega)
    by_cases hmg:mg > 1
    case' pos=>rw [if_pos hmg]
    case' neg=>rw [if_neg hmg]
    all_goals
     refine wpS_bind (qy g3 λv2 g4=>?_)
     refine wpS_bind (cA eb ?_)
     refine wpS_bind (y6 g4 ia (by omega) (ra.sub (by omega) (by omega)) (by omega) λk k1 k2 k3=>?_)
     dsimp only
     simp only [Nat.zero_add]at k2 k3
     have kl:0 < k->K a (k - 1)<=K b (j' - 1):=λhk=>k2 (k - 1) (by omega)
     have L2:=L'.takeA (i:=k) (k:=i' - k) (by omega) ra rb y4 λn n1 n2 n3 n4=>Int.le_of_lt (k3 n n1 n2)
     rw [<- qA]at L2
     by_cases hk:i' - k > 0
     case' pos=>
      rw [if_pos hk]
      by_cases ea1:k=0
      ·rw [if_pos (by simpa using ea1)]
       exact wpS_pure ⟨g4,_,_,_,_,_,_,_,rfl,.inl ⟨_,rfl,L2.done ra rb ea1 y4⟩⟩
      rw [if_neg (by simpa using ea1)]
      have kl:=kl (by omega)
      have I1:0 < k:=by omega
      have I2:k<=a.size:=by omega
      have I3:k+j'+1<=i+j:=by omega
      clear k2 k3 L' y1 y5
      generalize i' - k=ct at *
      generalize out++(a.extract k i').reverse=O at *
     case' neg=>
      rw [if_neg hk]
      have e:k=i':=by omega
      have I1:=y1
      have I2:=y2
      have I3:=y5
      subst e
      have kl:=kl (by omega)
      clear L2
      have L2:=L'
      clear k2 k3 L' y1 y5
      generalize out=O at *
      generalize k - k=ct at *
     all_goals
      refine wpS_bind (cA eb ?_)
      have L3:=L2.takeB (i:=j' - 1) (k:=1) (by omega) ra rb I2 λn n1 n2 n3 n4=>by rw [show n=j' - 1 by omega];exact kl
      have e1:=eY (out:=O) eb
      rw [show j' - 1+1=j' by omega]at e1
      rw [<- e1]at L3
      by_cases eb1:j' - 1=1
      ·rw [if_pos (by simpa using eb1)]
       exact wpS_pure ⟨g4,_,_,_,_,_,_,_,rfl,.inl ⟨_,rfl,L3.firstB ra rb I2 eb1 zb hf'⟩⟩
      rw [if_neg (by simpa using eb1)]
      obtain⟨ta,qa,ea⟩:=ia (k - 1) (by omega)
      refine wpS_bind (cA ea ?_)
      refine wpS_bind (xZ g4 ib (by omega) (rb.sub (by omega) (by omega)) (by omega) λm m1 m2 m3=>?_)
      dsimp only
      simp only [Nat.zero_add]at m2 m3
      have mz:0 < m:=by
       apply Classical.byContradiction
       intro hm
       have:=m3 0 (by omega) (by omega)
       have:=hf (k - 1) (by omega)
       omega
      have L4:=L3.takeB (i:=m) (k:=j' - 1 - m) (by omega) ra rb I2 λn n1 n2 n3 n4=>m3 n n1 n2
      rw [<- qA]at L4
      have e2:=eY (a:=a) (out:=O.push (.int (K b (j' - 1)) tb,qb)) ea
      by_cases hm:j' - 1 - m > 0
      case' pos=>
       rw [if_pos hm]
       by_cases eb2:m=1
       ·rw [if_pos (by simpa using eb2)]
        exact wpS_pure ⟨g4,_,_,_,_,_,_,_,rfl,.inl ⟨_,rfl,L4.firstB ra rb I2 eb2 zb hf'⟩⟩
       rw [if_neg (by simpa using eb2),if_neg (by simp only [beq_iff_eq];omega)]
       have L5:=L4.takeA (i:=k - 1) (k:=1) (by omega) ra rb (by omega) λn n1 n2 n3 n4=>by
        rw [show n=k - 1 by omega];exact Int.le_of_lt (m2 (m - 1) (by omega))
       have J1:1 < m:=by omega
       have J2:m<=b.size:=by omega
       have J3:k - 1+m+1<=i+j:=by omega
       generalize O.push (Value.int (K b (j' - 1)) tb,qb)++(b.extract m (j' - 1)).reverse=O2 at *
       generalize j' - 1 - m=ct2 at *
      case' neg=>
       rw [if_neg hm]
       have e:m=j' - 1:=by omega
       have L5:=L3.takeA (i:=k - 1) (k:=1) (by omega) ra rb (by omega) λn n1 n2 n3 n4=>by
        rw [show n=k - 1 by omega]
        have:=m2 (j' - 1 - 1) (by omega)
        exact Int.le_of_lt this
       have J1:1 < j' - 1:=by omega
       have J2:j' - 1<=b.size:=by omega
       have J3:k - 1+(j' - 1)+1<=i+j:=by omega
       generalize O.push (Value.int (K b (j' - 1)) tb,qb)=O2 at *
       generalize j' - 1 - m=ct2 at *
      all_goals
       refine wpS_bind (cA ea ?_)
       have e3:=eY (out:=O2) ea
       rw [show k - 1+1=k by omega]at e3
       rw [<- e3]at L5
       by_cases ea2:k - 1=0
       ·rw [if_pos (by simpa using ea2)]
        exact wpS_pure ⟨g4,_,_,_,_,_,_,_,rfl,.inl ⟨_,rfl,L5.done ra rb ea2 (by omega)⟩⟩
       rw [if_neg (by simpa using ea2)]
       split
       ·exact wpS_pure ⟨g4,_,_,_,_,_,_,_,rfl,.inr ⟨rfl,L5,by omega,by omega,by omega,by omega,by omega⟩⟩
       ·exact wpS_pure ⟨g4,_,_,_,_,_,_,rfl,L5,by omega,by omega,by omega,by omega,by omega⟩
end
end L2
namespace L2
open PySem PySem.Spec PyProof.Rows
theorem nv {xs:Array Keyed}{a n:Nat} (h:a+n<=xs.size):Ris xs a (a+n)↔(((xs.toList.drop a).take n).map ky).Pairwise (·<=·):=by
 rw [List.pairwise_iff_getElem]
 have hk:∀i (hi:i < (((xs.toList.drop a).take n).map ky).length),(((xs.toList.drop a).take n).map ky)[i]=K xs (a+i):=by
  intro i hi
  rw [List.length_map,List.length_take,List.length_drop,Array.length_toList]at hi
  rw [List.getElem_map,List.getElem_take,List.getElem_drop,wR (getElem?_pos xs (a+i) (by omega))]
  rfl
 constructor
 ·intro r i j hi hj hij
  rw [hk i hi,hk j hj]
  rw [List.length_map,List.length_take,List.length_drop,Array.length_toList]at hi hj
  exact r _ _ (by omega) (by omega) (by omega)
 ·intro r i j h1 h2 h3
  by_cases e:i=j
  ·rw [e];exact Int.le_refl _
  ·have hl:(((xs.toList.drop a).take n).map ky).length=n:=by
    rw [List.length_map,List.length_take,List.length_drop,Array.length_toList];omega
   have:=r (i - a) (j - a) (by omega) (by omega) (by omega)
   rw [hk,hk,show a+(i - a)=i from Nat.add_sub_of_le (by omega),show a+(j - a)=j from Nat.add_sub_of_le (by omega)]at this
   exact this
theorem oM (base:Nat):∀(l:List Keyed) (n:Nat) (xs:Array Keyed),base+n+l.length<=xs.size->
  ((l.zipIdx n).foldl (λa x=>a.setIfInBounds (base+x.snd) x.fst) xs).toList=xs.toList.take (base+n)++l++xs.toList.drop (base+n+l.length)
 | [],n,xs,h=>by simp
 | x::l,n,xs,h=>by
  rw [List.length_cons]at h
  rw [List.zipIdx_cons,List.foldl_cons,oM base l (n+1) _ (by rw [Array.size_setIfInBounds];omega)]
  dsimp only
  rw [Array.toList_setIfInBounds,List.length_cons]
  have e1:(xs.toList.set (base+n) x).take (base+(n+1))=xs.toList.take (base+n)++[x]:=by
   apply List.ext_getElem?
   intro i
   rw [List.getElem?_take,List.getElem?_set,List.getElem?_append,List.getElem?_take]
   have hl:(xs.toList.take (base+n)).length=base+n:=by rw [List.length_take,Array.length_toList];exact Nat.min_eq_left (by omega)
   rw [hl]
   by_cases c1:i < base+n
   ·rw [if_pos (by omega),if_neg (by omega),if_pos c1,if_pos c1]
   ·by_cases c2:i=base+n
    ·subst c2
     rw [if_pos (by omega),if_pos rfl,if_neg c1,Nat.sub_self,if_pos (by rw [Array.length_toList];omega)]
     rfl
    ·rw [if_neg (by omega),if_neg c1]
     obtain⟨d,hd⟩:∃d,i - (base+n)=d+1:=⟨i - (base+n) - 1,by omega⟩
     rw [hd]
     simp
  have e2:(xs.toList.set (base+n) x).drop (base+(n+1)+l.length)=xs.toList.drop (base+n+(l.length+1)):=by
   rw [List.drop_set_of_lt (by omega)]
   congr 1
   omega
  rw [e1,e2]
  simp
theorem qL {xs:Array Keyed}{a b i:Nat} (hb:b<=xs.size) (hi:i < b - a):(xs.extract a b)[i]?=xs[a+i]?:=by
 rw [Array.getElem?_extract,if_pos (by rw [Nat.min_eq_left hb];exact hi)]
theorem lF {xs:Array Keyed}{a b i:Nat} (hb:b<=xs.size) (hi:i < b - a):K (xs.extract a b) i=K xs (a+i):=K_congr (qL hb hi)
theorem iP {xs:Array Keyed}{a b:Nat} (hb:b<=xs.size):(xs.extract a b).size=b - a:=by
 rw [Array.size_extract,Nat.min_eq_left hb]
theorem nK {xs:Array Keyed}{a b:Nat} (ik:IK xs) (hb:b<=xs.size):IK (xs.extract a b):=by
 intro i hi
 rw [iP hb]at hi
 obtain⟨t,q,e⟩:=ik (a+i) (by omega)
 exact⟨t,q,by rw [qL hb hi,lF hb hi];exact e⟩
theorem jU {xs:Array Keyed}{a b:Nat} (r:Ris xs a b) (hb:b<=xs.size):Ris (xs.extract a b) 0 (xs.extract a b).size:=by
 intro i j h1 h2 h3
 rw [iP hb]at h3
 rw [lF hb (by omega),lF hb h3]
 exact r _ _ (by omega) (by omega) (by omega)
theorem pT (L:List Keyed){i j k:Nat} (h1:i<=j) (h2:j<=k):L=L.take i++((L.drop i).take (j - i)++(L.drop j).take (k - j))++L.drop k:=by
 have e1:L.drop i=(L.drop i).take (j - i)++L.drop j:=by
  have:=dZ L i (j - i)
  rwa [show i+(j - i)=j from Nat.add_sub_of_le (by omega)]at this
 have e2:L.drop j=(L.drop j).take (k - j)++L.drop k:=by
  have:=dZ L j (k - j)
  rwa [show j+(k - j)=k from Nat.add_sub_of_le (by omega)]at this
 calc L=L.take i++L.drop i:=(List.take_append_drop i L).symm
  _=L.take i++((L.drop i).take (j - i)++((L.drop j).take (k - j)++L.drop k)):=by rw [<- e2,<- e1]
  _=_:=by simp only [List.append_assoc]
theorem sh {xs ys:Array Keyed}{M:Array Keyed}{sa sb na nb i k:Nat} (h1:sa<=i) (h2:i<=sb) (h3:sb<=k) (h4:k<=sb+nb) (h5:sb=sa+na) (hz:sb+nb<=xs.size)
  (m:Mg (xs.extract i sb) (xs.extract sb k) M) (e:ys.toList=xs.toList.take i++M.toList++xs.toList.drop k)
  (ra:Ris xs sa sb) (rb:Ris xs sb (sb+nb)) (lo:∀j,sa<=j->j < i->∀j',sb<=j'->j' < sb+nb->K xs j<=K xs j') (hi:∀j,sa<=j->j < sb->∀j',k<=j'->j' < sb+nb->K xs j<=K xs j') :
  ys.Perm xs/\Ris ys sa (sb+nb)/\(∀j,j < sa\/sb+nb<=j->K ys j=K xs j):=by
 have ex:(xs.extract i sb).toList=(xs.toList.drop i).take (sb - i):=by
  have:=bt xs i (sb - i)
  rwa [show i+(sb - i)=sb from Nat.add_sub_of_le (by omega)]at this
 have ey:(xs.extract sb k).toList=(xs.toList.drop sb).take (k - sb):=by
  have:=bt xs sb (k - sb)
  rwa [show sb+(k - sb)=k from Nat.add_sub_of_le (by omega)]at this
 have mp:=m.pm
 rw [ex,ey]at mp
 have ml:M.toList.length=k - i:=by
  rw [mp.length_eq,List.length_append,List.length_take,List.length_take,List.length_drop,List.length_drop,Array.length_toList,Nat.min_eq_left (by omega),Nat.min_eq_left (by omega)]
  omega
 have pm:ys.toList.Perm xs.toList:=by
  rw [e]
  conv=>rhs;rw [pT xs.toList h2 h3]
  exact(mp.append_left _).append_right _
 have ysz:ys.size=xs.size:=by rw [<- Array.length_toList,<- Array.length_toList];exact pm.length_eq
 refine⟨Array.perm_iff_toList_perm.mpr pm,?_,?_⟩
 ·rw [show sb+nb=sa+(na+nb) by omega,nv (by omega)]
  have el:(ys.toList.drop sa).take (na+nb)=(xs.toList.drop sa).take (i - sa)++(M.toList++(xs.toList.drop k).take (sb+nb - k)):=by
   rw [e,List.append_assoc,List.drop_append,List.take_append]
   have z:(xs.toList.take i).length=i:=by rw [List.length_take,Array.length_toList];exact Nat.min_eq_left (by omega)
   rw [z,show sa - i=0 by omega,List.drop_zero,List.drop_take,List.take_take]
   rw [List.length_take,List.length_drop,Array.length_toList,Nat.min_eq_right (show i - sa<=na+nb by omega),Nat.min_eq_left (show i - sa<=xs.size - sa by omega)]
   congr 1
   rw [List.take_append,ml]
   rw [List.take_of_length_le (by omega),Nat.sub_sub,show i - sa+(k - i)=k - sa by omega,show na+nb - (k - sa)=sb+nb - k by rw [h5];omega]
  have mem:∀q∈M.toList,(∃j,i<=j/\j < sb/\ky q=K xs j)\/(∃j,sb<=j/\j < k/\ky q=K xs j):=by
   intro q hq
   rcases List.mem_append.mp (mp.mem_iff.mp hq) with hq | hq
   ·obtain⟨j,j1,j2,j3,e⟩:=bq hq
    exact .inl ⟨j,j1,by omega,e⟩
   ·obtain⟨j,j1,j2,j3,e⟩:=bq hq
    exact .inr ⟨j,j1,by omega,e⟩
  rw [el,List.map_append,List.map_append,List.pairwise_append,List.pairwise_append]
  refine⟨(nv (by omega)).mp (ra.sub (Nat.le_refl _) (by omega)),⟨m.so,?_,?_⟩,?_⟩
  ·exact(nv (by omega)).mp (rb.sub h3 (by omega))
  ·intro x hx y hy
   obtain⟨q,hq,rfl⟩:=List.mem_map.mp hx
   obtain⟨p,hp,rfl⟩:=List.mem_map.mp hy
   obtain⟨j',a1,a2,a3,e'⟩:=bq hp
   rw [e']
   rcases mem q hq with⟨j,j1,j2,e⟩ | ⟨j,j1,j2,e⟩
   ·rw [e];exact hi j (by omega) j2 j' a1 (by omega)
   ·rw [e];exact rb j j' j1 (by omega) (by omega)
  ·intro x hx y hy
   obtain⟨q,hq,rfl⟩:=List.mem_map.mp hx
   rw [<- List.map_append]at hy
   obtain⟨p,hp,rfl⟩:=List.mem_map.mp hy
   obtain⟨j,j1,j2,j3,e⟩:=bq hq
   rw [e]
   rcases List.mem_append.mp hp with hp | hp
   ·rcases mem p hp with⟨j',a1,a2,e'⟩ | ⟨j',a1,a2,e'⟩
    ·rw [e'];exact ra j j' j1 (by omega) a2
    ·rw [e'];exact lo j j1 (by omega) j' a1 (by omega)
   ·obtain⟨j',a1,a2,a3,e'⟩:=bq hp
    rw [e'];exact lo j j1 (by omega) j' (by omega) (by omega)
 ·intro j hj
  apply K_congr
  rw [<- Array.getElem?_toList,<- Array.getElem?_toList,e]
  rcases hj with hj | hj
  ·rw [List.append_assoc,List.getElem?_append_left (by rw [List.length_take,Array.length_toList,Nat.min_eq_left (by omega)];omega),List.getElem?_take,if_pos (by omega)]
  ·rw [List.getElem?_append_right (by rw [List.length_append,List.length_take,Array.length_toList,ml,Nat.min_eq_left (by omega)];omega),List.length_append,List.length_take,Array.length_toList,ml,List.getElem?_drop,Nat.min_eq_left (show i<=xs.size by omega)]
   congr 1
   omega
section
variable {prog:Program}{w:World}{A:Around}{E:Value->Shared->Prop}{s:Shared}{a₀:Array Keyed}{p:Array (Nat × Nat × Nat)}
theorem yj {σ:Type}{st x:σ}{Q:PUnit->σ->Prop} (h:Q ⟨⟩ x):wpS (model prog w) A E s (set x:StateT σ Sem PUnit) Q st:=by
 unfold wpS;rw [StateT.run_set];exact wpAny_pure ⟨rfl,h⟩
theorem yi {st:SortSt}{i sa na sb nb w1 w2:Nat}{Q:Bool->SortSt->Prop} (h0:IntKeys a₀) (g:SG a₀ p st) (e1:p[i]?=some (sa,na,w1)) (e2:p[i+1]?=some (sb,nb,w2))
  (h5:sb=sa+na) (hz:sb+nb<=a₀.size) (za:0 < na) (zb:0 < nb) (ra:Ris (arrOf st) sa sb) (rb:Ris (arrOf st) sb (sb+nb))
  (h:∀v,SG a₀ ((p.setIfInBounds i (sa,na+nb,w1)).eraseIdxIfInBounds (i+1)) v->Ris (arrOf v) sa (sb+nb)->(∀j,j < sa\/sb+nb<=j->K (arrOf v) j=K (arrOf st) j)->Q true v) :
  wpS (model prog w) A E s (mergeAt' i) Q st:=by
 unfold mergeAt'
 k_delta "mergeAt"
 dsimp only
 refine wpS_bind (wpS_get ?_)
 have hp:=g.pd
 have sz:=g.sz
 have ik:IK (arrOf st):=λj hj=>g.get h0 (by omega)
 obtain⟨tb,qb,eb⟩:=ik sb (by omega)
 obtain⟨ta,qa,ea⟩:=ik (sb - 1) (by omega)
 have o1:(pendingOf st)[i]?=some (sa,na,w1):=by rw [hp];exact e1
 have o2:(pendingOf st)[i+1]?=some (sb,nb,w2):=by rw [hp];exact e2
 show wpS _ _ _ _ (match ((pendingOf st)[i]?,(pendingOf st)[i+1]?) with | (some (sa,na,power),some (sb,nb,snd))=>_ | _=>_) _ _
 rw [o1,o2]
 dsimp only
 refine wpS_bind (yj ?_)
 have hp2:((pendingOf st).setIfInBounds i (sa,na+nb,w1)).eraseIdxIfInBounds (i+1)=(p.setIfInBounds i (sa,na+nb,w1)).eraseIdxIfInBounds (i+1):=by rw [hp]
 have g2:SG a₀ ((p.setIfInBounds i (sa,na+nb,w1)).eraseIdxIfInBounds (i+1)) (SortSt.mk' (kindOf st) (arrOf st) (((pendingOf st).setIfInBounds i (sa,na+nb,w1)).eraseIdxIfInBounds (i+1)) (gallopOf st) (failedOf st)):=⟨g.pm,g.kd,g.fl,hp2⟩
 have s2:SS (SortSt.mk' (kindOf st) (arrOf st) (((pendingOf st).setIfInBounds i (sa,na+nb,w1)).eraseIdxIfInBounds (i+1)) (gallopOf st) (failedOf st)) (SortSt.mk' (kindOf st) (arrOf st) (((pendingOf st).setIfInBounds i (sa,na+nb,w1)).eraseIdxIfInBounds (i+1)) (gallopOf st) (failedOf st)):=⟨rfl,rfl,g.kd,g.fl⟩
 refine wpS_bind (cA eb ?_)
 refine wpS_bind (y6 (arr:=arrOf st) s2 ik (by omega) (by rw [<- h5];exact ra) (by omega) λk k1 k2 k3=>?_)
 dsimp only
 by_cases kn:na - k=0
 ·rw [if_pos (by simpa using kn)]
  refine wpS_pure (h _ g2 (λj j' a1 a2 a3=>?_) λ_ _=>rfl)
  by_cases c1:j' < sb
  ·exact ra j j' a1 a2 c1
  ·by_cases c2:j < sb
   ·have:=k2 (j - sa) (by omega)
    rw [show sa+(j - sa)=j from Nat.add_sub_of_le (by omega)]at this
    exact Int.le_trans this (rb sb j' (Nat.le_refl _) (by omega) a3)
   ·exact rb j j' (by omega) a2 a3
 rw [if_neg (by simpa using kn)]
 rw [show sa+k+(na - k) - 1=sb - 1 by rw [Nat.add_assoc,Nat.add_sub_of_le (by omega),h5]]
 refine wpS_bind (cA ea ?_)
 refine wpS_bind (xZ (arr:=arrOf st) s2 ik (by omega) rb (by omega) λm m1 m2 m3=>?_)
 dsimp only
 by_cases mz:m=0
 ·rw [if_pos (by simpa using mz)]
  refine wpS_pure (h _ g2 (λj j' a1 a2 a3=>?_) λ_ _=>rfl)
  by_cases c1:j' < sb
  ·exact ra j j' a1 a2 c1
  ·by_cases c2:j < sb
   ·have:=m3 (j' - sb) (by omega) (by omega)
    rw [show sb+(j' - sb)=j' by omega]at this
    exact Int.le_trans (ra j (sb - 1) a1 (by omega) (by omega)) this
   ·exact rb j j' (by omega) a2 a3
 rw [if_neg (by simpa using mz)]
 have zx:((arrOf st).extract (sa+k) sb).size=sb - (sa+k):=iP (by omega)
 have zy:((arrOf st).extract sb (sb+m)).size=m:=by rw [iP (by omega)];omega
 have kk:∀j,sa+k<=j->j < sb->K (arrOf st) sb < K (arrOf st) j:=λj j1 j2=>by
  have:=k3 (j - sa) (by omega) (by omega)
  rwa [show sa+(j - sa)=j from Nat.add_sub_of_le (by omega)]at this
 have mm:∀j,sb<=j->j < sb+m->K (arrOf st) j < K (arrOf st) (sb - 1):=λj j1 j2=>by
  have:=m2 (j - sb) (by omega)
  rwa [show sb+(j - sb)=j from Nat.add_sub_of_le (by omega)]at this
 have hf:∀j,j < ((arrOf st).extract (sa+k) sb).size->K ((arrOf st).extract sb (sb+m)) 0 < K ((arrOf st).extract (sa+k) sb) j:=λj hj=>by
  rw [lF (by omega) (by omega),lF (by omega) (by omega)]
  exact kk _ (by omega) (by omega)
 have hl:∀j,j < ((arrOf st).extract sb (sb+m)).size->K ((arrOf st).extract sb (sb+m)) j < K ((arrOf st).extract (sa+k) sb) (((arrOf st).extract (sa+k) sb).size - 1):=λj hj=>by
  rw [lF (by omega) (by omega),lF (by omega) (by omega),zx,show sa+k+(sb - (sa+k) - 1)=sb - 1 by rw [<- Nat.add_sub_assoc (by omega),Nat.add_sub_of_le (by omega)]]
  exact mm _ (by omega) (by omega)
 have fin:∀M v,SS (SortSt.mk' (kindOf st) (arrOf st) (((pendingOf st).setIfInBounds i (sa,na+nb,w1)).eraseIdxIfInBounds (i+1)) (gallopOf st) (failedOf st)) v->Mg ((arrOf st).extract (sa+k) sb) ((arrOf st).extract sb (sb+m)) M->
   Q true (setArr v (M.toList.zipIdx.foldl (λa x=>a.setIfInBounds (sa+k+x.snd) x.fst) (arrOf v))):=by
  intro M v sv mg
  have ml:M.toList.length=sb - (sa+k)+m:=by
   rw [mg.pm.length_eq,List.length_append,Array.length_toList,Array.length_toList,zx,zy]
  have ar:arrOf v=arrOf st:=sv.ar
  have el:=oM (sa+k) M.toList 0 (arrOf v) (by rw [ar,ml];omega)
  rw [ar,Nat.add_zero,ml,show sa+k+(sb - (sa+k)+m)=sb+m by rw [<- Nat.add_assoc,Nat.add_sub_of_le (by omega)]]at el
  have r:=sh (by omega) (by omega) (by omega) (by omega) h5 (by omega) mg el ra rb (λj a1 a2 j' a3 a4=>?_) (λj a1 a2 j' a3 a4=>?_)
  ·have e4:arrOf (setArr v (M.toList.zipIdx.foldl (λa x=>a.setIfInBounds (sa+k+x.snd) x.fst) (arrOf v)))=M.toList.zipIdx.foldl (λa x=>a.setIfInBounds (sa+k+x.snd) x.fst) (arrOf st):=by
    show M.toList.zipIdx.foldl (λa x=>a.setIfInBounds (sa+k+x.snd) x.fst) (arrOf v)=_
    rw [ar]
   refine h _ ⟨?_,sv.kd,sv.fl,sv.pd.trans hp2⟩ ?_ ?_
   ·rw [e4];exact r.1.trans g.pm
   ·rw [e4];exact r.2.1
   ·rw [e4];exact r.2.2
  ·have:=k2 (j - sa) (by omega)
   rw [show sa+(j - sa)=j from Nat.add_sub_of_le (by omega)]at this
   exact Int.le_trans this (rb sb j' (Nat.le_refl _) a3 a4)
  ·have:=m3 (j' - sb) (by omega) (by omega)
   rw [show sb+(j' - sb)=j' by omega]at this
   exact Int.le_trans (ra j (sb - 1) a1 (by omega) (by omega)) this
 have isn:∀v,SS (SortSt.mk' (kindOf st) (arrOf st) (((pendingOf st).setIfInBounds i (sa,na+nb,w1)).eraseIdxIfInBounds (i+1)) (gallopOf st) (failedOf st)) v->∀xs,(failedOf (setArr v xs)).isNone=true:=λv sv xs=>by
  show (failedOf v).isNone=true
  rw [sv.fl];rfl
 by_cases c:na - k<=m
 ·rw [if_pos c]
  refine wpS_bind (yg (a:=(arrOf st).extract (sa+k) sb) (b:=(arrOf st).extract sb (sb+m)) s2 (nK ik (by omega)) (nK ik (by omega)) (jU (ra.sub (by omega) (by omega)) (by omega)) (jU (rb.sub (by omega) (by omega)) (by omega)) (by omega) (by omega) (λj hj=>Int.le_of_lt (hf j hj)) hl λM v sv mg=>?_)
  refine wpS_bind (wpS_modify (wpS_bind (wpS_get ?_)))
  have:=wpS_pure (M:=model prog w) (A:=A) (E:=E) (s:=s) (fin M v sv mg)
  rw [<- isn v sv]at this
  exact this
 ·rw [if_neg c]
  refine wpS_bind (yh (a:=(arrOf st).extract (sa+k) sb) (b:=(arrOf st).extract sb (sb+m)) s2 (nK ik (by omega)) (nK ik (by omega)) (jU (ra.sub (by omega) (by omega)) (by omega)) (jU (rb.sub (by omega) (by omega)) (by omega)) (by omega) (by omega) hf hl λM v sv mg=>?_)
  refine wpS_bind (wpS_modify (wpS_bind (wpS_get ?_)))
  have:=wpS_pure (M:=model prog w) (A:=A) (E:=E) (s:=s) (fin M v sv mg)
  rw [<- isn v sv]at this
  exact this
end
end L2
namespace L2
open PySem PySem.Spec PyProof.Rows
noncomputable def pr (q:Nat × Nat × Nat):Nat × Nat:=(q.1,q.2.1)
noncomputable def cX (xs:Array Keyed):List (Nat × Nat)->Nat->Nat->Prop
 | [],lo,hi=>lo=hi
 | (b,n)::r,lo,hi=>b=lo/\1<=n/\Ris xs lo (lo+n)/\cX xs r (lo+n) hi
theorem cX.len {xs:Array Keyed}:∀{l:List (Nat × Nat)}{lo hi:Nat},cX xs l lo hi->lo+l.length<=hi
 | [],lo,hi,h=>by cases h;simp
 | (b,n)::r,lo,hi,h=>by
  have:=h.2.2.2.len
  have:=h.2.1
  rw [List.length_cons];omega
theorem cX.app {xs:Array Keyed}:∀{l r:List (Nat × Nat)}{lo hi:Nat},cX xs (l++r) lo hi↔∃m,cX xs l lo m/\cX xs r m hi
 | [],r,lo,hi=>⟨λh=>⟨lo,rfl,h⟩,λ⟨m,e,h⟩=>by cases e;exact h⟩
 | (b,n)::l,r,lo,hi=>by
  constructor
  ·rintro⟨h1,h2,h3,h4⟩
   obtain⟨m,a,b⟩:=cX.app.mp h4
   exact⟨m,⟨h1,h2,h3,a⟩,b⟩
  ·rintro⟨m,⟨h1,h2,h3,h4⟩,h5⟩
   exact⟨h1,h2,h3,cX.app.mpr ⟨m,h4,h5⟩⟩
theorem Ris.same {xs ys:Array Keyed}{a b:Nat} (r:Ris xs a b) (h:∀k,a<=k->k < b->K ys k=K xs k):Ris ys a b:=λi j h1 h2 h3=>by
 rw [h i h1 (by omega),h j (by omega) h3];exact r i j h1 h2 h3
theorem cX.same {xs ys:Array Keyed}:∀{l:List (Nat × Nat)}{lo hi:Nat},cX xs l lo hi->(∀k,lo<=k->k < hi->K ys k=K xs k)->cX ys l lo hi
 | [],lo,hi,h,_=>h
 | (b,n)::r,lo,hi,h,e=>⟨h.1,h.2.1,h.2.2.1.same λk k1 k2=>e k k1 (by have:=h.2.2.2.len;omega),h.2.2.2.same λk k1 k2=>e k (by omega) k2⟩
theorem lg {p:Array (Nat × Nat × Nat)}{i:Nat}{x y z:Nat × Nat × Nat}{l r:List (Nat × Nat × Nat)} (e:p.toList=l++x::y::r) (hl:l.length=i) :
  ((p.setIfInBounds i z).eraseIdxIfInBounds (i+1)).toList=l++z::r:=by
 have hs:(p.setIfInBounds i z).toList=l++z::y::r:=by
  rw [Array.toList_setIfInBounds,e,<- hl,List.set_append_right _ _ (Nat.le_refl _),Nat.sub_self]
  rfl
 have hz:i+1 < (p.setIfInBounds i z).size:=by
  rw [<- Array.length_toList,hs,List.length_append,hl]
  simp
 unfold Array.eraseIdxIfInBounds
 rw [dif_pos hz,Array.toList_eraseIdx,hs,<- hl,List.eraseIdx_append_of_length_le (by omega),Nat.add_sub_cancel_left]
 rfl
section
variable {prog:Program}{w:World}{A:Around}{E:Value->Shared->Prop}{s:Shared}{a₀:Array Keyed}
theorem qk {st:SortSt}{p:Array (Nat × Nat × Nat)}{i hi:Nat}{Q:Bool->SortSt->Prop} (h0:IntKeys a₀) (g:SG a₀ p st) (r:cX (arrOf st) (p.toList.map pr) 0 hi) (hh:hi<=a₀.size) (hi2:i+1 < p.size)
  (h:∀v p',SG a₀ p' v->cX (arrOf v) (p'.toList.map pr) 0 hi->p'.size+1=p.size->(∀k,hi<=k->K (arrOf v) k=K (arrOf st) k)->Q true v) :
  wpS (model prog w) A E s (mergeAt' i) Q st:=by
 obtain⟨sa,na,w1,e1⟩:∃sa na w1,p[i]?=some (sa,na,w1):=⟨_,_,_,getElem?_pos p i (by omega)⟩
 obtain⟨sb,nb,w2,e2⟩:∃sb nb w2,p[i+1]?=some (sb,nb,w2):=⟨_,_,_,getElem?_pos p (i+1) hi2⟩
 have ep:p.toList=p.toList.take i++(sa,na,w1)::(sb,nb,w2)::p.toList.drop (i+2):=by
  conv=>lhs;rw [<- List.take_append_drop i p.toList]
  congr 1
  have l1:i < p.toList.length:=by rw [Array.length_toList];omega
  have l2:i+1 < p.toList.length:=by rw [Array.length_toList];omega
  rw [List.drop_eq_getElem_cons l1,List.drop_eq_getElem_cons l2]
  have g1:p.toList[i]=(sa,na,w1):=by
   have:=Array.getElem?_toList (xs:=p) (i:=i)
   rw [e1,List.getElem?_eq_getElem l1]at this
   exact Option.some.inj this
  have g2:p.toList[i+1]=(sb,nb,w2):=by
   have:=Array.getElem?_toList (xs:=p) (i:=i+1)
   rw [e2,List.getElem?_eq_getElem l2]at this
   exact Option.some.inj this
  rw [g1,g2]
 have ll:(p.toList.take i).length=i:=by rw [List.length_take,Array.length_toList];omega
 have r1:=r
 rw [ep,List.map_append,List.map_cons,List.map_cons]at r1
 obtain⟨m,ra,rb1,rb2,rb3,rc1,rc2,rc3,rd⟩:=cX.app.mp r1
 have rb1':sa=m:=rb1
 have rc1':sb=m+na:=rc1
 have rb2':1<=na:=rb2
 have rc2':1<=nb:=rc2
 subst rb1'
 have hd:=rd.len
 have hl:=ra.len
 have hd':sa+na+nb+(List.map pr (List.drop (i+2) p.toList)).length<=hi:=hd
 refine yi h0 g e1 e2 rc1' (by omega) (by omega) (by omega) (by rw [rc1'];exact rb3) (by rw [rc1'];exact rc3) λv gv rv kv=>?_
 refine h v _ gv ?_ ?_ λk hk=>kv k (.inr (by omega))
 ·rw [lg ep ll,List.map_append,List.map_cons]
  refine cX.app.mpr ⟨sa,ra.same λk _ k2=>kv k (.inl k2),rfl,(show 1<=na+nb by omega),?_,?_⟩
  ·show Ris (arrOf v) sa (sa+(na+nb))
   rw [<- Nat.add_assoc,<- rc1']
   exact rv
  ·show cX (arrOf v) _ (sa+(na+nb)) hi
   rw [<- Nat.add_assoc]
   exact rd.same λk k1 k2=>kv k (.inr (by rw [rc1'];exact k1))
 ·have e3:=congrArg List.length (lg (z:=(sa,na+nb,w1)) ep ll)
  have e4:=congrArg List.length ep
  rw [Array.length_toList,List.length_append,ll]at e3 e4
  rw [List.length_cons]at e3
  rw [List.length_cons,List.length_cons]at e4
  omega
theorem pO (p:Array (Nat × Nat × Nat)) (i x:Nat):(p.modify i λq=>(q.1,q.2.1,x)).toList.map pr=p.toList.map pr:=by
 apply List.ext_getElem?
 intro k
 rw [List.getElem?_map,List.getElem?_map,Array.getElem?_toList,Array.getElem?_toList,Array.getElem?_modify]
 split
 ·cases p[k]? <;> rfl
 ·rfl
theorem sW {st:SortSt}{Q:Unit->SortSt->Prop} (h0:IntKeys a₀) (g:SG a₀ #[] st) (h2:2<=a₀.size)
  (h:∀v,(arrOf v).Perm a₀->failedOf v=none->SortedTo (arrOf v) a₀.size->Q () v):wpS (model prog w) A E s sortRuns' Q st:=by
 rw [sortRuns'_eq]
 dsimp only
 refine wpS_bind (wpS_get ?_)
 rw [g.sz]
 generalize minRun' a₀.size a₀.size 0=mr
 refine wpS_bind (wpS_mono (wpS_forRange (I:=λx c v=>∃lo p,c=(none,lo)/\SG a₀ p v/\cX (arrOf v) (p.toList.map pr) 0 lo/\lo<=a₀.size/\x<=lo)
  (Q:=λc v=>∃p,c=(none,a₀.size)/\SG a₀ p v/\cX (arrOf v) (p.toList.map pr) 0 a₀.size) ?step ?fin ⟨0,#[],rfl,g,rfl,by omega,by omega⟩) ?post)
 case fin=>
  rintro c v ⟨lo,p,rfl,gv,r,l1,l2⟩
  have e:lo=a₀.size:=by omega
  subst e
  exact⟨p,rfl,gv,r⟩
 case post=>
  rintro c v ⟨p,rfl,gv,r⟩
  dsimp only
  refine wpS_bind (wpS_mono (wpS_forRange (I:=λx c u=>c=(none,())/\∃p,SG a₀ p u/\cX (arrOf u) (p.toList.map pr) 0 a₀.size/\(p.size<=1\/p.size+x<=a₀.size))
   (Q:=λc u=>c=(none,())/\∃p,SG a₀ p u/\cX (arrOf u) (p.toList.map pr) 0 a₀.size/\p.size<=1) ?_ ?_ ⟨rfl,p,gv,r,.inr ?_⟩) ?_)
  ·rintro x c u _ xn ⟨rfl,p,gu,r,z⟩
   refine wpS_bind (wpS_get ?_)
   have ep:pendingOf u=p:=gu.pd
   rw [ep]
   by_cases c1:p.size<=1
   ·rw [if_pos c1]
    exact wpS_pure ⟨rfl,p,gu,r,c1⟩
   rw [if_neg c1]
   have bnd:∀b:Bool,(if b=true then p.size - 2 - 1 else p.size - 2)+1 < p.size:=λb=>by cases b <;> simp <;> omega
   refine wpS_bind (qk h0 gu r (Nat.le_refl _) (bnd _) λu2 p2 g2 r2 z2 _=>?_)
   exact wpS_pure ⟨rfl,p2,g2,r2,.inr (by omega)⟩
  ·rintro c u ⟨rfl,p,gu,r,z⟩
   exact⟨rfl,p,gu,r,by omega⟩
  ·have:=r.len
   rw [List.length_map,Array.length_toList]at this
   omega
  ·rintro c u ⟨rfl,p,gu,r,z⟩
   refine wpS_pure (h u gu.pm gu.fl λi j hij hj=>?_)
   have hz:p.toList.length<=1:=by rw [Array.length_toList];exact z
   generalize p.toList=l at r hz
   cases l with
   | nil=>
    have:0=a₀.size:=r
    omega
   | cons q t=>
    cases t with
    | nil=>
     obtain⟨r1,r2,r3,r4⟩:=r
     have r4':0+q.2.1=a₀.size:=r4
     exact r3 i j (by omega) hij (by omega)
    | cons q2 t=>simp at hz
 case step=>
  rintro x c v _ xn ⟨lo,p,rfl,gv,r,l1,l2⟩
  dsimp only
  by_cases c1:lo>=a₀.size
  ·rw [if_pos c1]
   have e:lo=a₀.size:=by omega
   subst e
   exact wpS_pure ⟨p,rfl,gv,r⟩
  rw [if_neg c1]
  have push:∀N (u:SortSt) (q:Array (Nat × Nat × Nat)),SG a₀ q u->cX (arrOf u) (q.toList.map pr) 0 lo->Ris (arrOf u) lo (lo+N)->1<=N->lo+N<=a₀.size->
    ∃lo' q',(none,lo+N)=((none,lo'):Option Unit × Nat)/\SG a₀ q' (setPending u ((pendingOf u).push (lo,N,0)))/\cX (arrOf (setPending u ((pendingOf u).push (lo,N,0)))) (q'.toList.map pr) 0 lo'/\lo'<=a₀.size/\x+1<=lo':=by
   intro N u q gq rq rn n1 n2
   refine⟨lo+N,q.push (lo,N,0),rfl,⟨gq.pm,gq.kd,gq.fl,?_⟩,?_,n2,by omega⟩
   ·show (pendingOf u).push _=_
    rw [gq.pd]
   ·rw [Array.toList_push,List.map_append]
    exact cX.app.mpr ⟨lo,rq,rfl,n1,rn,rfl⟩
  refine wpS_bind (qW h0 (by omega) (by omega) gv λm u gu lu m1 m2 rm=>?_)
  dsimp only
  have ru:cX (arrOf u) (p.toList.map pr) 0 lo:=r.same λk _ k2=>lu k k2
  by_cases hm:m < mr
  case' pos=>
   rw [if_pos hm]
   refine wpS_bind (wpS_lift (wpAny_rule ⟨rfl,?_⟩))
   refine wpS_bind (vk h0 (n:=min (a₀.size - lo) mr) (by omega) (by omega) gu rm λu2 g2 lu2 rn=>?_)
   rw [if_neg (by decide)]
   have rq:cX (arrOf u2) (p.toList.map pr) 0 lo:=ru.same λk _ k2=>lu2 k k2
   have n1:1<=min (a₀.size - lo) mr:=by omega
   have n2:lo+min (a₀.size - lo) mr<=a₀.size:=by omega
   generalize min (a₀.size - lo) mr=N at *
  case' neg=>
   rw [if_neg hm]
   have g2:=gu
   have rn:=rm
   have rq:=ru
   have n1:=m1
   have n2:lo+m<=a₀.size:=by omega
   clear gu lu m2 rm ru hm m1
   generalize m=N at *
   generalize u=u2 at *
  all_goals
   refine wpS_bind (wpS_get ?_)
   have ep:pendingOf u2=p:=g2.pd
   cases hb:(pendingOf u2).back? with
   | none=>
    dsimp only
    exact wpS_bind (wpS_modify (wpS_pure (push N u2 p g2 rq rn n1 n2)))
   | some q=>
    obtain⟨s1,k1,w1⟩:=q
    dsimp only
    generalize power' a₀.size (2 * s1+k1) (2 * s1+k1+k1+N) a₀.size=pw
    refine wpS_bind (wpS_mono (wpS_forRange (I:=λ_ c u=>c=(none,())/\∃q,SG a₀ q u/\cX (arrOf u) (q.toList.map pr) 0 lo/\Ris (arrOf u) lo (lo+N))
     (Q:=λc u=>c=(none,())/\∃q,SG a₀ q u/\cX (arrOf u) (q.toList.map pr) 0 lo/\Ris (arrOf u) lo (lo+N)) ?_ (λ_ _ e=>e) ⟨rfl,p,g2,rq,rn⟩) ?_)
    ·rintro y c u3 _ _ ⟨rfl,q,g3,r3,rn3⟩
     refine wpS_bind (wpS_get ?_)
     have e3:pendingOf u3=q:=g3.pd
     rw [e3]
     by_cases cz:q.size > 1
     ·rw [if_pos cz,getElem?_pos q (q.size - 2) (by omega)]
      dsimp only
      split
      ·exact wpS_pure ⟨rfl,q,g3,r3,rn3⟩
      ·refine wpS_bind (qk h0 g3 r3 l1 (by omega) λu4 q4 g4 r4 z4 k4=>?_)
       exact wpS_pure ⟨rfl,q4,g4,r4,rn3.same λk a1 _=>k4 k a1⟩
     ·rw [if_neg cz]
      exact wpS_pure ⟨rfl,q,g3,r3,rn3⟩
    ·rintro c u3 ⟨rfl,q,g3,r3,rn3⟩
     dsimp only
     refine wpS_bind (wpS_modify (wpS_bind (wpS_modify (wpS_pure (push N _ _ ⟨g3.pm,g3.kd,g3.fl,rfl⟩ ?_ rn3 n1 n2)))))
     rw [pO,show pendingOf u3=q from g3.pd]
     exact r3
end
end L2
namespace L2
open PySem PySem.Spec PyProof.Rows
noncomputable def most:Nat:=1000
theorem cM {n:Nat} (h:n<=most):n<=sizeLine:=by
 rw [sizeLine_eq];unfold most at h;omega
section
variable {prog:Program}{w:World}{A:Around}{E:Value->Shared->Prop}{s:Shared}{hb:Heap}{fa:Addr}{mp:Str->Option Value}{bk:List (Addr × Obj)}{a st:Addr}{xs:List Value}{ks:List Int}{ka:Array Value}{c1 c2:Nat}
theorem oi {P:PySem.Fin->Shared->Prop}{u:SortSt} (F:Fr hb fa s.heap mp) (N:News hb fa s.heap (bk++[(st,seqObj "list" ka c2),(a,seqObj "list" #[] c1)])) (ne:st≠a) (n1:∀p∈bk,p.1≠st) (n2:∀p∈bk,p.1≠a)
  (kz:ka.size=xs.length) (hk:IntsAre ka.toList ks) (hz:xs.length<=most) (pm:(arrOf u).Perm (ka.zip xs.toArray)) (so:SortedTo (arrOf u) (arrOf u).size) (fl:failedOf u=none)
  (h:∀h' tk out c,Fr hb fa h' mp->News hb fa h' ((a,seqObj "list" out c)::bk)->KskOut false ks xs out.toList->P (.done (.ret .none)) { s with heap:=h',toks:=tk }) :
  wpAny (model prog w) A (ksk_tail a false c1 (.ref st) u) P E s:=by
 have i1:=N (st,seqObj "list" ka c2) (by simp)
 have i2:=N (a,seqObj "list" #[] c1) (by simp)
 have zo:((arrOf u).map (·.2)).size=xs.length:=by
  rw [Array.size_map,pm.size_eq,Array.size_zip,kz,List.size_toArray,Nat.min_self]
 have b1:=Heap.SameBut.update s.heap st (Obj.mapSeq λ_=>(#[]:Array Value))
 have i3:=(b1.2 a ne.symm).trans i2.1
 have b2:=Heap.SameBut.update (s.heap.update st (Obj.mapSeq λ_=>(#[]:Array Value))) a (Obj.mapSeq λ_=>(arrOf u).map (·.2))
 obtain⟨c3,i4⟩:∃c3,((s.heap.update st (Obj.mapSeq λ_=>(#[]:Array Value))).update a (Obj.mapSeq λ_=>(arrOf u).map (·.2))).get? a=some (seqObj "list" ((arrOf u).map (·.2)) c3):=⟨_,get?_update_seq i3 λ_=>(arrOf u).map (·.2)⟩
 unfold ksk_tail
 dsimp only
 refine wpAny_bind (listUpdate_at i1.1 rfl ?_ (by rw [kz];exact cM hz) (Nat.zero_le _))
 refine wpAny_bind (wpAny_letGo ?_)
 refine wpAny_bind (seqEpoch_at i3 rfl ?_)
 refine wpAny_bind (listUpdate_at i3 rfl ?_ (Nat.zero_le _) (by simp only [Bool.false_eq_true,if_false];rw [zo];exact Nat.le_succ_of_le (cM hz)))
 rw [fl]
 simp only [bne_self_eq_false,Bool.false_eq_true,if_false]
 have ko:=ksk_out (b:=false) hk pm so
 simp only [Bool.false_eq_true,if_false]at ko
 refine wpAny_pure (h _ _ _ c3 (ksk_fr (ksk_fr F b1 i1.2.1 i1.2.2) b2 i2.2.1 i2.2.2) (λp hp=>?_) ko)
 rcases List.mem_cons.mp hp with e | hp
 ·rw [e];exact⟨i4,i2.2⟩
 ·exact ksk_news (ksk_news (λq hq=>N q (List.mem_append_left _ hq)) b1 n1) b2 n2 p hp
theorem vx {P:PySem.Fin->Shared->Prop} (F:Fr hb fa s.heap mp) (N:News hb fa s.heap (bk++[(st,seqObj "list" ka c2),(a,seqObj "list" #[] c1)])) (ne:st≠a) (n1:∀p∈bk,p.1≠st) (n2:∀p∈bk,p.1≠a)
  (hk:IntsAre ka.toList ks) (hl:ks.length=xs.length) (hz:xs.length<=most)
  (h:∀h' tk out c,Fr hb fa h' mp->News hb fa h' ((a,seqObj "list" out c)::bk)->KskOut false ks xs out.toList->P (.done (.ret .none)) { s with heap:=h',toks:=tk }) :
  wpAny (model prog w) A (ksk_end a false xs.toArray c1 (.ref st) ka) P E s:=by
 have kz:ka.size=xs.length:=by
  have:=hk.length
  rw [Array.length_toList]at this
  omega
 have zz:(ka.zip xs.toArray).size=xs.length:=by rw [Array.size_zip,kz,List.size_toArray,Nat.min_self]
 unfold ksk_end
 dsimp only
 simp only [Bool.false_eq_true,if_false]
 by_cases few:xs.toArray.size < 2
 ·rw [if_pos few,if_pos few]
  refine wpAny_bind (wpAny_pure ?_)
  rw [StateT.run_pure]
  refine wpAny_bind (wpAny_pure ?_)
  refine oi (u:=SortSt.mk' general' (ka.zip xs.toArray) #[] 7 none) F N ne n1 n2 kz hk hz (Array.Perm.refl _) (λi j ij jz=>?_) rfl h
  have jz':j < (ka.zip xs.toArray).size:=jz
  rw [List.size_toArray]at few
  rw [show i=j by omega]
  exact Int.le_refl _
 ·rw [if_neg few,if_neg few]
  rw [List.size_toArray]at few
  rw [ksk_kind hk (by omega)]
  refine wpAny_bind (wpAny_pure ?_)
  have srt:=sW (prog:=prog) (w:=w) (A:=A) (E:=E) (s:=s) (a₀:=ka.zip xs.toArray) (st:=SortSt.mk' oneType' (ka.zip xs.toArray) #[] 7 none)
   (Q:=λ_ v=>(arrOf v).Perm (ka.zip xs.toArray)/\failedOf v=none/\SortedTo (arrOf v) (ka.zip xs.toArray).size) (ksk_intKeys hk) ⟨Array.Perm.refl _,rfl,rfl,rfl⟩ (by omega) λv a1 a2 a3=>⟨a1,a2,a3⟩
  refine wpAny_bind (wpAny_mono srt ?_ λ_ _ e=>e)
  rintro⟨⟨⟩,v⟩ s' ⟨rfl,pm,fl,so⟩
  exact oi F N ne n1 n2 kz hk hz pm (by rw [pm.size_eq];exact so) fl h
theorem tN {P:PySem.Fin->Shared->Prop}{f:Value} (F:Fr hb fa s.heap mp) (N:News hb fa s.heap (bk++[(st,seqObj "list" #[] 0),(a,seqObj "list" #[] c1)])) (ne:st≠a) (n1:∀p∈bk,p.1≠st) (n2:∀p∈bk,p.1≠a)
  (hl:ks.length=xs.length) (hz:xs.length<=most)
  (ask:∀(i:Nat) (x:Value) (k:Int),xs[i]?=some x->ks[i]?=some k->∀(g:Heap) (tk:Nat) (own:List (Addr × Obj)),Fr hb fa g mp->News hb fa g (bk++own)->
   wpAny (model prog w) A (call f [x]) (KskEnd hb fa mp (bk++own) k { s with heap:=g,toks:=tk }) (λ_ _=>False) { s with heap:=g,toks:=tk })
  (h:∀h' tk out c,Fr hb fa h' mp->News hb fa h' ((a,seqObj "list" out c)::bk)->KskOut false ks xs out.toList->P (.done (.ret .none)) { s with heap:=h',toks:=tk }) :
  wpAny (model prog w) A (ksk_rest a f false xs.toArray c1 (.ref st)) P E s:=by
 unfold ksk_rest
 refine wpAny_bind (wpAny_rule ?_)
 rw [List.forIn_toArray]
 refine wpAny_bind (ksk_fold (λi s'=>∃g tk kA c,s'={ s with heap:=g,toks:=tk }/\Fr hb fa g mp/\News hb fa g (bk++[(st,seqObj "list" kA c),(a,seqObj "list" #[] c1)])/\IntsAre kA.toList (ks.take i)) xs 0 s
  ⟨s.heap,s.toks,#[],0,rfl,F,N,by simpa using IntsAre.nil⟩ ?one ?all)
 case one=>
  rintro j x s' hx ⟨g,tk,kA,c,rfl,F1,N1,hk⟩
  rw [Nat.zero_add]at hk
  have lj:j < xs.length:=(List.getElem?_eq_some_iff.mp hx).1
  have hkj:=List.getElem?_eq_getElem (l:=ks) (i:=j) (by omega)
  have zk:kA.size < most:=by
   have:=hk.length
   rw [Array.length_toList,List.length_take]at this
   omega
  refine wpAny_bind (wpAny_attempt (wpAny_mono (ask j x _ hx hkj g tk _ F1 N1) (λv s'' q=>?_) λ_ _ q=>q.elim))
  obtain⟨g2,tk2,t2,rfl,rfl,F2,N2⟩:=q
  dsimp only
  have i1:=N2 (st,seqObj "list" kA c) (by simp)
  have i2:=N2 (a,seqObj "list" #[] c1) (by simp)
  have b1:=Heap.SameBut.update g2 st (Obj.mapSeq (·.push (.int ks[j] t2)))
  obtain⟨c3,i3⟩:∃c3,(g2.update st (Obj.mapSeq (·.push (.int ks[j] t2)))).get? st=some (seqObj "list" (kA.push (.int ks[j] t2)) c3):=⟨_,get?_update_seq i1.1 (·.push (.int ks[j] t2))⟩
  refine wpAny_bind (listUpdate_at i1.1 rfl ?_ (cM (by omega)) (by rw [Array.size_push];exact Nat.succ_le_succ (cM (Nat.le_of_lt zk))))
  refine wpAny_pure ⟨rfl,_,_,kA.push (.int ks[j] t2),c3,rfl,ksk_fr F2 b1 i1.2.1 i1.2.2,λp hp=>?_,?_⟩
  ·rcases List.mem_append.mp hp with hp | hp
   ·exact ksk_news (λq hq=>N2 q (List.mem_append_left _ hq)) b1 n1 p hp
   ·rcases List.mem_cons.mp hp with e | hp
    ·rw [e];exact⟨i3,i1.2⟩
    ·rw [List.mem_singleton.mp hp]
     exact⟨(b1.2 a ne.symm).trans i2.1,i2.2⟩
  ·rw [Nat.zero_add,List.take_add_one,hkj,Array.toList_push]
   exact ksk_snoc hk
 case all=>
  rintro s' ⟨g,tk,kA,c,rfl,F1,N1,hk⟩
  rw [Nat.zero_add,List.take_of_length_le (by omega)]at hk
  try dsimp only
  refine wpAny_bind (listItems_at (N1 (st,seqObj "list" kA c) (by simp)).1 rfl ?_)
  exact vx F1 N1 ne n1 n2 hk hl hz λh3 tk3 out c F3 N3 k3=>h h3 tk3 out c F3 N3 k3
theorem tL {P:PySem.Fin->Shared->Prop}{f:Value}{c:Nat} (F:Fr hb fa s.heap mp) (N:News hb fa s.heap bk) (ho:s.heap.get? a=some (seqObj "list" xs.toArray c)) (aL:a≠fa) (a0:hb.get? a=none) (n2:∀p∈bk,p.1≠a)
  (hl:ks.length=xs.length) (hz:xs.length<=most)
  (ask:∀(i:Nat) (x:Value) (k:Int),xs[i]?=some x->ks[i]?=some k->∀(g:Heap) (tk:Nat) (own:List (Addr × Obj)),Fr hb fa g mp->News hb fa g (bk++own)->
   wpAny (model prog w) A (call f [x]) (KskEnd hb fa mp (bk++own) k { s with heap:=g,toks:=tk }) (λ_ _=>False) { s with heap:=g,toks:=tk })
  (h:∀h' tk out c,Fr hb fa h' mp->News hb fa h' ((a,seqObj "list" out c)::bk)->KskOut false ks xs out.toList->P (.done (.ret .none)) { s with heap:=h',toks:=tk }) :
  wpAny (model prog w) A (ksk_tree a f false) P E s:=by
 have la:a < s.heap.objs.size:=Heap.lt_size ho
 have b1:=Heap.SameBut.update s.heap a (Obj.mapSeq λ_=>(#[]:Array Value))
 obtain⟨c3,ho1⟩:∃c3,(s.heap.update a (Obj.mapSeq λ_=>(#[]:Array Value))).get? a=some (seqObj "list" #[] c3):=⟨_,get?_update_seq ho λ_=>#[]⟩
 have F1:=ksk_fr F b1 aL a0
 have N1:=ksk_news N b1 n2
 unfold ksk_tree
 refine wpAny_bind (listItems_at ho rfl ?_)
 refine wpAny_bind (listUpdate_at ho rfl ?_ (by rw [List.size_toArray];exact cM hz) (Nat.zero_le _))
 refine wpAny_bind (seqEpoch_at ho1 rfl ?_)
 refine wpAny_bind (wpAny_newTuple ?_ (by rw [List.toList_toArray];exact cM hz))
 refine wpAny_bind (wpAny_newList ?_ (Nat.zero_le _))
 refine wpAny_holding ?_
 have zt:((s.heap.update a (Obj.mapSeq λ_=>(#[]:Array Value))).push (seqObj "tuple" xs.toArray 0)).objs.size=s.heap.objs.size+1:=by rw [size_push',Heap.size_update]
 have lf:=(F1.push (seqObj "tuple" xs.toArray 0)).ns.lt
 refine tN (s:={ s with heap:=((s.heap.update a (Obj.mapSeq λ_=>(#[]:Array Value))).push (seqObj "tuple" xs.toArray 0)).push (seqObj "list" #[] 0) })
  ((F1.push _).push _) (λp hp=>?_) (by rw [zt];exact Nat.ne_of_gt (Nat.lt_succ_of_lt la)) (λp hp=>by rw [zt];exact Nat.ne_of_lt (Nat.lt_succ_of_lt (Heap.lt_size (N p hp).1))) n2 hl hz ask h
 rcases List.mem_append.mp hp with hp | hp
 ·exact⟨Heap.get?_push_of_some _ (Heap.get?_push_of_some _ (N1 p hp).1),(N1 p hp).2⟩
 ·rcases List.mem_cons.mp hp with e | hp
  ·rw [e];exact⟨Heap.get?_push_size _ rfl,Nat.ne_of_gt lf,Heap.get?_none_of_le (Nat.le_trans F.above (Nat.le_of_lt lf))⟩
  ·rw [List.mem_singleton.mp hp]
   exact⟨Heap.get?_push_of_some _ (Heap.get?_push_of_some _ ho1),aL,a0⟩
theorem pe {l:Addr}{Q:Value->Shared->Prop}{f:Addr} (F:Fr hb fa s.heap mp) (N:News hb fa s.heap bk) (il:s.heap.IsList l xs.toArray) (hl:ks.length=xs.length) (hz:xs.length<=most)
  (ask:∀(i:Nat) (x:Value) (k:Int),xs[i]?=some x->ks[i]?=some k->∀(g:Heap) (tk:Nat) (own:List (Addr × Obj)),Fr hb fa g mp->News hb fa g (bk++own)->
   wpAny (model prog w) A.in1.in1 (call (.ref f) [x]) (KskEnd hb fa mp (bk++own) k { s with heap:=g,toks:=tk }) (λ_ _=>False) { s with heap:=g,toks:=tk })
  (h:∀D h' tk out c,Fr hb fa h' mp->News hb fa h' ((D,seqObj "list" out c)::bk)->(∀q∈bk,q.1 < D)->KskOut false ks xs out.toList->Q (.ref D) { s with heap:=h',toks:=tk }) :
  wpAny (model prog w) A (call (.builtin "sorted") [.ref l] [(PySem.Str.ofString "key", .ref f)]) Q E s:=by
 refine call_function_entry_kw kind_sorted plain_sorted entry_sorted (ksk_s1 _ _) ?_
 unfold Builtin.«sorted»
 refine wpAny_bind (m:=checkCount "sorted" 1 1 _) (wpAny_pure ?_)
 refine wpAny_bind (collect_list il ?_ (cM hz))
 refine wpAny_bind (wpAny_newList ?_ (cM hz))
 have z1:((s.heap.push (seqObj "list" #[] 0)).update s.heap.objs.size (Obj.mapSeq (·++xs.toArray))).objs.size=s.heap.objs.size+1:=by
  rw [Heap.size_update,size_push']
 generalize eg:((s.heap.push (seqObj "list" #[] 0)).update s.heap.objs.size (Obj.mapSeq (·++xs.toArray)))=g at z1
 have kp:∀b o,s.heap.get? b=some o->(g.push (seqObj "list" xs.toArray 0)).get? b=some o:=λb o q=>by
  have lt:=Heap.lt_size q
  rw [Heap.get?_push_ne _ _ _ (by rw [z1];exact Nat.ne_of_lt (Nat.lt_succ_of_lt lt)),<- eg,Heap.get?_update_ne _ _ _ _ (Nat.ne_of_lt lt),Heap.get?_push_ne _ _ _ (Nat.ne_of_lt lt)]
  exact q
 have hn:(g.push (seqObj "list" xs.toArray 0)).get? (s.heap.objs.size+1)=some (seqObj "list" xs.toArray 0):=by
  rw [<- z1];exact Heap.get?_push_size _ rfl
 have lf:=F.ns.lt
 show wpAny _ _ _ _ _ { s with heap:=g.push (seqObj "list" xs.toArray 0) }
 rw [z1]
 refine wpAny_bind (wpAny_holding (wpAny_call_entry_kw slot_list_sort ⟨_,hn,rfl⟩ entry_list_sort ?body (ksk_l1 _ _)))
 case body=>
  have e1:=ksk_t1 f (s.heap.objs.size+1)
  show wpAny (model prog w) A.in1.in1 (Builtin.«list.sort» ⟨[.ref (s.heap.objs.size+1)],[(PySem.Str.ofString "key", .ref f)]⟩) _ _ _
  rw [e1]
  refine tL (s:={ s with heap:=g.push (seqObj "list" xs.toArray 0) }) (F.kept kp) (N.grown kp) hn (Nat.ne_of_gt (Nat.lt_succ_of_lt lf)) (Heap.get?_none_of_le (Nat.le_trans F.above (Nat.le_succ_of_le (Nat.le_of_lt lf))))
   (λp hp=>Nat.ne_of_lt (Nat.lt_succ_of_lt (Heap.lt_size (N p hp).1))) hl hz ask λh' tk out c F' N' k'=>⟨_,rfl,?_⟩
  exact wpAny_pure ⟨_,rfl,h _ h' tk out c F' N' (λq hq=>Nat.lt_succ_of_lt (Heap.lt_size (N q hq).1)) k'⟩
end
end L2
namespace L2
open PySem PySem.Spec PyProof.Rows
section
variable {X:Cx}{pins:List (Addr × Obj)}{σ:St}{H:Hp}{s:Shared}
theorem pN {h:Heap}{L:Addr}:News (Att.noObjs h) L h (Att.ledger h L L):=by
 rintro⟨a,o⟩ hp
 obtain⟨n1,_,e⟩:=Att.mem_ledger.mp hp
 exact⟨e,n1,Att.noObjs_get _ _⟩
theorem Inv.newList {h':Heap}{t':Nat}{D:Addr}{m:Str->Option Value}{xs:List V}{its:List Value}{n:Nat} (I:Inv X pins σ H s) (hm:s.heap.Ns X.env.locals m) (hn:h'.Ns X.env.locals m)
  (k:∀b o,b≠X.env.locals->s.heap.get? b=some o->h'.get? b=some o) (fr:s.heap.get? D=none) (hD:h'.get? D=some { cls:=.type "list", data:=.seq its.toArray n })
  (r:aR xs its) (hz:xs.length<=sizeLine):H D=none/\Inv X pins σ (upd H D (.lst xs)) { s with heap:=h',toks:=t' }:=by
 have nD:H D=none:=by
  cases q:H D with
  | none=>rfl
  | some u=>
   exfalso
   have:∃o,s.heap.get? D=some o:=by
    have l:=(I.hok D u q).lt
    have z:=I.hok D u q
    cases u with
    | lst ys=>obtain⟨_,_,_,_,e⟩:=z;exact⟨_,e⟩
    | tup ys=>obtain⟨_,_,_,o,e,_⟩:=z;exact⟨_,e⟩
    | dK kvs=>obtain⟨_,_,_,_,o,_,_,e,_⟩:=z;exact⟨_,e⟩
    | dT kvs=>obtain⟨_,_,_,_,o,_,_,e,_⟩:=z;exact⟨_,e⟩
    | set S n=>obtain⟨o,_,_,_,e,_⟩:=z;exact⟨_,e⟩
    | ins C dx fs=>obtain⟨_,_,_,e,_⟩:=z;exact⟨_,e⟩
    | own y=>exact z
    | xd fs=>obtain⟨_,⟨o,_,_,e,_⟩,_⟩:=z;exact⟨_,e⟩
    | rng lo hi=>obtain⟨_,_,_,e⟩:=z;exact⟨_,e⟩
    | frz ob u=>obtain⟨e,_⟩:=z;exact⟨_,e⟩
    | tbl ps=>exact⟨_,z⟩
    | met f y=>exact⟨_,z⟩
    | ext φ=>exact z.2.1
   obtain⟨o,e⟩:=this
   rw [fr]at e;cases e
 have ne:∀b u,H b=some u->b≠D:=λb u q=>af q nD
 have nL:∀b u,H b=some u->b≠X.env.locals:=λb u q=>af q I.free
 refine⟨nD,I.step (g':=s.gens) (d':=s.drawn) (ch:=[]) (λb z=>absurd z (by simp)) (λb o hL _ _ e _=>k b o hL e) (λb o hL _ _ e _=>⟨o.slots,k b o hL e⟩) (λb o _ e n=>?_) (λb o _ e=>?_)
  (λb ys q=>?_) (λb o u q=>?_) (λb ps q=>?_) (λm' hm'=>?_) (λb u q=>?_) I.bare⟩
 ·rw [ag (λz=>by rw [z,fr]at e;cases e)];exact n
 ·by_cases z:b=X.env.locals
  ·obtain⟨o',_,_,e',_⟩:=hn
   exact⟨o',by rw [z];exact e'⟩
  ·exact⟨o,k b o z e⟩
 ·rw [ag (ne b _ q)];exact q
 ·rw [ag (ne b _ q)];exact q
 ·exact⟨#[],by rw [ag (ne b _ q),q];simp⟩
 ·have e1:=hm.eq_nsMap
  have e2:=hm'.eq_nsMap
  rw [e2,<- e1];exact hn
 ·by_cases z:b=D
  ·subst z;rw [ad]at q;cases q
   exact⟨hz,its,n,r,hD⟩
  ·rw [ag z]at q
   refine(I.hok b u q).stay (λc v hc r=>k c v ?_ r) (λc r=>by rw [ag (ne c _ r)];exact r) λc ys r=>by rw [ag (ne c _ r)];exact r
   rcases hc with hc | hc
   ·rw [hc];exact nL b u q
   ·exact nL c _ hc
end
theorem gC {ps:List Addr}{its:List Value} (r:aR (ps.map V.ref) its):its=ps.map Value.ref:=by
 induction ps generalizing its with
 | nil=>cases r;rfl
 | cons p ps ih=>
  cases r with
  | cons h t=>rw [List.map_cons,<- ih t];cases h;rfl
theorem mq:∀ps:List Addr,aR (ps.map V.ref) (ps.map Value.ref)
 | []=>.nil
 | _::ps=>.cons rfl (mq ps)
noncomputable def fE:Value->Addr
 | .ref a=>a
 | _=>0
theorem cJ {α β:Type}{F:α->β->Prop}:∀{l₁:List α}{l₂:List β},Paired F l₁ l₂->∀{i:Nat}{a:α},l₁[i]?=some a->∃b,l₂[i]?=some b/\F a b
 | _,_,.nil,_,_,e=>by simp at e
 | _,_,.cons r _,0,_,e=>by simp at e;subst e;exact⟨_,rfl,r⟩
 | _,_,.cons _ t,i+1,a,e=>by
  obtain⟨b,h1,h2⟩:=cJ t (i:=i) (a:=a) (by simpa using e)
  exact⟨b,by simpa using h1,h2⟩
noncomputable def ym (pa p1 p2 p3:Pos) (j:Nat) (scope:Scope) (q:Str) (t tk:TA):TE:=λσ H Q=>t σ H λvs H1=>tk σ H1 λzs H2=>∃(l f c:Addr) (ps:List Addr) (ks:List Int),
 vs=[.ref l]/\zs=[.ref f]/\H2 l=some (.lst (ps.map V.ref))/\ps.length<=most/\Paired (λp k=>∃r,H2 p=some (.tup (.int k::r))/\r.length < 1000) ps ks/\
 H2 c=some (.ext (bH c q))/\
 H2 f=some (.ext (o4 f { posonlyargs:=[],args:=[{ arg:="row", annotation:=none,pos:=pa }],vararg:=none,kwonlyargs:=[],kw_defaults:=[],kwarg:=none,defaults:=[] } (.Subscript (.Name "row" p1) (.Constant (.int 0) j p2) p3) scope q c))/\
 ∀(D:Addr) (zs:List (Int × Addr)),zs.Perm (ks.zip ps)->zs.Pairwise (λa b=>a.1<=b.1)->H2 D=none->Q (.ref D) (upd H2 D (.lst (zs.map λz=>V.ref z.2)))
section
variable {X:Cx}{e:Expr}{kws:List Keyword}{t tk:TA}{p pos:Pos}
theorem vS {k:Nat}{pa p1 p2 p3:Pos}{j:Nat}{scope:Scope}{q:Str} (hr:Room k X.A) (hg:Gl X "sorted") (hm:X.mg "sorted" = none) (ha:PA X [e] t) (hk:PK X kws tk)
  (hsc:scope.kind=.function) (hsn:scope.names=[(PySem.Str.ofString "row", .local)]) (hsg:scope.isGenerator=false) (hsco:scope.isCoroutine=false)
  (he:backTo pos (starEach [e] X.env)=(false,eval e X.env)::backTo pos (starEach [] X.env):=by rfl) (hplain:(backTo pos (starEach [e] X.env)).any (·.1)=false:=by rfl)
  (hall:(backToKw pos (keywordEach kws X.env)).all (·.1.isSome)=true:=by rfl) (hkw:(backToKw pos (keywordEach kws X.env)).any (·.1.isNone)=false:=by rfl)
  (hks:(backToKw pos (keywordEach kws X.env)).filterMap (·.1)=[PySem.Str.ofString "key"]:=by rfl):PE X (.Call (.Name "sorted" p) [e] kws pos) (ym pa p1 p2 p3 j scope q t tk):=by
 intro pins s σ H Q I h
 refine wpAny_Call_Name_kw (im I hg hm PyProof.Rows.Boot.«sorted» ?_)
 refine callWith_kw (thn (ha pos pins s σ H _ I h) λus s1 hh=>?_) he hplain hall hkw
 obtain⟨vs,H1,I1,r1,q1⟩:=hh
 refine thn (hk pos pins s1 σ H1 _ I1 q1) λws s2 hh=>?_
 obtain⟨zs,H2,I2,r2,l,f,c,ps,ks,rfl,rfl,hl,h64,pk,hc,hf,done⟩:=hh
 obtain⟨u,rfl,ru⟩:=fK r1
 obtain⟨u2,rfl,ru2⟩:=fK r2
 cases (show u=Value.ref l from ru)
 cases (show u2=Value.ref f from ru2)
 rw [hks]
 show wpAny _ _ (call (.builtin "sorted") [.ref l] [(PySem.Str.ofString "key", .ref f)]) _ _ _
 obtain⟨its,n,rv,ho,hz⟩:=I2.lst hl
 obtain rfl:=gC rv
 obtain⟨m,hn,_⟩:=id I2.loc
 have kl:ks.length=ps.length:=(Paired.length pk).symm
 have nL:∀b u,H2 b=some u->b≠X.env.locals:=λb u q=>af q I2.free
 refine pe (hb:=Att.noObjs s2.heap) (fa:=X.env.locals) (mp:=m) (bk:=Att.ledger s2.heap X.env.locals X.env.locals) (ks:=ks) (xs:=ps.map Value.ref) (f:=f) (Att.fr_all hn) pN ⟨_,ho,rfl,n,rfl⟩ (by rw [List.length_map,kl]) (by rw [List.length_map];exact h64)
  (λi v kz hv hkz h1 tk1 own F1 N1=>?_) (λD h3 tk3 out c3 F3 N3 lt ko=>?_)
 ·-- one call of the key
  rw [List.getElem?_map]at hv
  cases ep:ps[i]? with
  | none=>rw [ep]at hv;cases hv
  | some a=>
   rw [ep]at hv
   cases hv
   obtain⟨k',ek,r,ht,hr'⟩:=cJ pk ep
   rw [hkz]at ek
   cases ek
   have kept:∀b o,b≠X.env.locals->s2.heap.get? b=some o->h1.get? b=some o:=λb o n e=>(N1 (b,o) (List.mem_append_left _ (Att.mem_ledger.mpr ⟨n,n,e⟩))).1
   obtain⟨hz2,ts,rt,ot,et,ct,nt,dt⟩:=(show bG X.prog X.w H2 s2.heap a (.tup (.int kz::r)) from I2.hok a _ ht)
   cases rt with
   | @cons _ u _ us hu0 htl=>
    obtain⟨tt,rfl⟩:=hu0
    obtain⟨pm,ctv,ef⟩:=(show bG X.prog X.w H2 s2.heap f _ from I2.hok f _ hf).1
    have hcr:=(show bG X.prog X.w H2 s2.heap c _ from I2.hok c _ hc).1
    obtain⟨oc,eoc⟩:=bH.obj hcr
    have hl1:us.length < 1000:=by have:=Paired.length htl;omega
    refine uC (s:={ s2 with heap:=h1,toks:=tk1 }) (scope:=scope) (show X.A.depth < recursionLimit from hr.depth) (kept _ _ (nL _ _ hf) ef) hsc hsn hsg hsco (bH.st hcr λo e=>kept _ _ (nL _ _ hc) e) ⟨ot,kept _ _ (nL _ _ ht) et,ct,nt,dt⟩ hl1
     (I2.ok.mod.nolimit.keeps λb o e=>kept b o (Nat.ne_of_lt (Nat.lt_of_lt_of_le (Heap.lt_size e) (Nat.le_trans I2.ok.bsz I2.ok.above))) (I2.bk b o e)) λh₁ tk' hk'=>?_
    exact⟨h₁,tk',tt,rfl,rfl,⟨F1.ns.keeps hk',λb o e=>hk' b o (F1.keep b o e),F1.above⟩,λp hp=>⟨hk' _ _ (N1 p hp).1,(N1 p hp).2⟩⟩
 ·-- the sorted list
  obtain⟨qs,hp,ho3,hs⟩:=ko
  have kept:∀b o,b≠X.env.locals->s2.heap.get? b=some o->h3.get? b=some o:=λb o n e=>(N3 (b,o) (List.mem_cons_of_mem _ (Att.mem_ledger.mpr ⟨n,n,e⟩))).1
  have nD:=N3 (D,seqObj "list" out c3) List.mem_cons_self
  have fr:s2.heap.get? D=none:=by
   cases e:s2.heap.get? D with
   | none=>rfl
   | some o=>exact absurd (lt (D,o) (Att.mem_ledger.mpr ⟨nD.2.1,nD.2.1,e⟩)) (Nat.lt_irrefl _)
  have eg:ks.zip (ps.map Value.ref)=(ks.zip ps).map λz=>(z.1,Value.ref z.2):=by
   rw [List.zip_map_right]
   rfl
  have all:∀z∈qs,(z.1,Value.ref (fE z.2))=z:=λz hz=>by
   have:=hp.mem_iff.mp hz
   rw [eg]at this
   obtain⟨y,_,rfl⟩:=List.mem_map.mp this
   rfl
  have hp2:(qs.map λz=>(z.1,fE z.2)).Perm (ks.zip ps):=by
   have:=hp.map λz:Int × Value=>(z.1,fE z.2)
   rw [eg,List.map_map]at this
   have e2:((λz:Int × Value=>(z.1,fE z.2)) ∘ λz:Int × Addr=>(z.1,Value.ref z.2))=id:=by funext z;rfl
   rw [e2,List.map_id]at this
   exact this
  have hs2:(qs.map λz=>(z.1,fE z.2)).Pairwise (λa b=>a.1<=b.1):=by
   rw [List.pairwise_map]
   exact hs.imp λq=>q
  have e3:out.toList=((qs.map λz=>(z.1,fE z.2)).map λz=>Value.ref z.2):=by
   rw [ho3,List.map_map]
   refine List.map_congr_left λz hz=>?_
   exact(congrArg Prod.snd (all z hz)).symm
  have eo:out=(((qs.map λz=>(z.1,fE z.2)).map λz=>z.2).map Value.ref).toArray:=by
   rw [List.map_map]
   have:out=out.toList.toArray:=by simp
   rw [this,e3]
   rfl
  have hD:h3.get? D=some { cls:=.type "list", data:=.seq (((qs.map λz=>(z.1,fE z.2)).map λz=>z.2).map Value.ref).toArray c3 }:=by rw [<- eo];exact nD.1
  have hl3:(qs.map λz=>(z.1,fE z.2)).length<=sizeLine:=by
   rw [hp2.length_eq,List.length_zip,kl,Nat.min_self]
   rw [List.length_map]at hz
   exact hz
  obtain⟨nH,I3⟩:=I2.newList (t':=tk3) hn F3.ns kept fr hD (mq _) (by rw [List.length_map,List.length_map];exact hl3)
  rw [List.map_map]at I3
  exact⟨.ref D,_,I3,rfl,done D _ hp2 hs2 nH⟩
end
end L2
namespace L2
open PySem PySem.Spec PyProof.Rows
noncomputable abbrev aH:=Int × Int × V
noncomputable def aV:V->Prop
 | .non=>True
 | .int _=>True
 | _=>False
noncomputable def cB (r:aH):List V:=[.int r.1,.int r.2.1,r.2.2]
noncomputable def bM (H:Hp) (ps:List Addr) (rs:List aH):Prop:=Paired (λp r=>H p=some (.tup (cB r))/\aV r.2.2) ps rs
noncomputable def aS (H:Hp) (a:Addr) (rs:List aH):Prop:=∃ps,H a=some (.lst (ps.map V.ref))/\bM H ps rs
noncomputable def dz:V->PySem.W.Dat
 | .int i=>.int i
 | _=>.none
noncomputable def gZ (r:aH):PySem.W.Dat:=.tuple [.int r.1,.int r.2.1,dz r.2.2]
theorem lw:∀{x y:V},aV x->aV y->dz x=dz y->x=y
 | .non,.non,_,_,_=>rfl
 | .int _,.int _,_,_,e=>by cases e;rfl
 | .non,.int _,_,_,e=>by cases e
 | .int _,.non,_,_,e=>by cases e
theorem uW {r s:aH} (h1:aV r.2.2) (h2:aV s.2.2) (e:gZ r=gZ s):r=s:=by
 obtain⟨a,b,c⟩:=r
 obtain⟨a',b',c'⟩:=s
 unfold gZ at e
 injection e with e
 injection e with e1 e
 injection e with e2 e
 injection e with e3 _
 injection e1 with e1
 injection e2 with e2
 have:=lw h1 h2 e3
 simp only at e1 e2 this
 rw [e1,e2,this]
theorem eF {H:Hp}{ps:List Addr}{rs:List aH} (h:bM H ps rs):∀r∈rs,aV r.2.2:=by
 unfold bM at h
 induction h with
 | nil=>intro r hr;cases hr
 | cons a t ih=>
  intro r hr
  rcases List.mem_cons.mp hr with e | hr
  ·rw [e];exact a.2
  ·exact ih r hr
theorem mH:∀{rs ss:List aH},(∀r∈rs,aV r.2.2)->(∀r∈ss,aV r.2.2)->rs.map gZ=ss.map gZ->rs=ss
 | [],[],_,_,_=>rfl
 | [],_::_,_,_,e=>by cases e
 | _::_,[],_,_,e=>by cases e
 | r::rs,s::ss,h1,h2,e=>by
  rw [List.map_cons,List.map_cons]at e
  injection e with e1 e2
  rw [uW (h1 r List.mem_cons_self) (h2 s List.mem_cons_self) e1,mH (λr hr=>h1 r (List.mem_cons_of_mem _ hr)) (λr hr=>h2 r (List.mem_cons_of_mem _ hr)) e2]
theorem wH (rs:List aH) (h:∀r∈rs,aV r.2.2):∀d∈rs.map gZ,PySem.W.kqdOk 8 d=true:=by
 intro d hd
 obtain⟨r,hr,rfl⟩:=List.mem_map.mp hd
 have m:=h r hr
 obtain⟨a,b,c⟩:=r
 cases c with
 | non=>rfl
 | int i=>rfl
 | _=>exact m.elim
theorem nQ (rs:List aH) (h:∀r∈rs,aV r.2.2):PySem.W.kqdOk 9 (.list (rs.map gZ))=true:=List.all_eq_true.mpr (wH rs h)
section
variable {X:Cx}{pins:List (Addr × Obj)}{σ:St}{H:Hp}{s:Shared}
theorem pB {h:Heap}{x:V}{u:Value} (m:aV x) (r:aU x u):Reads h u (PySem.W.kqdP (dz x)) []:=by
 cases x with
 | non=>
  cases r
  have e:dz V.non=.none:=rfl
  rw [e,PySem.W.kqdP];exact .none
 | int i=>
  obtain⟨t,rfl⟩:=r
  have e:dz (V.int i)=.int i:=rfl
  rw [e,PySem.W.kqdP];exact .int i t
 | _=>exact m.elim
theorem rG {p:Addr}{r:aH} (I:Inv X pins σ H s) (e:H p=some (.tup (cB r))) (m:aV r.2.2):Reads s.heap (.ref p) (PySem.W.kqdP (gZ r)) []:=by
 obtain⟨hz,its,rt,ot,et,ct,nt,dt⟩:=(show bG X.prog X.w H s.heap p (.tup (cB r)) from I.hok p _ e)
 cases rt with
 | cons h1 rt=>
  cases rt with
  | cons h2 rt=>
   cases rt with
   | cons h3 rt=>
    cases rt
    obtain⟨t1,rfl⟩:=h1
    obtain⟨t2,rfl⟩:=h2
    unfold gZ
    rw [PySem.W.kqdP,PySem.W.kqdPs,PySem.W.kqdPs,PySem.W.kqdPs,PySem.W.kqdPs,PySem.W.kqdP,PySem.W.kqdP]
    exact reads_tuple_at et ct dt (.cons (.int _ _) (.cons (.int _ _) (.cons (pB m h3) .nil)))
theorem kK {ps:List Addr}{rs:List aH} (I:Inv X pins σ H s) (h:bM H ps rs):ReadsAll s.heap (ps.map Value.ref) (PySem.W.kqdPs (rs.map gZ)) []:=by
 unfold bM at h
 induction h with
 | nil=>rw [List.map_nil,List.map_nil,PySem.W.kqdPs];exact .nil
 | @cons p r ps rs a t ih=>
  rw [List.map_cons,List.map_cons,PySem.W.kqdPs]
  exact .cons (rG I a.1 a.2) ih
theorem tY {rs ss:List aH} (h1:∀r∈rs,aV r.2.2) (h2:∀r∈ss,aV r.2.2){k:Bool} (hk:k=true↔rs=ss):PyData.eqv (.list (PySem.W.kqdPs (rs.map gZ))) (.list (PySem.W.kqdPs (ss.map gZ)))=k:=by
 have q:=PySem.W.kqd_eqv 9 (.list (rs.map gZ)) (.list (ss.map gZ)) 9 (nQ rs h1) (nQ ss h2)
 rw [PySem.W.kqdP,PySem.W.kqdP,PySem.W.Dat.list.injEq]at q
 by_cases e:rs=ss
 ·rw [hk.mpr e];exact q.mpr (by rw [e])
 ·have:k=false:=by
   cases k with
   | false=>rfl
   | true=>exact absurd (hk.mp rfl) e
  rw [this]
  exact Bool.eq_false_iff.mpr λx=>e (mH h1 h2 (q.mp x))
theorem jv {rs:List aH} (h:∀r∈rs,aV r.2.2):SeqAt.shaped (.list (PySem.W.kqdPs (rs.map gZ)))=true:=by
 have la:=PySem.W.kqd_lay 9 (.list (rs.map gZ)) (nQ rs h)
 rw [PySem.W.kqdP]at la
 unfold SeqAt.shaped
 rw [la.1,Bool.true_and]
 exact decide_eq_true (Nat.le_trans la.2 (by decide))
end
section
variable {X:Cx}
noncomputable def vO (neg:Bool):R2:=λx y H Q=>∃a b rs ss,x=.ref a/\y=.ref b/\aS H a rs/\aS H b ss/\∃k:Bool,(k=true↔rs=ss)/\Q (.bl (if neg then !k else k)) H
theorem mx (hu:X.A.units+64 < cLine):OpR X (compareOp .NotEq) (vO true):=by
 intro pins s σ H x y v u Q I r1 r2 h
 obtain⟨a,b,rs,ss,rfl,rfl,⟨ps,ha,pa⟩,⟨qs,hb,pb⟩,k,hk,q⟩:=h
 cases r1
 cases r2
 obtain⟨its,n,rv,ho,hz⟩:=I.lst ha
 obtain rfl:=gC rv
 obtain⟨its',n',rv',ho',hz'⟩:=I.lst hb
 obtain rfl:=gC rv'
 refine ne_dataH (reads_list_at ho rfl rfl (by simpa using kK I pa)) (reads_list_at ho' rfl rfl (by simpa using kK I pb)) (jv (eF pa)) (jv (eF pb)) hu ?_
 rw [tY (eF pa) (eF pb) hk]
 exact⟨.bl (!k),H,I,rfl,q⟩
end
section
variable {X:Cx}
end
end L2
namespace L2
open PySem PySem.Spec PyProof.Rows
noncomputable def vg (P:Addr) (H:Hp):Prop:=H P=some (.tbl #[])/\∀b,b=P\/H b=none\/∃o xs,H b=some (.frz o (.lst xs))
theorem sj {P:Program}{w:World}{K:PySem.W.Frag}{mg mb:Str->Option Value}{k:Nat}{fa a:Addr}{fd:FuncData}{x:Str}{sp:Sp}{s₁:Shared}{vs:List Value}{ns:List Int}{c T:Addr}
  (KX:K.In s₁.heap) (hns:s₁.heap.Ns mainGlobals mg) (hb:s₁.heap.Ns builtinsNs mb) (hbb:∀x:Str,x≠"__name__"->mb x=bootBuiltins x) (hlim:s₁.heap.NoLimit) (hg:s₁.gens = #[])
  (hC:PySem.W.CodeHd s₁.heap c T) (hT:s₁.heap.get? T=some (PySem.W.tabObj #[])) (hnt:PySem.W.noTabs K=true) (hB:s₁.heap.BuiltinsAt mg T)
  (ha:s₁.heap.get? a=some { cls:=.type "list", data:=.seq vs.toArray }) (hi:IntsAre vs ns) (hl:ns.length<=sizeLine) (hr:Room k callerA)
  (F:∀base:Heap,K.In base->base.Ns mainGlobals mg->PySem.W.CodeHd base c T->base.BuiltinsAt mg T->FnOk P w K mg base CX0 k fa fd [x] sp) (hbind:∀(s:Shared) (u:Value),BindsTo s fd ⟨[u],[]⟩ [(x,u)])
  (hsp:∀H:Hp,vg T H->SqL K H a (ns.map V.int)->sp [.ref a] H (λv _=>v=.bl true) λ_ _ _=>False) :
  codeAny (model P w) callerA (.call (.ref fa) ⟨[.ref a],[]⟩) (λr s'=>r=.ok (.ret (.bool true))/\OldK s₁.heap s'.heap/\s'.os=s₁.os/\AllBare s'.gens) s₁:=by
 have rv:=lK hi
 have lenV:=hi.length
 have aT:a≠T:=λz=>by rw [z,hT]at ha;cases ha
 have core:∀H:Hp,vg T H->SqL K H a (ns.map V.int)->HOk P w H s₁.heap->(∀b,H b≠none->b=a\/b=T)->(H a≠none->K.lookup a=none)->
   codeAny (model P w) callerA (.call (.ref fa) ⟨[.ref a],[]⟩) (λr s'=>r=.ok (.ret (.bool true))/\OldK s₁.heap s'.heap/\s'.os=s₁.os/\AllBare s'.gens) s₁:=by
  intro H hO hS hok hA hK
  have base_of:∀{b:Addr}{o:Obj},s₁.heap.get? b=some o->H b=none->(kZ s₁.heap H).get? b=some o:=λe n=>uM e n
  have noA:∀{b:Addr}{o:Obj},s₁.heap.get? b=some o->o≠{ cls:=.type "list", data:=.seq vs.toArray }->o≠PySem.W.tabObj #[]->H b=none:=λ{b o} e d1 d2=>by
   cases q:H b with
   | none=>rfl
   | some u=>
    rcases hA b (by rw [q];simp) with z | z
    ·subst z
     rw [ha]at e;cases e
     exact absurd rfl d1
    ·subst z
     rw [hT]at e;cases e
     exact absurd rfl d2
  have nsK:∀{b:Addr}{m:Str->Option Value},s₁.heap.Ns b m->(kZ s₁.heap H).Ns b m:=λ{b m} hh=>by
   obtain⟨o,es,ep,e,d,r⟩:=hh
   exact⟨o,es,ep,base_of e (noA e (λz=>by rw [z]at d;cases d) λz=>by rw [z]at d;cases d),d,r⟩
  have hKb:K.In (kZ s₁.heap H):=λb o e=>base_of (KX b o e) (by
   cases q:H b with
   | none=>rfl
   | some u=>
    rcases hA b (by rw [q];simp) with z | z
    ·subst z
     rw [hK (by rw [q];simp)]at e;cases e
    ·subst z
     have h1:=KX b o e
     rw [hT]at h1;cases h1
     have h2:=List.all_eq_true.mp hnt (b,PySem.W.tabObj #[]) (PySem.W.mem_of_lookupK e)
     exact absurd (show false=true from h2) Bool.false_ne_true)
  have hM:Mod K mg (kZ s₁.heap H):=⟨hKb,nsK hns,⟨mb,nsK hb,hbb⟩,let ⟨mc,h1,h2⟩:=hlim;⟨mc,nsK h1,h2⟩⟩
  have hCb:PySem.W.CodeHd (kZ s₁.heap H) c T:=by
   obtain⟨o,vs',file,tf,flags,tg,inF,text,tt,e1,e2,r⟩:=hC
   exact⟨o,vs',file,tf,flags,tg,inF,text,tt,base_of e1 (noA e1 (λz=>by rw [z]at e2;injection e2 with e2;exact absurd e2 (by decide)) λz=>by rw [z]at e2;cases e2),e2,r⟩
  have hBb:(kZ s₁.heap H).BuiltinsAt mg T:=by
   obtain⟨bm,ob,b1,b2,b3,b4,b5,b6,b7⟩:=hB
   exact⟨bm,ob,b1,b2,b3,b4,base_of b5 (noA b5 (λz=>by rw [z]at b6;injection b6 with b6;exact absurd b6 (by decide)) λz=>by rw [z]at b6;cases b6),b6,b7⟩
  have e0:Env0 P w K mg (kZ s₁.heap H) callerA [] s₁ H:=⟨rfl,hM,λb o e=>wu e,Nat.le_of_eq (sw _ _),trivial,λb hb=>absurd (show b∈([]:List Addr) from hb) (by simp),hok,.of_eq hg⟩
  refine codeAny_mono ((F _ hKb (nsK hns) hCb hBb).run callerA [] s₁ H ⟨[.ref a],[]⟩ [.ref a] [.ref a] _ _ hr e0 (hbind s₁ (.ref a)) (.cons rfl .nil) (hsp H hO hS)) λr s' h=>?_
  cases r with
  | error e=>exact False.elim h
  | ok fl=>
   cases fl with
   | next=>exact False.elim h
   | brk=>exact False.elim h
   | cont=>exact False.elim h
   | ret u=>
    obtain⟨v,H',os,bare,un,hok',r',q⟩:=h
    have q':v=.bl true:=q
    subst q'
    obtain rfl:u=Value.bool true:=r'
    obtain⟨more,hmore⟩:=un.tbls T #[] hO.1
    have hT':s'.heap.get? T=some { cls:=.none,data:=.fields (#[]++more) }:=hok' T _ hmore
    have kept:∀b o,b≠T->s₁.heap.get? b=some o->s'.heap.get? b=some o:=λb o nT e=>by
     rcases hO.2 b with z | z | ⟨ob,xs,z⟩
     ·exact absurd z nT
     ·exact un.keep b o e z (by intro z;exact absurd (show b∈([]:List Addr) from z) (by simp)) (by simp)
     ·have z2:=un.frzs b ob _ z
      obtain⟨e1,_⟩:=hok b _ z
      obtain⟨e2,_⟩:=hok' b _ z2
      rw [e]at e1;cases e1
      exact e2
    refine⟨rfl,⟨λb o e=>?_,λb o e=>?_⟩,os,bare⟩
    ·by_cases z:b=T
     ·subst z
      rw [hT]at e;cases e
      exact .inr (.inl ⟨(hC.tab hT).isCodeTable,rfl,#[],more,rfl,hT'⟩)
     ·exact .inl (kept b o z e)
    ·by_cases z:b=T
     ·subst z;exact⟨_,hT'⟩
     ·exact⟨o,kept b o z e⟩
 cases hk:K.lookup a with
 | some o=>
  have e:=KX a o hk
  rw [ha]at e
  cases e
  refine core (λb=>if b=T then some (.tbl #[]) else none) ⟨if_pos rfl,λb=>?_⟩ (.inr ⟨_,vs.toArray,_,hk,rfl,rfl,rfl,by rw [List.size_toArray,lenV];exact hl,by simpa using rv⟩) (λb u z=>?_) (λb z=>?_) λz=>absurd (if_neg aT) z
  ·by_cases hb:b=T
   ·exact .inl hb
   ·exact .inr (.inl (if_neg hb))
  ·by_cases hb:b=T
   ·have z':=(if_pos hb).symm.trans z
    cases z'
    rw [hb]
    exact hT
   ·have z':=(if_neg hb).symm.trans z
    cases z'
  ·by_cases hb:b=T
   ·exact .inr hb
   ·exact absurd (if_neg hb) z
 | none=>
  refine core (λb=>if b=T then some (.tbl #[]) else if b=a then some (.frz { cls:=.type "list", data:=.seq vs.toArray } (.lst (ns.map V.int))) else none) ⟨if_pos rfl,λb=>?_⟩
   (.inl (.inr ⟨{ cls:=.type "list", data:=.seq vs.toArray },(if_neg aT).trans (if_pos rfl)⟩)) (λb u z=>?_) (λb z=>?_) λ_=>hk
  ·by_cases hb:b=T
   ·exact .inl hb
   ·by_cases hb2:b=a
    ·exact .inr (.inr ⟨_,_,(if_neg hb).trans (if_pos hb2)⟩)
    ·exact .inr (.inl ((if_neg hb).trans (if_neg hb2)))
  ·by_cases hb:b=T
   ·have z':=(if_pos hb).symm.trans z
    cases z'
    rw [hb]
    exact hT
   ·by_cases hb2:b=a
    ·have z':=((if_neg hb).trans (if_pos hb2)).symm.trans z
     cases z'
     subst hb2
     exact⟨ha,by rw [List.length_map];exact hl,vs,_,rv,ha⟩
    ·have z':=((if_neg hb).trans (if_neg hb2)).symm.trans z
     cases z'
  ·by_cases hb:b=T
   ·exact .inr hb
   ·by_cases hb2:b=a
    ·exact .inl hb2
    ·exact absurd ((if_neg hb).trans (if_neg hb2)) z
theorem sY {l:PySem.W.OpenLaw}{n k:Nat}{q:Program}{loose:List Str}{XP:(Str->Option Value)->Heap->Prop}{YP:World->Heap->Prop}{d dj:DefRec}{K:Params->PySem.W.Frag}{sp:World->Sp}{x xj:Str}{c T:Addr}
  (hn:l.most=some n) (hn2:n<=sizeLine) (hdf:d.params.defaults=[]) (hr:Room k callerA)
  (hY:∀(w:World) (h:Heap),YP w h->(K w.params).In h)
  (hrj:(recsOf q).find? (λe=>e.name == xj)=some dj) (htab:∀(w:World) (h:Heap),(K w.params).In h->PySem.W.tabIn (K w.params) xj=some (c,T)) (hnt:∀(w:World) (h:Heap),(K w.params).In h->PySem.W.noTabs (K w.params)=true)
  (F:∀(w:World) (mg:Str->Option Value) (fa:Addr) (h:Heap),(K w.params).In h->h.Ns mainGlobals mg->mg d.name=some (.ref fa)->
   ∃fd:FuncData,(∀(s:Shared) (u:Value),BindsTo s fd ⟨[u],[]⟩ [(x,u)])/\
    ∀base:Heap,(K w.params).In base->base.Ns mainGlobals mg->PySem.W.CodeHd base c T->base.BuiltinsAt mg T->FnOk l.prog w (K w.params) mg base CX0 k fa fd [x] (sp w))
  (hsp:∀(w:World) (H:Hp) (a:Addr) (ns:List Int),ns.length<=n->vg T H->SqL (K w.params) H a (ns.map V.int)->sp w [.ref a] H (λv _=>v=.bl true) λ_ _ _=>False) :
  PySem.W.WalkO q loose XP YP l.row.toRowW d [] (λf vs=>PySem.call f vs):=by
 refine Att.attach_call hn hdf λw s₀ s₁ mg mb fa o pm cd doc a vs ns G Y ho hd hcd hmg hobj hints hlen hg=>?_
 have KX:=hY w _ Y
 obtain⟨fd,hb,hF⟩:=F w mg fa _ KX G.T.g hmg
 obtain⟨hC,hT⟩:=PySem.W.tab_of G.T KX hrj (htab w _ KX)
 have hB:s₁.heap.BuiltinsAt mg T:=by
  obtain⟨bm,ob,b1,b2,b3,b4,b5,b6⟩:=G.T.bmain
  refine⟨bm,ob,b1,b2,λz=>?_,λz=>?_,b3,b4,b5,b6⟩
  ·obtain⟨o',es,ep,e,hd',_⟩:=G.T.g
   rw [z,e]at b3;cases b3;rw [hd']at b6;cases b6
  ·rw [z,hT]at b3;cases b3;cases b4
 exact sj KX G.T.g G.T.b G.T.builtins G.T.nolimit hg hC hT (hnt w _ KX) hB hobj hints (Nat.le_trans hlen hn2) hr hF hb (λH hO hS=>hsp w H a ns hlen hO hS)
end L2
namespace Strip
section
variable {M:Type} [DecidableEq M]
noncomputable abbrev Row (M:Type):=Int × Int × M
noncomputable def Has (r:Row M) (n:Int):Prop:=r.1<=n/\n<=r.2.1
noncomputable instance (r:Row M) (n:Int):Decidable (Has r n):=by unfold Has;exact inferInstance
noncomputable def dayOf:List (Row M)->Int->Option M
 | [],_=>none
 | r::t,n=>match dayOf t n with
  | some m=>some m
  | none=>if Has r n then some r.2.2 else none
theorem nO (as bs:List (Row M)) (n:Int):dayOf (as++bs) n=(match dayOf bs n with | some m=>some m | none=>dayOf as n):=by
 induction as with
 | nil=>show dayOf bs n=_;cases dayOf bs n <;> rfl
 | cons r t ih=>
  show (match dayOf (t++bs) n with | some m=>some m | none=>if Has r n then some r.2.2 else none)=_
  rw [ih]
  cases e:dayOf bs n with
  | some m=>rfl
  | none=>rfl
theorem bw (as:List (Row M)) (r:Row M) (n:Int):dayOf (as++[r]) n=if Has r n then some r.2.2 else dayOf as n:=by
 rw [nO]
 show (match (if Has r n then some r.2.2 else none) with | some m=>some m | none=>dayOf as n)=_
 by_cases h:Has r n
 ·rw [if_pos h,if_pos h]
 ·rw [if_neg h,if_neg h]
noncomputable def iS (r s:Row M):Prop:=r.2.1 < s.1\/s.2.1 < r.1
theorem iS.symm {r s:Row M} (h:iS r s):iS s r:=h.elim .inr .inl
theorem iS.not_both {r s:Row M}{n:Int} (h:iS r s) (h1:Has r n) (h2:Has s n):False:=by
 unfold iS at h;unfold Has at h1 h2;omega
structure Disj (rs:List (Row M)):Prop where
 ap:rs.Pairwise iS
 le:∀r∈rs,r.1<=r.2.1
noncomputable def Lt (r s:Row M):Prop:=r.2.1 < s.1
structure Rising (rs:List (Row M)):Prop where
 lt:rs.Pairwise Lt
 le:∀r∈rs,r.1<=r.2.1
theorem Rising.disj {rs:List (Row M)} (h:Rising rs):Disj rs:=⟨h.lt.imp λq=>.inl q,h.le⟩
theorem Disj.perm {rs rs':List (Row M)} (h:Disj rs) (p:rs'.Perm rs):Disj rs':=by
 refine⟨?_,λr hr=>h.le r (p.mem_iff.mp hr)⟩
 exact(p.pairwise_iff (λq=>q.symm)).mpr h.ap
theorem dayOf_some {rs:List (Row M)}{n:Int}{m:M} (h:dayOf rs n=some m):∃r∈rs,Has r n/\r.2.2=m:=by
 induction rs with
 | nil=>cases h
 | cons r t ih=>
  have h':(match dayOf t n with | some m=>some m | none=>if Has r n then some r.2.2 else none)=some m:=h
  cases e:dayOf t n with
  | some m'=>
   rw [e]at h'
   obtain⟨s,hs,q⟩:=ih (e.trans h')
   exact⟨s,List.mem_cons_of_mem _ hs,q⟩
  | none=>
   rw [e]at h'
   by_cases hr:Has r n
   ·have h2:(if Has r n then some r.2.2 else none)=some m:=h'
    rw [if_pos hr]at h2
    exact⟨r,List.mem_cons_self,hr,Option.some.inj h2⟩
   ·have h2:(if Has r n then some r.2.2 else none)=some m:=h'
    rw [if_neg hr]at h2
    cases h2
theorem dayOf_mem {rs:List (Row M)}{n:Int}{r:Row M} (d:Disj rs) (hr:r∈rs) (hn:Has r n):dayOf rs n=some r.2.2:=by
 induction rs with
 | nil=>cases hr
 | cons s t ih=>
  obtain⟨h1,h2⟩:=List.pairwise_cons.mp d.ap
  have dt:Disj t:=⟨h2,λq hq=>d.le q (List.mem_cons_of_mem _ hq)⟩
  show (match dayOf t n with | some m=>some m | none=>if Has s n then some s.2.2 else none)=_
  rcases List.mem_cons.mp hr with e | hr
  ·subst e
   cases e:dayOf t n with
   | some m=>
    obtain⟨q,hq,hh,_⟩:=dayOf_some e
    exact((h1 q hq).not_both hn hh).elim
   | none=>exact if_pos hn
  ·rw [ih dt hr]
theorem dayOf_none {rs:List (Row M)}{n:Int} (h:∀r∈rs,¬Has r n):dayOf rs n=none:=by
 cases e:dayOf rs n with
 | none=>rfl
 | some m=>
  obtain⟨r,hr,q,_⟩:=dayOf_some e
  exact(h r hr q).elim
theorem lI {rs:List (Row M)}{n:Int} (d:Disj rs) (h:dayOf rs n=none):∀r∈rs,¬Has r n:=λr hr q=>by
 rw [dayOf_mem d hr q]at h;cases h
theorem dayOf_perm {rs rs':List (Row M)} (d:Disj rs) (p:rs'.Perm rs) (n:Int):dayOf rs' n=dayOf rs n:=by
 cases e:dayOf rs n with
 | some m=>
  obtain⟨r,hr,q,rfl⟩:=dayOf_some e
  exact dayOf_mem (d.perm p) (p.mem_iff.mpr hr) q
 | none=>exact dayOf_none λr hr=>lI d e r (p.mem_iff.mp hr)
noncomputable def Beside (r s:Row M):Prop:=r.2.1+1=s.1/\r.2.2=s.2.2
noncomputable instance (r s:Row M):Decidable (Beside r s):=by unfold Beside;exact inferInstance
structure Tidy (rs:List (Row M)):Prop where
 up:Rising rs
 no:∀(i:Nat) (r s:Row M),rs[i]?=some r->rs[i+1]?=some s->¬Beside r s
theorem tidy_nil:Tidy ([]:List (Row M)):=⟨⟨List.Pairwise.nil,(λ_ h=>nomatch h)⟩,λi r s h _=>by simp at h⟩
theorem Rising.snoc {as:List (Row M)}{r:Row M} (h:Rising as) (hr:r.1<=r.2.1) (hl:∀s∈as,s.2.1 < r.1):Rising (as++[r]):=by
 refine⟨List.pairwise_append.mpr ⟨h.lt,List.pairwise_singleton _ _,λa ha b hb=>?_⟩,λs hs=>?_⟩
 ·rw [List.mem_singleton.mp hb];exact hl a ha
 ·rcases List.mem_append.mp hs with hs | hs
  ·exact h.le s hs
  ·rw [List.mem_singleton.mp hs];exact hr
theorem Rising.init {as:List (Row M)}{r:Row M} (h:Rising (as++[r])):Rising as:=
 ⟨(List.pairwise_append.mp h.lt).1,λs hs=>h.le s (List.mem_append_left _ hs)⟩
theorem Rising.last {as:List (Row M)}{r:Row M} (h:Rising (as++[r])):∀s∈as,s.2.1 < r.1:=λs hs=>
 (List.pairwise_append.mp h.lt).2.2 s hs r (List.mem_singleton.mpr rfl)
theorem get_snoc {α:Type} (as:List α) (x:α) (i:Nat):(as++[x])[i]?=if i < as.length then as[i]? else if i=as.length then some x else none:=by
 by_cases h:i < as.length
 ·rw [if_pos h,List.getElem?_append_left h]
 ·rw [if_neg h,List.getElem?_append_right (by omega)]
  by_cases h2:i=as.length
  ·rw [if_pos h2,h2];simp
  ·rw [if_neg h2,List.getElem?_eq_none];simp;omega
theorem Tidy.snoc {as:List (Row M)}{r:Row M} (h:Tidy as) (hr:r.1<=r.2.1) (hl:∀s∈as,s.2.1 < r.1) (hn:∀s,as[as.length - 1]?=some s->¬Beside s r):Tidy (as++[r]):=by
 refine⟨h.up.snoc hr hl,λi a b ha hb=>?_⟩
 rw [get_snoc]at ha hb
 by_cases h1:i+1 < as.length
 ·rw [if_pos h1]at hb
  rw [if_pos (by omega)]at ha
  exact h.no i a b ha hb
 ·rw [if_neg h1]at hb
  by_cases h2:i+1=as.length
  ·rw [if_pos h2]at hb
   rw [if_pos (by omega)]at ha
   cases hb
   have:as.length - 1=i:=by omega
   exact hn a (by rw [this];exact ha)
  ·rw [if_neg h2]at hb;cases hb
theorem Tidy.longer {as:List (Row M)}{l r:Row M} (h:Tidy (as++[l])) (hr:r.1<=r.2.1) (hb:Beside l r):Tidy (as++[(l.1,r.2.1,r.2.2)]):=by
 have ll:=h.up.le l (List.mem_append_right _ (List.mem_singleton.mpr rfl))
 obtain⟨b1,b2⟩:=hb
 have up:Rising as:=h.up.init
 have t:Tidy as:=⟨up,λi a b ha hb=>h.no i a b (by rw [List.getElem?_append_left (List.getElem?_eq_some_iff.mp ha).1];exact ha) (by rw [List.getElem?_append_left (List.getElem?_eq_some_iff.mp hb).1];exact hb)⟩
 refine t.snoc (by show l.1<=r.2.1;omega) (λs hs=>h.up.last s hs) λs hs hb=>?_
 have hlen:as.length - 1 < as.length:=(List.getElem?_eq_some_iff.mp hs).1
 refine h.no (as.length - 1) s l (by rw [List.getElem?_append_left hlen];exact hs) ?_ ⟨hb.1,?_⟩
 ·have:as.length - 1+1=as.length:=by omega
  rw [this];simp
 ·show s.2.2=l.2.2
  rw [b2];exact hb.2
theorem nN {as:List (Row M)}{l r:Row M} (h:Rising (as++[l])) (hr:r.1<=r.2.1) (hb:Beside l r) (n:Int):dayOf (as++[(l.1,r.2.1,r.2.2)]) n=dayOf (as++[l]++[r]) n:=by
 have ll:=h.le l (List.mem_append_right _ (List.mem_singleton.mpr rfl))
 obtain⟨b1,b2⟩:=hb
 rw [bw,bw,bw]
 by_cases h1:Has r n
 ·rw [if_pos h1,if_pos]
  unfold Has at h1 ⊢
  dsimp only
  omega
 ·rw [if_neg h1]
  by_cases h2:Has l n
  ·rw [if_pos h2,if_pos,b2]
   unfold Has at h2 ⊢
   dsimp only
   omega
  ·rw [if_neg h2,if_neg]
   unfold Has at h1 h2 ⊢
   dsimp only
   omega
structure Joining (pre acc:List (Row M)):Prop where
 tidy:Tidy acc
 day:∀n,dayOf acc n=dayOf pre n
 lo:∀k:Int,(∀r∈pre,r.2.1 < k)->∀s∈acc,s.2.1 < k
 hi:∀k:Int,(∀r∈pre,k<=r.1)->∀s∈acc,k<=s.1
 len:acc.length<=pre.length
 mark:∀s∈acc,∃r∈pre,s.2.2=r.2.2
theorem Joining.nil:Joining ([]:List (Row M)) []:=⟨tidy_nil,λ_=>rfl,(λ_ _ _ h=>nomatch h),(λ_ _ _ h=>nomatch h),Nat.le_refl _,(λ_ h=>nomatch h)⟩
theorem Joining.put {pre acc:List (Row M)}{r:Row M} (J:Joining pre acc) (hr:r.1<=r.2.1) (hp:∀s∈pre,s.2.1 < r.1) (hn:∀s,acc[acc.length - 1]?=some s->¬Beside s r):Joining (pre++[r]) (acc++[r]):=by
 refine⟨J.tidy.snoc hr (J.lo _ hp) hn,λn=>?_,λk hk s hs=>?_,λk hk s hs=>?_,by rw [List.length_append,List.length_append];have:=J.len;simp only [List.length_singleton];omega,λs hs=>?_⟩
 ·rw [bw,bw,J.day]
 ·rcases List.mem_append.mp hs with hs | hs
  ·exact J.lo k (λr hr=>hk r (List.mem_append_left _ hr)) s hs
  ·exact hk s (List.mem_append_right _ hs)
 ·rcases List.mem_append.mp hs with hs | hs
  ·exact J.hi k (λr hr=>hk r (List.mem_append_left _ hr)) s hs
  ·exact hk s (List.mem_append_right _ hs)
 ·rcases List.mem_append.mp hs with hs | hs
  ·obtain⟨q,hq,e⟩:=J.mark s hs
   exact⟨q,List.mem_append_left _ hq,e⟩
  ·exact⟨s,List.mem_append_right _ hs,rfl⟩
theorem Joining.grow {pre as:List (Row M)}{l r:Row M} (J:Joining pre (as++[l])) (hr:r.1<=r.2.1) (hb:Beside l r):Joining (pre++[r]) (as++[(l.1,r.2.1,r.2.2)]):=by
 refine⟨J.tidy.longer hr hb,λn=>?_,λk hk s hs=>?_,λk hk s hs=>?_,?_,λs hs=>?_⟩
 ·rw [nN J.tidy.up hr hb,bw,bw pre,J.day]
 ·rcases List.mem_append.mp hs with hs | hs
  ·exact J.lo k (λr hr=>hk r (List.mem_append_left _ hr)) s (List.mem_append_left _ hs)
  ·rw [List.mem_singleton.mp hs]
   exact hk r (List.mem_append_right _ (List.mem_singleton.mpr rfl))
 ·rcases List.mem_append.mp hs with hs | hs
  ·exact J.hi k (λr hr=>hk r (List.mem_append_left _ hr)) s (List.mem_append_left _ hs)
  ·rw [List.mem_singleton.mp hs]
   exact J.hi k (λr hr=>hk r (List.mem_append_left _ hr)) l (List.mem_append_right _ (List.mem_singleton.mpr rfl))
 ·have:=J.len
  rw [List.length_append]at this ⊢
  rw [List.length_append]
  simp only [List.length_singleton]at this ⊢
  omega
 ·rcases List.mem_append.mp hs with hs | hs
  ·obtain⟨q,hq,e⟩:=J.mark s (List.mem_append_left _ hs)
   exact⟨q,List.mem_append_left _ hq,e⟩
  ·rw [List.mem_singleton.mp hs]
   exact⟨r,List.mem_append_right _ (List.mem_singleton.mpr rfl),rfl⟩
theorem rising_of_sorted {rs:List (Row M)} (d:Disj rs) (h:rs.Pairwise λr s=>r.1<=s.1):Rising rs:=by
 refine⟨?_,d.le⟩
 have:=List.Pairwise.and_mem.mp (d.ap.and h)
 refine this.imp λ{r s} q=>?_
 obtain⟨hr,hs,q1,q2⟩:=q
 have l1:=d.le r hr
 have l2:=d.le s hs
 unfold iS at q1
 unfold Lt
 omega
noncomputable def markOn:List (Row M)->Int->Option M
 | [],_=>none
 | r::t,n=>if Has r n then some r.2.2 else markOn t n
theorem markOn_eq {rs:List (Row M)} (d:Disj rs) (n:Int):markOn rs n=dayOf rs n:=by
 induction rs with
 | nil=>rfl
 | cons r t ih=>
  obtain⟨h1,h2⟩:=List.pairwise_cons.mp d.ap
  have dt:Disj t:=⟨h2,λq hq=>d.le q (List.mem_cons_of_mem _ hq)⟩
  show (if Has r n then some r.2.2 else markOn t n)=_
  by_cases hr:Has r n
  ·rw [if_pos hr,dayOf_mem d List.mem_cons_self hr]
  ·rw [if_neg hr,ih dt]
   show dayOf t n=(match dayOf t n with | some m=>some m | none=>if Has r n then some r.2.2 else none)
   cases dayOf t n with
   | some m=>rfl
   | none=>exact(if_neg hr).symm
theorem tidy_unique:∀{as bs:List (Row M)},Tidy as->Tidy bs->(∀n,dayOf as n=dayOf bs n)->as=bs:=by
 have tail:∀{r:Row M}{t:List (Row M)},Tidy (r::t)->Tidy t:=λ{r t} h=>
  ⟨⟨(List.pairwise_cons.mp h.up.lt).2,λs hs=>h.up.le s (List.mem_cons_of_mem _ hs)⟩,λi a b ha hb=>h.no (i+1) a b (by simpa using ha) (by simpa using hb)⟩
 have first:∀{r:Row M}{t:List (Row M)}{n:Int}{m:M},Tidy (r::t)->dayOf (r::t) n=some m->r.1<=n:=λ{r t n m} h e=>by
  obtain⟨s,hs,q,_⟩:=dayOf_some e
  rcases List.mem_cons.mp hs with z | hs
  ·rw [<- z];exact q.1
  ·have:=(List.pairwise_cons.mp h.up.lt).1 s hs
   have l:=h.up.le r List.mem_cons_self
   unfold Lt at this;unfold Has at q;omega
 have ends:∀{r s:Row M}{t u:List (Row M)},Tidy (r::t)->Tidy (s::u)->r.1=s.1->r.2.2=s.2.2->(∀n,dayOf (r::t) n=dayOf (s::u) n)->¬r.2.1 < s.2.1:=λ{r s t u} h1 h2 e1 e2 hd hlt=>by
  have lr:=h1.up.le r List.mem_cons_self
  have hs:dayOf (s::u) (r.2.1+1)=some s.2.2:=dayOf_mem h2.up.disj List.mem_cons_self ⟨by omega,by omega⟩
  rw [<- hd]at hs
  obtain⟨q,hq,hn,hm⟩:=dayOf_some hs
  rcases List.mem_cons.mp hq with z | hq
  ·rw [z]at hn;unfold Has at hn;omega
  ·cases t with
   | nil=>cases hq
   | cons v t'=>
    have lv:r.2.1 < v.1:=(List.pairwise_cons.mp h1.up.lt).1 v List.mem_cons_self
    have lq:v.1<=q.1:=by
     rcases List.mem_cons.mp hq with z | hq
     ·rw [z];exact Int.le_refl _
     ·have:=(List.pairwise_cons.mp (tail h1).up.lt).1 q hq
      have l:=h1.up.le v (List.mem_cons_of_mem _ List.mem_cons_self)
      unfold Lt at this;omega
    have hv:v.1=r.2.1+1:=by unfold Has at hn;omega
    have lv2:=h1.up.le v (List.mem_cons_of_mem _ List.mem_cons_self)
    have dv:dayOf (r::v::t') (r.2.1+1)=some v.2.2:=dayOf_mem h1.up.disj (List.mem_cons_of_mem _ List.mem_cons_self) ⟨by omega,by omega⟩
    rw [hd,dayOf_mem h2.up.disj List.mem_cons_self (show Has s (r.2.1+1) from ⟨by omega,by omega⟩)]at dv
    exact h1.no 0 r v rfl rfl ⟨hv.symm,by rw [e2];exact Option.some.inj dv⟩
 intro as
 induction as with
 | nil=>
  intro bs _ hb hd
  cases bs with
  | nil=>rfl
  | cons s u=>
   have:=dayOf_mem hb.up.disj List.mem_cons_self (show Has s s.1 from ⟨Int.le_refl _,hb.up.le s List.mem_cons_self⟩)
   rw [<- hd]at this;cases this
 | cons r t ih=>
  intro bs ha hb hd
  cases bs with
  | nil=>
   have:=dayOf_mem ha.up.disj List.mem_cons_self (show Has r r.1 from ⟨Int.le_refl _,ha.up.le r List.mem_cons_self⟩)
   rw [hd]at this;cases this
  | cons s u=>
   have d1:=dayOf_mem ha.up.disj List.mem_cons_self (show Has r r.1 from ⟨Int.le_refl _,ha.up.le r List.mem_cons_self⟩)
   have d2:=dayOf_mem hb.up.disj List.mem_cons_self (show Has s s.1 from ⟨Int.le_refl _,hb.up.le s List.mem_cons_self⟩)
   have g1:=first hb ((hd _).symm.trans d1)
   have g2:=first ha ((hd _).trans d2)
   have e1:r.1=s.1:=by omega
   have e2:r.2.2=s.2.2:=by rw [hd,e1,d2]at d1;exact(Option.some.inj d1).symm
   have n1:=ends ha hb e1 e2 hd
   have n2:=ends hb ha e1.symm e2.symm λn=>(hd n).symm
   have e3:r.2.1=s.2.1:=by omega
   have er:r=s:=by
    obtain⟨a,b,c⟩:=r;obtain⟨a',b',c'⟩:=s
    simp only at e1 e2 e3
    rw [e1,e2,e3]
   subst er
   refine congrArg _ (ih (tail ha) (tail hb) λn=>?_)
   by_cases hn:Has r n
   ·have a1:dayOf t n=none:=dayOf_none λq hq hh=>by
     have:=(List.pairwise_cons.mp ha.up.lt).1 q hq
     unfold Lt at this;unfold Has at hn hh;omega
    have a2:dayOf u n=none:=dayOf_none λq hq hh=>by
     have:=(List.pairwise_cons.mp hb.up.lt).1 q hq
     unfold Lt at this;unfold Has at hn hh;omega
    rw [a1,a2]
   ·have c:∀l:List (Row M),dayOf (r::l) n=dayOf l n:=λl=>by
     show (match dayOf l n with | some m=>some m | none=>if Has r n then some r.2.2 else none)=_
     cases dayOf l n with
     | some m=>rfl
     | none=>exact if_neg hn
    rw [<- c t,<- c u];exact hd n
end
end Strip
namespace L2
open PySem PySem.Spec PyProof.Rows
theorem bo {H:Hp}{ps:List Addr}{rs:List aH} (h:bM H ps rs):ps.length=rs.length:=Paired.length h
theorem fo {H:Hp}{p:Addr}{r:aH} (hp:H p=some (.tup (cB r))) (hm:aV r.2.2):∀{ps:List Addr}{rs:List aH},bM H ps rs->bM H (ps++[p]) (rs++[r])
 | _,_,.nil=>.cons ⟨hp,hm⟩ .nil
 | _,_,.cons a t=>.cons a (fo hp hm t)
theorem bv {H H':Hp}:∀{ps:List Addr}{rs:List aH},bM H ps rs->(∀p xs,H p=some (.tup xs)->H' p=some (.tup xs))->bM H' ps rs
 | _,_,.nil,_=>.nil
 | _,_,.cons a t,k=>.cons ⟨k _ _ a.1,a.2⟩ (bv t k)
theorem cZ {H:Hp}{ps:List Addr}{rs:List aH} (h:bM H ps rs){i:Nat}{p:Addr} (e:ps[i]?=some p):∃r,rs[i]?=some r/\H p=some (.tup (cB r))/\aV r.2.2:=cJ h e
theorem kJ {H:Hp}{l:aH}:∀{as:List aH}{ps:List Addr},bM H ps (as++[l])->∃qs pl,ps=qs++[pl]/\bM H qs as/\H pl=some (.tup (cB l))/\aV l.2.2
 | [],_,.cons a t=>by cases t;exact⟨[],_,rfl,.nil,a.1,a.2⟩
 | _::_,_,.cons a t=>by
  obtain⟨qs,pl,e,h1,h2⟩:=kJ t
  exact⟨_::qs,pl,by rw [e];rfl,.cons a h1,h2⟩
theorem d9 {H H':Hp}{a:Addr}{rs:List aH} (h:aS H a rs) (ka:∀xs,H a=some (.lst xs)->H' a=some (.lst xs)) (k:∀p xs,H p=some (.tup xs)->H' p=some (.tup xs)):aS H' a rs:=by
 obtain⟨ps,e,r⟩:=h
 exact⟨ps,ka _ e,bv r k⟩
theorem dL {H:Hp}{a:Addr} (e:H a=some (.lst [])):aS H a []:=⟨[],e,.nil⟩
section
variable {T:Addr}{pos:Pos}{q:Str}{H H':Hp}
theorem Go.tup (G:Go T pos q H H') (L:dJ T pos q H){p:Addr}{xs:List V} (e:H p=some (.tup xs)):H' p=some (.tup xs):=G.at L e λ_ z=>by cases z
theorem Go.lst (G:Go T pos q H H') (L:dJ T pos q H){p:Addr}{xs:List V} (e:H p=some (.lst xs)):H' p=some (.lst xs):=G.at L e λ_ z=>by cases z
theorem Go.dK (G:Go T pos q H H') (L:dJ T pos q H){p:Addr}{xs:List (Key × V)} (e:H p=some (.dK xs)):H' p=some (.dK xs):=G.at L e λ_ z=>by cases z
theorem Go.rows (G:Go T pos q H H') (L:dJ T pos q H){a:Addr}{rs:List aH} (h:aS H a rs):aS H' a rs:=d9 h (λ_ e=>G.lst L e) λ_ _ e=>G.tup L e
theorem Go.none (G:Go T pos q H H'){b:Addr} (e:H' b=.none) (n:b≠T):H b=.none:=by
 cases z:H b with
 | none=>rfl
 | some o=>rw [G.same b o n z]at e;cases e
end
theorem rM {α β:Type}{g:α->β}:∀{zs ws:List β},zs.Perm ws->∀xs:List α,ws=xs.map g->∃ys:List α,ys.Perm xs/\zs=ys.map g:=by
 intro zs ws h
 induction h with
 | nil=>
  intro xs e
  cases xs with
  | nil=>exact⟨[],.nil,rfl⟩
  | cons _ _=>cases e
 | cons a _ ih=>
  intro xs e
  cases xs with
  | nil=>cases e
  | cons x xs=>
   rw [List.map_cons]at e
   injection e with e1 e2
   obtain⟨ys,p,e3⟩:=ih xs e2
   exact⟨x::ys,p.cons x,by rw [List.map_cons,e1,e3]⟩
 | swap a b l=>
  intro xs e
  cases xs with
  | nil=>cases e
  | cons x xs=>
   cases xs with
   | nil=>cases e
   | cons y xs=>
    rw [List.map_cons,List.map_cons]at e
    injection e with e1 e2
    injection e2 with e2 e3
    exact⟨y::x::xs,.swap x y xs,by rw [List.map_cons,List.map_cons,e1,e2,e3]⟩
 | trans _ _ ih1 ih2=>
  intro xs e
  obtain⟨ys,p,e2⟩:=ih2 xs e
  obtain⟨zs,p2,e3⟩:=ih1 ys e2
  exact⟨zs,p2.trans p,e3⟩
theorem mo {H:Hp}:∀{ps:List Addr}{rs:List aH},bM H ps rs->∀z∈ps.zip rs,H z.1=some (.tup (cB z.2))/\aV z.2.2.2
 | _,_,.nil,z,hz=>by cases hz
 | _,_,.cons a t,z,hz=>by
  rw [List.zip_cons_cons]at hz
  rcases List.mem_cons.mp hz with e | hz
  ·rw [e];exact a
  ·exact mo t z hz
theorem ou {H:Hp}:∀{ys:List (Addr × aH)},(∀z∈ys,H z.1=some (.tup (cB z.2))/\aV z.2.2.2)->bM H (ys.map (·.1)) (ys.map (·.2))
 | [],_=>.nil
 | z::ys,h=>.cons (h z List.mem_cons_self) (ou λy hy=>h y (List.mem_cons_of_mem _ hy))
theorem oq {H:Hp}{ps:List Addr}{rs:List aH} (h:bM H ps rs){zs:List (Int × Addr)} (p:zs.Perm ((rs.map (·.1)).zip ps)) (s:zs.Pairwise λa b=>a.1<=b.1) :
  ∃qs ss,bM H qs ss/\ss.Perm rs/\(ss.Pairwise λr t=>r.1<=t.1)/\(zs.map λz=>V.ref z.2)=qs.map V.ref:=by
 have hl:=bo h
 have e:(rs.map (·.1)).zip ps=(ps.zip rs).map λz=>(z.2.1,z.1):=by
  clear p s hl
  unfold bM at h
  induction h with
  | nil=>rfl
  | cons _ _ ih=>rw [List.map_cons,List.zip_cons_cons,List.zip_cons_cons,List.map_cons,ih]
 rw [e]at p
 obtain⟨ys,py,ez⟩:=rM p _ rfl
 refine⟨ys.map (·.1),ys.map (·.2),ou λz hz=>mo h z (py.mem_iff.mp hz),?_,?_,?_⟩
 ·have:=py.map (·.2)
  rw [List.map_snd_zip (by omega)]at this
  exact this
 ·rw [List.pairwise_map]
  rw [ez,List.pairwise_map]at s
  exact s
 ·rw [ez,List.map_map,List.map_map]
  rfl
end L2
namespace L2
open PySem PySem.Spec PyProof.Rows
section
variable {X:Cx}
theorem cO:eM X (.builtin "isinstance") (λxs H Q=>∃x n t b,xs=[x,.ty n]/\TyOf X.K H x t/\PySem.W.kitOne X.K t (.type n)=some b/\Q (.bl b) H):=by
 intro pins s σ H xs us Q I r h
 obtain⟨x,n,t,b,rfl,ty,e,q⟩:=h
 obtain⟨u,u2,rfl,rx,rt⟩:=qo r
 cases (show u2=Value.type n from rt)
 exact sr I rx ty e λtk=>⟨.bl b,H,I.tok _,rfl,q⟩
end
structure DayG (kvs:List (Key × V)) (f:Int->Option V):Prop where
 nd:(kvs.map (·.1)).Nodup
 val:∀n:Int,valV kvs (Sum.inl n)=f n
 txt:∀x:Str,valV kvs (Sum.inr x)=none
 mark:∀p∈kvs,aV p.2
end L2
namespace L2
open PySem PySem.Spec PyProof.Rows
theorem oK (n:Nat):ixN (n+1) (-1)=some n:=by
 unfold ixN
 rw [if_neg (by decide),if_pos (by omega)]
 congr 1
 omega
theorem kM {H:Hp}{st p:Addr}{as:List Addr}{acc:List aH}{r:aH} (hst:H st=some (.lst (as.map V.ref))) (hrs:bM H as acc) (np:H p=none) (hm:aV r.2.2) :
  aS (upd (upd H p (.tup (cB r))) st (.lst (as.map V.ref++[V.ref p]))) st (acc++[r])/\∀b o,b≠st->H b=some o->upd (upd H p (.tup (cB r))) st (.lst (as.map V.ref++[V.ref p])) b=some o:=by
 have ps:p≠st:=λz=>by rw [z,hst]at np;cases np
 have keep:∀b o,b≠st->H b=some o->upd (upd H p (.tup (cB r))) st (.lst (as.map V.ref++[V.ref p])) b=some o:=λb o n e=>by
  rw [ag n,ag (af e np)];exact e
 refine⟨⟨as++[p],?_,fo ?_ hm (bv hrs λb xs e=>keep b _ (aD e hst (by intro z;cases z)) e)⟩,keep⟩
 ·rw [ad,List.map_append];rfl
 ·rw [ag ps,ad]
theorem tI {H:Hp}{st p pl:Addr}{qs:List Addr}{acc:List aH}{r:aH} (hst:H st=some (.lst ((qs++[pl]).map V.ref))) (hrs:bM H qs acc) (np:H p=none) (hm:aV r.2.2) :
  aS (upd (upd H p (.tup (cB r))) st (.lst (((qs++[pl]).map V.ref).set qs.length (V.ref p)))) st (acc++[r])/\∀b o,b≠st->H b=some o->upd (upd H p (.tup (cB r))) st (.lst (((qs++[pl]).map V.ref).set qs.length (V.ref p))) b=some o:=by
 have ps:p≠st:=λz=>by rw [z,hst]at np;cases np
 have keep:∀b o,b≠st->H b=some o->upd (upd H p (.tup (cB r))) st (.lst (((qs++[pl]).map V.ref).set qs.length (V.ref p))) b=some o:=λb o n e=>by
  rw [ag n,ag (af e np)];exact e
 refine⟨⟨qs++[p],?_,fo ?_ hm (bv hrs λb xs e=>keep b _ (aD e hst (by intro z;cases z)) e)⟩,keep⟩
 ·rw [ad,List.map_append,List.map_append,List.set_append]
  simp
 ·rw [ag ps,ad]
theorem dJ.row {T:Addr}{pos:Pos}{q:Str}{H:Hp} (L:dJ T pos q H){st p:Addr}{xs ys zs:List V} (hst:H st=some (.lst xs)) (np:H p=none):dJ T pos q (upd (upd H p (.tup zs)) st (.lst ys)):=by
 refine(L.upd_new np).upd_own (u:=.lst xs) ?_ (λ_ z=>by cases z) λ_ z=>by cases z
 rw [ag (af hst np)];exact hst
end L2
namespace Strip
section
variable {M:Type} [DecidableEq M]
structure DG (cs:List (Row M)) (g:Int->Option M):Prop where
 dj:Disj cs
 day:∀n,dayOf cs n=g n
theorem DG.nil:DG ([]:List (Row M)) λ_=>none:=⟨⟨List.Pairwise.nil,(λ_ h=>nomatch h)⟩,λ_=>rfl⟩
theorem DG.eq {cs:List (Row M)}{g g':Int->Option M} (h:DG cs g) (e:∀n,g n=g' n):DG cs g':=⟨h.dj,λn=>(h.day n).trans (e n)⟩
theorem DG.put {cs:List (Row M)}{g:Int->Option M}{c:Row M} (h:DG cs g) (hc:c.1<=c.2.1) (no:∀n,Has c n->g n=none):DG (cs++[c]) (λn=>if Has c n then some c.2.2 else g n):=by
 refine⟨⟨List.pairwise_append.mpr ⟨h.dj.ap,List.pairwise_singleton _ _,λa ha b hb=>?_⟩,λs hs=>?_⟩,λn=>?_⟩
 ·rw [List.mem_singleton.mp hb]
  have la:=h.dj.le a ha
  unfold iS
  by_cases h1:a.2.1 < c.1
  ·exact .inl h1
  ·by_cases h2:c.2.1 < a.1
   ·exact .inr h2
   ·exfalso
    by_cases h3:a.1<=c.1
    ·have:=no c.1 ⟨Int.le_refl _,hc⟩
     rw [<- h.day,dayOf_mem h.dj ha ⟨h3,by omega⟩]at this
     cases this
    ·have:=no a.1 ⟨by omega,by omega⟩
     rw [<- h.day,dayOf_mem h.dj ha ⟨Int.le_refl _,la⟩]at this
     cases this
 ·rcases List.mem_append.mp hs with hs | hs
  ·exact h.dj.le s hs
  ·rw [List.mem_singleton.mp hs];exact hc
 ·rw [bw,h.day]
theorem Disj.ahead {rs:List (Row M)} (d:Disj rs){i:Nat}{r:Row M} (e:rs[i]?=some r){n:Int} (h:Has r n):dayOf (rs.take i) n=none:=by
 refine dayOf_none λs hs hh=>?_
 obtain⟨hlt,e2⟩:=List.getElem?_eq_some_iff.mp e
 obtain⟨j,hj,ej⟩:=List.mem_iff_getElem.mp hs
 rw [List.length_take]at hj
 rw [List.getElem_take]at ej
 have:=List.pairwise_iff_getElem.mp d.ap j i (by omega) hlt (by omega)
 rw [ej,e2]at this
 exact this.not_both hh h
theorem take_snoc {α:Type}{rs:List α}{i:Nat}{r:α} (e:rs[i]?=some r):rs.take (i+1)=rs.take i++[r]:=by rw [List.take_add_one,e];rfl
theorem cut_put {rs cs:List (Row M)}{f l:Int}{i:Nat}{r:Row M} (d:Disj rs) (e:rs[i]?=some r) (hfl:f<=l) (h1:r.1<=l) (h2:f<=r.2.1){a b:Int} (ha:a=if f > r.1 then f else r.1) (hb:b=if l < r.2.1 then l else r.2.1)
  (D:DG cs λn=>if f<=n/\n<=l then dayOf (rs.take i) n else none):DG (cs++[(a,b,r.2.2)]) (λn=>if f<=n/\n<=l then dayOf (rs.take (i+1)) n else none)/\f<=a/\b<=l:=by
 have hr:=d.le r (List.mem_of_getElem? e)
 have a1:f<=a/\r.1<=a/\(a=f\/a=r.1):=by rw [ha];split <;> omega
 have b1:b<=l/\b<=r.2.1/\(b=l\/b=r.2.1):=by rw [hb];split <;> omega
 refine⟨(D.put (c:=(a,b,r.2.2)) (by show a<=b;omega) λn hn=>?_).eq λn=>?_,a1.1,b1.1⟩
 ·unfold Has at hn
  rw [if_pos (by dsimp only at hn;omega)]
  exact d.ahead e ⟨by dsimp only at hn;omega,by dsimp only at hn;omega⟩
 ·rw [take_snoc e,bw]
  by_cases z:f<=n/\n<=l
  ·rw [if_pos z,if_pos z]
   by_cases y:Has r n
   ·rw [if_pos y,if_pos]
    unfold Has at y ⊢
    dsimp only
    omega
   ·rw [if_neg y,if_neg]
    unfold Has at y ⊢
    dsimp only
    omega
  ·rw [if_neg z,if_neg z,if_neg]
   unfold Has
   dsimp only
   omega
theorem cut_skip {rs cs:List (Row M)}{f l:Int}{i:Nat}{r:Row M} (e:rs[i]?=some r) (h:¬(r.1<=l/\f<=r.2.1))
  (D:DG cs λn=>if f<=n/\n<=l then dayOf (rs.take i) n else none):DG cs (λn=>if f<=n/\n<=l then dayOf (rs.take (i+1)) n else none):=D.eq λn=>by
 rw [take_snoc e,bw]
 by_cases z:f<=n/\n<=l
 ·rw [if_pos z,if_pos z,if_neg]
  unfold Has
  omega
 ·rw [if_neg z,if_neg z]
noncomputable def fillG (z:M) (pre:List (Row M)) (f day:Int):Int->Option M:=λn=>if f<=n/\n < day then some ((dayOf pre n).getD z) else none
theorem fill_gap {z:M}{pre cs:List (Row M)}{f day e:Int} (D:DG cs (fillG z pre f day)) (hp:∀r∈pre,r.2.1 < day) (h0:f<=day) (h:day<=e){e':Int} (he:e'=e+1):DG (cs++[(day,e,z)]) (fillG z pre f e'):=by
 subst he
 refine(D.put (c:=(day,e,z)) h λn hn=>?_).eq λn=>?_
 ·unfold Has at hn
  exact if_neg (by dsimp only at hn;omega)
 ·unfold fillG
  by_cases y:Has ((day,e,z):Row M) n
  ·unfold Has at y
   dsimp only at y
   rw [if_pos (show Has ((day,e,z):Row M) n from y),if_pos (by omega),dayOf_none λr hr q=>?_]
   ·rfl
   ·have:=hp r hr
    unfold Has at q
    omega
  ·rw [if_neg y]
   unfold Has at y
   dsimp only at y
   by_cases x:f<=n/\n < day
   ·rw [if_pos x,if_pos (by omega)]
   ·rw [if_neg x,if_neg (by omega)]
theorem fill_row {z:M}{pre cs:List (Row M)}{f:Int}{r:Row M} (D:DG cs (fillG z pre f r.1)) (hr:r.1<=r.2.1) (h0:f<=r.1){e':Int} (he:e'=r.2.1+1):DG (cs++[r]) (fillG z (pre++[r]) f e'):=by
 subst he
 refine(D.put hr λn hn=>?_).eq λn=>?_
 ·unfold Has at hn
  exact if_neg (by omega)
 ·unfold fillG
  rw [bw]
  by_cases y:Has r n
  ·rw [if_pos y,if_pos y,if_pos]
   ·rfl
   ·unfold Has at y;omega
  ·rw [if_neg y,if_neg y]
   unfold Has at y
   by_cases x:f<=n/\n < r.1
   ·rw [if_pos x,if_pos (by omega)]
   ·rw [if_neg x,if_neg (by omega)]
noncomputable def laidG (m:M) (rs:List (Row M)) (f l:Int):Int->Option M:=λn=>if f<=n/\n<=l then some m else dayOf rs n
end
end Strip
namespace L2
open PySem PySem.Spec PyProof.Rows
noncomputable def bR (X:Cx) (scope:Scope) (cl:List (Str × Addr)) (N:List Str) (C:Addr) (fp:List Addr) (s:Shared) (H:Hp):Cx where
 prog:=X.prog
 w:=X.w
 K:=X.K
 mg:=X.mg
 base:=X.base
 A:=X.A
 N:=N
 s₀:=s
 H₀:=H
 env:=compEnvC scope cl C X.env
 outer:=X.stack
 stack:=X.stack
 ex:=fp
 fn:=λ_=>false
 calm:=true
 pn:=[]
 xe:=λ_ _=>False
noncomputable def bN (sub:List Nat) (σ:St):St:=sub.map λi=>(σ[i]?).join
noncomputable def PTs (X:Cx) (ifs:List Expr) (t:TT):Prop:=
 ∀(pins:List (Addr × Obj)) (s:Shared) (σ:St) (H:Hp) (Q:Bool->Hp->Prop),Inv X pins σ H s->t σ H Q->
  wpAny (model X.prog X.w) X.A (forIn ifs true λc r=>if r=true then do let ok <- isTrue c X.env (eval c X.env);pure (ForInStep.yield ok) else pure (ForInStep.yield r)) (TP X pins σ Q) X.xe s
theorem eG {X:Cx}:PTs X [] (λ_ H Q=>Q true H):=λ_ _ _ H _ I h=>wpAny_tests_nil ⟨H,I,h⟩
theorem qD {X:Cx}{c:Expr}{t:TT} (h:PT X c t):PTs X [c] t:=λpins s σ H Q I q=>wpAny_tests_one (h pins s σ H Q I q)
noncomputable def kr (wi:TI) (sub:List Nat) (tt:TT) (te:TE):TE:=λσ H Q=>wi σ H λJ H1=>∀D,H1 D=none->∃W:Nat->Nat->List V->Hp->Prop,(∃m,W 0 m [] (upd H1 D (.lst [])))/\∀i m ys H2,W i m ys H2->
 (J.stop i H2/\Q (.ref D) H2)\/(J.go i H2/\∃N:List V->Hp->Prop,(∀ys' H',N ys' H'->∃m',m' < m/\W (i+1) m' ys' H')/\∀v H3,J.yld i H2 v H3->tt (some v::bN sub σ) H3 λb H4=>if b=true then
  te (some v::bN sub σ) H4 λy H5=>H5 D=some (.lst ys)/\ys.length < sizeLine/\N (ys++[y]) (upd H5 D (.lst (ys++[y])))
  else N ys H4)
noncomputable def PEC (X:Cx) (e iter:Expr) (scope:Scope) (te:TE):Prop:=
 ∀(pos:Pos) (pins:List (Addr × Obj)) (s:Shared) (σ:St) (H:Hp) (Q:VK) (use:Option (Value->Sem Unit)) (QV:Value->Shared->Prop),Inv X pins σ H s->te σ H Q->
  (∀(D C:Addr) (H':Hp) (s':Shared),Inv X pins σ H' s'->gy X pins H' C->(∃m,s'.heap.Ns C m)->Q (.ref D) H'->compPost (model X.prog X.w) X.A X.xe use QV (.ref D) C (.ok .next) s')->
  wpAny (model X.prog X.w) X.A (comprehension e scope X.env pos (newList []) false (eval iter X.env) use) QV X.xe s
theorem gy.turn {X:Cx}{pins:List (Addr × Obj)}{σ:St}{H:Hp}{s:Shared}{h':Heap}{C:Addr} (f:gy X pins H C) (I:Inv X pins σ H s) (hs:Heap.SameBut C s.heap h'):Inv X pins σ H { s with heap:=h' }:=
 I.turned (h':=h') (t':=s.toks) (it:=C) (λb o n e=>(hs.2 b n).trans e) f.1 f.2.1 f.2.2.2.1 f.2.2.2.2.1 f.2.2.2.2.2
theorem kQ {X:Cx}{elt tg iter:Expr}{ifs:List Expr}{scope:Scope}{pos:Pos}{te:TE} (h:PEC X (.ListComp elt [⟨tg,iter,ifs,0⟩] scope pos) iter scope te):PE X (.ListComp elt [⟨tg,iter,ifs,0⟩] scope pos) te:=by
 intro pins s σ H Q I q
 rw [eval_ListComp]
 refine h _ pins s σ H Q none _ I q λD C H' s' K1 fC ⟨m,hm⟩ q=>⟨m,hm,λh' hsb'=>⟨.ref D,H',fC.turn K1 hsb',rfl,q⟩⟩
theorem nA {X:Cx}{elt tg iter:Expr}{ifs:List Expr}{scope:Scope}{pos spos py:Pos}{te:TE}{i:Nat}{y:Str} (hN:X.N.Nodup) (hi:X.N[i]?=some y) (hx:Loc X.env.scope y)
  (h:PEC X (.ListComp elt [⟨tg,iter,ifs,0⟩] scope pos) iter scope te) (hsw:swapsWith (.ListComp elt [⟨tg,iter,ifs,0⟩] scope pos) (some (.Name y py)) spos.line X.env=pure true:=by rfl)
  (hf:X.fn y=true\/X.env.scope.names.lookup y=some .local:=by first | exact .inl rfl | exact .inr rfl | assumption):PS X (.Assign [.Name y py] (.ListComp elt [⟨tg,iter,ifs,0⟩] scope pos) spos) (tH te (aO i)):=by
 intro pins s σ H D I q
 rw [exec_Assign_Name_used _ _ _ _ hsw]
 refine wpAny_bind (wpAny_standAt (wpAny_bind ?_))
 show wpAny _ X.A (do let _ <- comprehension (.ListComp elt [⟨tg,iter,ifs,0⟩] scope pos) scope X.env _ (newList []) false (eval iter X.env) (some (assign (.Name y py) X.env))) _ _ s
 refine wpAny_bind (wpAny_mono (h _ pins s σ H _ (some (assign (.Name y py) X.env)) (λ_ s'=>SP X pins D .next s') I q λDa C H' s' K1 fC hm q=>?_) (λ_ s' hq=>wpAny_pure (wpAny_pure hq)) λ_ _ e=>e)
 show wpAny _ X.A (assign (.Name y py) X.env (.ref Da)) _ _ _
 refine wpAny_assign_Name (lO K1 hN hi hx (v:=.ref Da) rfl (λs2 I2 hh=>?_) hf)
 obtain⟨m,hm⟩:=hm
 obtain⟨a,hsb,ha⟩:=hh
 have hne:C≠a:=by
  rcases ha with z | z
  ·rw [z];exact fC.2.1
  ·exact λe=>fC.2.2.2.2.1 _ _ z e.symm
 exact⟨m,hm.sameBut hsb hne,λh' hs'=>⟨_,H',fC.turn I2 hs',q⟩⟩
section
variable {prog:Program}{w:World}{A:Around}{R:Result->Shared->Prop}{s:Shared}
noncomputable abbrev mJ (prog:Program) (w:World) (A:Around) (env:Env) (R:Result->Shared->Prop):Value->Shared->Prop:=notedBy (model prog w) A env λx s'=>R (.error x) s'
theorem qd {elt tg iter:Expr}{ifs:List Expr}{scope:Scope}{pos:Pos}{it acc:Value}{env:Env} (J:Nat->Shared->Prop)
  (go:∀n s,J n s->wpAny (model prog w) A (pyNext it) (λr s1=>match r with
   | none=>R (.ok .next) s1
   | some v=>wpAny (model prog w) A (letOwnedTupleGo tg it v) (λ_ s1'=>wpAny (model prog w) A (assign tg env v) (λ_ s2=>
     wpAny (model prog w) A (forIn ifs true λc r=>if r=true then do let ok <- isTrue c env (eval c env);pure (ForInStep.yield ok) else pure (ForInStep.yield r)) (λb s3=>
      if b=true then wpAny (model prog w) A (eval elt env) (λx s4=>wpAny (model prog w) A (call (.builtin "list.append") [acc,x]) (λ_ s5=>∃m,m < n/\J m s5) (mJ prog w A env R) s4) (mJ prog w A env R) s3
      else ∃m,m < n/\J m s3) (mJ prog w A env R) s2) (mJ prog w A env R) s1') (mJ prog w A env R) s1) (mJ prog w A env R) s)
  (n:Nat) (h0:J n s):codeAny (model prog w) A (.compLoop (.ListComp elt [⟨tg,iter,ifs,0⟩] scope pos) 0 it acc env) R s:=by
 refine codeAny_loop rfl J (λn s hI=>?_) n h0
 have e:((compTurn (.ListComp elt [⟨tg,iter,ifs,0⟩] scope pos) 0 it acc env).onRaise λx=>do noteFrame x env;theTreesLotGoes x)=((compTurn (.ListComp elt [⟨tg,iter,ifs,0⟩] scope pos) 0 it acc env).onRaise λx=>do noteFrame x env;theTreesLotGoes x):=rfl
 show wpAny _ A ((compTurn (.ListComp elt [⟨tg,iter,ifs,0⟩] scope pos) 0 it acc env).onRaise λx=>do noteFrame x env;theTreesLotGoes x) _ _ s
 apply wpAny_noted
 rw [compTurn_list]
 refine wpAny_bind (wpAny_standAt (wpAny_bind (thn (go n s hI) λr s1 h1=>?_)))
 cases r with
 | none=>exact wpAny_pure h1
 | some v=>
  refine wpAny_bind (thn h1 λ_ s1' h1'=>wpAny_bind (thn h1' λ_ s2 h2=>wpAny_bind (thn h2 λb s3 h3=>?_)))
  cases b with
  | false=>exact wpAny_pure ⟨rfl,h3⟩
  | true=>exact wpAny_bind (wpAny_bind (thn h3 λx s4 h4=>wpAny_bind (thn h4 λ_ s5 h5=>wpAny_pure (wpAny_pure ⟨rfl,h5⟩))))
end
noncomputable def vh (g:TG) (n:Nat) (sub:List Nat) (tt:TT) (te:TE) (σ:St) (Q:VK) (J:It) (H1:Hp):Prop:=∀D,H1 D=none->∃W:Nat->Nat->List V->Hp->Prop,(∃m,W 0 m [] (upd H1 D (.lst [])))/\∀i m ys H2,W i m ys H2->
 (J.stop i H2/\Q (.ref D) H2)\/(J.go i H2/\∃N:List V->Hp->Prop,(∀ys' H',N ys' H'->∃m',m' < m/\W (i+1) m' ys' H')/\∀v H3,J.yld i H2 v H3->∀τ:List (Option V),τ.length=n->g v (τ++bN sub σ) H3 λσ' H'=>(∃τ':List (Option V),τ'.length=n/\σ'=τ'++bN sub σ)/\tt σ' H' λc H4=>if c=true then
  te σ' H4 λy H5=>H5 D=some (.lst ys)/\ys.length < sizeLine/\N (ys++[y]) (upd H5 D (.lst (ys++[y])))
  else N ys H4)
noncomputable def tF (g:TG) (n:Nat) (wi:TI) (sub:List Nat) (tt:TT) (te:TE):TE:=λσ H Q=>wi σ H λJ H1=>vh g n sub tt te σ Q J H1
section
variable {X:Cx}
theorem jj {elt tg iter:Expr}{xn:List Str}{g:TG}{CB:St->VK->It->Hp->Prop}{pos:Pos}{ifs:List Expr}{scope:Scope}{cl:List (Str × Addr)}{sub:List Nat}{fv:List Str}{wi:TI}{tt:TT}{te:TE}
  (hc:X.calm=true) (hi:PI X tg iter wi) (hclos:closureFor scope X.env=pure cl)
  (hcell:∀y∈scope.names,y.2≠.cell) (hkind:scope.kind=.function) (hnames:∀y∈scope.names,y.2=.local->scope.names.lookup y.1=some .local)
  (hl:sub.length=fv.length) (hsub:∀(j:Nat) (i:Nat) (y:Str),sub[j]?=some i->fv[j]?=some y->X.N[i]?=some y/\Vis X.env.scope y/\X.env.kindOf y≠some .local)
  (hvis:∀y∈fv,(compEnvC scope cl 0 X.env).kindOf y=some .cell\/(compEnvC scope cl 0 X.env).kindOf y=some .free)
  (hcl:∀y c,cl.lookup y=some c->X.env.cells.lookup y=some c) (hcl2:∀y∈fv,cl.lookup y=X.env.cells.lookup y)
  (hhas:∀y,((compEnvC scope cl 0 X.env).kindOf y=some .cell\/(compEnvC scope cl 0 X.env).kindOf y=some .free)->∃c,cl.lookup y=some c)
  (hg:∀C fp s H,PG (bR X scope cl (xn++fv) C fp s H) tg g) (ht:∀C fp s H,PTs (bR X scope cl (xn++fv) C fp s H) ifs tt) (he:∀C fp s H,PE (bR X scope cl (xn++fv) C fp s H) elt te)
  (hCB:∀σ Q J H1,CB σ Q J H1->vh g xn.length sub tt te σ Q J H1) (hs:∀x,foldedSetIterable iter X.env x=pure x:=by intro _;rfl):PEC X (.ListComp elt [⟨tg,iter,ifs,0⟩] scope pos) iter scope (λσ H Q=>wi σ H λJ H1=>CB σ Q J H1):=by
 intro upos pins s σ H Q use QV I h hend
 refine wpAny_comprehension_free (use:=use) rfl hs hclos hkind hnames ?_
 refine thn (hi pins s σ H _ I h) λv s1 h1=>thn h1 λitv s2 h2=>?_
 obtain⟨it,fp,tn,J,H2,e,I2,T,st2,f2,h⟩:=h2
 subst e
 refine wpAny_newList ?_ (Nat.zero_le _)
 have nD:H2 s2.heap.objs.size=none:=I2.hok.fresh (Nat.le_refl _)
 obtain⟨W,⟨m0,w0⟩,turn⟩:=hCB _ _ _ _ h s2.heap.objs.size nD
 have I3:=I2.lnew (ys:=[]) (its:=[]) (t':=s2.toks) .nil (Nat.zero_le _)
 generalize hs3:({ s2 with heap:=s2.heap.push { cls:=.type "list", data:=.seq ([]:List Value).toArray },toks:=s2.toks }:Shared)=s3 at I3
 have hDlt:s2.heap.objs.size < s3.heap.objs.size:=by rw [<- hs3];show _ < (s2.heap.push _).objs.size;rw [Heap.size_push];exact Nat.lt_succ_self _
 have old3:∀b o,s2.heap.get? b=some o->s3.heap.get? b=some o:=λb o e=>by rw [<- hs3];exact Heap.get?_push_of_some _ e
 generalize hD:s2.heap.objs.size=D at *
 refine wpAny_newFunctionEnv hcell (by intro y hy;simp at hy) (λh₁ hns hsb=>?_) hkind
 generalize hC:s3.heap.objs.size=C at *
 have kept:∀b o,s3.heap.get? b=some o->h₁.get? b=some o:=λb o e=>(hsb.2 b (by rw [<- hC];exact Nat.ne_of_lt (Heap.lt_size e))).trans (Heap.get?_push_of_some _ e)
 have nC:upd H2 D (.lst []) C=none:=I3.hok.fresh (Nat.le_of_eq hC)
 have fC:gy X pins (upd H2 D (.lst [])) C:=I3.fpOk (Nat.le_of_eq hC) nC
 have fp3:∀b∈fp,b < s2.heap.objs.size:=λb hb=>by obtain⟨o,e,_⟩:=T.obj _ _ st2 b hb;exact Heap.lt_size e
 have fpC:∀b∈fp,b≠C:=λb hb=>by rw [<- hC];exact Nat.ne_of_lt (Nat.lt_of_lt_of_le (fp3 b hb) (by rw [hD];exact Nat.le_of_lt (hC ▸ hDlt)))
 have fpD:∀b∈fp,b≠D:=λb hb=>by rw [<- hD];exact Nat.ne_of_lt (fp3 b hb)
 have ok':(bR X scope cl (xn++fv) C fp s3 (upd H2 D (.lst []))).Ok:=by
  refine⟨I.ok.mod,hkind,I.ok.glob,I.ok.blt,Nat.le_of_eq hC,λy z c e1 e2=>I.ok.inj y z c (hcl y c e1) (hcl z c e2),λy hy=>hhas y hy,(λy c e _=>by cases e),λ_=>I.ok.hd hc,I.ok.frames,.inl rfl,λb hb=>⟨fpC b hb,λy c e=>(f2 b hb).2.2.2.2.1 y c (hcl y c e)⟩,I3.bs,Nat.le_trans I.ok.bsz I3.sz,
   λb o e hb=>?_,λb hb hf=>?_,I3.stack,I3.stkFree⟩
  ·rcases (f2 b hb).2.2.2.1 with z | z
   ·exact I.ok.noex b o e z
   ·exact absurd (Nat.lt_of_lt_of_le (Heap.lt_size e) (Nat.le_trans I.ok.bsz z)) (Nat.lt_irrefl _)
  ·rcases List.mem_cons.mp (I3.stkSub b hf) with z | z
   ·exact(f2 b hb).2.1 z
   ·exact(f2 b hb).2.2.1 z
 have lenσ:∀τ:List (Option V),τ.length=xn.length->(τ++bN sub σ).length=(xn++fv).length:=λτ ht=>by
  unfold bN
  rw [List.length_append,List.length_append,List.length_map,hl,ht]
 have I4:∀t',Inv (bR X scope cl (xn++fv) C fp s3 (upd H2 D (.lst []))) [] (List.replicate xn.length none++bN sub σ) (upd H2 D (.lst [])) { s3 with heap:=h₁,toks:=t' }:=λt'=>by
  refine⟨ok',rfl,I3.bare,Un.kept kept,⟨_,hns,λi y v e1 e2 e3=>?_⟩,λy c e=>?_,nC,λy c e=>I3.freeC y c (hcl y c e),(λp hp=>by cases hp),I3.hok.kept kept,lenσ _ (List.length_replicate ..)⟩
  ·by_cases hi:i < xn.length
   ·rw [List.getElem?_append_left (by rw [List.length_replicate];exact hi),List.getElem?_replicate,if_pos hi]at e2
    cases e2
   ·have e1:(xn++fv)[i]?=some y:=e1
    rw [List.getElem?_append_right (by omega)]at e1
    rw [List.getElem?_append_right (by rw [List.length_replicate];omega),List.length_replicate]at e2
    generalize i - xn.length=j at e1 e2
    unfold bN at e2
    rw [List.getElem?_map]at e2
    cases ei:sub[j]? with
    | none=>rw [ei]at e2;cases e2
    | some i=>
     rw [ei]at e2
     have e2:(σ[i]?).join=some v:=Option.some.inj e2
     obtain⟨n1,n2,n3⟩:=hsub j i y ei e1
     have e4:σ[i]?=some (some v):=by
      cases q:σ[i]? with
      | none=>rw [q]at e2;cases e2
      | some w'=>rw [q]at e2;cases w' with
       | none=>cases e2
       | some v'=>cases e2;rfl
     obtain⟨m,hn,hl'⟩:=I3.loc
     obtain⟨u,ru,lu⟩:=hl' i y v n1 e4 n2
     refine⟨u,ru,?_⟩
     rcases lu with⟨k1,_⟩ | ⟨k1,c,ec,ic⟩
     ·exact absurd k1 n3
     ·have hy:=List.mem_of_getElem? e1
      exact .inr ⟨hvis y hy,c,(hcl2 y hy).trans ec,ic.keeps kept⟩
  ·obtain⟨v,z⟩:=I3.cell y c (hcl y c e)
   exact⟨v,z.keeps kept⟩
 have back:∀{σ':St}{H':Hp}{s':Shared},Inv (bR X scope cl (xn++fv) C fp s3 (upd H2 D (.lst []))) [] σ' H' s'->Q (.ref D) H'->
   compPost (model X.prog X.w) X.A X.xe use QV (.ref D) C (.ok .next) s':=λ{σ' H' s'} J' q=>by
  obtain⟨m,hm,_⟩:=id J'.loc
  have hos:s'.os=s3.os:=J'.os
  have K1:Inv X pins σ H' s':=I3.call' (ch:=fp) hos J'.base J'.hok J'.bare λb hb=>⟨(f2 b hb).2.2.2.1,(f2 b hb).2.1,(f2 b hb).2.2.2.2.1,(f2 b hb).2.2.2.2.2⟩
  exact hend D C H' s' K1 ⟨J'.free,fC.2⟩ ⟨m,hm⟩ q
 have stat:∀{H':Hp},(∀b∈fp,H' b=none)->∀b∈fp,gy (bR X scope cl (xn++fv) C fp s3 (upd H2 D (.lst []))) [] H' b:=λhn b hb=>
  ⟨hn b hb,fpC b hb,ok'.exfs b hb,.inl hb,(ok'.exf b hb).2,(λp hp=>by cases hp)⟩
 have loop:∀t',codeAny (model X.prog X.w) X.A (.compLoop (.ListComp elt [⟨tg,iter,ifs,0⟩] scope pos) 0 (.ref it) (.ref D) (compEnvC scope cl C X.env)) (compPost (model X.prog X.w) X.A X.xe use QV (.ref D) C) { s3 with heap:=h₁,toks:=t' }:=λt'=>by
  refine qd (λn s'=>∃(i:Nat) (ys:List V) (H':Hp) (τ:List (Option V)),τ.length=xn.length/\Inv (bR X scope cl (xn++fv) C fp s3 (upd H2 D (.lst []))) [] (τ++bN sub σ) H' s'/\tn i s'.heap/\(∀b∈fp,H' b=none)/\W i n ys H') ?_ m0
   ⟨0,[],_,_,List.length_replicate ..,I4 t',T.keep _ _ _ st2 (λb hb o e=>kept b o (old3 b o e)),λb hb=>by rw [ag (fpD b hb)];exact(f2 b hb).1,w0⟩
  rintro n s5 ⟨i,ys,H5,τ,hτ,I5,st5,fr5,w5⟩
  rcases turn i n ys H5 w5 with⟨stop,q⟩ | ⟨go,NN,hNN,step⟩
  ·refine wpAny_mono (T.done (bR X scope cl (xn++fv) C fp s3 (upd H2 D (.lst []))) rfl rfl rfl rfl i [] s5 _ H5 (λ_ _=>False) I5 (stat fr5) st5 stop) (λr s6 hh=>?_) λ_ _ f=>f.elim
   obtain⟨hr,I6⟩:=hh
   subst hr
   exact back I6 q
  ·refine wpAny_mono (T.item (bR X scope cl (xn++fv) C fp s3 (upd H2 D (.lst []))) rfl rfl rfl rfl i [] s5 _ H5 (λ_ _=>False) I5 (stat fr5) st5 go) (λr s6 hh=>?_) λ_ _ f=>f.elim
   obtain⟨u,hr,h6⟩:=hh
   subst hr
   refine wpAny_mono h6 (λ_ s7 hh=>?_) λ_ _ f=>f.elim
   obtain⟨v,H7,I7,r7,y7,st7,fr7⟩:=hh
   have I7':=I7.pinned (stat fr7) (T.obj _ _ st7)
   refine wpAny_mono (hg C fp s3 _ _ s7 _ H7 v u _ I7' r7 (step v H7 y7 τ hτ)) (λ_ s8 hh=>?_) λ_ _ f=>f.elim
   obtain⟨_,H8,I8,⟨τ',hτ',rfl⟩,step⟩:=hh
   have again:∀{H9:Hp}{s9:Shared}{ys9:List V}{m9:Nat},Inv (bR X scope cl (xn++fv) C fp s3 (upd H2 D (.lst []))) ([]++kP fp s7.heap) (τ'++bN sub σ) H9 s9->m9 < n->W (i+1) m9 ys9 H9->
     ∃m,m < n/\∃(i:Nat) (ys:List V) (H':Hp) (τ:List (Option V)),τ.length=xn.length/\Inv (bR X scope cl (xn++fv) C fp s3 (upd H2 D (.lst []))) [] (τ++bN sub σ) H' s9/\tn i s9.heap/\(∀b∈fp,H' b=none)/\W i m ys H':=λ{H9 s9 ys9 m9} I9 hm w9=>by
    refine⟨m9,hm,i+1,ys9,H9,_,hτ',I9.unpinned,T.keep _ _ _ st7 λb hb o e=>(I9.pin (b,o) (List.mem_append_right _ (List.mem_append_right _ (fz hb e)))).1,λb hb=>?_,w9⟩
    obtain⟨o,e,d⟩:=T.obj _ _ st7 b hb
    exact(I9.pin (b,o) (List.mem_append_right _ (List.mem_append_right _ (fz hb e)))).2.1
   refine wpAny_mono (ht C fp s3 _ _ s8 _ H8 _ I8 step) (λok s9 hh=>?_) λ_ _ f=>f.elim
   obtain⟨H9,I9,q9⟩:=hh
   cases ok with
   | false=>
    rw [if_neg Bool.false_ne_true]at q9 ⊢
    obtain⟨m',hm,w'⟩:=hNN _ _ q9
    exact again I9 hm w'
   | true=>
    rw [if_pos rfl]at q9 ⊢
    refine wpAny_mono (he C fp s3 _ _ s9 _ H9 _ I9 q9) (λxv sa hh=>?_) λ_ _ f=>f.elim
    obtain⟨y,Ha,Ia,ra,hDa,hsz,qa⟩:=hh
    obtain⟨m',hm,w'⟩:=hNN _ _ qa
    refine wpAny_mono (bf (X:=bR X scope cl (xn++fv) C fp s3 (upd H2 D (.lst []))) _ sa _ Ha (.ref D) [y] (.ref D) [xv] (λ_ H'=>H'=upd Ha D (.lst (ys++[y]))) Ia rfl (.cons ra .nil) ⟨D,ys,y,rfl,rfl,hDa,hsz,rfl⟩) (λ_ sb hh=>?_) λ_ _ f=>f.elim
    obtain⟨_,Hb,Ib,_,rfl⟩:=hh
    exact again Ib hm w'
 exact codeAny_compStart_list (loop _) (T.self X.A 0 _ _ _ (T.keep _ _ _ st2 (λb hb o e=>kept b o (old3 b o e))) (loop _))
theorem oA {elt iter:Expr}{x:Str}{px pos:Pos}{ifs:List Expr}{scope:Scope}{cl:List (Str × Addr)}{sub:List Nat}{fv:List Str}{wi:TI}{tt:TT}{te:TE}
  (hc:X.calm=true) (hi:PI X (.Name x px) iter wi) (hclos:closureFor scope X.env=pure cl)
  (hcell:∀y∈scope.names,y.2≠.cell) (hkind:scope.kind=.function) (hnames:∀y∈scope.names,y.2=.local->scope.names.lookup y.1=some .local) (hx:scope.names.lookup x=some .local)
  (hnd:(x::fv).Nodup) (hl:sub.length=fv.length) (hsub:∀(j:Nat) (i:Nat) (y:Str),sub[j]?=some i->fv[j]?=some y->X.N[i]?=some y/\Vis X.env.scope y/\X.env.kindOf y≠some .local)
  (hvis:∀y∈fv,(compEnvC scope cl 0 X.env).kindOf y=some .cell\/(compEnvC scope cl 0 X.env).kindOf y=some .free)
  (hcl:∀y c,cl.lookup y=some c->X.env.cells.lookup y=some c) (hcl2:∀y∈fv,cl.lookup y=X.env.cells.lookup y)
  (hhas:∀y,((compEnvC scope cl 0 X.env).kindOf y=some .cell\/(compEnvC scope cl 0 X.env).kindOf y=some .free)->∃c,cl.lookup y=some c)
  (ht:∀C fp s H,PTs (bR X scope cl (x::fv) C fp s H) ifs tt) (he:∀C fp s H,PE (bR X scope cl (x::fv) C fp s H) elt te)
  (hs:∀x,foldedSetIterable iter X.env x=pure x:=by intro _;rfl):PEC X (.ListComp elt [⟨.Name x px,iter,ifs,0⟩] scope pos) iter scope (kr wi sub tt te):=by
 refine jj (xn:=[x]) (g:=aO 0) hc hi hclos hcell hkind hnames hl hsub hvis hcl hcl2 hhas (λC fp s H=>ay (i:=0) hnd rfl (.inl (lookup_relabel_local hx)) (.inr (lookup_relabel_local hx))) ht he (λσ Q J H1 h D nD=>?_) hs
 obtain⟨W,w0,st⟩:=h D nD
 refine⟨W,w0,λi m ys H2 hw=>(st i m ys H2 hw).imp id λ⟨go,N,hN,h⟩=>⟨go,N,hN,λv H3 y τ hτ=>?_⟩⟩
 match τ,hτ with
 | [t0],_=>exact⟨⟨[some v],rfl,rfl⟩,h v H3 y⟩
end
end L2
namespace Strip
section
variable {M:Type} [DecidableEq M]
structure Full (rs:List (Row M)) (a b:Int) (g:Int->M):Prop where
 tidy:Tidy rs
 day:∀n,dayOf rs n=if a<=n/\n<=b then some (g n) else none
theorem Full.row {rs:List (Row M)}{a b:Int}{g:Int->M} (F:Full rs a b g){r:Row M} (hr:r∈rs):a<=r.1/\r.2.1<=b/\∀n,Has r n->g n=r.2.2:=by
 have le:=F.tidy.up.le r hr
 have at':∀n,Has r n->a<=n/\n<=b/\g n=r.2.2:=λn h=>by
  have e:=dayOf_mem F.tidy.up.disj hr h
  rw [F.day]at e
  by_cases z:a<=n/\n<=b
  ·rw [if_pos z]at e;exact⟨z.1,z.2,Option.some.inj e⟩
  ·rw [if_neg z]at e;cases e
 exact⟨(at' r.1 ⟨Int.le_refl _,le⟩).1,(at' r.2.1 ⟨le,Int.le_refl _⟩).2.1,λn h=>(at' n h).2.2⟩
theorem o8 {rs:List (Row M)} (U:Rising rs){i j:Nat}{r s:Row M} (h:i < j) (e1:rs[i]?=some r) (e2:rs[j]?=some s):r.2.1 < s.1:=by
 have:=List.pairwise_iff_getElem.mp U.lt i j (List.getElem?_eq_some_iff.mp e1).1 (List.getElem?_eq_some_iff.mp e2).1 h
 rw [(List.getElem?_eq_some_iff.mp e1).2,(List.getElem?_eq_some_iff.mp e2).2]at this
 exact this
theorem Full.has {rs:List (Row M)}{a b:Int}{g:Int->M} (F:Full rs a b g){n:Int} (h:a<=n/\n<=b):∃(j:Nat) (r:Row M),rs[j]?=some r/\Has r n:=by
 have e:=F.day n
 rw [if_pos h]at e
 obtain⟨r,hr,q,_⟩:=dayOf_some e
 obtain⟨j,hj⟩:=List.getElem?_of_mem hr
 exact⟨j,r,hj,q⟩
theorem Full.first {rs:List (Row M)}{a b:Int}{g:Int->M} (F:Full rs a b g){r:Row M} (e:rs[0]?=some r):r.1=a:=by
 obtain⟨r1,r2,_⟩:=F.row (List.mem_of_getElem? e)
 have le:=F.tidy.up.le r (List.mem_of_getElem? e)
 obtain⟨j,q,ej,hq⟩:=F.has (n:=a) ⟨Int.le_refl _,by omega⟩
 unfold Has at hq
 cases j with
 | zero=>rw [e]at ej;cases ej;omega
 | succ j=>have:=o8 F.tidy.up (Nat.succ_pos j) e ej;omega
theorem Full.next {rs:List (Row M)}{a b:Int}{g:Int->M} (F:Full rs a b g){i:Nat}{r s:Row M} (e1:rs[i]?=some r) (e2:rs[i+1]?=some s):s.1=r.2.1+1/\r.2.2≠s.2.2:=by
 obtain⟨r1,r2,_⟩:=F.row (List.mem_of_getElem? e1)
 obtain⟨s1,s2,_⟩:=F.row (List.mem_of_getElem? e2)
 have lr:=F.tidy.up.le r (List.mem_of_getElem? e1)
 have ls:=F.tidy.up.le s (List.mem_of_getElem? e2)
 have hlt:=o8 F.tidy.up (Nat.lt_succ_self i) e1 e2
 have e:s.1=r.2.1+1:=by
  obtain⟨j,q,ej,hq⟩:=F.has (n:=r.2.1+1) ⟨by omega,by omega⟩
  unfold Has at hq
  by_cases h1:j < i
  ·have:=o8 F.tidy.up h1 ej e1;omega
  ·by_cases h2:j=i
   ·subst h2;rw [e1]at ej;cases ej;omega
   ·by_cases h3:j=i+1
    ·subst h3;rw [e2]at ej;cases ej;omega
    ·have:=o8 F.tidy.up (show i+1 < j by omega) e2 ej;omega
 exact⟨e,λz=>F.tidy.no i r s e1 e2 ⟨e.symm,z⟩⟩
theorem Full.last {rs:List (Row M)}{a b:Int}{g:Int->M} (F:Full rs a b g){i:Nat}{r:Row M} (e1:rs[i]?=some r) (e2:rs[i+1]?=none):r.2.1=b:=by
 obtain⟨r1,r2,_⟩:=F.row (List.mem_of_getElem? e1)
 have lr:=F.tidy.up.le r (List.mem_of_getElem? e1)
 have hlen:=List.getElem?_eq_none_iff.mp e2
 obtain⟨j,q,ej,hq⟩:=F.has (n:=b) ⟨by omega,Int.le_refl _⟩
 have hj:=(List.getElem?_eq_some_iff.mp ej).1
 unfold Has at hq
 by_cases h1:j < i
 ·have:=o8 F.tidy.up h1 ej e1;omega
 ·have:j=i:=by omega
  subst this
  rw [e1]at ej;cases ej;omega
theorem Full.some {rs:List (Row M)}{a b:Int}{g:Int->M} (F:Full rs a b g) (h:a<=b):0 < rs.length:=by
 obtain⟨j,q,ej,_⟩:=F.has (n:=a) ⟨Int.le_refl _,h⟩
 have:=(List.getElem?_eq_some_iff.mp ej).1
 omega
structure Part (cs:List (Row M)) (f day:Int) (G:Int->M):Prop where
 tidy:Tidy cs
 day:∀n,dayOf cs n=if f<=n/\n < day then some (G n) else none
theorem Part.nil {f:Int}{G:Int->M}:Part ([]:List (Row M)) f f G:=⟨tidy_nil,λn=>(if_neg (by omega)).symm⟩
theorem Part.put {cs:List (Row M)}{f day e:Int}{G:Int->M}{m:M} (P:Part cs f day G) (h0:f<=day) (h1:day<=e) (hm:∀n,day<=n->n<=e->G n=m) (hn:day=f\/G (day - 1)≠m):Part (cs++[(day,e,m)]) f (e+1) G:=by
 have inr:∀c∈cs,f<=c.1/\c.2.1 < day/\c.2.2=G c.2.1:=λc hc=>by
  have le:=P.tidy.up.le c hc
  have d1:=dayOf_mem P.tidy.up.disj hc (show Has c c.1 from ⟨Int.le_refl _,le⟩)
  have d2:=dayOf_mem P.tidy.up.disj hc (show Has c c.2.1 from ⟨le,Int.le_refl _⟩)
  rw [P.day]at d1 d2
  by_cases z1:f<=c.1/\c.1 < day
  ·by_cases z2:f<=c.2.1/\c.2.1 < day
   ·rw [if_pos z2]at d2
    exact⟨z1.1,z2.2,(Option.some.inj d2).symm⟩
   ·rw [if_neg z2]at d2;cases d2
  ·rw [if_neg z1]at d1;cases d1
 refine⟨P.tidy.snoc h1 (λc hc=>(inr c hc).2.1) λs hs hb=>?_,λn=>?_⟩
 ·have hm':=inr s (List.mem_of_getElem? hs)
  obtain⟨b1,b2⟩:=hb
  have b1:s.2.1+1=day:=b1
  have b2:s.2.2=m:=b2
  have le:=P.tidy.up.le s (List.mem_of_getElem? hs)
  rcases hn with z | z
  ·omega
  ·refine z ?_
   rw [<- b2,hm'.2.2]
   congr 1
   omega
 ·rw [bw,P.day]
  by_cases y:Has ((day,e,m):Row M) n
  ·unfold Has at y
   dsimp only at y
   rw [if_pos (show Has ((day,e,m):Row M) n from y),if_pos (by omega),hm n y.1 y.2]
  ·rw [if_neg y]
   unfold Has at y
   dsimp only at y
   by_cases x:f<=n/\n < day
   ·rw [if_pos x,if_pos (by omega)]
   ·rw [if_neg x,if_neg (by omega)]
theorem Part.full {cs:List (Row M)}{f l:Int}{G:Int->M} (P:Part cs f (l+1) G):Full cs f l G:=⟨P.tidy,λn=>by
 rw [P.day]
 by_cases x:f<=n/\n<=l
 ·rw [if_pos x,if_pos (by omega)]
 ·rw [if_neg x,if_neg (by omega)]⟩
theorem Full.unique {rs ss:List (Row M)}{a b:Int}{g h:Int->M} (F:Full rs a b g) (G:Full ss a b h) (e:∀n,a<=n->n<=b->g n=h n):rs=ss:=tidy_unique F.tidy G.tidy λn=>by
 rw [F.day,G.day]
 by_cases x:a<=n/\n<=b
 ·rw [if_pos x,if_pos x,e n x.1 x.2]
 ·rw [if_neg x,if_neg x]
theorem mG {M':Type} [DecidableEq M'] (φ:M->M'):∀(rs:List (Row M)) (n:Int),dayOf (rs.map λr=>((r.1,r.2.1,φ r.2.2):Row M')) n=(dayOf rs n).map φ
 | [],_=>rfl
 | r::t,n=>by
  show (match dayOf (t.map λr=>((r.1,r.2.1,φ r.2.2):Row M')) n with | some m=>some m | none=>if Has ((r.1,r.2.1,φ r.2.2):Row M') n then some (φ r.2.2) else none)=(match dayOf t n with | some m=>some m | none=>if Has r n then some r.2.2 else none).map φ
  rw [mG φ t n]
  cases dayOf t n with
  | some m=>rfl
  | none=>
   by_cases y:Has r n
   ·show (if Has ((r.1,r.2.1,φ r.2.2):Row M') n then some (φ r.2.2) else none)=(if Has r n then some r.2.2 else none).map φ
    rw [if_pos y,if_pos (show Has ((r.1,r.2.1,φ r.2.2):Row M') n from y)];rfl
   ·show (if Has ((r.1,r.2.1,φ r.2.2):Row M') n then some (φ r.2.2) else none)=(if Has r n then some r.2.2 else none).map φ
    rw [if_neg y,if_neg (show ¬Has ((r.1,r.2.1,φ r.2.2):Row M') n from y)];rfl
theorem Full.map {M':Type} [DecidableEq M'] {rs:List (Row M)}{a b:Int}{g:Int->M} (F:Full rs a b g) (φ:M->M') (inj:∀x y,φ x=φ y->x=y):Full (rs.map λr=>((r.1,r.2.1,φ r.2.2):Row M')) a b λn=>φ (g n):=by
 refine⟨⟨⟨?_,λr hr=>?_⟩,λi r s h1 h2 hb=>?_⟩,λn=>?_⟩
 ·rw [List.pairwise_map];exact F.tidy.up.lt.imp λq=>q
 ·obtain⟨q,hq,rfl⟩:=List.mem_map.mp hr
  exact F.tidy.up.le q hq
 ·rw [List.getElem?_map]at h1 h2
  obtain⟨r',e1,rfl⟩:=Option.map_eq_some_iff.mp h1
  obtain⟨s',e2,rfl⟩:=Option.map_eq_some_iff.mp h2
  exact F.tidy.no i r' s' e1 e2 ⟨hb.1,inj _ _ hb.2⟩
 ·rw [mG,F.day]
  split <;> rfl
end
end Strip
namespace L2
open PySem PySem.Spec PyProof.Rows
mutual
inductive DatV (H:Hp):V->PySem.W.Dat->Prop
 | non:DatV H .non .none
 | int (i:Int):DatV H (.int i) (.int i)
 | str (x:Str):DatV H (.str x) (.str x)
 | tup {a:Addr}{xs:List V}{ds:List PySem.W.Dat}:H a=some (.tup xs)->DatVs H xs ds->DatV H (.ref a) (.tuple ds)
 | lst {a:Addr}{xs:List V}{ds:List PySem.W.Dat}:H a=some (.lst xs)->DatVs H xs ds->DatV H (.ref a) (.list ds)
inductive DatVs (H:Hp):List V->List PySem.W.Dat->Prop
 | nil:DatVs H [] []
 | cons {x:V}{d:PySem.W.Dat}{xs:List V}{ds:List PySem.W.Dat}:DatV H x d->DatVs H xs ds->DatVs H (x::xs) (d::ds)
end
section
variable {X:Cx}{pins:List (Addr × Obj)}{σ:St}{H:Hp}{s:Shared}
mutual
theorem dU (I:Inv X pins σ H s):∀{x:V}{d:PySem.W.Dat}{u:Value},DatV H x d->aU x u->∃as,Reads s.heap u (PySem.W.kqdP d) as
 | _,_,u,.non,r=>by cases (show u=Value.none from r);rw [PySem.W.kqdP];exact⟨_,.none⟩
 | _,_,u,.int i,r=>by obtain⟨t,e⟩:=(show ∃t,u=Value.int i t from r);subst e;rw [PySem.W.kqdP];exact⟨_,.int i t⟩
 | _,_,u,.str x,r=>by obtain⟨t,e⟩:=(show ∃t,u=Value.str x t from r);subst e;rw [PySem.W.kqdP];exact⟨_,.str x t⟩
 | _,_,u,.tup (a:=a) e t,r=>by
  cases (show u=Value.ref a from r)
  obtain⟨_,its,rv,o,e1,e2,n,e3⟩:=(show bG X.prog X.w H s.heap a (.tup _) from I.hok a _ e)
  obtain⟨as,q⟩:=gm I t rv
  rw [PySem.W.kqdP]
  exact⟨as,reads_tuple_at e1 e2 e3 (by simpa using q)⟩
 | _,_,u,.lst (a:=a) e t,r=>by
  cases (show u=Value.ref a from r)
  obtain⟨_,its,n,rv,e1⟩:=(show bG X.prog X.w H s.heap a (.lst _) from I.hok a _ e)
  obtain⟨as,q⟩:=gm I t rv
  rw [PySem.W.kqdP]
  exact⟨_,reads_list_at e1 rfl rfl (by simpa using q)⟩
theorem gm (I:Inv X pins σ H s):∀{xs:List V}{ds:List PySem.W.Dat}{us:List Value},DatVs H xs ds->aR xs us->∃as,ReadsAll s.heap us (PySem.W.kqdPs ds) as
 | _,_,_,.nil,.nil=>by rw [PySem.W.kqdPs];exact⟨_,.nil⟩
 | _,_,_,.cons d t,.cons r rt=>by
  obtain⟨as,q⟩:=dU I d r
  obtain⟨bs,p⟩:=gm I t rt
  rw [PySem.W.kqdPs]
  exact⟨_,.cons q p⟩
end
end
section
variable {X:Cx}
noncomputable def pD (neg:Bool):R2:=λx y H Q=>∃d e,DatV H x d/\DatV H y e/\PySem.W.kqdOk 9 d=true/\PySem.W.kqdOk 9 e=true/\∃k:Bool,(k=true↔d=e)/\Q (.bl (if neg then !k else k)) H
theorem fk {d:PySem.W.Dat} (h:PySem.W.kqdOk 9 d=true):SeqAt.shaped (PySem.W.kqdP d)=true:=by
 have la:=PySem.W.kqd_lay 9 d h
 unfold SeqAt.shaped
 rw [la.1,Bool.true_and]
 exact decide_eq_true (Nat.le_trans la.2 (by decide))
theorem qM {d e:PySem.W.Dat} (h1:PySem.W.kqdOk 9 d=true) (h2:PySem.W.kqdOk 9 e=true){k:Bool} (hk:k=true↔d=e):PyData.eqv (PySem.W.kqdP d) (PySem.W.kqdP e)=k:=by
 have q:=PySem.W.kqd_eqv 9 d e 9 h1 h2
 cases k with
 | true=>exact q.mpr (hk.mp rfl)
 | false=>exact Bool.eq_false_iff.mpr λx=>by have:=hk.mpr (q.mp x);cases this
theorem gt (hu:X.A.units+64 < cLine):OpR X (compareOp .Eq) (pD false):=by
 intro pins s σ H x y v u Q I r1 r2 h
 obtain⟨d,e,hd,he,kd,ke,k,hk,q⟩:=h
 obtain⟨as,ra⟩:=dU I hd r1
 obtain⟨bs,rb⟩:=dU I he r2
 refine eq_dataH ra rb (fk kd) (fk ke) hu ?_
 rw [qM kd ke hk]
 exact⟨.bl k,H,I,rfl,q⟩
theorem iL (hu:X.A.units+64 < cLine):OpR X (compareOp .NotEq) (pD true):=by
 intro pins s σ H x y v u Q I r1 r2 h
 obtain⟨d,e,hd,he,kd,ke,k,hk,q⟩:=h
 obtain⟨as,ra⟩:=dU I hd r1
 obtain⟨bs,rb⟩:=dU I he r2
 refine ne_dataH ra rb (fk kd) (fk ke) hu ?_
 rw [qM kd ke hk]
 exact⟨.bl (!k),H,I,rfl,q⟩
end
theorem bO {H:Hp}:∀{x:V},aV x->DatV H x (dz x)
 | .non,_=>.non
 | .int i,_=>.int i
theorem gW (n:Nat):∀{x:V},aV x->PySem.W.kqdOk n (dz x)=true
 | .non,_=>by cases n <;> rfl
 | .int i,_=>by cases n <;> rfl
noncomputable abbrev eC:=Int × Int × V × V
noncomputable def qV (r:eC):Prop:=aV r.2.2.1/\aV r.2.2.2
noncomputable def r8 (r:eC):List V:=[.int r.1,.int r.2.1,r.2.2.1,r.2.2.2]
noncomputable def jC (H:Hp) (ps:List Addr) (rs:List eC):Prop:=Paired (λp r=>H p=some (.tup (r8 r))/\qV r) ps rs
noncomputable def mT (H:Hp) (a:Addr) (rs:List eC):Prop:=∃ps,H a=some (.lst (ps.map V.ref))/\jC H ps rs
theorem mn {H:Hp}{ps:List Addr}{rs:List eC} (h:jC H ps rs):ps.length=rs.length:=Paired.length h
theorem kI {H:Hp}{p:Addr}{r:eC} (hp:H p=some (.tup (r8 r))) (hm:qV r):∀{ps:List Addr}{rs:List eC},jC H ps rs->jC H (ps++[p]) (rs++[r])
 | _,_,.nil=>.cons ⟨hp,hm⟩ .nil
 | _,_,.cons a t=>.cons a (kI hp hm t)
theorem hX {H H':Hp}:∀{ps:List Addr}{rs:List eC},jC H ps rs->(∀p xs,H p=some (.tup xs)->H' p=some (.tup xs))->jC H' ps rs
 | _,_,.nil,_=>.nil
 | _,_,.cons a t,k=>.cons ⟨k _ _ a.1,a.2⟩ (hX t k)
theorem rF {H:Hp}{ps:List Addr}{rs:List eC} (h:jC H ps rs){i:Nat}{p:Addr} (e:ps[i]?=some p):∃r,rs[i]?=some r/\H p=some (.tup (r8 r))/\qV r:=cJ h e
theorem Go.rowsW {T:Addr}{pos:Pos}{q:Str}{H H':Hp} (G:Go T pos q H H') (L:dJ T pos q H){a:Addr}{rs:List eC} (h:mT H a rs):mT H' a rs:=by
 obtain⟨ps,e,r⟩:=h
 exact⟨ps,G.lst L e,hX r λ_ _ e=>G.tup L e⟩
theorem rH {H:Hp}{st p:Addr}{as:List Addr}{acc:List eC}{r:eC} (hst:H st=some (.lst (as.map V.ref))) (hrs:jC H as acc) (np:H p=none) (hm:qV r) :
  mT (upd (upd H p (.tup (r8 r))) st (.lst (as.map V.ref++[V.ref p]))) st (acc++[r])/\∀b o,b≠st->H b=some o->upd (upd H p (.tup (r8 r))) st (.lst (as.map V.ref++[V.ref p])) b=some o:=by
 have ps:p≠st:=λz=>by rw [z,hst]at np;cases np
 have keep:∀b o,b≠st->H b=some o->upd (upd H p (.tup (r8 r))) st (.lst (as.map V.ref++[V.ref p])) b=some o:=λb o n e=>by
  rw [ag n,ag (af e np)];exact e
 refine⟨⟨as++[p],?_,kI ?_ hm (hX hrs λb xs e=>keep b _ (aD e hst (by intro z;cases z)) e)⟩,keep⟩
 ·rw [ad,List.map_append];rfl
 ·rw [ag ps,ad]
end L2
namespace L2
open PySem PySem.Spec PyProof.Rows
theorem jq {K:PySem.W.Frag}{a D:Addr}{xs:List V}{σ:St}{sub:List Nat}{tt:TT}{te:TE}{Q:VK}{H:Hp} (Pv:Nat->List V->Hp->Prop) (h0:Pv 0 [] (upd H D (.lst []))) (hl:∀i ys H,i<=xs.length->Pv i ys H->SqL K H a xs)
  (hs:∀i x ys H,xs[i]?=some x->Pv i ys H->tt (some x::bN sub σ) H λb H4=>if b=true then te (some x::bN sub σ) H4 λy H5=>H5 D=some (.lst ys)/\ys.length < sizeLine/\Pv (i+1) (ys++[y]) (upd H5 D (.lst (ys++[y]))) else Pv (i+1) ys H4)
  (hd:∀ys H,Pv xs.length ys H->Q (.ref D) H) :
  ∃W:Nat->Nat->List V->Hp->Prop,(∃m,W 0 m [] (upd H D (.lst [])))/\∀i m ys H2,W i m ys H2->
   ((Itl K a).stop i H2/\Q (.ref D) H2)\/((Itl K a).go i H2/\∃N:List V->Hp->Prop,(∀ys' H',N ys' H'->∃m',m' < m/\W (i+1) m' ys' H')/\∀v H3,(Itl K a).yld i H2 v H3->tt (some v::bN sub σ) H3 λb H4=>if b=true then
    te (some v::bN sub σ) H4 λy H5=>H5 D=some (.lst ys)/\ys.length < sizeLine/\N (ys++[y]) (upd H5 D (.lst (ys++[y])))
    else N ys H4):=by
 refine⟨λi m ys H=>m=xs.length - i/\i<=xs.length/\Pv i ys H,⟨xs.length,rfl,Nat.zero_le _,h0⟩,?_⟩
 rintro i m ys H ⟨rfl,hi,p⟩
 have q:=hl i ys H hi p
 by_cases hlt:i < xs.length
 ·refine .inr ⟨⟨xs,xs[i],q,by simp [hlt]⟩,Pv (i+1),λys' H' p'=>⟨xs.length - (i+1),by omega,rfl,hlt,p'⟩,λx H' y=>?_⟩
  obtain⟨e,y⟩:=y
  subst e
  exact hs i x ys _ (y xs q) p
 ·have e:i=xs.length:=by omega
  subst e
  exact .inl ⟨⟨xs,q,Nat.le_refl _⟩,hd ys H p⟩
end L2
namespace L2
open PySem PySem.Spec PyProof.Rows
theorem fZ {env:Env}:∀{names:List (Str × NameKind)},(∀y∈names,y.2=.local)->
  (names.map λ(n,k)=>if (k == NameKind.free && env.scope.kind == .function && env.kindOf n == some .cell) then (n,NameKind.cell) else (n,k))=names
 | [],_=>rfl
 | (n,k)::r,h=>by
  have hk:k=.local:=h (n,k) List.mem_cons_self
  subst hk
  rw [List.map_cons,fZ λy hy=>h y (List.mem_cons_of_mem _ hy)]
  rfl
theorem hJ:∀{names:List (Str × NameKind)}{y:Str}{k:NameKind},(∀y∈names,y.2=.local)->names.lookup y=some k->k=.local
 | [],_,_,_,e=>by cases e
 | (n,k')::r,y,k,h,e=>by
  rw [List.lookup_cons]at e
  split at e
  ·cases e;exact h (n,k') List.mem_cons_self
  ·exact hJ (λy hy=>h y (List.mem_cons_of_mem _ hy)) e
end L2
namespace L2
open PySem PySem.Spec PyProof.Rows
section
variable {X:Cx}
theorem pi:SlR X (λx lo hi H Q=>∃z,x=.str z/\z.length<=sizeLine/\Q (.str (Txt.slice z lo hi)) H):=by
 intro pins s σ H x v vl vu lo hi sl Q I rx hs pl pu h
 obtain⟨z,rfl,hz,q⟩:=h
 obtain⟨t,rfl⟩:=rx
 refine⟨"str", _,slot_str_getitem.lookup,typeIs_str s z t,?_⟩
 have fin:∀l u:Option (Int × Tok),vl=partValue l->vu=partValue u->l.map (·.1)=lo->u.map (·.1)=hi->
   wpAny (model X.prog X.w) X.A (getItem (.str z t) (.ref sl)) (EP X pins σ Q) X.xe s:=λl u e1 e2 e3 e4=>by
  subst e1 e2 e3 e4
  refine wpAny_getItem_str_slice (l:=l) (u:=u) (st:=none) hs rfl ?_
  have q2:∀t',EP X pins σ Q (.str (Txt.slice z (l.map (·.1)) (u.map (·.1))) t') s:=λt'=>⟨.str _,H,I,⟨t',rfl⟩,q⟩
  unfold sliceMade
  unfold Txt.slice at q2
  unfold Txt.slice at q
  by_cases c:((((none:Option (Int × Tok)).map (·.1)).getD 1:Int) == 1 && (slicePicked z l u none).length == z.length)=true
  ·rw [if_pos c]
   rw [if_pos (show ((1:Int) == 1 && (Builtin.Str.strSliceIndices (l.map (·.1)) (u.map (·.1)) 1 z.length).length == z.length)=true from c)]at q2
   exact q2 t
  ·rw [if_neg c]
   rw [if_neg (show ¬((1:Int) == 1 && (Builtin.Str.strSliceIndices (l.map (·.1)) (u.map (·.1)) 1 z.length).length == z.length)=true from c)]at q
   refine⟨?_,⟨.str _,H,I.tok _,⟨_,rfl⟩,q⟩⟩
   have hle:=Txt.slice_le z (l.map (·.1)) (u.map (·.1))
   unfold Txt.slice at hle
   rw [if_neg (show ¬((1:Int) == 1 && (Builtin.Str.strSliceIndices (l.map (·.1)) (u.map (·.1)) 1 z.length).length == z.length)=true from c)]at hle
   exact Nat.le_trans hle hz
 cases pl with
 | none=>cases pu with
  | none=>exact fin none none rfl rfl rfl rfl
  | int j tj=>exact fin none (some (j,tj)) rfl rfl rfl rfl
 | int i ti=>cases pu with
  | none=>exact fin (some (i,ti)) none rfl rfl rfl rfl
  | int j tj=>exact fin (some (i,ti)) (some (j,tj)) rfl rfl rfl rfl
noncomputable def Its (x:Str):It:=⟨λi _=>i < x.cps.size,λi H v H'=>H'=H/\∃c,x.cps[i]?=some c/\v=.str ⟨#[c]⟩,λi _=>x.cps.size<=i⟩
theorem oZ {P:Program}{w:World}{K:PySem.W.Frag}{tg:Expr} (x:Str) (t:Tok) (it:Addr):Turn P w K tg (Its x) [it] it (λi h=>h.IsStrIter it "str_ascii_iterator" x t i) where
 mem:=by simp
 obj:=λi h st b hb=>by
  have e:b=it:=by simpa using hb
  subst e
  obtain⟨o,e,c,d⟩:=st
  exact⟨o,e,λv z=>by rw [d]at z;cases z⟩
 keep:=λi h h' st k=>let ⟨o,ho,r⟩:=st;⟨o,k it (by simp) o ho,r⟩
 item:=by
  intro X hP hw hK hc i pins s σ H E I hf st hg
  subst hP hw hK
  have hg:i < x.cps.size:=hg
  obtain⟨f0,f1,f2,f3,f4,f5⟩:=hf it (by simp)
  refine wpAny_pyNext_ascii_item st (c:=x.cps[i]) (by simp [hg]) λh' st' sb=>?_
  have I1:Inv X pins σ H { s with heap:=h',toks:=s.toks+1 }:=I.turned (λb o hb e=>(sb.2 b hb).trans e) f0 f1 f3 f4 f5
  obtain⟨o,e,c,d⟩:=id st'
  exact⟨_,rfl,qK (s:={ s with heap:=h',toks:=s.toks+1 }) e c d (by decide) ⟨.str ⟨#[x.cps[i]]⟩,H,I1,⟨_,rfl⟩,⟨rfl,_,by simp [hg],rfl⟩,st',λb hb=>(hf b hb).1⟩⟩
 done:=by
  intro X hP hw hK hc i pins s σ H E I hf st hg
  subst hP hw hK
  have hg:x.cps.size<=i:=hg
  obtain⟨f0,f1,f2,f3,f4,f5⟩:=hf it (by simp)
  exact wpAny_pyNext_ascii_end (I.ok.hd hc) st (by simp;omega) λh' eb=>⟨rfl,I.turned (t':=s.toks) (λb o hb e=>eb b o hb e) f0 f1 f3 f4 f5⟩
 self:=λ_ _ _ _ _ st h=>wpAny_pyIter_striter_ascii st h
theorem qY {P:Program}{w:World}{K:PySem.W.Frag}{tg:Expr} (x:Str) (t:Tok) (it:Addr):Turn P w K tg (Its x) [it] it (λi h=>h.IsStrIter it "str_iterator" x t i) where
 mem:=by simp
 obj:=λi h st b hb=>by
  have e:b=it:=by simpa using hb
  subst e
  obtain⟨o,e,c,d⟩:=st
  exact⟨o,e,λv z=>by rw [d]at z;cases z⟩
 keep:=λi h h' st k=>let ⟨o,ho,r⟩:=st;⟨o,k it (by simp) o ho,r⟩
 item:=by
  intro X hP hw hK hc i pins s σ H E I hf st hg
  subst hP hw hK
  have hg:i < x.cps.size:=hg
  obtain⟨f0,f1,f2,f3,f4,f5⟩:=hf it (by simp)
  refine wpAny_pyNext_wide_item st (c:=x.cps[i]) (by simp [hg]) λh' st' sb=>?_
  have I1:Inv X pins σ H { s with heap:=h',toks:=s.toks+1 }:=I.turned (λb o hb e=>(sb.2 b hb).trans e) f0 f1 f3 f4 f5
  obtain⟨o,e,c,d⟩:=id st'
  exact⟨_,rfl,qK (s:={ s with heap:=h',toks:=s.toks+1 }) e c d (by decide) ⟨.str ⟨#[x.cps[i]]⟩,H,I1,⟨_,rfl⟩,⟨rfl,_,by simp [hg],rfl⟩,st',λb hb=>(hf b hb).1⟩⟩
 done:=by
  intro X hP hw hK hc i pins s σ H E I hf st hg
  subst hP hw hK
  have hg:x.cps.size<=i:=hg
  obtain⟨f0,f1,f2,f3,f4,f5⟩:=hf it (by simp)
  exact wpAny_pyNext_wide_end (I.ok.hd hc) st (by simp;omega) λh' eb=>⟨rfl,I.turned (t':=s.toks) (λb o hb e=>eb b o hb e) f0 f1 f3 f4 f5⟩
 self:=λ_ _ _ _ _ st h=>wpAny_pyIter_striter_wide st h
noncomputable def yL (tl:TE):TI:=λσ H R=>tl σ H λv H1=>∃x,v=.str x/\R (Its x) H1
theorem xI {tg l:Expr}{tl:TE} (hl:PE X l tl):PI X tg l (yL tl):=by
 intro pins s σ H R I h
 refine thn (hl pins s σ H _ I h) λv s1 ⟨y,H1,I1,r1,q1⟩=>?_
 obtain⟨x,e,q⟩:=q1
 subst e
 obtain⟨t,rfl⟩:=r1
 have fp:∀b∈[s1.heap.objs.size],gy X pins H1 b:=λb hb=>by
  have e:b=s1.heap.objs.size:=by simpa using hb
  subst e
  exact I1.fpOk (Nat.le_refl _) (I1.hok.fresh (Nat.le_refl _))
 cases ha:x.cps.all (· < 128)
 ·refine wpAny_pyIter_wide ha ?_
  exact⟨s1.heap.objs.size,[s1.heap.objs.size],_,_,H1,rfl,I1.kept (t':=s1.toks) λb o e=>Heap.get?_push_of_some _ e,qY x t _,⟨_,Heap.get?_push_size _ rfl,rfl,rfl⟩,fp,q⟩
 ·refine wpAny_pyIter_ascii ha ?_
  exact⟨s1.heap.objs.size,[s1.heap.objs.size],_,_,H1,rfl,I1.kept (t':=s1.toks) λb o e=>Heap.get?_push_of_some _ e,oZ x t _,⟨_,Heap.get?_push_size _ rfl,rfl,rfl⟩,fp,q⟩
theorem uY {x:Str}{D:Addr}{σ:St}{sub:List Nat}{tt:TT}{te:TE}{Q:VK}{H:Hp} (Pv:Nat->List V->Hp->Prop) (h0:Pv 0 [] (upd H D (.lst [])))
  (hs:∀i c ys H,x.cps[i]?=some c->Pv i ys H->tt (some (.str ⟨#[c]⟩)::bN sub σ) H λb H4=>if b=true then te (some (.str ⟨#[c]⟩)::bN sub σ) H4 λy H5=>H5 D=some (.lst ys)/\ys.length < sizeLine/\Pv (i+1) (ys++[y]) (upd H5 D (.lst (ys++[y]))) else Pv (i+1) ys H4)
  (hd:∀ys H,Pv x.cps.size ys H->Q (.ref D) H) :
  ∃W:Nat->Nat->List V->Hp->Prop,(∃m,W 0 m [] (upd H D (.lst [])))/\∀i m ys H2,W i m ys H2->
   ((Its x).stop i H2/\Q (.ref D) H2)\/((Its x).go i H2/\∃N:List V->Hp->Prop,(∀ys' H',N ys' H'->∃m',m' < m/\W (i+1) m' ys' H')/\∀v H3,(Its x).yld i H2 v H3->tt (some v::bN sub σ) H3 λb H4=>if b=true then
    te (some v::bN sub σ) H4 λy H5=>H5 D=some (.lst ys)/\ys.length < sizeLine/\N (ys++[y]) (upd H5 D (.lst (ys++[y])))
    else N ys H4):=by
 refine⟨λi m ys H=>m=x.cps.size - i/\i<=x.cps.size/\Pv i ys H,⟨_,rfl,Nat.zero_le _,h0⟩,?_⟩
 rintro i m ys H ⟨rfl,hi,p⟩
 by_cases hlt:i < x.cps.size
 ·refine .inr ⟨hlt,Pv (i+1),λys' H' p'=>⟨_,by omega,rfl,hlt,p'⟩,λv H' y=>?_⟩
  obtain⟨rfl,c,ec,rfl⟩:=y
  exact hs i c ys _ ec p
 ·have e:i=x.cps.size:=by omega
  subst e
  exact .inl ⟨Nat.le_refl _,hd ys H p⟩
end
end L2
namespace L2
open PySem PySem.Spec PyProof.Rows
section
variable {X:Cx}
theorem mL (hc:X.calm=true):eM X (.builtin "all") (λxs H Q=>∃(a:Addr) (bs:List Bool),xs=[.ref a]/\SqL X.K H a (bs.map V.bl)/\Q (.bl (bs.all id)) H):=by
 intro pins s σ H xs us Q I r h
 obtain⟨a,bs,rfl,hS,q⟩:=h
 obtain⟨u,rfl,ru⟩:=fK r
 cases (show u=Value.ref a from ru)
 obtain⟨its,rv,p,hz⟩:=I.list hS
 have hlen:=rv.length
 rw [List.length_map]at hlen
 have hne:a≠s.heap.objs.size:=λz=>by
  obtain⟨o,e,_⟩:=p.isList
  exact Nat.lt_irrefl _ (z ▸ Heap.lt_size e)
 obtain⟨f0,f1,f2,f3,f4,f5⟩:=I.fpOk (Nat.le_refl _) (I.hok.fresh (Nat.le_refl _))
 refine call_all_walk (wpAny_pyIter_list p.isList ?_)
 have I1:=λo=>I.kept (h':=s.heap.push o) (t':=s.toks) λb ob e=>Heap.get?_push_of_some _ e
 refine⟨s.heap.objs.size,_,_,_,_,_,λi=>bs.getD i false,rfl,Walks.list (A:=X.A.in1) (I.ok.hd hc) _ a hne its.toArray,⟨⟨_,Heap.get?_push_size _ rfl,rfl,rfl⟩,p.isList.at λo e=>Heap.get?_push_of_some _ e⟩,?_,λh' tk hk=>?_⟩
 ·intro i v s' Q' E' hv hQ
  have hv:its[i]?=some v:=by simpa using hv
  have hi:i < bs.length:=by rw [hlen];exact(List.getElem?_eq_some_iff.mp hv).1
  obtain⟨u',hu,ru'⟩:=rv.get (i:=i) (x:=V.bl bs[i]) (by rw [List.getElem?_map,List.getElem?_eq_getElem hi];rfl)
  rw [hv]at hu
  cases hu
  cases (show v=Value.bool bs[i] from ru')
  have e:bs.getD i false=bs[i]:=by rw [List.getD_eq_getElem?_getD,List.getElem?_eq_getElem hi];rfl
  have hQ:Q' (bs.getD i false) s':=hQ
  rw [e]at hQ
  exact wpAny_truthy_bool hQ
 ·refine⟨.bl _,H,(I1 _).turned (t':=tk) (λb o hb e=>hk b o (by simpa using hb) e) f0 f1 f3 f4 f5,rfl,?_⟩
  have e:(List.range its.toArray.size).all (λi=>bs.getD i false)=bs.all id:=by
   rw [List.size_toArray,<- hlen]
   rw [Bool.eq_iff_iff,List.all_eq_true,List.all_eq_true]
   constructor
   ·intro h b hb
    obtain⟨i,hi,rfl⟩:=List.getElem_of_mem hb
    have:=h i (List.mem_range.mpr hi)
    rw [List.getD_eq_getElem?_getD,List.getElem?_eq_getElem hi]at this
    exact this
   ·intro h i hi
    have hi:=List.mem_range.mp hi
    rw [List.getD_eq_getElem?_getD,List.getElem?_eq_getElem hi]
    exact h _ (List.getElem_mem hi)
  rw [e]
  exact q
theorem fc {α:Type}:∀{l:List (Str × α)}{z:Str}{k:α},l.lookup z=some k->∃p∈l,z=p.1/\p.2=k
 | [],_,_,e=>by cases e
 | (n,k')::r,z,k,e=>by
  rw [List.lookup_cons]at e
  split at e
  ·rename_i h
   cases e
   exact⟨(n,k'),List.mem_cons_self,eq_of_beq h,rfl⟩
  ·obtain⟨p,hp,q⟩:=fc e
   exact⟨p,List.mem_cons_of_mem _ hp,q⟩
theorem ue {elt iter:Expr}{x y:Str}{c:Addr}{i:Nat}{px pos:Pos}{ifs:List Expr}{scope:Scope}{wi:TI}{tt:TT}{te:TE}
  (hc:X.calm=true) (hi:PI X (.Name x px) iter wi) (hclos:closureFor scope X.env=pure [(y,c)]) (hkind:scope.kind=.function)
  (hall:∀p∈scope.names,p.2=.local\/(p.1=y/\p.2=.free)) (hnames:∀p∈scope.names,p.2=.local->scope.names.lookup p.1=some .local) (hx:scope.names.lookup x=some .local)
  (hxy:x≠y) (hN:X.N[i]?=some y) (hv:Vis X.env.scope y) (hk:X.env.kindOf y≠some .local)
  (hvis:(compEnvC scope [(y,c)] 0 X.env).kindOf y=some .cell\/(compEnvC scope [(y,c)] 0 X.env).kindOf y=some .free) (hcy:X.env.cells.lookup y=some c)
  (ht:∀C fp s H,PTs (bR X scope [(y,c)] [x,y] C fp s H) ifs tt) (he:∀C fp s H,PE (bR X scope [(y,c)] [x,y] C fp s H) elt te)
  (hs:∀x,foldedSetIterable iter X.env x=pure x:=by intro _;rfl):PE X (.ListComp elt [⟨.Name x px,iter,ifs,0⟩] scope pos) (kr wi [i] tt te):=by
 have one:∀{z c'},[(y,c)].lookup z=some c'->z=y/\c'=c:=λ{z c'} e=>by
  obtain⟨p,hp,e1,e2⟩:=fc e
  cases List.mem_singleton.mp hp
  exact⟨e1,e2.symm⟩
 have self:[(y,c)].lookup y=some c:=by rw [List.lookup_cons];simp
 refine kQ ?_
 refine oA (cl:=[(y,c)]) (fv:=[y]) hc hi hclos (λp hp z=>?_) hkind hnames hx ?_ rfl (λj k z e1 e2=>?_) (λz hz=>?_) (λz c' e=>?_) (λz hz=>?_) (λz hz=>?_) ht he hs
 ·rcases hall p hp with q | ⟨_,q⟩ <;> rw [q]at z <;> cases z
 ·exact List.nodup_cons.mpr ⟨λh=>hxy (List.mem_singleton.mp h),List.nodup_cons.mpr ⟨(λh=>nomatch h),List.nodup_nil⟩⟩
 ·cases j with
  | zero=>cases e1;cases e2;exact⟨hN,hv,hk⟩
  | succ j=>cases e1
 ·cases List.mem_singleton.mp hz
  exact hvis
 ·obtain⟨rfl,rfl⟩:=one e
  exact hcy
 ·cases List.mem_singleton.mp hz
  rw [self,hcy]
 ·have far:∀k,(k=.cell\/k=.free)->(compEnvC scope [(y,c)] 0 X.env).kindOf z=some k->∃c',[(y,c)].lookup z=some c':=λk hkk e=>by
   obtain⟨p,hp,e1,e2⟩:=fc (show (scope.names.map _).lookup z=some k from e)
   obtain⟨⟨n,kk⟩,hq,rfl⟩:=List.mem_map.mp hp
   rcases hall _ hq with q | ⟨q,_⟩
   ·have q:kk=.local:=q
    subst q
    have e2:NameKind.local=k:=e2
    rcases hkk with r | r <;> rw [r]at e2 <;> cases e2
   ·have q:n=y:=q
    subst q
    refine⟨c,?_⟩
    have:z=n:=by
     rw [e1]
     dsimp only
     split <;> rfl
    rw [this]
    exact self
  rcases hz with e | e
  ·exact far _ (.inl rfl) e
  ·exact far _ (.inr rfl) e
end
end L2
namespace L2
open PySem PySem.Spec PyProof.Rows
end L2
namespace L2
open PySem PySem.Spec PyProof.Rows
end L2
namespace Strip
section
variable {M:Type} [DecidableEq M]
noncomputable def holeG (rs:List (Row M)) (f l:Int):Int->Option M:=λn=>if f<=n/\n<=l then none else dayOf rs n
theorem hole_start {f l:Int}:DG ([]:List (Row M)) (holeG [] f l):=DG.nil.eq λn=>by unfold holeG;split <;> rfl
noncomputable def midH (rs:List (Row M)) (f l:Int) (r:Row M):Int->Option M:=λn=>if Has r n/\n < f then some r.2.2 else holeG rs f l n
theorem hole_left {rs cs:List (Row M)}{f l:Int}{i:Nat}{r:Row M} (d:Disj rs) (e:rs[i]?=some r) (h:r.1 < f){b:Int} (hb:b=if f - 1 < r.2.1 then f - 1 else r.2.1) (D:DG cs (holeG (rs.take i) f l)) :
  DG (cs++[(r.1,b,r.2.2)]) (midH (rs.take i) f l r)/\b<=r.2.1:=by
 have hr:=d.le r (List.mem_of_getElem? e)
 have b1:b<=f - 1/\b<=r.2.1/\(b=f - 1\/b=r.2.1):=by rw [hb];split <;> omega
 refine⟨(D.put (c:=(r.1,b,r.2.2)) (by show r.1<=b;omega) λn hn=>?_).eq λn=>?_,b1.2.1⟩
 ·unfold Has at hn
  dsimp only at hn
  unfold holeG
  rw [if_neg (by omega)]
  exact d.ahead e ⟨by omega,by omega⟩
 ·unfold midH
  by_cases y:Has r n/\n < f
  ·rw [if_pos y,if_pos]
   unfold Has at y ⊢
   dsimp only
   omega
  ·rw [if_neg y,if_neg]
   unfold Has at y ⊢
   dsimp only
   omega
theorem hole_noLeft {rs cs:List (Row M)}{f l:Int}{i:Nat}{r:Row M} (h:¬r.1 < f) (D:DG cs (holeG (rs.take i) f l)):DG cs (midH (rs.take i) f l r):=D.eq λn=>by
 unfold midH
 rw [if_neg]
 unfold Has
 omega
theorem hole_right {rs cs:List (Row M)}{f l:Int}{i:Nat}{r:Row M} (d:Disj rs) (e:rs[i]?=some r) (hfl:f<=l) (h:l < r.2.1){a:Int} (ha:a=if l+1 > r.1 then l+1 else r.1) (D:DG cs (midH (rs.take i) f l r)) :
  DG (cs++[(a,r.2.1,r.2.2)]) (holeG (rs.take (i+1)) f l)/\r.1<=a:=by
 have hr:=d.le r (List.mem_of_getElem? e)
 have a1:l+1<=a/\r.1<=a/\(a=l+1\/a=r.1):=by rw [ha];split <;> omega
 refine⟨(D.put (c:=(a,r.2.1,r.2.2)) (by show a<=r.2.1;omega) λn hn=>?_).eq λn=>?_,a1.2.1⟩
 ·unfold Has at hn
  dsimp only at hn
  unfold midH
  rw [if_neg (by omega)]
  unfold holeG
  rw [if_neg (by omega)]
  exact d.ahead e ⟨by omega,by omega⟩
 ·unfold midH holeG
  rw [take_snoc e,bw]
  by_cases z:f<=n/\n<=l
  ·rw [if_neg (by unfold Has;dsimp only;omega),if_neg (by omega),if_pos z,if_pos z]
  ·rw [if_neg z,if_neg z]
   by_cases y:Has r n
   ·rw [if_pos y]
    by_cases x:n < f
    ·rw [if_neg (by unfold Has;dsimp only;omega),if_pos ⟨y,x⟩]
    ·rw [if_pos (by unfold Has at y ⊢;dsimp only;omega)]
   ·rw [if_neg y,if_neg (by unfold Has at y ⊢;dsimp only;omega),if_neg (λq=>y q.1)]
theorem hole_noRight {rs cs:List (Row M)}{f l:Int}{i:Nat}{r:Row M} (e:rs[i]?=some r) (h:¬l < r.2.1) (D:DG cs (midH (rs.take i) f l r)):DG cs (holeG (rs.take (i+1)) f l):=D.eq λn=>by
 unfold midH holeG
 rw [take_snoc e,bw]
 by_cases z:f<=n/\n<=l
 ·rw [if_neg (by omega),if_pos z,if_pos z]
 ·rw [if_neg z,if_neg z]
  by_cases y:Has r n
  ·rw [if_pos y,if_pos]
   refine⟨y,?_⟩
   unfold Has at y
   omega
  ·rw [if_neg y,if_neg (λq=>y q.1)]
theorem hole_laid {m:M}{rs cs:List (Row M)}{f l:Int} (hfl:f<=l) (D:DG cs (holeG rs f l)):DG (cs++[(f,l,m)]) (laidG m rs f l):=(D.put (c:=(f,l,m)) hfl λn hn=>if_pos hn).eq λn=>by
 unfold holeG laidG
 by_cases z:f<=n/\n<=l
 ·rw [if_pos (show Has (f,l,m) n from z),if_pos z]
 ·rw [if_neg (show ¬Has (f,l,m) n from z),if_neg z,if_neg z]
end
end Strip
namespace L2
open PySem PySem.Spec PyProof.Rows
noncomputable abbrev aE:=Str × Int × Int × V × V
noncomputable def ck (b:aE):List V:=[.str b.1,.int b.2.1,.int b.2.2.1,b.2.2.2.1,b.2.2.2.2]
noncomputable def Nm (x:Str):Prop:=x.cps.all (· < 0x110000)=true
noncomputable def fH (b:aE):Prop:=Nm b.1/\aV b.2.2.2.1/\aV b.2.2.2.2
noncomputable def gz (H:Hp) (ps:List Addr) (bs:List aE):Prop:=Paired (λp b=>H p=some (.tup (ck b))/\fH b) ps bs
noncomputable def cx (H:Hp) (a:Addr) (bs:List aE):Prop:=∃ps,H a=some (.lst (ps.map V.ref))/\gz H ps bs
noncomputable def uX (b:aE):PySem.W.Dat:=.tuple [.str b.1,.int b.2.1,.int b.2.2.1,dz b.2.2.2.1,dz b.2.2.2.2]
theorem cF {H:Hp}{ps:List Addr}{bs:List aE} (h:gz H ps bs):ps.length=bs.length:=Paired.length h
theorem dA {H:Hp}{ps:List Addr}{bs:List aE} (h:gz H ps bs){i:Nat}{p:Addr} (e:ps[i]?=some p):∃b,bs[i]?=some b/\H p=some (.tup (ck b))/\fH b:=cJ h e
theorem de {H H':Hp}:∀{ps:List Addr}{bs:List aE},gz H ps bs->(∀p xs,H p=some (.tup xs)->H' p=some (.tup xs))->gz H' ps bs
 | _,_,.nil,_=>.nil
 | _,_,.cons a t,k=>.cons ⟨k _ _ a.1,a.2⟩ (de t k)
theorem fh {H:Hp}{p:Addr}{b:aE} (hp:H p=some (.tup (ck b))) (hm:fH b):∀{ps:List Addr}{bs:List aE},gz H ps bs->gz H (ps++[p]) (bs++[b])
 | _,_,.nil=>.cons ⟨hp,hm⟩ .nil
 | _,_,.cons a t=>.cons a (fh hp hm t)
theorem fi {H H':Hp}{a:Addr}{bs:List aE} (h:cx H a bs) (ka:∀xs,H a=some (.lst xs)->H' a=some (.lst xs)) (k:∀p xs,H p=some (.tup xs)->H' p=some (.tup xs)):cx H' a bs:=by
 obtain⟨ps,e,hp⟩:=h
 exact⟨ps,ka _ e,de hp k⟩
theorem Go.boxL {T:Addr}{pos:Pos}{q:Str}{H H':Hp} (G:Go T pos q H H') (L:dJ T pos q H){a:Addr}{bs:List aE} (h:cx H a bs):cx H' a bs:=fi h (λ_ e=>G.lst L e) λ_ _ e=>G.tup L e
theorem oy {H:Hp}{st p:Addr}{as:List Addr}{acc:List aE}{r:aE} (hst:H st=some (.lst (as.map V.ref))) (hrs:gz H as acc) (np:H p=none) (hm:fH r) :
  cx (upd (upd H p (.tup (ck r))) st (.lst (as.map V.ref++[V.ref p]))) st (acc++[r])/\∀b o,b≠st->H b=some o->upd (upd H p (.tup (ck r))) st (.lst (as.map V.ref++[V.ref p])) b=some o:=by
 have ps:p≠st:=λz=>by rw [z,hst]at np;cases np
 have keep:∀b o,b≠st->H b=some o->upd (upd H p (.tup (ck r))) st (.lst (as.map V.ref++[V.ref p])) b=some o:=λb o n e=>by
  rw [ag n,ag (af e np)];exact e
 refine⟨⟨as++[p],?_,fh ?_ hm (de hrs λb xs e=>keep b _ (aD e hst (by intro z;cases z)) e)⟩,keep⟩
 ·rw [ad,List.map_append];rfl
 ·rw [ag ps,ad]
theorem wI {b:aE} (h:fH b):PySem.W.kqdOk 8 (uX b)=true:=by
 show [PySem.W.Dat.str b.1,.int b.2.1,.int b.2.2.1,dz b.2.2.2.1,dz b.2.2.2.2].all (PySem.W.kqdOk 7)=true
 simp only [List.all_cons,List.all_nil,Bool.and_true]
 rw [gW 7 h.2.1,gW 7 h.2.2,Bool.and_true,Bool.and_true]
 have:PySem.W.kqdOk 7 (.str b.1)=true:=h.1
 rw [this]
 rfl
theorem oS {H:Hp}:∀{ps:List Addr}{bs:List aE},gz H ps bs->DatVs H (ps.map V.ref) (bs.map uX)
 | _,_,.nil=>.nil
 | _,_,.cons a t=>.cons (.tup a.1 (.cons (.str _) (.cons (.int _) (.cons (.int _) (.cons (bO a.2.2.1) (.cons (bO a.2.2.2) .nil)))))) (oS t)
theorem lB {H:Hp}:∀{ps:List Addr}{bs:List aE},gz H ps bs->∀b∈bs,fH b
 | _,_,.nil,_,h=>nomatch h
 | _,_,.cons a t,b,h=>by
  rcases List.mem_cons.mp h with rfl | h
  ·exact a.2
  ·exact lB t b h
theorem cc {H:Hp}{a:Addr}{bs:List aE} (h:cx H a bs):DatV H (.ref a) (.list (bs.map uX))/\PySem.W.kqdOk 9 (.list (bs.map uX))=true:=by
 obtain⟨ps,e,hp⟩:=h
 refine⟨.lst e (oS hp),?_⟩
 show (bs.map uX).all (PySem.W.kqdOk 8)=true
 refine List.all_eq_true.mpr λd hd=>?_
 obtain⟨b,hb,rfl⟩:=List.mem_map.mp hd
 exact wI (lB hp b hb)
end L2
namespace Strip
open L2 PySem
noncomputable def optV:V->Option V
 | .non=>none
 | v=>some v
noncomputable def boxS (g:Int->Option V) (b:aE):Int->Option V:=λn=>if b.2.1<=n/\n<=b.2.2.1 then optV b.2.2.2.2 else g n
noncomputable def boxG (rs:List aH) (bs:List aE):Int->Option V:=bs.foldl boxS (dayOf rs)
theorem boxG_snoc (rs:List aH) (bs:List aE) (b:aE):boxG rs (bs++[b])=boxS (boxG rs bs) b:=by
 unfold boxG
 rw [List.foldl_append]
 rfl
theorem box_hole {cs:List aH}{b:aE} (e:b.2.2.2.2=.non){ds:List aH} (D:DG ds (holeG cs b.2.1 b.2.2.1)){g:Int->Option V} (G:∀n,dayOf cs n=g n):DG ds (boxS g b):=D.eq λn=>by
 unfold holeG boxS
 rw [e,G]
 rfl
theorem box_put {cs:List aH}{b:aE} (e:b.2.2.2.2≠.non) (hfl:b.2.1<=b.2.2.1){ds:List aH} (D:DG ds (holeG cs b.2.1 b.2.2.1)){g:Int->Option V} (G:∀n,dayOf cs n=g n):DG (ds++[(b.2.1,b.2.2.1,b.2.2.2.2)]) (boxS g b):=
 (hole_laid (m:=b.2.2.2.2) hfl D).eq λn=>by
  unfold laidG boxS
  rw [G]
  have:optV b.2.2.2.2=some b.2.2.2.2:=by
   cases q:b.2.2.2.2 with
   | non=>exact absurd q e
   | _=>rfl
  rw [this]
end Strip
namespace L2
open PySem PySem.Spec PyProof.Rows
inductive Caps (X:Cx) (scope:Scope) (cl0:List (Str × Addr)):List (Str × Addr)->List Nat->Prop
 | nil:Caps X scope cl0 [] []
 | cons {y:Str}{c:Addr}{i:Nat}{cl:List (Str × Addr)}{sub:List Nat} (hN:X.N[i]?=some y) (hv:Vis X.env.scope y) (hk:X.env.kindOf y≠some .local)
   (hvis:(compEnvC scope cl0 0 X.env).kindOf y=some .cell\/(compEnvC scope cl0 0 X.env).kindOf y=some .free) (hc:X.env.cells.lookup y=some c) (t:Caps X scope cl0 cl sub):Caps X scope cl0 ((y,c)::cl) (i::sub)
section
variable {X:Cx}{scope:Scope}{cl0:List (Str × Addr)}
theorem Caps.len:∀{cl:List (Str × Addr)}{sub:List Nat},Caps X scope cl0 cl sub->sub.length=(cl.map (·.1)).length
 | _,_,.nil=>rfl
 | _,_,.cons _ _ _ _ _ t=>congrArg (· + 1) t.len
theorem Caps.at:∀{cl:List (Str × Addr)}{sub:List Nat},Caps X scope cl0 cl sub->∀(j i:Nat) (y:Str),sub[j]?=some i->(cl.map (·.1))[j]?=some y->X.N[i]?=some y/\Vis X.env.scope y/\X.env.kindOf y≠some .local
 | _,_,.nil,_,_,_,e,_=>by simp at e
 | _,_,.cons hN hv hk _ _ t,j,i,y,e1,e2=>by
  cases j with
  | zero=>
   simp at e1 e2
   subst e1 e2
   exact⟨hN,hv,hk⟩
  | succ j=>exact t.at j i y (by simpa using e1) (by simpa using e2)
theorem Caps.vis:∀{cl:List (Str × Addr)}{sub:List Nat},Caps X scope cl0 cl sub->∀y∈cl.map (·.1),(compEnvC scope cl0 0 X.env).kindOf y=some .cell\/(compEnvC scope cl0 0 X.env).kindOf y=some .free
 | _,_,.nil,_,h=>by simp at h
 | _,_,.cons _ _ _ hvis _ t,y,h=>by
  rcases List.mem_cons.mp h with e | h
  ·rw [e];exact hvis
  ·exact t.vis y h
theorem Caps.cell:∀{cl:List (Str × Addr)}{sub:List Nat},Caps X scope cl0 cl sub->∀y c,cl.lookup y=some c->X.env.cells.lookup y=some c
 | _,_,.nil,_,_,h=>by cases h
 | _,_,.cons (y:=z) (c:=d) _ _ _ _ hc t,y,c,h=>by
  rw [List.lookup_cons]at h
  split at h
  ·rename_i e
   cases h
   rw [eq_of_beq e]
   exact hc
  ·exact t.cell y c h
theorem dX {α:Type}:∀{l:List (Str × α)}{y:Str},y∈l.map (·.1)->∃c,l.lookup y=some c
 | [],_,h=>by simp at h
 | (n,k)::r,y,h=>by
  rw [List.lookup_cons]
  split
  ·exact⟨k,rfl⟩
  ·rename_i e
   rcases List.mem_cons.mp h with z | z
   ·rw [z]at e
    simp at e
   ·exact dX z
noncomputable def jI (ys:List Str) (p:Str × NameKind):Prop:=p.2=.local\/p.2=.globalImplicit\/(p.1∈ys/\p.2=.free)
noncomputable instance (ys:List Str) (p:Str × NameKind):Decidable (jI ys p):=by unfold jI;exact inferInstance
theorem da {elt iter:Expr}{x:Str}{cl:List (Str × Addr)}{sub:List Nat}{px pos:Pos}{ifs:List Expr}{wi:TI}{tt:TT}{te:TE}
  (hc:X.calm=true) (hi:PI X (.Name x px) iter wi) (hclos:closureFor scope X.env=pure cl) (hkind:scope.kind=.function)
  (hall:∀p∈scope.names,jI (cl.map (·.1)) p) (hnames:∀p∈scope.names,p.2=.local->scope.names.lookup p.1=some .local) (hx:scope.names.lookup x=some .local)
  (hnd:(x::cl.map (·.1)).Nodup) (caps:Caps X scope cl cl sub)
  (ht:∀C fp s H,PTs (bR X scope cl (x::cl.map (·.1)) C fp s H) ifs tt) (he:∀C fp s H,PE (bR X scope cl (x::cl.map (·.1)) C fp s H) elt te)
  (hs:∀x,foldedSetIterable iter X.env x=pure x:=by intro _;rfl):PEC X (.ListComp elt [⟨.Name x px,iter,ifs,0⟩] scope pos) iter scope (kr wi sub tt te):=by
 refine oA (cl:=cl) (fv:=cl.map (·.1)) hc hi hclos (λp hp z=>?_) hkind hnames hx hnd caps.len caps.at caps.vis caps.cell (λy hy=>?_) (λz hz=>?_) ht he hs
 ·rcases hall p hp with q | q | ⟨_,q⟩ <;> rw [q]at z <;> cases z
 ·obtain⟨c,e⟩:=dX hy
  rw [e,caps.cell y c e]
 ·have far:∀k,(k=.cell\/k=.free)->(compEnvC scope cl 0 X.env).kindOf z=some k->∃c',cl.lookup z=some c':=λk hkk e=>by
   obtain⟨p,hp,e1,e2⟩:=fc (show (scope.names.map _).lookup z=some k from e)
   obtain⟨⟨n,kk⟩,hq,rfl⟩:=List.mem_map.mp hp
   rcases hall _ hq with q | q | ⟨q,_⟩
   ·have q:kk=.local:=q
    subst q
    have e2:NameKind.local=k:=e2
    rcases hkk with r | r <;> rw [r]at e2 <;> cases e2
   ·have q:kk=.globalImplicit:=q
    subst q
    have e2:NameKind.globalImplicit=k:=e2
    rcases hkk with r | r <;> rw [r]at e2 <;> cases e2
   ·have q:n∈cl.map (·.1):=q
    have:z=n:=by
     rw [e1]
     dsimp only
     split <;> rfl
    rw [this]
    exact dX q
  rcases hz with e | e
  ·exact far _ (.inl rfl) e
  ·exact far _ (.inr rfl) e
end
theorem io {lo:Int}{n:Nat}{D:Addr}{σ:St}{sub:List Nat}{tt:TT}{te:TE}{Q:VK}{H:Hp} (Pv:Nat->List V->Hp->Prop) (h0:Pv 0 [] (upd H D (.lst [])))
  (hs:∀i ys H2,i < n->Pv i ys H2->tt (some (.int (lo+i))::bN sub σ) H2 λb H4=>if b=true then te (some (.int (lo+i))::bN sub σ) H4 λy H5=>H5 D=some (.lst ys)/\ys.length < sizeLine/\Pv (i+1) (ys++[y]) (upd H5 D (.lst (ys++[y]))) else Pv (i+1) ys H4)
  (hd:∀ys H2,Pv n ys H2->Q (.ref D) H2) :
  ∃W:Nat->Nat->List V->Hp->Prop,(∃m,W 0 m [] (upd H D (.lst [])))/\∀i m ys H2,W i m ys H2->
   ((Itr lo n).stop i H2/\Q (.ref D) H2)\/((Itr lo n).go i H2/\∃N:List V->Hp->Prop,(∀ys' H',N ys' H'->∃m',m' < m/\W (i+1) m' ys' H')/\∀v H3,(Itr lo n).yld i H2 v H3->tt (some v::bN sub σ) H3 λb H4=>if b=true then
    te (some v::bN sub σ) H4 λy H5=>H5 D=some (.lst ys)/\ys.length < sizeLine/\N (ys++[y]) (upd H5 D (.lst (ys++[y]))) else N ys H4):=by
 refine⟨λi m ys H2=>m=n - i/\i<=n/\Pv i ys H2,⟨n,by simp,Nat.zero_le _,h0⟩,?_⟩
 rintro i m ys H2 ⟨rfl,hi,p⟩
 by_cases hlt:i < n
 ·refine .inr ⟨hlt,Pv (i+1),λys' H' p'=>⟨n - (i+1),by omega,rfl,hlt,p'⟩,λv H3 y=>?_⟩
  obtain⟨e,e2⟩:=y
  subst e e2
  exact hs i ys _ hlt p
 ·have e:i=n:=by omega
  subst e
  exact .inl ⟨Nat.le_refl _,hd ys H2 p⟩
end L2
namespace L2
open PySem PySem.Spec PyProof.Rows
theorem Inv.turnedL {X:Cx}{pins:List (Addr × Obj)}{σ:St}{H:Hp}{s:Shared}{h':Heap}{t':Nat}{ch:List Addr} (I:Inv X pins σ H s) (k:∀b o,b∉ch->s.heap.get? b=some o->h'.get? b=some o) (hf:∀b∈ch,gy X pins H b):Inv X pins σ H { s with heap:=h',toks:=t' }:=by
 have nit:∀b u,H b=some u->b∉ch:=λb u e z=>by rw [(hf b z).1]at e;cases e
 refine I.step (g':=s.gens) (d':=s.drawn) (ch:=ch) (λb hb=>?_) (λb o _ _ hc e _=>k b o hc e) (λb o _ _ hc e _=>⟨o.slots,k b o hc e⟩) (λ_ _ _ _ n=>n)
  (λb o hc e=>⟨o,k b o hc e⟩) (λ_ _ e=>e) (λ_ _ _ e=>e) (λb ps e=>⟨#[],by rw [e];simp⟩) (λm hm=>?_) (λb u e=>?_) I.bare
 ·obtain⟨f0,f1,f2,f3,f4,f5⟩:=hf b hb
  exact⟨f3,f1,f4,f5⟩
 ·obtain⟨o,es,ep,ho,r⟩:=hm
  exact⟨o,es,ep,k _ o (λz=>(hf _ z).2.1 rfl) ho,r⟩
 ·refine(I.hok b u e).stay (λc v hc q=>k c v ?_ q) (λ_ q=>q) λ_ _ q=>q
  rcases hc with z | z
  ·rw [z];exact nit b u e
  ·exact nit c _ z
noncomputable def Ite (K:PySem.W.Frag) (a:Addr):It:=
 ⟨λi H=>∃xs x,SqL K H a xs/\xs[i]?=some x,λi H v H'=>∃(t:Addr) (x:V),v=.ref t/\H t=none/\H'=upd H t (.tup [.int (i:Int),x])/\∀xs,SqL K H a xs->xs[i]?=some x,λi H=>∃xs,SqL K H a xs/\xs.length<=i⟩
theorem r6 {P:Program}{w:World}{K:PySem.W.Frag}{elts:List Expr}{kk:Nat}{pos:Pos} (a e it:Addr) (hne:e≠it):Turn P w K (.Tuple elts kk pos) (Ite K a) [e,it] e (λi h=>(∃old,IsEnum h e it (i:Int) old)/\h.IsListIter it a i) where
 mem:=by simp
 obj:=λi h st b hb=>by
  obtain⟨⟨old,he⟩,o,ho,c,d⟩:=st
  rcases List.mem_cons.mp hb with z | z
  ·subst z
   exact⟨_,he,λv z=>by
    have z':Data.fields _=Data.cell v:=z
    cases z'⟩
  ·rcases List.mem_cons.mp z with z | z
   ·subst z
    exact⟨o,ho,λv z=>by rw [d]at z;cases z⟩
   ·cases z
 keep:=λi h h' st k=>⟨let ⟨old,he⟩:=st.1;⟨old,k e (by simp) _ he⟩,st.2.at λo q=>k it (by simp) o q⟩
 item:=by
  intro X hP hw hK hc i pins s σ H E I hf st hg
  subst hP hw hK
  obtain⟨⟨old,he⟩,hit⟩:=st
  obtain⟨xs,x,hq,hx⟩:=hg
  obtain⟨its,rv,p,hz⟩:=I.list hq
  obtain⟨u,hu,ru⟩:=rv.get hx
  refine wpAny_pyNext_enum_item he hit p.isList (x:=u) (by simpa using hu) hne λh1 heo hit1 ht1 hz1 hk1=>?_
  refine⟨_,rfl,wpAny_letOwnedTupleGo_enum heo λh2 he2 hs2=>?_⟩
  have hs2:Heap.SameBut e h1 h2:=hs2
  have el:e < s.heap.objs.size:=Heap.lt_size he
  have ht2:h2.get? s.heap.objs.size=some { cls:=.type "tuple", data:=.seq #[.int i s.toks,u] }:=(hs2.2 _ (Nat.ne_of_gt el)).trans ht1
  have nt:H s.heap.objs.size=none:=I.hok.fresh (Nat.le_refl _)
  have I1:Inv X pins σ (upd H s.heap.objs.size (.tup [.int (i:Int),x])) { s with heap:=s.heap.push { cls:=.type "tuple", data:=.seq #[.int i s.toks,u] },toks:=s.toks+1 }:=
   I.laid (a:=s.heap.objs.size) (o:=.tup [.int (i:Int),x]) (λ_ _ q=>Heap.get?_push_of_some _ q) (Nat.le_refl _) ⟨by show 2<=sizeLine;decide,[.int i s.toks,u],.cons ⟨_,rfl⟩ (.cons ru .nil),_,Heap.get?_push_size _ rfl,rfl,0,rfl⟩
  have fp1:∀b∈[e,it],gy X pins (upd H s.heap.objs.size (.tup [.int (i:Int),x])) b:=λb hb=>by
   obtain⟨f0,f1,f2,f3,f4,f5⟩:=hf b hb
   refine⟨?_,f1,f2,f3,f4,f5⟩
   have hb2:b < s.heap.objs.size:=by
    rcases List.mem_cons.mp hb with z | z
    ·rw [z];exact el
    ·rcases List.mem_cons.mp z with z | z
     ·rw [z]
      obtain⟨o,ho,_⟩:=hit
      exact Heap.lt_size ho
     ·cases z
   rw [ag (Nat.ne_of_lt hb2)]
   exact f0
  have I2:Inv X pins σ (upd H s.heap.objs.size (.tup [.int (i:Int),x])) { s with heap:=h2,toks:=s.toks+1 }:=I1.turnedL (h':=h2) (t':=s.toks+1) (λb o hb ho=>by
   have b1:b≠e:=λz=>hb (by rw [z];simp)
   have b2:b≠it:=λz=>hb (by rw [z];simp)
   by_cases bs:b=s.heap.objs.size
   ·rw [bs]at ho ⊢
    have ho:(s.heap.push { cls:=.type "tuple", data:=.seq #[.int i s.toks,u] }).get? s.heap.objs.size=some o:=ho
    rw [Heap.get?_push_size _ rfl]at ho
    cases ho
    exact ht2
   ·have ho2:s.heap.get? b=some o:=(Heap.get?_push_ne _ b _ bs).symm.trans ho
    exact(hs2.2 b b1).trans (hk1 b o b1 b2 ho2)) fp1
  refine⟨.ref s.heap.objs.size,_,I2,rfl,⟨s.heap.objs.size,x,rfl,nt,rfl,λys hy=>by rw [I.list_inj hy hq];exact hx⟩,⟨⟨u,?_⟩,hit1.extBut hs2.extBut (Ne.symm hne)⟩,λb hb=>(fp1 b hb).1⟩
  have:((i+1:Nat):Int)=(i:Int)+1:=by omega
  rw [this]
  exact he2
 done:=by
  intro X hP hw hK hc i pins s σ H E I hf st hg
  subst hP hw hK
  obtain⟨⟨old,he⟩,hit⟩:=st
  obtain⟨xs,hq,hx⟩:=hg
  obtain⟨its,rv,p,hz⟩:=I.list hq
  obtain⟨f0,f1,f2,f3,f4,f5⟩:=hf it (by simp)
  have hl:=rv.length
  exact wpAny_pyNext_enum_end (I.ok.hd hc) he hit p.isList (by simp;omega) λh' eb=>⟨rfl,I.turned (t':=s.toks) (λb o hb q=>eb b o hb q) f0 f1 f3 f4 f5⟩
 self:=λ_ _ _ _ _ st h=>let ⟨old,he⟩:=st.1;wpAny_pyIter_enum he h
noncomputable def yO (K:PySem.W.Frag) (ta:TA):TI:=λσ H R=>ta σ H λvs H1=>∃a,vs=[.ref a]/\(∃xs,SqL K H1 a xs)/\R (Ite K a) H1
theorem qE {X:Cx}{elts:List Expr}{kk:Nat}{pt:Pos}{a:Expr}{ta:TA}{p pos:Pos} (hg:Gl X "enumerate") (hm:X.mg "enumerate" = none) (ha:PA X [a] ta) (hs:starEach [a] X.env=[(false,eval a X.env)]:=by rfl) :
  PI X (.Tuple elts kk pt) (.Call (.Name "enumerate" p) [a] [] pos) (yO X.K ta):=by
 intro pins s σ H R I h
 refine Call_ (im I hg hm (PyProof.Rows.Boot.«enumerate») (PyProof.Rows.callWith_type1 (thn (ha pos pins s σ H _ I h) λus s1 ⟨vs,H1,I1,r1,q1⟩=>?_) hs rfl))
 obtain⟨b,e,⟨xs,hq⟩,q⟩:=q1
 subst e
 cases r1 with
 | cons r rr=>
  cases rr
  cases r
  obtain⟨its,rv,pp,hz⟩:=I1.list hq
  refine call_enumerate_list pp.isList λh' hE hI hsz hk=>?_
  refine wpAny_pyIter_enum hE ?_
  refine⟨s1.heap.objs.size+1,[s1.heap.objs.size+1,s1.heap.objs.size],_,_,H1,rfl,I1.kept (t':=s1.toks) hk,r6 b _ _ (Nat.succ_ne_self _),⟨⟨_,hE⟩,hI⟩,λc hc=>?_,q⟩
  rcases List.mem_cons.mp hc with z | z
  ·subst z
   exact I1.fpOk (Nat.le_succ _) (I1.hok.fresh (Nat.le_succ _))
  ·rcases List.mem_cons.mp z with z | z
   ·subst z
    exact I1.fpOk (Nat.le_refl _) (I1.hok.fresh (Nat.le_refl _))
   ·cases z
theorem uP {K:PySem.W.Frag}{a:Addr}{xs:List V}{g:TG}{tb:TS}{D:Ends}{σ:St}{H:Hp} (Pv:Nat->St->Hp->Prop) (h0:Pv 0 σ H) (hl:∀i σ H,i<=xs.length->Pv i σ H->SqL K H a xs)
  (hs:∀i x σ H t,xs[i]?=some x->Pv i σ H->H t=none->g (.ref t) σ (upd H t (.tup [.int (i:Int),x])) λσ2 H2=>tb { D with nx:=Pv (i+1),ct:=Pv (i+1),bk:=D.nx } σ2 H2) (hd:∀σ H,Pv xs.length σ H->D.nx σ H) :
  ∃W:Nat->Nat->St->Hp->Prop,(∃m,W 0 m σ H)/\∀i m σ H,W i m σ H->
   ((Ite K a).stop i H/\D.nx σ H)\/((Ite K a).go i H/\∃N:St->Hp->Prop,(∀σ' H',N σ' H'->∃m',m' < m/\W (i+1) m' σ' H')/\∀x H',(Ite K a).yld i H x H'->g x σ H' λσ2 H2=>tb { D with nx:=N,ct:=N,bk:=D.nx } σ2 H2):=by
 refine⟨λi m σ H=>m=xs.length - i/\i<=xs.length/\Pv i σ H,⟨xs.length,by simp,Nat.zero_le _,h0⟩,?_⟩
 rintro i m σ H ⟨rfl,hi,p⟩
 have q:=hl i σ H hi p
 by_cases hlt:i < xs.length
 ·refine .inr ⟨⟨xs,xs[i],q,by simp [hlt]⟩,Pv (i+1),λσ' H' p'=>⟨xs.length - (i+1),by omega,rfl,hlt,p'⟩,λx H' y=>?_⟩
  obtain⟨t,y1,e1,nt,e2,y⟩:=y
  subst e1 e2
  exact hs i y1 σ _ t (y xs q) p nt
 ·have e:i=xs.length:=by omega
  subst e
  exact .inl ⟨⟨xs,q,Nat.le_refl _⟩,hd σ H p⟩
theorem mV:∀{zs:List Str}{us:List Value},aR (zs.map V.str) us->StrsAre us zs
 | [],_,r=>by cases r;exact .nil
 | z::zs,_,r=>by
  rw [List.map_cons]at r
  cases r with
  | cons a t=>
   obtain⟨tk,rfl⟩:=a
   exact .cons z tk (mV t)
theorem ww {X:Cx}:MtR X "str.join" (λx xs H Q=>∃i l zs,x=.str i/\xs=[.ref l]/\H l=some (.lst (zs.map V.str))/\(zs.map (·.length)).sum+zs.length * i.length<=16777216/\Q (.str (Txt.join i zs)) H):=by
 intro pins s σ H x xs v us Q I rx rv h
 obtain⟨i,l,zs,rfl,rfl,hl,hz,q⟩:=h
 obtain⟨t,rfl⟩:=rx
 obtain⟨u,rfl,ru⟩:=aR.one rv
 cases ru
 obtain⟨_,its,n,r,_,e⟩:=I.lstM hl
 exact join_list (items:=its.toArray) ⟨_,e,rfl,n,rfl⟩ (by simpa using mV r) hz λt' k=>⟨.str _,H,I.tok _,⟨_,rfl⟩,q⟩
theorem nW {X:Cx}:eM X (.type "dict") (λxs H Q=>∃d kvs,xs=[.ref d]/\H d=some (.dK kvs)/\∀p,H p=none->Q (.ref p) (upd H p (.dK kvs))):=by
 intro pins s σ H xs us Q I r h
 obtain⟨d,kvs,rfl,hd,q⟩:=h
 obtain⟨u,rfl,ru⟩:=aR.one r
 cases ru
 obtain⟨z,hds,vs,rk,dd⟩:=uU I.hok hd
 have hb:sysModules < s.heap.objs.size:=I.big
 refine kt_call_dict (knd:=be X.prog X.w) hds dd (by rw [<- Paired.length rk];exact z) λh' dd' sb=>?_
 refine⟨.ref s.heap.objs.size,_,I.laid (t':=s.toks) (h':=h') (λb u e=>(sb.2 b (Nat.ne_of_lt (Heap.lt_size e))).trans (Heap.get?_push_of_some _ e)) (Nat.le_refl _) (nM z (beq_eq_false_iff_ne.mpr (Ne.symm (Nat.ne_of_lt hb))) rk dd'),rfl,q _ (I.hok.fresh (Nat.le_refl _))⟩
end L2
namespace L2
open PySem PySem.Spec PyProof.Rows
noncomputable def p8 (K:PySem.W.Frag) (wi:TI) (sub:List Nat) (tt:TT) (te:TE):TE:=λσ H Q=>wi σ H λJ H1=>∀D,H1 D=none->∃W:Nat->Nat->List V->Hp->Prop,(∃m,W 0 m [] (upd H1 D (.lst [])))/\∀i m ys H2,W i m ys H2->
 (J.stop i H2/\Q (.ref D) H2)\/(J.go i H2/\∃N:List V->Hp->Prop,(∀ys' H',N ys' H'->∃m',m' < m/\W (i+1) m' ys' H')/\∀v H3,J.yld i H2 v H3->∃(t:Addr) (a b:V),v=.ref t/\SqT K H3 t [a,b]/\tt (some a::some b::bN sub σ) H3 λc H4=>if c=true then
  te (some a::some b::bN sub σ) H4 λy H5=>H5 D=some (.lst ys)/\ys.length < sizeLine/\N (ys++[y]) (upd H5 D (.lst (ys++[y])))
  else N ys H4)
section
variable {X:Cx}
theorem rN {elt iter:Expr}{x x2:Str}{px py pt pos:Pos}{kk:Nat}{ifs:List Expr}{scope:Scope}{cl:List (Str × Addr)}{sub:List Nat}{fv:List Str}{wi:TI}{tt:TT}{te:TE}
  (hc:X.calm=true) (hi:PI X (.Tuple [.Name x px,.Name x2 py] kk pt) iter wi) (hclos:closureFor scope X.env=pure cl)
  (hcell:∀y∈scope.names,y.2≠.cell) (hkind:scope.kind=.function) (hnames:∀y∈scope.names,y.2=.local->scope.names.lookup y.1=some .local) (hx:scope.names.lookup x=some .local) (hx2:scope.names.lookup x2=some .local)
  (hnd:(x::x2::fv).Nodup) (hl:sub.length=fv.length) (hsub:∀(j:Nat) (i:Nat) (y:Str),sub[j]?=some i->fv[j]?=some y->X.N[i]?=some y/\Vis X.env.scope y/\X.env.kindOf y≠some .local)
  (hvis:∀y∈fv,(compEnvC scope cl 0 X.env).kindOf y=some .cell\/(compEnvC scope cl 0 X.env).kindOf y=some .free)
  (hcl:∀y c,cl.lookup y=some c->X.env.cells.lookup y=some c) (hcl2:∀y∈fv,cl.lookup y=X.env.cells.lookup y)
  (hhas:∀y,((compEnvC scope cl 0 X.env).kindOf y=some .cell\/(compEnvC scope cl 0 X.env).kindOf y=some .free)->∃c,cl.lookup y=some c)
  (ht:∀C fp s H,PTs (bR X scope cl (x::x2::fv) C fp s H) ifs tt) (he:∀C fp s H,PE (bR X scope cl (x::x2::fv) C fp s H) elt te)
  (hs:∀x,foldedSetIterable iter X.env x=pure x:=by intro _;rfl):PEC X (.ListComp elt [⟨.Tuple [.Name x px,.Name x2 py] kk pt,iter,ifs,0⟩] scope pos) iter scope (p8 X.K wi sub tt te):=by
 refine jj (xn:=[x,x2]) (g:=wE X.K 2 (ff (aO 0) (ff (aO 1) wF))) hc hi hclos hcell hkind hnames hl hsub hvis hcl hcl2 hhas (λC fp s H=>cD rfl (aq (ay (i:=0) hnd rfl (.inl (lookup_relabel_local hx)) (.inr (lookup_relabel_local hx))) (aq (ay (i:=1) hnd rfl (.inl (lookup_relabel_local hx2)) (.inr (lookup_relabel_local hx2))) bS))) ht he (λσ Q J H1 h D nD=>?_) hs
 obtain⟨W,w0,st⟩:=h D nD
 refine⟨W,w0,λi m ys H2 hw=>(st i m ys H2 hw).imp id λ⟨go,N,hN,h⟩=>⟨go,N,hN,λv H3 y τ hτ=>?_⟩⟩
 obtain⟨tp,va,vb,ev,htp,h⟩:=h v H3 y
 match τ,hτ with
 | [t0,t1],_=>exact⟨tp,[va,vb],ev,htp,rfl,va,[vb],rfl,vb,[],rfl,rfl,⟨[some va,some vb],rfl,rfl⟩,h⟩
variable {scope:Scope}{cl0:List (Str × Addr)}
theorem pG {elt iter:Expr}{x x2:Str}{cl:List (Str × Addr)}{sub:List Nat}{px py pt pos:Pos}{kk:Nat}{ifs:List Expr}{wi:TI}{tt:TT}{te:TE}
  (hc:X.calm=true) (hi:PI X (.Tuple [.Name x px,.Name x2 py] kk pt) iter wi) (hclos:closureFor scope X.env=pure cl) (hkind:scope.kind=.function)
  (hall:∀p∈scope.names,jI (cl.map (·.1)) p) (hnames:∀p∈scope.names,p.2=.local->scope.names.lookup p.1=some .local) (hx:scope.names.lookup x=some .local) (hx2:scope.names.lookup x2=some .local)
  (hnd:(x::x2::cl.map (·.1)).Nodup) (caps:Caps X scope cl cl sub)
  (ht:∀C fp s H,PTs (bR X scope cl (x::x2::cl.map (·.1)) C fp s H) ifs tt) (he:∀C fp s H,PE (bR X scope cl (x::x2::cl.map (·.1)) C fp s H) elt te)
  (hs:∀x,foldedSetIterable iter X.env x=pure x:=by intro _;rfl):PEC X (.ListComp elt [⟨.Tuple [.Name x px,.Name x2 py] kk pt,iter,ifs,0⟩] scope pos) iter scope (p8 X.K wi sub tt te):=by
 refine rN (cl:=cl) (fv:=cl.map (·.1)) hc hi hclos (λp hp z=>?_) hkind hnames hx hx2 hnd caps.len caps.at caps.vis caps.cell (λy hy=>?_) (λz hz=>?_) ht he hs
 ·rcases hall p hp with q | q | ⟨_,q⟩ <;> rw [q]at z <;> cases z
 ·obtain⟨c,e⟩:=dX hy
  rw [e,caps.cell y c e]
 ·have far:∀k,(k=.cell\/k=.free)->(compEnvC scope cl 0 X.env).kindOf z=some k->∃c',cl.lookup z=some c':=λk hkk e=>by
   obtain⟨p,hp,e1,e2⟩:=fc (show (scope.names.map _).lookup z=some k from e)
   obtain⟨⟨n,kk⟩,hq,rfl⟩:=List.mem_map.mp hp
   rcases hall _ hq with q | q | ⟨q,_⟩
   ·have q:kk=.local:=q
    subst q
    have e2:NameKind.local=k:=e2
    rcases hkk with r | r <;> rw [r]at e2 <;> cases e2
   ·have q:kk=.globalImplicit:=q
    subst q
    have e2:NameKind.globalImplicit=k:=e2
    rcases hkk with r | r <;> rw [r]at e2 <;> cases e2
   ·have q:n∈cl.map (·.1):=q
    have:z=n:=by
     rw [e1]
     dsimp only
     split <;> rfl
    rw [this]
    exact dX q
  rcases hz with e | e
  ·exact far _ (.inl rfl) e
  ·exact far _ (.inr rfl) e
end
theorem sQ {K:PySem.W.Frag}{a D:Addr}{xs:List V}{σ:St}{sub:List Nat}{tt:TT}{te:TE}{Q:VK}{H:Hp} (Pv:Nat->List V->Hp->Prop) (h0:Pv 0 [] (upd H D (.lst []))) (hl:∀i ys H,i<=xs.length->Pv i ys H->SqL K H a xs)
  (hs:∀i x ys H2 t,xs[i]?=some x->Pv i ys H2->H2 t=none->tt (some (.int (i:Int))::some x::bN sub σ) (upd H2 t (.tup [.int (i:Int),x])) λb H4=>if b=true then te (some (.int (i:Int))::some x::bN sub σ) H4 λy H5=>H5 D=some (.lst ys)/\ys.length < sizeLine/\Pv (i+1) (ys++[y]) (upd H5 D (.lst (ys++[y]))) else Pv (i+1) ys H4)
  (hd:∀ys H2,Pv xs.length ys H2->Q (.ref D) H2) :
  ∃W:Nat->Nat->List V->Hp->Prop,(∃m,W 0 m [] (upd H D (.lst [])))/\∀i m ys H2,W i m ys H2->
   ((Ite K a).stop i H2/\Q (.ref D) H2)\/((Ite K a).go i H2/\∃N:List V->Hp->Prop,(∀ys' H',N ys' H'->∃m',m' < m/\W (i+1) m' ys' H')/\∀v H3,(Ite K a).yld i H2 v H3->∃(t:Addr) (a b:V),v=.ref t/\SqT K H3 t [a,b]/\tt (some a::some b::bN sub σ) H3 λc H4=>if c=true then
    te (some a::some b::bN sub σ) H4 λy H5=>H5 D=some (.lst ys)/\ys.length < sizeLine/\N (ys++[y]) (upd H5 D (.lst (ys++[y]))) else N ys H4):=by
 refine⟨λi m ys H2=>m=xs.length - i/\i<=xs.length/\Pv i ys H2,⟨xs.length,by simp,Nat.zero_le _,h0⟩,?_⟩
 rintro i m ys H2 ⟨rfl,hi,p⟩
 have q:=hl i ys H2 hi p
 by_cases hlt:i < xs.length
 ·refine .inr ⟨⟨xs,xs[i],q,by simp [hlt]⟩,Pv (i+1),λys' H' p'=>⟨xs.length - (i+1),by omega,rfl,hlt,p'⟩,λv H3 y=>?_⟩
  obtain⟨t,x,e1,nt,e2,y⟩:=y
  subst e1 e2
  exact⟨t,.int (i:Int),x,rfl,SqT.of ad,hs i x ys _ t (y xs q) p nt⟩
 ·have e:i=xs.length:=by omega
  subst e
  exact .inl ⟨⟨xs,q,Nat.le_refl _⟩,hd ys H2 p⟩
end L2
namespace L2
open PySem PySem.Spec PyProof.Rows
noncomputable def inS (zs:List Str) (i:Nat):Str->Bool:=λk=>decide (k∈zs.take i)
noncomputable abbrev lE (P:Program) (w:World) (a:Addr) (zs:List Str) (i:Nat) (h:Heap):Prop:=h.SetOf (strKind P w) a (inS zs i) i
theorem lE.at {P:Program}{w:World}{a:Addr}{zs:List Str}{i:Nat}{h h':Heap} (x:lE P w a zs i h) (e:∀o,h.get? a=some o->h'.get? a=some o):lE P w a zs i h':=by
 obtain⟨o,es,ep,t,ho,r⟩:=x
 exact⟨o,es,ep,t,e o ho,r⟩
section
variable {prog:Program}{w:World}{A:Around}{R:Result->Shared->Prop}{it:Addr}{fp wr:List Addr}{G:Array GenState->Array GenState->Prop}{P:Nat->Value->Prop}{St:Nat->Shared->Prop}
theorem tO {zs:List Str} (W:WalksS prog w A.in1 it fp wr G zs.length P St) (S:Addr) (hS:S∉fp) (val:∀i v,P i v->∃z t,zs[i]?=some z/\v=.str z t) (nd:zs.Nodup) (hb:zs.length+1 < scanBound) :
  ∀(k i:Nat) (s:Shared),zs.length - i=k->i<=zs.length->St i s->lE prog w S zs i s.heap->
   (∀s',Moved (S::wr) G s s'->lE prog w S zs zs.length s'.heap->R (.ok (.ret .none)) s')->
   codeAny (model prog w) A (.builtin "set.update.loop" ⟨[.ref S,.ref it],[]⟩) R s:=by
 have nw:S∉wr:=λz=>hS (W.sub _ z)
 have up:∀b∈wr,b∈S::wr:=λb z=>List.mem_cons_of_mem _ z
 intro k
 induction k with
 | zero=>
  intro i s ek le st x fin
  have e:i=zs.length:=by omega
  subst e
  refine codeAny_builtin F.entry_set_update_loop ?_
  rw [Around.under_plainId F.plain_set_update_loop _]
  show wpAny _ A.in1 (pyNext (.ref it) >>= _) _ _ s
  refine wpAny_bind (W.done s _ _ st λs' mv=>?_)
  exact wpAny_pure (fin s' (mv.mono up) (x.at λo e=>mv.heap S o nw e))
 | succ k ih=>
  intro i s ek le st x fin
  refine codeAny_builtin F.entry_set_update_loop ?_
  rw [Around.under_plainId F.plain_set_update_loop _]
  show wpAny _ A.in1 (pyNext (.ref it) >>= _) _ _ s
  refine wpAny_bind (W.item i s _ _ (by omega) st λv s' pv st' mv=>?_)
  obtain⟨z,t,ez,rfl⟩:=val i v pv
  have x':=x.at λo e=>mv.heap S o nw e
  show wpAny _ A.in1 (holding [Value.str z t] (setAdd S (.str z t)) >>= _) _ _ s'
  refine wpAny_bind (wpAny_holding ?_)
  unfold setAdd
  refine wpAny_holding ?_
  refine wpAny_bind ((strKind prog w).pyHash (k:=z) (strKind_is _ _ _ _) ?_)
  have new:inS zs i z=false:=by
   refine decide_eq_false λq=>?_
   obtain⟨j,hj,e⟩:=List.getElem_of_mem q
   rw [List.length_take]at hj
   rw [List.getElem_take]at e
   have hi:=(List.getElem?_eq_some_iff.mp ez)
   exact(List.pairwise_iff_getElem.mp nd j i (by omega) hi.1 (by omega)) (e.trans hi.2.symm)
  refine wpAny_setAddHashed_of (knd:=strKind prog w) (s:={ s' with toks:=s'.toks+1 }) (strKind_is _ _ _ _) rfl x' (by omega) λh' sb x2=>?_
  have x3:lE prog w S zs (i+1) h':=SetOf_congr x2 (λk'=>by
   unfold inS
   rw [List.take_add_one,ez,Bool.eq_iff_iff]
   simp) (by rw [new];rfl)
  refine wpAny_pure ⟨plainId_quiet F.plain_set_update_loop _,ih (i+1) _ (by omega) (by omega) (W.frame _ s' _ _ st' (Nat.le_succ _) λb hb o e=>?_) x3 λs'' mv'' x4=>?_⟩
  ·rw [sb.2 b (λh:b=S=>hS (by rw [<- h];exact hb))];exact e
  ·refine fin s'' (Moved.trans W.gtrans ((mv.mono up).then_heap (Nat.le_succ _) λb o hb e=>?_) mv'') x4
   rw [sb.2 b (λh:b=S=>hb (by rw [h];exact List.mem_cons_self))];exact e
end
section
variable {prog:Program}{w:World}{A:Around}{E:Value->Shared->Prop}{s:Shared}
noncomputable abbrev fw (b:Bool):Obj:={ cls:=.type "set", dict:=none,data:=.set #[] 0 (.fresh 0 0 b) }
theorem qq:∀{vs:List Value}{zs:List Str},StrsAre vs zs->∀(i:Nat) (v:Value),vs[i]?=some v->∃z t,zs[i]?=some z/\v=.str z t
 | _,_,.nil,i,v,h=>by simp at h
 | _,_,.cons z t r,0,v,h=>⟨z,t,rfl,by simpa using h.symm⟩
 | _,_,.cons z t r,i+1,v,h=>by
  obtain⟨z',t',e1,e2⟩:=qq r i v (by simpa using h)
  exact⟨z',t',by simpa using e1,e2⟩
theorem lJ {l:Addr}{its:Array Value}{zs:List Str}{Q:Value->Shared->Prop} (hh:A.handled=none) (hl:s.heap.IsList l its) (hs:StrsAre its.toList zs) (nd:zs.Nodup) (hb:zs.length+1 < scanBound)
  (q:∀(h':Heap) (tk:Nat),lE prog w s.heap.objs.size zs zs.length h'->(∀a o,a < s.heap.objs.size->s.heap.get? a=some o->h'.get? a=some o)->Q (.ref s.heap.objs.size) { s with heap:=h',toks:=tk }) :
  wpAny (model prog w) A (call (.type "set") [.ref l]) Q E s:=by
 have ft:=PySem.F.called_set
 obtain⟨c0,tl0,m0⟩:=ft.mro
 have m1:=ft.made
 have m2:=ft.sub
 have hlen:its.size=zs.length:=by
  have:=hs.length
  rw [Array.length_toList]at this
  exact this
 refine wpAny_call (codeAny_of_tree ?_)
 show wpAny _ _ (callAny (.type "set") _) _ _ _
 refine wpAny_pure ⟨Code.quiet_builtin _ (by decide +kernel),codeAny_builtin PySem.F.entry_type_call ?_⟩
 rw [Around.under_plain (weight_type_call_type "set" [.ref l] []) rfl]
 have m3:=ft.notType
 have m4:=ft.canCreate
 have m5:=PySem.F.typeCall_set_1 (.ref l)
 repeat (any_goals (first | assumption | wp_step))
 refine codeAny_mono (PySem.code_set_new_1 (.ref l) (E:=E) (Q₁:=λo s1=>∃b:Bool,o=.ref s.heap.objs.size/\s1={ s with heap:=s.heap.push (fw b) }) λb=>⟨b,rfl,rfl⟩) λr s1 hr=>?_
 cases r with
 | error e=>exact hr
 | ok fl=>
  cases fl with
  | ret o=>
   obtain⟨b,rfl,rfl⟩:=hr
   have hS:(s.heap.push (fw b)).get? s.heap.objs.size=some (fw b):=Heap.get?_push_size _ rfl
   have hT:Shared.TypeIs { s with heap:=s.heap.push (fw b) } (.ref s.heap.objs.size) "set":=⟨_,hS,rfl⟩
   have n1:=ft.init.lookup
   have n2:=ft.init.bind (.ref s.heap.objs.size)
   repeat (any_goals (first | assumption | wp_step))
   refine codeAny_mono (codeAny_call_builtin (R:=wants (λr s2=>r=.none/\∃h' tk,s2={ s with heap:=h',toks:=tk }/\lE prog w s.heap.objs.size zs zs.length h'/\∀a o,a < s.heap.objs.size->s.heap.get? a=some o->h'.get? a=some o) E) ft.init.plain PySem.F.entry_set_init (PySem.check_set_init_1 hT ?_)) λr2 s2 hr2=>?_
   ·obtain⟨ol,hol,hcl,nl,hdl⟩:=hl
    obtain⟨oc,od,oa,os⟩:=ol
    simp only at hcl hdl
    subst hcl;subst hdl
    have ho1:(s.heap.push (fw b)).get? l=some { cls:=.type "list", dict:=od,data:=.seq its nl,slots:=os }:=Heap.get?_push_of_some _ hol
    have k1:=PySem.F.sub_list_set
    have k2:=PySem.F.sub_list_frozenset
    have k3:(Value.type "list" == Value.type "dict")=false:=by decide
    have l1:(s.heap.push (fw b)).IsList l its:=⟨_,ho1,rfl,nl,rfl⟩
    have lS:l < s.heap.objs.size:=Heap.lt_size hol
    unfold Builtin.«set.__init__» noKeywords Builtin.Frozenset.updateFrom
    generalize eI:pyIter=PI
    wp_walk
    subst eI
    refine wpAny_pyIter_list l1 ?_
    refine wpAny_bind (wpAny_runValue ?_)
    have zp:(s.heap.push (fw b)).objs.size=s.heap.objs.size+1:=Heap.size_push _ _
    have d1:l≠(s.heap.push (fw b)).objs.size:=by rw [zp];exact Nat.ne_of_lt (Nat.lt_succ_of_lt lS)
    have d2:s.heap.objs.size∉[(s.heap.push (fw b)).objs.size,l]:=by
     rw [zp]
     intro z
     rcases List.mem_cons.mp z with z | z
     ·exact Nat.ne_of_lt (Nat.lt_succ_self _) z
     ·exact Nat.ne_of_gt lS (List.mem_singleton.mp z)
    have W:=(Walks.list (prog:=prog) (w:=w) (A:=A.in1.in1.in1) (by simp [hh]) _ l d1 its).toS
    rw [hlen]at W
    refine tO W s.heap.objs.size d2 (λi v hv=>qq hs i v (by rw [Array.getElem?_toList];exact hv)) nd hb (zs.length - 0) 0 _ (by omega) (Nat.zero_le _) ⟨⟨_,Heap.get?_push_size _ rfl,rfl,rfl⟩,l1.push _⟩ ?s0 ?fin
    case s0=>
     exact SetOf_congr ((setObjOf_fresh (knd:=strKind prog w) b).setOf (Heap.get?_push_of_some _ hS) (by unfold scanBound;omega)) (λ_=>by unfold inS;simp) rfl
    case fin=>
     intro s' mv x
     obtain⟨h',g',d',tk',os'⟩:=s'
     obtain rfl:g'=s.gens:=mv.gens
     obtain rfl:d'=s.drawn:=mv.drawn
     obtain rfl:os'=s.os:=mv.os
     refine wpAny_pure ?_
     show wpAny _ _ (ret Value.none) _ _ _
     refine wpAny_pure ⟨rfl,h',tk',rfl,x,λa o ha e=>mv.heap a o (λz=>?_) (Heap.get?_push_of_some _ (Heap.get?_push_of_some _ e))⟩
     rcases List.mem_cons.mp z with z | z
     ·exact Nat.ne_of_lt ha z
     ·rw [zp]at z
      exact Nat.ne_of_lt (Nat.lt_succ_of_lt ha) (List.mem_singleton.mp z)
   ·cases r2 with
    | error e=>exact hr2
    | ok f2=>
     cases f2 with
     | ret r=>
      obtain⟨rfl,h',tk,rfl,x,kp⟩:=hr2
      repeat (any_goals (first | assumption | wp_step))
      exact q _ _ x kp
     | _=>exact hr2.elim
  | _=>exact hr.elim
end
end L2
namespace L2
open PySem PySem.Spec PyProof.Rows
theorem sR {X:Cx} (hc:X.calm=true):eM X (.type "set") (λxs H Q=>∃(a:Addr) (zs:List Str),xs=[.ref a]/\SqL X.K H a (zs.map V.str)/\zs.Nodup/\zs.length<=1000/\∀p,H p=none->Q (.ref p) (upd H p (.ext (lE X.prog X.w p zs zs.length)))):=by
 intro pins s σ H xs us Q I r h
 obtain⟨a,zs,rfl,hS,nd,hz,q⟩:=h
 obtain⟨u,rfl,ru⟩:=fK r
 cases (show u=Value.ref a from ru)
 obtain⟨its,rv,p,_⟩:=I.list hS
 refine lJ (I.ok.hd hc) p.isList (by simpa using mV rv) nd (by unfold scanBound;omega) λh' tk x kp=>?_
 refine⟨.ref s.heap.objs.size,_,I.laid (o:=.ext (lE X.prog X.w s.heap.objs.size zs zs.length)) (t':=tk) (h':=h') (λb u e=>kp b u (Heap.lt_size e) e) (Nat.le_refl _) (by
  obtain⟨o,_,_,_,e,_⟩:=id x
  exact⟨x,⟨o,e⟩,λh1 h2 e k=>e.at k⟩),rfl,q _ (I.hok.fresh (Nat.le_refl _))⟩
theorem sS {X:Cx}:eM X (.builtin "len") (λxs H Q=>∃(a:Addr) (zs:List Str),xs=[.ref a]/\H a=some (.ext (lE X.prog X.w a zs zs.length))/\Q (.int zs.length) H):=by
 intro pins s σ H xs us Q I r h
 obtain⟨a,zs,rfl,hS,q⟩:=h
 obtain⟨u,rfl,ru⟩:=fK r
 cases (show u=Value.ref a from ru)
 obtain⟨o,es,ep,t,ho,hex,hd,_,_,hb,hf,hn⟩:=(show bG X.prog X.w H s.heap a _ from I.hok a _ hS).1
 refine call_len_set ho hex hd hf (by unfold scanBound at hb;omega) ⟨.int zs.length,H,I.tok _,⟨_,by rw [hn]⟩,q⟩
theorem gT:plainId "dict.update.loop" = true:=by decide +kernel
theorem mF:entryFor table "dict.update.loop" = some Builtin.«dict.update.loop»:=entryFor_of_tree (by kernel_rfl)
end L2
namespace PySem
open PySem PySem.Spec
theorem wA:typeLookup (.type "list") "__getattr__" = pure none:=by rw [typeLookup_type,builtinLookup_eq_fast];kernel_rfl
theorem wz:typeLookup (.type "list") "keys" = pure none:=by rw [typeLookup_type,builtinLookup_eq_fast];kernel_rfl
section
variable {prog:Program}{w:World}{A:Around}{E:Value->Shared->Prop}{h:Heap}{g:Array GenState}{d:Drawn}{t:Nat}{os:OsState}{a:Addr}{o:Obj}
theorem ku:isSubtype (.type "AttributeError") (.type "AttributeError")=pure true:=by rw [isSubtype_type];kernel_rfl
theorem q8 (vs:List Value):firstArgMember (.type "AttributeError") vs=pure .none:=by
 have e:((Manifest.find? "AttributeError").elim false λt=>t.mro.contains "StopIteration" || t.mro.contains "SystemExit")=false:=by kernel_rfl
 simp only [firstArgMember,e]
 rfl
theorem pC {α:Type}{name msg:Str}{s:Shared}{Q:α->Shared->Prop} (hm:msg.length<=sizeLine) (hh:A.handled=none)
  (hq:∀h' tk e,(∀b o,s.heap.get? b=some o->h'.get? b=some o)->(∃ob,h'.get? e=some ob/\ob.cls=.type "AttributeError")->E (.ref e) { s with heap:=h',toks:=tk }) :
  wpAny (model prog w) A (raiseAttrError (.ref a) name msg) Q E s:=by
 unfold raiseAttrError
 refine wpAny_bind (wpAny_mkStr ?_ hm)
 refine wpAny_bind ?_
 unfold newExc newTuple
 refine wpAny_bind (wpAny_newObj_type ?_ (by show 1<=sizeLine;decide))
 refine wpAny_bind (m:=firstArgMember _ _) (wpAny_of_eq (q8 _) ?_)
 refine wpAny_newObj_type ?_ (by first | trivial | size_fits)
 refine wpAny_bind (wpAny_mkText ?_)
 have hT:∀tk,Shared.TypeIs { s with heap:=(s.heap.push { cls:=.type "tuple", data:=.seq #[Value.str msg s.toks] }).push { cls:=.type "AttributeError", data:=.fields (#[Value.ref s.heap.objs.size,.none,.none,.none,.bool false,.none]++ownMembersOf (.type "AttributeError") [Value.str msg s.toks]) },toks:=tk } (.ref (s.heap.push { cls:=.type "tuple", data:=.seq #[Value.str msg s.toks] }).objs.size) "AttributeError":=λtk=>⟨_,Heap.get?_push_size _ rfl,rfl⟩
 have hG:((s.heap.push { cls:=.type "tuple", data:=.seq #[Value.str msg s.toks] }).push { cls:=.type "AttributeError", data:=.fields (#[Value.ref s.heap.objs.size,.none,.none,.none,.bool false,.none]++ownMembersOf (.type "AttributeError") [Value.str msg s.toks]) }).get? (s.heap.push { cls:=.type "tuple", data:=.seq #[Value.str msg s.toks] }).objs.size=some { cls:=.type "AttributeError", data:=.fields (#[Value.ref s.heap.objs.size,.none,.none,.none,.bool false,.none]++ownMembersOf (.type "AttributeError") [Value.str msg s.toks]) }:=Heap.get?_push_size _ rfl
 refine wpAny_bind ?_
 unfold noteAttr lacksNameAndObj
 refine wpAny_bind ?_
 refine wpAny_bind (wpAny_isInstance (hT _) ku ?_)
 rw [if_neg (by decide)]
 refine wpAny_bind (wpAny_load hG ?_)
 rw [show ownMembersOf (.type "AttributeError") [Value.str msg s.toks] = #[unsetMember,unsetMember] from rfl]
 refine wpAny_pure ?_
 rw [if_pos rfl]
 refine wpAny_bind (wpAny_rule ?_)
 refine wpAny_bind (wpAny_typeOf (hT _) ?_)
 unfold layMembers
 refine wpAny_bind (wpAny_load hG ?_)
 refine wpAny_update hG ?_
 unfold raiseNew
 refine wpAny_bind (wpAny_handled ?_)
 rw [hh]
 refine wpAny_bind (wpAny_pure (wpAny_throw ?_))
 refine hq _ _ _ (λb o e=>?_) ⟨_,Heap.get?_update_self _ hG (Obj.isFreed_of_fields (Obj.data_mapFields rfl _)),Obj.cls_mapFields _ _⟩
 rw [Heap.get?_update_ne _ _ _ _ (Nat.ne_of_lt (Nat.lt_of_lt_of_le (Heap.lt_size e) (by simp)))]
 exact Heap.get?_push_of_some _ (Heap.get?_push_of_some _ e)
theorem pU {tk:Tok}{Q:Fin->Shared->Prop} (hh:A.handled=none){its:Array Value}{n:Nat}{sl:Array (Option Value)} (hx:h.get? a=some { cls:=.type "list", dict:=none,data:=.seq its n,slots:=sl })
  (hq:∀h' tk' e,(∀b o,h.get? b=some o->h'.get? b=some o)->(∃ob,h'.get? e=some ob/\ob.cls=.type "AttributeError")->E (.ref e) ⟨h',g,d,tk',os⟩) :
  wpAny (model prog w) A (Builtin.«object.__getattribute__» ⟨[.ref a,.str "keys" tk],[]⟩) Q E ⟨h,g,d,t,os⟩:=by
 have hT:(⟨h,g,d,t,os⟩:Shared).TypeIs (.ref a) "list":=⟨_,hx,rfl⟩
 have f4:=wz
 repeat (any_goals (first | assumption | wp_step))
 exact pC (Nat.le_of_ble_eq_true (by kernel_rfl)) hh hq
theorem wB {tk:Tok}{Q:Value->Shared->Prop} (hh:A.handled=none){its:Array Value}{n:Nat}{sl:Array (Option Value)} (hx:h.get? a=some { cls:=.type "list", dict:=none,data:=.seq its n,slots:=sl })
  (hq:∀h' tk' e,(∀b o,h.get? b=some o->h'.get? b=some o)->(∃ob,h'.get? e=some ob/\ob.cls=.type "AttributeError")->E (.ref e) ⟨h',g,d,tk',os⟩) :
  wpAny (model prog w) A (getAttrBy (.ref a) (.str "keys" tk) false) Q E ⟨h,g,d,t,os⟩:=by
 have hT:(⟨h,g,d,t,os⟩:Shared).TypeIs (.ref a) "list":=⟨_,hx,rfl⟩
 have f2:=F.slot_list_getattribute.lookup
 have f3:=F.slot_list_getattribute.bind (.ref a)
 repeat (any_goals (first | assumption | wp_step))
 refine codeAny_call_builtin F.slot_list_getattribute.plain F.entry_list_ga (F.slot_list_getattribute.check _ _ _ _ _ _ _ _ hT (F.args_list_getattribute_2 _ _) (pU (by simp [hh]) hx λh' tk' e k x=>?_))
 dsimp only
 unfold getattributeRaised
 have hTe:(⟨h',g,d,tk',os⟩:Shared).TypeIs (.ref e) "AttributeError":=x
 have s1:=ku
 have s2:=wA
 repeat (any_goals (first | assumption | wp_step))
 exact hq _ _ _ k x
theorem no_keys {Q:Option Value->Shared->Prop}{s:Shared} (hh:A.handled=none){its:Array Value}{n:Nat}{sl:Array (Option Value)} (hx:s.heap.get? a=some { cls:=.type "list", dict:=none,data:=.seq its n,slots:=sl })
  (hq:∀h' tk',(∀b o,s.heap.get? b=some o->h'.get? b=some o)->Q none { s with heap:=h',toks:=tk' }):wpAny (model prog w) A (getAttr? (.ref a) "keys") Q E s:=by
 obtain⟨h,g,d,t,os⟩:=s
 unfold getAttr? getAttrBy?
 refine wpAny_bind (wpAny_mkText ?_)
 refine wpAny_bind (wpAny_attempt (wB hh hx λh' tk' e k x=>?_))
 refine wpAny_bind (wpAny_isInstance x ku ?_)
 exact wpAny_pure (hq _ _ k)
end
end PySem
namespace L2
open PySem PySem.Spec PyProof.Rows
section
variable {prog:Program}{w:World}{A:Around}{R:Result->Shared->Prop}{it:Addr}{fp wr:List Addr}{G:Array GenState->Array GenState->Prop}{P:Nat->Value->Prop}{St:Nat->Shared->Prop}
theorem oJ (kvs:List (Key × Value)) (p:Key × Value):merged [] (kvs++[p])=stored (merged [] kvs) p.1 p.2:=by
 unfold merged
 rw [List.foldl_append]
 rfl
theorem p9 (kvs:List (Key × Value)) (k:Key) (v:Value):(stored kvs k v).length<=kvs.length+1:=by
 unfold stored
 split
 ·rw [List.length_map];omega
 ·rw [List.length_append];exact Nat.le_refl _
theorem kR:∀(ms kvs:List (Key × Value)),(merged kvs ms).length<=kvs.length+ms.length
 | [],kvs=>Nat.le_refl _
 | p::ms,kvs=>by
  have h1:=kR ms (stored kvs p.1 p.2)
  have h2:=p9 kvs p.1 p.2
  show (merged (stored kvs p.1 p.2) ms).length<=_
  rw [List.length_cons]
  omega
theorem sK {kvs:List (Key × Value)}{hb:Heap} (W:WalksS prog w A.in1 it fp wr G kvs.length P St) (S:Addr) (hS:S∉fp)
  (tp:∀j v,P j v->∃y x p u,kvs[j]?=some (y,x)/\v=.ref p/\p≠S/\p∉wr/\IsTup hb p #[u,x]/\(be prog w).is y u=true) (hz:kvs.length<=1000) :
  ∀(k i:Nat) (s:Shared),kvs.length - i=k->i<=kvs.length->St i s->s.heap.DictOf (be prog w) S (merged [] (kvs.take i))->(∀b o,b∉S::wr->hb.get? b=some o->s.heap.get? b=some o)->
   (∀s',Moved (S::wr) G s s'->s'.heap.DictOf (be prog w) S (merged [] kvs)->R (.ok (.ret .none)) s')->
   codeAny (model prog w) A (.builtin "dict.update.loop" ⟨[.ref S,.ref it,rawInt (i:Int),.none],[]⟩) R s:=by
 have nw:S∉wr:=λz=>hS (W.sub _ z)
 have up:∀b∈wr,b∈S::wr:=λb z=>List.mem_cons_of_mem _ z
 intro k
 induction k with
 | zero=>
  intro i s ek le st x kp fin
  have e:i=kvs.length:=by omega
  subst e
  rw [List.take_length]at x
  refine codeAny_builtin mF ?_
  rw [Around.under_plainId gT _]
  show wpAny _ A.in1 (pyNext (.ref it) >>= _) _ _ s
  refine wpAny_bind (W.done s _ _ st λs' mv=>?_)
  refine wpAny_bind (wpAny_pure ?_)
  exact wpAny_pure (fin s' (mv.mono up) (x.at λo e=>mv.heap S o nw e))
 | succ k ih=>
  intro i s ek le st x kp fin
  refine codeAny_builtin mF ?_
  rw [Around.under_plainId gT _]
  show wpAny _ A.in1 (pyNext (.ref it) >>= _) _ _ s
  refine wpAny_bind (W.item i s _ _ (by omega) st λv s' pv st' mv=>?_)
  obtain⟨y,z,p,u,ez,rfl,pS,pw,tt,hu⟩:=tp i v pv
  have x':=x.at λo e=>mv.heap S o nw e
  have pn:p∉S::wr:=λq=>by
   rcases List.mem_cons.mp q with q | q
   ·exact pS q
   ·exact pw q
  obtain⟨o,ho,oc,n,od⟩:=tt
  have ho':s'.heap.get? p=some o:=mv.heap p o pw (kp p o pn ho)
  refine wpAny_bind (wpAny_holding ?_)
  refine wpAny_bind (wpAny_tryCatch ?_)
  unfold Builtin.Dict.pairItems
  refine wpAny_bind (wpAny_typeOf (T:="tuple") ⟨o,ho',oc⟩ ?_)
  rw [if_pos (by decide)]
  refine wpAny_bind (wpAny_seqItems ho' od ?_)
  refine wpAny_pure ?_
  show wpAny _ _ (holding [u,z] (dictSet S u z)) _ _ _
  refine wpAny_holding ?_
  have hln:=kR (kvs.take i) []
  rw [List.length_take,List.length_nil]at hln
  refine wpAny_dictSet_pairs hu x' (λh' dd sb=>?_) (by rw [sizeLine_eq];omega)
  have et:kvs.take (i+1)=kvs.take i++[(y,z)]:=by rw [List.take_add_one,ez];rfl
  refine wpAny_pure ⟨plainId_quiet gT _,?_⟩
  have step:=ih (i+1) { s' with heap:=h',toks:=s'.toks+1 } (by omega) (by omega) (W.frame _ s' _ _ st' (Nat.le_succ _) λb hb o e=>?_) (by rw [et,oJ];exact dd) (λb o hb e=>?_) (λs'' mv'' x4=>?_)
  ·have e1:rawInt ((i+1:Nat):Int)=rawInt ((i:Int)+1):=by push_cast;rfl
   rw [e1]at step
   exact step
  ·rw [sb.2 b (λh:b=S=>hS (by rw [<- h];exact hb))];exact e
  ·rw [sb.2 b (λh:b=S=>hb (by rw [h];exact List.mem_cons_self))]
   exact mv.heap b o (λq=>hb (up b q)) (kp b o hb e)
  ·refine fin s'' (Moved.trans W.gtrans ((mv.mono up).then_heap (Nat.le_succ _) λb o hb e=>?_) mv'') x4
   rw [sb.2 b (λh:b=S=>hb (by rw [h];exact List.mem_cons_self))];exact e
end
section
variable {prog:Program}{w:World}{A:Around}{E:Value->Shared->Prop}{s:Shared}
theorem jH {l:Addr}{its:List Value}{n:Nat}{kvs:List (Key × Value)}{Q:Value->Shared->Prop} (hh:A.handled=none) (hl:s.heap.get? l=some { cls:=.type "list", dict:=none,data:=.seq its.toArray n,slots:=#[] })
  (tp:∀(j:Nat) (v:Value),its[j]?=some v->∃y x p u,kvs[j]?=some (y,x)/\v=.ref p/\IsTup s.heap p #[u,x]/\(be prog w).is y u=true) (hk:kvs.length=its.length) (hz:kvs.length<=1000)
  (q:∀(h':Heap) (tk:Nat),h'.DictOf (be prog w) s.heap.objs.size (merged [] kvs)->(∀a o,s.heap.get? a=some o->h'.get? a=some o)->Q (.ref s.heap.objs.size) { s with heap:=h',toks:=tk }) :
  wpAny (model prog w) A (call (.type "dict") [.ref l]) Q E s:=by
 refine callType_codes (Q₁:=λo s1=>o=.ref s.heap.objs.size/\s1={ s with heap:=s.heap.push { cls:=.type "dict", data:=.dict #[] } }) PySem.F.kt_called_dict (PySem.F.kt_typeCall_dict_1 _) PySem.F.entry_dict_init (kt_code_dict_new _ ⟨rfl,rfl⟩) ?_
 rintro o s1 ⟨rfl,rfl⟩
 have hn:(s.heap.push { cls:=.type "dict", data:=.dict #[] }).DictOf (be prog w) s.heap.objs.size []:=Heap.DictOf.new s.heap
 have hl1:(s.heap.push { cls:=.type "dict", data:=.dict #[] }).get? l=some { cls:=.type "list", dict:=none,data:=.seq its.toArray n,slots:=#[] }:=Heap.get?_push_of_some _ hl
 have lS:l < s.heap.objs.size:=Heap.lt_size hl
 refine⟨hn.typeIs,PySem.F.args_dict_init_2 _ _,?_⟩
 unfold Builtin.«dict.__init__»
 refine wpAny_bind ?_
 unfold Builtin.Dict.selfAndRest
 refine wpAny_bind (wpAny_notOrdered_dict hn.typeIs ?_)
 refine wpAny_pure ?_
 show wpAny _ _ (Builtin.Dict.updateFrom "dict.__init__" s.heap.objs.size (.ref l) [] .none) _ _ _
 unfold Builtin.Dict.updateFrom
 refine wpAny_bind (wpAny_typeOf (T:="list") ⟨_,hl1,rfl⟩ ?_)
 rw [if_pos (by decide)]
 refine wpAny_bind (PySem.no_keys (by simp [hh]) hl1 λh2 tk2 k2=>?_)
 rw [if_pos (show (Option.isNone (none:Option Value))=true from rfl)]
 refine wpAny_bind (wpAny_rule ?_)
 have l2:h2.IsList l its.toArray:=⟨_,k2 _ _ hl1,rfl,n,rfl⟩
 refine wpAny_bind (wpAny_pyIter_list l2 ?_)
 have z2:s.heap.objs.size < h2.objs.size:=by
  obtain⟨o,_,_,e,_⟩:=hn
  exact Heap.lt_size (k2 _ _ e)
 have d1:l≠h2.objs.size:=Nat.ne_of_lt (Nat.lt_trans lS z2)
 have W:=(Walks.list (prog:=prog) (w:=w) (A:=A.in1.in1) (by simp [hh]) h2.objs.size l d1 its.toArray).toS
 have ez:its.toArray.size=kvs.length:=by rw [List.size_toArray,hk]
 rw [ez]at W
 refine wpAny_pure ⟨plainId_quiet gT _,?_⟩
 refine sK (hb:=s.heap) W s.heap.objs.size (λz=>?_) (λj v hv=>?_) hz (kvs.length - 0) 0 _ (by omega) (Nat.zero_le _) ⟨⟨_,Heap.get?_push_size _ rfl,rfl,rfl⟩,l2.push _⟩ ?_ (λb o hb e=>?_) λs' mv dd=>?_
 ·rcases List.mem_cons.mp z with z | z
  ·exact Nat.ne_of_lt z2 z
  ·exact Nat.ne_of_gt lS (List.mem_singleton.mp z)
 ·obtain⟨y,x,p,u,e1,e2,e3,e4⟩:=tp j v (by simpa using hv)
  have lp:p < s.heap.objs.size:=by
   obtain⟨o,e,_⟩:=e3
   exact Heap.lt_size e
  exact⟨y,x,p,u,e1,e2,Nat.ne_of_lt lp,λz=>Nat.ne_of_lt (Nat.lt_trans lp z2) (List.mem_singleton.mp z),e3,e4⟩
 ·exact(hn.at λo e=>k2 _ _ e).push _
 ·exact Heap.get?_push_of_some _ (k2 _ _ (Heap.get?_push_of_some _ e))
 ·obtain⟨h',g',d',tk',os'⟩:=s'
  obtain rfl:g'=s.gens:=mv.gens
  obtain rfl:d'=s.drawn:=mv.drawn
  obtain rfl:os'=s.os:=mv.os
  refine⟨rfl,q h' tk' dd λa o e=>mv.heap a o (λz=>?_) (Heap.get?_push_of_some _ (k2 _ _ (Heap.get?_push_of_some _ e)))⟩
  have la:=Heap.lt_size e
  rcases List.mem_cons.mp z with z | z
  ·exact Nat.ne_of_lt la z
  ·exact Nat.ne_of_lt (Nat.lt_trans la z2) (List.mem_singleton.mp z)
end
theorem qg {X:Cx} (hc:X.calm=true):eM X (.type "dict") (λxs H Q=>∃(l:Addr) (ps:List Addr) (kvs:List (Key × V)),xs=[.ref l]/\H l=some (.lst (ps.map V.ref))/\Paired (λp (kv:Key × V)=>H p=some (.tup [kV kv.1,kv.2])) ps kvs/\(kvs.map (·.1)).Nodup/\kvs.length<=1000/\
  ∀p,H p=none->Q (.ref p) (upd H p (.dK kvs))):=by
 intro pins s σ H xs us Q I r h
 obtain⟨l,ps,kvs,rfl,hl,hp,nd,hz,q⟩:=h
 obtain⟨u,rfl,ru⟩:=fK r
 cases (show u=Value.ref l from ru)
 obtain⟨its,n,rv,ho,hzz⟩:=I.lst hl
 clear hzz
 obtain rfl:=gC rv
 have key:∃vs:List (Key × Value),KV kvs vs/\∀(j:Nat) (p:Addr),ps[j]?=some p->∃y x u,vs[j]?=some (y,x)/\IsTup s.heap p #[u,x]/\(be X.prog X.w).is y u=true:=by
  clear ho rv q hl nd hz
  induction hp with
  | nil=>exact⟨[],.nil,λj p e=>by simp at e⟩
  | @cons p kv ps kvs e _ ih=>
   obtain⟨vs,rk,hv⟩:=ih
   obtain⟨_,ts,rt,it⟩:=(show bG X.prog X.w H s.heap p (.tup [kV kv.1,kv.2]) from I.hok p _ e)
   obtain⟨u1,u2,rfl,r1,r2⟩:=qo rt
   refine⟨(kv.1,u2)::vs,.cons ⟨rfl,r2⟩ rk,λj p' e'=>?_⟩
   cases j with
   | zero=>
    cases (show some p=some p' from e')
    exact⟨kv.1,u2,u1,rfl,it,jA r1⟩
   | succ j=>exact hv j p' e'
 obtain⟨vs,rk,hv⟩:=key
 have hlen:vs.length=kvs.length:=(Paired.length rk).symm
 have hpl:ps.length=kvs.length:=Paired.length hp
 have big:sysModules < s.heap.objs.size:=I.big
 refine jH (kvs:=vs) (its:=ps.map Value.ref) (I.ok.hd hc) ho (λj v e=>?_) (by rw [List.length_map];omega) (by omega) λh' tk dd kp=>?_
 ·rw [List.getElem?_map]at e
  cases ep:ps[j]? with
  | none=>rw [ep]at e;cases e
  | some p=>
   rw [ep]at e
   cases e
   obtain⟨y,x,u,e1,e2,e3⟩:=hv j p ep
   exact⟨y,x,p,u,e1,rfl,e2,e3⟩
 ·have nd2:(vs.map (·.1)).Nodup:=by rw [<- KV.keys rk];exact nd
  rw [merged_nil_of_nodup vs nd2]at dd
  refine⟨.ref s.heap.objs.size,_,I.laid (o:=.dK kvs) (t':=tk) (h':=h') kp (Nat.le_refl _) (nM (by rw [sizeLine_eq];omega) (beq_eq_false_iff_ne.mpr (Ne.symm (Nat.ne_of_lt big))) rk dd),rfl,q _ (I.hok.fresh (Nat.le_refl _))⟩
end L2
namespace L2
open PySem PySem.Spec PyProof.Rows PySem.Builtin PySem.Builtin.ObjectAttr
section
variable {prog:Program}{w:World}{A:Around}{E:Value->Shared->Prop}{s:Shared}{K:PySem.W.Frag}{x C U:Addr}{ox:Obj}{od:Option Obj}{cd:ClassData}{name:Str}{v:Value}
end
section
variable {prog:Program}{w:World}{A:Around}{E:Value->Shared->Prop}{h:Heap}{g:Array GenState}{d:Drawn}{t:Nat}{os:OsState}
variable {nm q:Str}{C N f:Addr}{bs bm bmB bmN:List Value}{hdct:Bool}{sn:List Str}{sub:List Value}{ab:Bool}{col:Option Bool}{dd:Option Addr}{k0 k1 k2 k3 k5:Option Value}{B Bn newId nid initId inN:String}
end
end L2
namespace L2
open PySem PySem.Spec PyProof.Rows
section
variable {X:Cx}{pins:List (Addr × Obj)}{σ:St}{H:Hp}{s:Shared}
end
section
variable {X:Cx}
end
end L2
namespace L2
open PySem PySem.Spec PyProof.Rows
structure FunD (K:PySem.W.Frag) (x qual:Str) (st:Stmt) (dV:Value) (f:Addr) (fd:FuncData):Prop where
 ex:∃(oc:Value) (od:Option Addr) (kV doc pm:Value) (an:Option Addr) (cdv ct:Value) (osl:Array (Option Value)),
  fd=PySem.W.fnOf x qual (az st) (au st) (ah st) dV kV doc pm an cdv ct/\K.lookup f=some ⟨oc,od,.func fd,osl⟩/\PySem.W.codeIn K cdv qual=true
 kp:PySem.W.keepIn K (.ref f)=true
section
variable {P:Program}{w:World}{K:PySem.W.Frag}{mg:Str->Option Value}{base:Heap}
theorem FunD.ok {x qual:Str}{st:Stmt}{dV:Value}{f:Addr}{fd:FuncData}{N ps:List Str}{k:Nat}{sp:Sp} (F:FunD K x qual st dV f fd) (S:FnScope N ps (ah st)) (len:∀vs H Q E,sp vs H Q E->vs.length=ps.length)
  (body:∀(cdv:Value) (A:Around) (outer:List Env) (s:Shared) (H:Hp) (vs:List V) (Q:VK) (E:XK),Room k (A.deeper (envOfC qual (ah st) s.heap.objs.size f cdv))->sp vs H Q E->
   ∃t,PSs (qc CX0 P w K mg base N qual (ah st) f cdv A outer s H E).nox (au st) t/\t { nx:=λ_ H'=>Q .non H',rt:=Q } (eR N vs) H):FnOk P w K mg base CX0 (k+1) f fd ps sp:=by
 obtain⟨oc,od,kV,doc,pm,an,cdv,ct,osl,rfl,lk,hcd⟩:=F.ex
 refine uQ lk hcd S len λA outer s H vs Q E hr hsp=>?_
 obtain⟨t,h,q⟩:=body cdv A outer s H vs Q E hr hsp
 exact⟨t,h.nox,q⟩
theorem FunD.mk' {x qual:Str}{st:Stmt}{dV:Value}{f:Addr}{oc:Value}{od an:Option Addr}{osl:Array (Option Value)}{kV doc pm cdv ct:Value} (l:K.lookup f=some ⟨oc,od,.func (PySem.W.fnOf x qual (az st) (au st) (ah st) dV kV doc pm an cdv ct),osl⟩)
  (c:PySem.W.codeIn K cdv qual=true) (k:PySem.W.keepIn K (.ref f)=true):FunD K x qual st dV f (PySem.W.fnOf x qual (az st) (au st) (ah st) dV kV doc pm an cdv ct):=⟨⟨oc,od,kV,doc,pm,an,cdv,ct,osl,rfl,l,c⟩,k⟩
theorem FunD.binds {x qual:Str}{st:Stmt}{T:Addr}{o:Obj}{n:Nat}{f:Addr}{fd:FuncData}{ps:List Str}{ds us0:List Value} (F:FunD K x qual st (.ref T) f fd) (ho:K.lookup T=some o) (hs:o.data=.seq #[Value.none] n)
  (h:∀(kV doc pm:Value) (an:Option Addr) (cdv ct:Value) (us:List Value),(us++ds).length=ps.length->∃k,bindArgs (PySem.W.fnOf x qual (az st) (au st) (ah st) (.ref T) kV doc pm an cdv ct) ⟨us,[]⟩=seqItems? (.ref T) >>= k/\k (some #[Value.none])=pure (ps.zip (us++ds))):eN K fd ps ds:=by
 obtain⟨oc,od,kV,doc,pm,an,cdv,ct,osl,rfl,lk,hcd⟩:=F.ex
 intro s us X hl
 obtain⟨k,h1,h2⟩:=h kV doc pm an cdv ct us hl
 exact PySem.W.binds_K X rfl ho hs h1 h2
end
end L2
namespace L2
open PySem PySem.Spec PyProof.Rows
noncomputable abbrev Fnd:=Str × Int × Int × Int × Int
noncomputable def p6 (r:Fnd):List V:=[.str r.1,.int r.2.1,.int r.2.2.1,.int r.2.2.2.1,.int r.2.2.2.2]
noncomputable abbrev wS:=Str × Int
noncomputable def yk (d:wS):List V:=[.str d.1,.int d.2]
structure Bk where
 ks:List Str
 fs:List Fnd
 gs:List (Key × V)
 ds:List wS
noncomputable def dY (gs:List (Key × V)) (n:Nat):Int:=match valV gs (Sum.inl (n:Int)) with
 | some (.int t)=>t
 | _=>99
noncomputable def fX (gs:List (Key × V)) (k:Str) (t d:Int) (n:Nat) (f:Fnd):Bool:=decide (f.1=k) && (decide (f.2.2.2.2<=t) && (decide (t < dY gs n) && (decide (f.2.1<=d) && decide (d<=f.2.2.1))))
noncomputable def cy (fs:List Fnd) (c:Nat->Fnd->Bool):Nat->Option Int
 | 0=>none
 | i+1=>match fs[i]? with
  | some f=>if c i f=true then some (i:Int) else cy fs c i
  | none=>cy fs c i
noncomputable def Bk.spk (B:Bk) (k:Str) (t d:Int):Option Int:=cy B.fs (fX B.gs k t d) B.fs.length
theorem cN {fs gs:List Fnd}{c c':Nat->Fnd->Bool}:∀{i:Nat},(∀j,j < i->fs[j]?=gs[j]?)->(∀j f,j < i->fs[j]?=some f->c j f=c' j f)->cy fs c i=cy gs c' i
 | 0,_,_=>rfl
 | i+1,h,g=>by
  unfold cy
  rw [<- h i (Nat.lt_succ_self i)]
  have ih:=cN (i:=i) (λj hj=>h j (Nat.lt_succ_of_lt hj)) λj f hj e=>g j f (Nat.lt_succ_of_lt hj) e
  cases e:fs[i]? with
  | none=>exact ih
  | some f=>
   dsimp only
   rw [g i f (Nat.lt_succ_self i) e,ih]
theorem kW (fs:List Fnd) (f:Fnd) (c:Nat->Fnd->Bool):cy (fs++[f]) c (fs++[f]).length=if c fs.length f=true then some (fs.length:Int) else cy fs c fs.length:=by
 rw [List.length_append]
 show cy (fs++[f]) c (fs.length+1)=_
 conv=>lhs;unfold cy
 have e:(fs++[f])[fs.length]?=some f:=by simp
 rw [e]
 dsimp only
 rw [cN (fs:=fs++[f]) (gs:=fs) (c:=c) (c':=c) (λj hj=>by rw [List.getElem?_append_left hj]) λ_ _ _ _=>rfl]
theorem iM {fs:List Fnd}{c:Nat->Fnd->Bool}:∀{i:Nat}{n:Int},cy fs c i=some n->∃(j:Nat) (f:Fnd),n=(j:Int)/\j < i/\fs[j]?=some f/\c j f=true
 | 0,_,h=>by cases h
 | i+1,n,h=>by
  unfold cy at h
  cases e:fs[i]? with
  | none=>
   rw [e]at h
   obtain⟨j,f,a,b,c1,d⟩:=iM (i:=i) h
   exact⟨j,f,a,Nat.lt_succ_of_lt b,c1,d⟩
  | some f=>
   rw [e]at h
   dsimp only at h
   by_cases hc:c i f=true
   ·rw [if_pos hc]at h
    cases h
    exact⟨i,f,rfl,Nat.lt_succ_self i,e,hc⟩
   ·rw [if_neg hc]at h
    obtain⟨j,f',a,b,c1,d⟩:=iM (i:=i) h
    exact⟨j,f',a,Nat.lt_succ_of_lt b,c1,d⟩
structure Bk.Ok (B:Bk):Prop where
 nd:B.ks.Nodup
 k1:1<=B.ks.length
 k8:B.ks.length<=8
 nm:∀k∈B.ks,Nm k
 fin:∀f∈B.fs,f.1∈B.ks/\0<=f.2.1/\f.2.1<=f.2.2.1/\f.2.2.1 < 400/\1<=f.2.2.2.2/\f.2.2.2.2<=B.ds.length
 gin:∀n v,valV B.gs n=some v->∃(i:Nat) (t:Int),n=Sum.inl (i:Int)/\v=.int t/\i < B.fs.length/\1<=t/\t<=B.ds.length
 gsz:B.gs.length<=B.ds.length
 fsz:B.fs.length<=B.ds.length
 dsz:B.ds.length<=60
 dw:∀d∈B.ds,Nm d.1
noncomputable def Bk.new (ks:List Str):Bk:=⟨ks,[],[],[]⟩
theorem Bk.new_ok {ks:List Str} (nd:ks.Nodup) (k1:1<=ks.length) (k8:ks.length<=8) (nm:∀k∈ks,Nm k):(Bk.new ks).Ok:=
 ⟨nd,k1,k8,nm,(λ_ h=>nomatch h),λn v h=>by simp [Bk.new,valV]at h,Nat.le_refl _,Nat.le_refl _,Nat.zero_le _,λ_ h=>nomatch h⟩
noncomputable def ki:Str:=Str.ofString "find"
noncomputable def kh:Str:=Str.ofString "withdraw"
noncomputable def Bk.find (B:Bk) (k:Str) (f l v:Int):Bk:=⟨B.ks,B.fs++[(k,f,l,v,(B.ds.length:Int)+1)],B.gs,B.ds++[(ki,(B.fs.length:Int))]⟩
noncomputable def Bk.withd (B:Bk) (n:Nat):Bk:=⟨B.ks,B.fs,cH B.gs (Sum.inl (n:Int)) (.int ((B.ds.length:Int)+1)),B.ds++[(kh,(n:Int))]⟩
theorem Bk.Ok.find {B:Bk} (O:B.Ok){k:Str}{f l v:Int} (hk:k∈B.ks) (h0:0<=f) (h1:f<=l) (h2:l < 400) (hr:B.ds.length < 60):(B.find k f l v).Ok:=by
 have el:((B.find k f l v).ds.length:Int)=(B.ds.length:Int)+1:=by simp [Bk.find]
 have elf:(B.find k f l v).fs.length=B.fs.length+1:=by simp [Bk.find]
 have eld:(B.find k f l v).ds.length=B.ds.length+1:=by simp [Bk.find]
 refine⟨O.nd,O.k1,O.k8,O.nm,λx hx=>?_,λn v' e=>?_,?_,?_,?_,λd hd=>?_⟩
 ·rcases List.mem_append.mp (show x∈B.fs++[(k,f,l,v,(B.ds.length:Int)+1)] from hx) with hx | hx
  ·obtain⟨a,b,c,d,e,g⟩:=O.fin x hx
   exact⟨a,b,c,d,e,by rw [el];omega⟩
  ·rw [List.mem_singleton.mp hx,el]
   exact⟨hk,h0,h1,h2,by show 1<=(B.ds.length:Int)+1;omega,Int.le_refl _⟩
 ·obtain⟨i,t,a,b,c,d,e'⟩:=O.gin n v' e
  exact⟨i,t,a,b,by omega,d,by rw [el];omega⟩
 ·rw [eld];exact Nat.le_succ_of_le O.gsz
 ·rw [elf,eld];exact Nat.succ_le_succ O.fsz
 ·rw [eld];exact hr
 ·rcases List.mem_append.mp hd with hd | hd
  ·exact O.dw d hd
  ·rw [List.mem_singleton.mp hd]
   show (ki.cps.all (· < 0x110000))=true
   decide +kernel
theorem Bk.Ok.withd {B:Bk} (O:B.Ok){n:Nat} (hn:n < B.fs.length) (hr:B.ds.length < 60):(B.withd n).Ok:=by
 have el:((B.withd n).ds.length:Int)=(B.ds.length:Int)+1:=by simp [Bk.withd]
 have eld:(B.withd n).ds.length=B.ds.length+1:=by simp [Bk.withd]
 refine⟨O.nd,O.k1,O.k8,O.nm,λx hx=>?_,λm v' e=>?_,?_,?_,?_,λd hd=>?_⟩
 ·obtain⟨a,b,c,d,e,g⟩:=O.fin x hx
  exact⟨a,b,c,d,e,by rw [el];omega⟩
 ·have e':valV (cH B.gs (Sum.inl (n:Int)) (.int ((B.ds.length:Int)+1))) m=some v':=e
  rw [fL]at e'
  split at e'
  ·rename_i hm
   cases e'
   exact⟨n,_,hm,rfl,hn,by omega,by rw [el];exact Int.le_refl _⟩
  ·obtain⟨i,t,a,b,c,d,g⟩:=O.gin m v' e'
   exact⟨i,t,a,b,c,d,by rw [el];omega⟩
 ·rw [eld]
  exact Nat.le_trans (du _ _ _) (Nat.succ_le_succ O.gsz)
 ·rw [eld];exact Nat.le_succ_of_le O.fsz
 ·rw [eld];exact hr
 ·rcases List.mem_append.mp hd with hd | hd
  ·exact O.dw d hd
  ·rw [List.mem_singleton.mp hd]
   show (kh.cps.all (· < 0x110000))=true
   decide +kernel
theorem Bk.Ok.gone {B:Bk} (O:B.Ok) (n:Nat):(valV B.gs (Sum.inl (n:Int))=none/\dY B.gs n=99)\/∃t:Int,valV B.gs (Sum.inl (n:Int))=some (.int t)/\dY B.gs n=t/\1<=t/\t<=B.ds.length:=by
 cases e:valV B.gs (Sum.inl (n:Int)) with
 | none=>exact .inl ⟨rfl,by unfold dY;rw [e]⟩
 | some v=>
  obtain⟨i,t,a,rfl,c,d,g⟩:=O.gin _ v e
  exact .inr ⟨t,rfl,by unfold dY;rw [e],d,g⟩
theorem Bk.Ok.find_old {B:Bk} (O:B.Ok){k:Str}{f l v:Int}{t:Int} (ht:t<=B.ds.length) (key:Str) (d:Int):(B.find k f l v).spk key t d=B.spk key t d:=by
 unfold Bk.spk Bk.find
 rw [kW]
 have:fX B.gs key t d B.fs.length (k,f,l,v,(B.ds.length:Int)+1)=false:=by
  unfold fX
  rw [decide_eq_false (show ¬(B.ds.length:Int)+1<=t by omega)]
  simp
 rw [this]
 rfl
theorem Bk.Ok.find_now {B:Bk} (O:B.Ok){k:Str}{f l v:Int} (key:Str) (d:Int) :
  (B.find k f l v).spk key ((B.ds.length:Int)+1) d=if k=key/\f<=d/\d<=l then some (B.fs.length:Int) else B.spk key B.ds.length d:=by
 have z:=O.dsz
 unfold Bk.spk Bk.find
 rw [kW]
 have g0:dY B.gs B.fs.length=99:=by
  rcases O.gone B.fs.length with⟨_,e⟩ | ⟨t,e,_⟩
  ·exact e
  ·obtain⟨i,t',a,b,c,_⟩:=O.gin _ _ e
   have:(B.fs.length:Int)=(i:Int):=Sum.inl.inj a
   omega
 have e1:fX B.gs key ((B.ds.length:Int)+1) d B.fs.length (k,f,l,v,(B.ds.length:Int)+1)=decide (k=key/\f<=d/\d<=l):=by
  unfold fX
  rw [g0,decide_eq_true (show (B.ds.length:Int)+1<=(B.ds.length:Int)+1 from Int.le_refl _),decide_eq_true (show (B.ds.length:Int)+1 < 99 by omega),Bool.eq_iff_iff]
  simp
 have e2:cy B.fs (fX B.gs key ((B.ds.length:Int)+1) d) B.fs.length=cy B.fs (fX B.gs key B.ds.length d) B.fs.length:=cN (λ_ _=>rfl) λj x hj e=>by
  obtain⟨_,_,_,_,_,tl⟩:=O.fin x (List.mem_of_getElem? e)
  unfold fX
  have a1:decide (x.2.2.2.2<=(B.ds.length:Int)+1)=decide (x.2.2.2.2<=(B.ds.length:Int)):=by rw [decide_eq_true (show x.2.2.2.2<=(B.ds.length:Int)+1 by omega),decide_eq_true tl]
  have a2:decide ((B.ds.length:Int)+1 < dY B.gs j)=decide ((B.ds.length:Int) < dY B.gs j):=by
   rcases O.gone j with⟨_,e⟩ | ⟨t,_,e,_,_⟩
   ·rw [e,decide_eq_true (show (B.ds.length:Int)+1 < 99 by omega),decide_eq_true (show (B.ds.length:Int) < 99 by omega)]
   ·rw [e,decide_eq_false (show ¬(B.ds.length:Int)+1 < t by omega),decide_eq_false (show ¬(B.ds.length:Int) < t by omega)]
  rw [a1,a2]
 rw [e1,e2]
 by_cases hc:k=key/\f<=d/\d<=l
 ·rw [if_pos hc,if_pos (decide_eq_true hc)]
 ·rw [if_neg hc,if_neg (by rw [decide_eq_false hc];decide)]
theorem sy (gs:List (Key × V)) (n j:Nat) (t:Int):dY (cH gs (Sum.inl (n:Int)) (.int t)) j=if j=n then t else dY gs j:=by
 unfold dY
 rw [fL]
 by_cases h:j=n
 ·subst h;rw [if_pos rfl,if_pos rfl]
 ·rw [if_neg (λz=>h (by have:=Sum.inl.inj z;omega)),if_neg h]
theorem Bk.Ok.withd_old {B:Bk} (O:B.Ok){n:Nat} (hg:valV B.gs (Sum.inl (n:Int))=none){t:Int} (ht:t<=B.ds.length) (key:Str) (d:Int):(B.withd n).spk key t d=B.spk key t d:=by
 have z:=O.dsz
 unfold Bk.spk Bk.withd
 refine cN (λ_ _=>rfl) λj x hj e=>?_
 unfold fX
 have a2:decide (t < dY (cH B.gs (Sum.inl (n:Int)) (.int ((B.ds.length:Int)+1))) j)=decide (t < dY B.gs j):=by
  rw [sy]
  by_cases h:j=n
  ·subst h
   have g0:dY B.gs j=99:=by unfold dY;rw [hg]
   rw [if_pos rfl,g0,decide_eq_true (show t < (B.ds.length:Int)+1 by omega),decide_eq_true (show t < 99 by omega)]
  ·rw [if_neg h]
 rw [a2]
noncomputable def lH (gs:List (Key × V)) (k:Str) (d:Int) (n:Nat) (f:Fnd):Bool:=decide (f.1=k) && ((valV gs (Sum.inl (n:Int))).isNone && (decide (f.2.1<=d) && decide (d<=f.2.2.1)))
theorem Bk.Ok.now {B:Bk} (O:B.Ok) (key:Str) (d:Int):B.spk key B.ds.length d=cy B.fs (lH B.gs key d) B.fs.length:=by
 have z:=O.dsz
 unfold Bk.spk
 refine cN (λ_ _=>rfl) λj x hj e=>?_
 obtain⟨_,_,_,_,_,tl⟩:=O.fin x (List.mem_of_getElem? e)
 unfold fX lH
 rw [decide_eq_true tl]
 rcases O.gone j with⟨e1,e2⟩ | ⟨t,e1,e2,_,_⟩
 ·rw [e1,e2,decide_eq_true (show (B.ds.length:Int) < 99 by omega)];rfl
 ·rw [e1,e2,decide_eq_false (show ¬(B.ds.length:Int) < t by omega)];rfl
theorem Bk.Ok.withd_other {B:Bk} (O:B.Ok){n:Nat}{f:Fnd} (hf:B.fs[n]?=some f) (hr:B.ds.length < 60){key:Str} (hk:key≠f.1) (d:Int):(B.withd n).spk key ((B.ds.length:Int)+1) d=B.spk key B.ds.length d:=by
 have O':=O.withd (List.getElem?_eq_some_iff.mp hf).1 hr
 have el:((B.withd n).ds.length:Int)=(B.ds.length:Int)+1:=by simp [Bk.withd]
 rw [<- el,O'.now,O.now]
 refine cN (λ_ _=>rfl) λj x hj e=>?_
 unfold lH
 by_cases h:j=n
 ·subst h
  have e':B.fs[j]?=some x:=e
  rw [hf]at e'
  cases e'
  rw [decide_eq_false (λz=>hk z.symm)]
  rfl
 ·have:valV (B.withd n).gs (Sum.inl (j:Int))=valV B.gs (Sum.inl (j:Int)):=by
   show valV (cH _ _ _) _=_
   rw [fL,if_neg (λz=>h (by have:=Sum.inl.inj z;omega))]
  rw [this]
end L2
namespace L2
open PySem PySem.Spec PyProof.Rows
noncomputable def bQ (rs:List aH):Prop:=∀r∈rs,0<=r.1/\r.1<=r.2.1/\r.2.1 < 400
theorem bQ.snoc {cs:List aH}{r:aH} (h:bQ cs) (h1:0<=r.1) (h2:r.1<=r.2.1) (h3:r.2.1 < 400):bQ (cs++[r]):=λc hc=>by
 rcases List.mem_append.mp hc with hc | hc
 ·exact h c hc
 ·rw [List.mem_singleton.mp hc];exact⟨h1,h2,h3⟩
structure BA where
 n:Addr
 f:Addr
 w:Addr
 d:Addr
 t:Addr
noncomputable def cW (a:BA):List (Str × V):=[("names", V.ref a.n),("findings", V.ref a.f),("withdrawals", V.ref a.w),("deeds", V.ref a.d),("tables", V.ref a.t)]
theorem yQ (a:BA):(cW a).lookup ("names" : Str)=some (.ref a.n):=rfl
theorem ie {x y:Str} (h:decide (x=y)=false):(x == y)=false:=by
 have:¬x=y:=of_decide_eq_false h
 simpa [beq_eq_false_iff_ne] using this
theorem oT (a:BA):(cW a).lookup ("findings" : Str)=some (.ref a.f):=by
 unfold cW
 rw [List.lookup_cons,ie (by decide +kernel)]
 rfl
theorem wM (a:BA):(cW a).lookup ("withdrawals" : Str)=some (.ref a.w):=by
 unfold cW
 rw [List.lookup_cons,ie (by decide +kernel),List.lookup_cons,ie (by decide +kernel)]
 rfl
theorem yR (a:BA):(cW a).lookup ("deeds" : Str)=some (.ref a.d):=by
 unfold cW
 rw [List.lookup_cons,ie (by decide +kernel),List.lookup_cons,ie (by decide +kernel),List.lookup_cons,ie (by decide +kernel)]
 rfl
theorem wN (a:BA):(cW a).lookup ("tables" : Str)=some (.ref a.t):=by
 unfold cW
 rw [List.lookup_cons,ie (by decide +kernel),List.lookup_cons,ie (by decide +kernel),List.lookup_cons,ie (by decide +kernel),List.lookup_cons,ie (by decide +kernel)]
 rfl
theorem bK (a:BA){m:Str} (h1:decide (m = "names")=false) (h2:decide (m = "findings")=false) (h3:decide (m = "withdrawals")=false) (h4:decide (m = "deeds")=false) (h5:decide (m = "tables")=false):(cW a).lookup m=none:=by
 unfold cW
 rw [List.lookup_cons,ie h1,List.lookup_cons,ie h2,List.lookup_cons,ie h3,List.lookup_cons,ie h4,List.lookup_cons,ie h5]
 rfl
theorem yc (a:BA):aW "tables" (.ref a.t) (aW "deeds" (.ref a.d) (aW "withdrawals" (.ref a.w) (aW "findings" (.ref a.f) (aW "names" (.ref a.n) []))))=cW a:=by
 have e1:¬(("names" : Str) = "findings"):=by decide +kernel
 have e2:¬(("names" : Str) = "withdrawals"):=by decide +kernel
 have e3:¬(("findings" : Str) = "withdrawals"):=by decide +kernel
 have e4:¬(("names" : Str) = "deeds"):=by decide +kernel
 have e5:¬(("findings" : Str) = "deeds"):=by decide +kernel
 have e6:¬(("withdrawals" : Str) = "deeds"):=by decide +kernel
 have e7:¬(("names" : Str) = "tables"):=by decide +kernel
 have e8:¬(("findings" : Str) = "tables"):=by decide +kernel
 have e9:¬(("withdrawals" : Str) = "tables"):=by decide +kernel
 have e10:¬(("deeds" : Str) = "tables"):=by decide +kernel
 simp only [aW,cW,e1,e2,e3,e4,e5,e6,e7,e8,e9,e10,if_false]
noncomputable def BA.M (a:BA) (b:Addr):Prop:=b=a.f\/b=a.w\/b=a.d\/b=a.t
structure RowT (H:Hp) (a:BA) (F:Addr->Prop) (B:Bk) (ra:Addr) (rs:List aH) (k:Str) (i:Nat):Prop where
 fp:F ra
 nm:¬a.M ra
 rl:aS H ra rs
 td:Strip.Tidy rs
 i4:bQ rs
 dy:∀x,Strip.dayOf rs x=(B.spk k i x).map V.int
structure TabAt (H:Hp) (a:BA) (F:Addr->Prop) (B:Bk) (x:Addr) (i:Nat):Prop where
 fp:F x
 nm:¬a.M x
 ex:∃kvs:List (Key × V),H x=some (.dK kvs)/\kvs.length<=8+i/\∀k∈B.ks,∃ra rs,valV kvs (Sum.inr k)=some (.ref ra)/\RowT H a F B ra rs k i
noncomputable abbrev o0 (H:Hp):List Addr->List Fnd->Prop:=Paired λp r=>H p=some (.tup (p6 r))
noncomputable abbrev jD (H:Hp):List Addr->List wS->Prop:=Paired λp r=>H p=some (.tup (yk r))
structure BkAt (C:Addr) (H:Hp) (p:Addr) (a:BA) (F:Addr->Prop) (B:Bk):Prop where
 ob:∃dx,H p=some (.ins C dx (cW a))
 hn:H a.n=some (.lst (B.ks.map V.str))
 hf:∃ps,H a.f=some (.lst (ps.map V.ref))/\o0 H ps B.fs
 hw:H a.w=some (.dK B.gs)
 hd:∃ps,H a.d=some (.lst (ps.map V.ref))/\jD H ps B.ds
 ht:∃ts:List Addr,H a.t=some (.lst (ts.map V.ref))/\ts.length=B.ds.length+1/\∀(i:Nat) (x:Addr),ts[i]?=some x->TabAt H a F B x i
 fa:F a.n/\F a.f/\F a.w/\F a.d/\F a.t
 nn:¬a.M a.n
 fd:a.f≠a.d
 ft:a.f≠a.t
 dt:a.d≠a.t
 ok:B.Ok
structure Keep (H H':Hp) (F:Addr->Prop):Prop where
 own:∀b o,F b->H b=some o->H' b=some o
 tup:∀b xs,H b=some (.tup xs)->H' b=some (.tup xs)
 ins:∀b C dx fs,H b=some (.ins C dx fs)->H' b=some (.ins C dx fs)
theorem RowT.keep {H H':Hp}{a:BA}{F:Addr->Prop}{B:Bk}{ra:Addr}{rs:List aH}{k:Str}{i:Nat} (h:RowT H a F B ra rs k i) (g:Keep H H' F):RowT H' a F B ra rs k i:=
 ⟨h.fp,h.nm,d9 h.rl (λxs e=>g.own _ _ h.fp e) g.tup,h.td,h.i4,h.dy⟩
theorem TabAt.keep {H H':Hp}{a:BA}{F:Addr->Prop}{B:Bk}{x:Addr}{i:Nat} (h:TabAt H a F B x i) (g:Keep H H' F):TabAt H' a F B x i:=by
 obtain⟨kvs,e,hl,hk⟩:=h.ex
 refine⟨h.fp,h.nm,kvs,g.own _ _ h.fp e,hl,λk hk'=>?_⟩
 obtain⟨ra,rs,e1,e2⟩:=hk k hk'
 exact⟨ra,rs,e1,e2.keep g⟩
theorem o0.keep {H H':Hp}{F:Addr->Prop} (g:Keep H H' F){ps:List Addr}{fs:List Fnd} (h:o0 H ps fs):o0 H' ps fs:=Paired.mapP h λ_ _ e=>g.tup _ _ e
theorem jD.keep {H H':Hp}{F:Addr->Prop} (g:Keep H H' F){ps:List Addr}{fs:List wS} (h:jD H ps fs):jD H' ps fs:=Paired.mapP h λ_ _ e=>g.tup _ _ e
theorem BkAt.keep {C:Addr}{H H':Hp}{p:Addr}{a:BA}{F:Addr->Prop}{B:Bk} (h:BkAt C H p a F B) (g:Keep H H' F):BkAt C H' p a F B:=by
 obtain⟨f1,f2,f3,f4,f5⟩:=h.fa
 obtain⟨dx,e0⟩:=h.ob
 obtain⟨ps,e1,r1⟩:=h.hf
 obtain⟨qs,e2,r2⟩:=h.hd
 obtain⟨ts,e3,l3,r3⟩:=h.ht
 exact⟨⟨dx,g.ins _ _ _ _ e0⟩,g.own _ _ f1 h.hn,⟨ps,g.own _ _ f2 e1,r1.keep g⟩,g.own _ _ f3 h.hw,⟨qs,g.own _ _ f4 e2,r2.keep g⟩,⟨ts,g.own _ _ f5 e3,l3,λi x e=>(r3 i x e).keep g⟩,h.fa,h.nn,h.fd,h.ft,h.dt,h.ok⟩
theorem BkAt.tab {C:Addr}{H:Hp}{p:Addr}{a:BA}{F:Addr->Prop}{B:Bk} (h:BkAt C H p a F B){i:Nat} (hi:i<=B.ds.length){k:Str} (hk:k∈B.ks) :
  ∃(ts:List Addr) (x:Addr) (kvs:List (Key × V)) (ra:Addr) (rs:List aH),H a.t=some (.lst (ts.map V.ref))/\ts[i]?=some x/\H x=some (.dK kvs)/\valV kvs (Sum.inr k)=some (.ref ra)/\RowT H a F B ra rs k i/\ts.length=B.ds.length+1:=by
 obtain⟨ts,e3,l3,r3⟩:=h.ht
 have hx:ts[i]?=some ts[i]:=List.getElem?_eq_getElem (by omega)
 obtain⟨kvs,e,_,q⟩:=(r3 i _ hx).ex
 obtain⟨ra,rs,e1,e2⟩:=q k hk
 exact⟨ts,ts[i],kvs,ra,rs,e3,hx,e,e1,e2,l3⟩
theorem kg {H:Hp}{ps:List Addr}{fs:List Fnd} (h:o0 H ps fs){i:Nat}{f:Fnd} (e:fs[i]?=some f):∃q,ps[i]?=some q/\H q=some (.tup (p6 f)):=by
 have hl:ps.length=fs.length:=Paired.length h
 have hi:i < ps.length:=by rw [hl];exact(List.getElem?_eq_some_iff.mp e).1
 have eq:ps[i]?=some ps[i]:=List.getElem?_eq_getElem hi
 obtain⟨r,e1,e2⟩:=cJ h eq
 rw [e]at e1
 cases e1
 exact⟨_,eq,e2⟩
structure BkT (C:Addr) (H:Hp) (p:Addr) (a:BA) (F:Addr->Prop) (B:Bk):Prop where
 ob:∃dx,H p=some (.ins C dx (cW a))
 hn:H a.n=some (.lst (B.ks.map V.str))
 hd:∃ps,H a.d=some (.lst (ps.map V.ref))/\jD H ps B.ds
 ht:∃ts:List Addr,H a.t=some (.lst (ts.map V.ref))/\ts.length=B.ds.length+1/\∀(i:Nat) (x:Addr),ts[i]?=some x->TabAt H a F B x i
theorem BkAt.toT {C:Addr}{H:Hp}{p:Addr}{a:BA}{F:Addr->Prop}{B:Bk} (h:BkAt C H p a F B):BkT C H p a F B:=⟨h.ob,h.hn,h.hd,h.ht⟩
theorem BkT.tab {C:Addr}{H:Hp}{p:Addr}{a:BA}{F:Addr->Prop}{B:Bk} (h:BkT C H p a F B){i:Nat} (hi:i<=B.ds.length){k:Str} (hk:k∈B.ks) :
  ∃(ts:List Addr) (x:Addr) (kvs:List (Key × V)) (ra:Addr) (rs:List aH),H a.t=some (.lst (ts.map V.ref))/\ts[i]?=some x/\H x=some (.dK kvs)/\valV kvs (Sum.inr k)=some (.ref ra)/\RowT H a F B ra rs k i/\ts.length=B.ds.length+1:=by
 obtain⟨ts,e3,l3,r3⟩:=h.ht
 have hx:ts[i]?=some ts[i]:=List.getElem?_eq_getElem (by omega)
 obtain⟨kvs,e,_,q⟩:=(r3 i _ hx).ex
 obtain⟨ra,rs,e1,e2⟩:=q k hk
 exact⟨ts,ts[i],kvs,ra,rs,e3,hx,e,e1,e2,l3⟩
structure KeepM (H H':Hp) (a:BA):Prop where
 own:∀b o,¬a.M b->H b=some o->H' b=some o
theorem KeepM.tup {H H':Hp}{a:BA} (g:KeepM H H' a) (M:∀b xs,H b=some (.tup xs)->¬a.M b):∀b xs,H b=some (.tup xs)->H' b=some (.tup xs):=λb xs e=>g.own b _ (M b xs e) e
theorem RowT.keepM {H H':Hp}{a:BA}{F:Addr->Prop}{B:Bk}{ra:Addr}{rs:List aH}{k:Str}{i:Nat} (h:RowT H a F B ra rs k i) (g:KeepM H H' a) (M:∀b xs,H b=some (.tup xs)->¬a.M b):RowT H' a F B ra rs k i:=
 ⟨h.fp,h.nm,d9 h.rl (λxs e=>g.own _ _ h.nm e) (g.tup M),h.td,h.i4,h.dy⟩
theorem TabAt.keepM {H H':Hp}{a:BA}{F:Addr->Prop}{B:Bk}{x:Addr}{i:Nat} (h:TabAt H a F B x i) (g:KeepM H H' a) (M:∀b xs,H b=some (.tup xs)->¬a.M b):TabAt H' a F B x i:=by
 obtain⟨kvs,e,hl,hk⟩:=h.ex
 refine⟨h.fp,h.nm,kvs,g.own _ _ h.nm e,hl,λk hk'=>?_⟩
 obtain⟨ra,rs,e1,e2⟩:=hk k hk'
 exact⟨ra,rs,e1,e2.keepM g M⟩
theorem TabAt.other {H:Hp}{a:BA}{F F':Addr->Prop}{B B':Bk}{x:Addr}{i:Nat} (h:TabAt H a F B x i) (hF:∀b,F b->F' b) (ek:B'.ks=B.ks) (es:∀k d,B'.spk k i d=B.spk k i d):TabAt H a F' B' x i:=by
 obtain⟨kvs,e,hl,hk⟩:=h.ex
 refine⟨hF _ h.fp,h.nm,kvs,e,hl,λk hk'=>?_⟩
 obtain⟨ra,rs,e1,e2⟩:=hk k (by rw [<- ek];exact hk')
 exact⟨ra,rs,e1,hF _ e2.fp,e2.nm,e2.rl,e2.td,e2.i4,λx=>by rw [es];exact e2.dy x⟩
structure MC (P:Program) (w:World) (K:PySem.W.Frag) (mg:Str->Option Value) (base:Heap) (C:Addr) (m:Str) (k:Nat) (ps:List Str) (ds:List Value) (dvs:List V) (sp:Sp) (f:Addr) (fd:FuncData):Prop where
 cl:Cls K C
 mt:Meth K C m f
 ok:FnOk P w K mg base CX0 k f fd ps sp
 bd:eN K fd ps ds
 dv:aR dvs ds
structure BkC (K:PySem.W.Frag) (C:Addr):Prop where
 cl:Cls K C
 n1:dE K C "names"
 n2:dE K C "findings"
 n3:dE K C "withdrawals"
 n4:dE K C "deeds"
 n5:dE K C "tables"
theorem fY {rs:List aH} (u:Strip.Rising rs) (i:bQ rs):rs.length<=400:=by
 have key:∀(n:Nat) (rs:List aH) (lo:Int),rs.length=n->Strip.Rising rs->(∀r∈rs,lo<=r.1/\r.2.1 < 400)->(n:Int)<=max 0 (400 - lo):=by
  intro n
  induction n with
  | zero=>intro rs lo _ _ _;omega
  | succ n ih=>
   intro rs lo hl u h
   cases rs with
   | nil=>simp at hl
   | cons r t=>
    have hr:=h r List.mem_cons_self
    have hle:=u.le r List.mem_cons_self
    have:=ih t (r.2.1+1) (by simpa using hl) ⟨(List.pairwise_cons.mp u.lt).2,λx hx=>u.le x (List.mem_cons_of_mem _ hx)⟩ λx hx=>⟨by have:r.2.1 < x.1:=(List.pairwise_cons.mp u.lt).1 x hx;omega,(h x (List.mem_cons_of_mem _ hx)).2⟩
    omega
 have:=key rs.length rs 0 rfl u λr hr=>⟨(i r hr).1,(i r hr).2.2⟩
 omega
end L2
namespace Mine
open PySem L2
variable {P:Program}{w:World}{K:PySem.W.Frag}{mg:Str->Option Value}{base:Heap}
noncomputable def top (i:Nat):Stmt:=PySem.Challenge.pw_unsaybook_k24_whole_turns_read_together.main.body.getD i (.Pass ⟨0,0,0,0⟩)
noncomputable abbrev cS:Stmt:=top 2
noncomputable abbrev gO:Stmt:=top 3
noncomputable abbrev gN:Stmt:=top 5
noncomputable abbrev lY:Stmt:=top 8
noncomputable abbrev gS:Stmt:=top 9
theorem cG:∀{x y:V},aV x->aV y->xq x y=true
 | .non,.non,_,_=>rfl
 | .non,.int _,_,_=>rfl
 | .int _,.non,_,_=>rfl
 | .int _,.int _,_,_=>rfl
noncomputable def iA:Sp:=λvs H Q _=>∃(p:Addr) (r:aH) (first:Int) (mark:V),vs=[.ref p,.int first,mark]/\H p=some (.tup (cB r))/\aV r.2.2/\aV mark/\∀k:Bool,(k=true↔(r.2.1+1=first/\r.2.2=mark))->Q (.bl k) H
theorem tS:FnScope ["row", "first", "mark"] ["row", "first", "mark"] (ah gO):=⟨rfl,rfl,rfl,by decide +kernel,rfl,by decide +kernel,by decide +kernel⟩
theorem rW {f:Addr}{fd:FuncData} (F:Fun K "goes_on" "goes_on" gO f fd):FnOk P w K mg base CX0 1 f fd ["row", "first", "mark"] iA:=by
 refine F.ok tS (λvs H Q E h=>?_) (λcdv A outer s H vs Q E hr h=>?_)
 ·obtain⟨p,r,first,mark,rfl,_⟩:=h
  rfl
 ·obtain⟨p,r,first,mark,rfl,hp,m1,m2,hq⟩:=h
  refine⟨_,al (aB (dW (cu dF (aF bJ (aM aY (pv 0) ai (λ_ _=>rfl)) ai) (pv 1) (aN _)) (fu (cu dF (aM aY (pv 0) ai (λ_ _=>rfl)) (pv 2) (aN _))))),?_⟩
  refine⟨_,rfl,p,_,1,.int r.2.1,rfl,rfl,SqT.of hp,rfl,_,_,rfl,rfl,_,rfl,rfl,_,rfl,?_⟩
  refine fI (λh1=>?_) (λh1=>?_)
  ·have h1:=of_decide_eq_true h1
   injection h1 with h1
   refine⟨_,rfl,p,_,2,r.2.2,rfl,rfl,SqT.of hp,rfl,_,rfl,cG m1 m2,hq _ ?_⟩
   rw [decide_eq_true_iff]
   exact⟨λz=>⟨h1,z⟩,λz=>z.2⟩
  ·refine hq _ ⟨(λz=>by cases z),λz=>?_⟩
   exact absurd (decide_eq_true (show V.int (r.2.1+1)=V.int first by rw [z.1])) h1
noncomputable abbrev fA:Pos:=⟨7,46,7,64⟩
noncomputable abbrev dh:Str:=("joined" : Str)++".<locals>."++"<lambda>"
noncomputable def dQ (T:Addr):Sp:=λvs H Q _=>∃(a:Addr) (rs:List aH),vs=[.ref a]/\dJ T fA dh H/\aS H a rs/\Strip.Disj rs/\rs.length<=most/\
 ∀(b:Addr) (ss acc:List aH) (H':Hp),H b=none->Go T fA dh H H'->aS H' b acc->ss.Perm rs->Strip.Joining ss acc->Q (.ref b) H'
theorem fV:FnScope ["rows", "strip", "first", "last", "mark"] ["rows"] (ah cS):=⟨rfl,rfl,rfl,by decide +kernel,rfl,by decide +kernel,by decide +kernel⟩
theorem rV {f g c T:Addr}{fdg:FuncData}{oc kV doc pm ct:Value}{od an:Option Addr}{osl:Array (Option Value)}
  (lk:K.lookup f=some ⟨oc,od,.func (PySem.W.fnOf "joined" "joined" (az cS) (au cS) (ah cS) .none kV doc pm an (.ref c) ct),osl⟩) (hcd:PySem.W.codeIn K (.ref c) "joined" = true)
  (hC:PySem.W.CodeHd base c T) (hB:base.BuiltinsAt mg T) (hs:mg "sorted" = none) (Gg:FnOk P w K mg base CX0 1 g fdg ["row", "first", "mark"] iA) (mgg:mg "goes_on_strips" = some (.ref g)) (kpg:PySem.W.keepIn K (.ref g)=true) (bg:eN K fdg ["row", "first", "mark"] []) :
  FnOk P w K mg base CX0 3 f (PySem.W.fnOf "joined" "joined" (az cS) (au cS) (ah cS) .none kV doc pm an (.ref c) ct) ["rows"] (dQ T):=by
 refine uQ (CX:=CX0) (k:=2) lk hcd fV (λvs H Q E h=>?_) (λA outer s H vs Q E hr h=>?_)
 ·obtain⟨a,rs,rfl,_⟩:=h
  rfl
 ·obtain⟨a,rs,rfl,L,⟨ps,ha,hp⟩,hd,hlen,hq⟩:=h
  have hr1:Room 1 _:=hr.mono (by decide)
  refine⟨_,PSs.nox (aj (aI (i:=1) fV.nd rfl (Or.inl rfl) (bx ae))
   (aj (bU PassesOwn.never rfl (bD (vS (pa:=⟨7,53,7,56⟩) (p1:=⟨7,58,7,61⟩) (p2:=⟨7,62,7,63⟩) (p3:=⟨7,58,7,64⟩) (j:=0) (q:=dh) (scope:={ kind:=.function,names:=[(PySem.Str.ofString "row", .local)],isGenerator:=false,isCoroutine:=false,more:=[] }) hr rfl hs (aa (pv 0) ae) (vQ (xK rfl hC hB rfl rfl) xG) rfl rfl rfl rfl))
     (cD rfl (aq (ay (i:=2) fV.nd rfl (Or.inl rfl)) (aq (ay (i:=3) fV.nd rfl (Or.inl rfl)) (aq (ay (i:=4) fV.nd rfl (Or.inl rfl)) bS))))
     (al (bp (PW.pt (eO (oz (pv 1) (λ_=>rfl)) (dG (cC (am Gg hr1 rfl mgg kpg bg .nil ao (aa (aM bA (pv 1) (jw fN ai) (λ_ _=>rfl)) (aa (pv 2) (aa (pv 4) ae))))))))
      (al (pE (bC (aa (aM aY (aM bA (pv 1) (jw fN ai) (λ_ _=>rfl)) ai (λ_ _=>rfl)) (aa (pv 3) (aa (pv 4) ae)))) (ua (pv 1) (jw fN ai) om)))
      (al (aX (cY PySem.F.plainAttrs_list PySem.F.slot_list_append PySem.F.type_list_append bf (pv 1) (aa (bC (aa (pv 2) (aa (pv 3) (aa (pv 4) ae)))) ae)))))))
   (al (aB (pv 1))))),?_⟩
  refine⟨Nat.zero_le _,λst nst=>?_⟩
  have g0:Go T fA dh H (upd H st (.lst [])):=Go.new L nst
  have L0:=g0.lam
  refine⟨_,rfl,L0,λH1 f c1 g1 nf hc1 hf1=>?_⟩
  have ha1:H1 a=some (.lst (ps.map V.ref)):=g1.lst L0 (g0.lst L ha)
  have hp1:bM H1 ps rs:=bv hp λp xs e=>g1.tup L0 (g0.tup L e)
  have hst1:H1 st=some (.lst []):=g1.lst L0 ad
  have hlp:=bo hp
  refine⟨a,f,c1,ps,rs.map (·.1),rfl,rfl,ha1,by omega,?pk,hc1,hf1,λD zs pz sz nD=>?_⟩
  case pk=>
   clear hq hd hlen ha ha1 hlp hp
   unfold bM at hp1
   induction hp1 with
   | nil=>exact .nil
   | cons e _ ih=>exact .cons ⟨_,e.1,by show 2 < 1000;decide⟩ ih
  obtain⟨qs,ss,hq1,pss,srt,ex⟩:=oq hp1 pz sz
  rw [ex]
  have up:Strip.Rising ss:=Strip.rising_of_sorted (hd.perm pss) srt
  have sD:st≠D:=af hst1 nD
  have gD:Go T fA dh H1 (upd H1 D (.lst (qs.map V.ref))):=Go.new g1.lam nD
  have gA:Go T fA dh H (upd H1 D (.lst (qs.map V.ref))):=(g0.trans g1).trans gD
  have hls:=bo hq1
  refine⟨D,rfl,⟨_,SqL.of ad⟩,bF (K:=K) (a:=D) (xs:=qs.map V.ref) (λi σ H2=>∃(acc:List aH) (v1 v2 v3:Option V),σ=[some (.ref a),some (.ref st),v1,v2,v3]/\Go T fA dh H H2/\H2 D=some (.lst (qs.map V.ref))/\
    (∀p xs,H1 p=some (.tup xs)->H2 p=some (.tup xs))/\aS H2 st acc/\Strip.Joining (ss.take i) acc)
   ⟨[],none,none,none,rfl,gA,ad,λp xs e=>gD.tup g1.lam e,dL (by rw [ag sD];exact hst1),by rw [List.take_zero];exact Strip.Joining.nil⟩ (λi σ H2 _ hh=>?_) ?_ ?_⟩
  ·obtain⟨_,_,_,_,_,_,hD,_⟩:=hh
   exact SqL.of hD
  ·rintro i y σ H2 hi ⟨acc,v1,v2,v3,rfl,g2,hD,kt,⟨as,hst,hrs⟩,J⟩
   rw [List.getElem?_map]at hi
   cases ep:qs[i]? with
   | none=>rw [ep]at hi;cases hi
   | some p=>
    rw [ep]at hi
    cases hi
    obtain⟨r,er,ht1,hmk⟩:=cZ hq1 ep
    have ht:=kt p _ ht1
    have hil:i < ss.length:=(List.getElem?_eq_some_iff.mp er).1
    have et:ss.take (i+1)=ss.take i++[r]:=by rw [List.take_add_one,er];rfl
    have hrle:r.1<=r.2.1:=up.le r (List.mem_of_getElem? er)
    have hlast:∀t∈ss.take i,t.2.1 < r.1:=λt ht=>by
     have h1:Strip.Rising (ss.take (i+1)):=⟨up.lt.sublist (List.take_sublist _ _),λt ht=>up.le t (List.mem_of_mem_take ht)⟩
     rw [et]at h1
     exact h1.last t ht
    have hla:=bo hrs
    have hJl:=J.len
    have hsz:as.length < sizeLine:=by
     rw [List.length_take]at hJl
     have:as.length<=most:=by have:=pss.length_eq;omega
     exact Nat.lt_of_le_of_lt this (by unfold most;decide)
    refine⟨p,_,rfl,SqT.of ht,rfl,_,_,rfl,_,_,rfl,_,_,rfl,rfl,?_⟩
    have nD2:D≠st:=sD.symm
    have sT:∀{b:Addr}{xs:List V},H2 b=some (.tup xs)->b≠st:=λe=>aD e hst (by intro z;cases z)
    have app:(∀t,acc[acc.length - 1]?=some t->¬Strip.Beside t r)->∀p',H2 p'=none->∃(acc:List aH) (v1 v2 v3:Option V),[some (V.ref a),some (V.ref st),some (V.int r.1),some (V.int r.2.1),some r.2.2]=[some (V.ref a),some (V.ref st),v1,v2,v3]/\
      Go T fA dh H (upd (upd H2 p' (.tup (cB r))) st (.lst (as.map V.ref++[V.ref p'])))/\upd (upd H2 p' (.tup (cB r))) st (.lst (as.map V.ref++[V.ref p'])) D=some (.lst (qs.map V.ref))/\
      (∀p xs,H1 p=some (.tup xs)->upd (upd H2 p' (.tup (cB r))) st (.lst (as.map V.ref++[V.ref p'])) p=some (.tup xs))/\aS (upd (upd H2 p' (.tup (cB r))) st (.lst (as.map V.ref++[V.ref p']))) st acc/\Strip.Joining (ss.take (i+1)) acc:=λhn p' np=>by
     obtain⟨x1,x2⟩:=kM hst hrs np hmk
     refine⟨acc++[r],_,_,_,rfl,⟨λb o n e=>x2 b o (af e nst) (g2.same b o n e),g2.lam.row hst np⟩,x2 D _ nD2 hD,λb xs e=>x2 b _ (sT (kt b xs e)) (kt b xs e),x1,?_⟩
     rw [et]
     exact J.put hrle hlast hn
    have sz3:(as.map V.ref).length < sizeLine:=by rw [List.length_map];exact hsz
    rcases List.eq_nil_or_concat acc with e0 | ⟨ini,l,e0⟩
    ·-- the strip is empty yet
     subst e0
     have as0:as=[]:=List.length_eq_zero_iff.mp hla
     refine⟨_,rfl,false,.inl ⟨_,SqL.of hst,by rw [as0];rfl⟩,br (br ?_)⟩
     refine⟨_,rfl,.inl ⟨rfl,_,SqL.of hst⟩,_,rfl,_,rfl,_,rfl,by show 3<=sizeLine;decide,λp' np=>?_⟩
     exact⟨st,_,_,rfl,rfl,by rw [ag (af hst np)];exact hst,sz3,app (λt ht=>by simp at ht) p' np⟩
    ·rw [List.concat_eq_append]at e0
     subst e0
     obtain⟨qs2,pl,rfl,hrs2,hpl,ml⟩:=kJ hrs
     have eL:(ini++[l])[(ini++[l]).length - 1]?=some l:=by simp
     have elm:(qs2++[pl]).map V.ref=qs2.map V.ref++[V.ref pl]:=by rw [List.map_append];rfl
     have at1:atI ((qs2++[pl]).map V.ref) (-1)=some (V.ref pl):=by rw [elm];exact lC _ _
     refine⟨_,rfl,true,.inl ⟨_,SqL.of hst,by rw [elm];cases qs2 <;> rfl⟩,cg ?_⟩
     refine⟨_,rfl,_,rfl,st,_,-1,V.ref pl,rfl,rfl,SqL.of hst,at1,_,rfl,_,rfl,pl,l,r.1,r.2.2,rfl,hpl,ml,hmk,λkk hkk=>⟨_,rfl,?_⟩⟩
     cases kk with
     | true=>
      have hb:Strip.Beside l r:=hkk.mp rfl
      refine cg ?_
      refine⟨_,rfl,_,rfl,st,_,-1,V.ref pl,rfl,rfl,SqL.of hst,at1,pl,_,0,V.int l.1,rfl,rfl,SqT.of hpl,rfl,_,rfl,_,rfl,by show 3<=sizeLine;decide,λp' np=>?_⟩
      refine⟨_,rfl,_,rfl,st,_,-1,qs2.length,rfl,rfl,by rw [ag (af hst np)];exact hst,by rw [List.length_map,List.length_append];exact oK _,?_⟩
      obtain⟨x1,x2⟩:=tI (r:=(l.1,r.2.1,r.2.2)) hst hrs2 np hmk
      refine⟨ini++[(l.1,r.2.1,r.2.2)],_,_,_,rfl,⟨λb o n e=>x2 b o (af e nst) (g2.same b o n e),g2.lam.row hst np⟩,x2 D _ nD2 hD,λb xs e=>x2 b _ (sT (kt b xs e)) (kt b xs e),x1,?_⟩
      rw [et]
      exact J.grow hrle hb
     | false=>
      have hb:¬Strip.Beside l r:=λz=>by have:=hkk.mpr z;cases this
      refine br ?_
      refine⟨_,rfl,.inl ⟨rfl,_,SqL.of hst⟩,_,rfl,_,rfl,_,rfl,by show 3<=sizeLine;decide,λp' np=>?_⟩
      exact⟨st,_,_,rfl,rfl,by rw [ag (af hst np)];exact hst,sz3,app (λt ht=>by rw [eL]at ht;cases ht;exact hb) p' np⟩
  ·rintro σ H2 ⟨acc,v1,v2,v3,rfl,g2,hD,kt,hrs,J⟩
   refine⟨_,rfl,hq st ss acc H2 nst g2 hrs pss ?_⟩
   rw [<- List.take_length (l:=ss)]
   have e:(qs.map V.ref).length=ss.length:=by rw [List.length_map];exact hls
   rw [e]at J
   exact J
noncomputable abbrev Lm (T:Addr) (H:Hp):Prop:=dJ T fA dh H
noncomputable abbrev Gm (T:Addr) (H H':Hp):Prop:=Go T fA dh H H'
theorem ji {T:Addr}{H H2:Hp}{st p:Addr}{as:List Addr}{cs:List aH}{r:aH} (nst:H st=none) (g2:Gm T H H2) (hst:H2 st=some (.lst (as.map V.ref))) (hrs:bM H2 as cs) (np:H2 p=none) (hm:aV r.2.2) :
  Gm T H (upd (upd H2 p (.tup (cB r))) st (.lst (as.map V.ref++[V.ref p])))/\aS (upd (upd H2 p (.tup (cB r))) st (.lst (as.map V.ref++[V.ref p]))) st (cs++[r])/\
   ∀b o,b≠st->H2 b=some o->upd (upd H2 p (.tup (cB r))) st (.lst (as.map V.ref++[V.ref p])) b=some o:=by
 obtain⟨y1,y2⟩:=kM hst hrs np hm
 exact⟨⟨λb o n e=>y2 b o (af e nst) (g2.same b o n e),g2.lam.row hst np⟩,y1,y2⟩
theorem Gm.free {T:Addr}{H H2:Hp} (g:Gm T H H2){b:Addr} (nb:H2 b=none):H b=none:=by
 refine g.none nb λz=>?_
 obtain⟨ts,et⟩:=g.lam.tbl
 rw [z,et]at nb;cases nb
structure Cal (P:Program) (w:World) (K:PySem.W.Frag) (mg:Str->Option Value) (base:Heap) (x:Str) (k:Nat) (ps:List Str) (sp:Sp) (f:Addr) (fd:FuncData):Prop where
 ok:FnOk P w K mg base CX0 k f fd ps sp
 nm:mg x=some (.ref f)
 kp:PySem.W.keepIn K (.ref f)=true
 bd:eN K fd ps []
structure Free (mg:Str->Option Value):Prop where
 «len»:mg "len" = none
 «range»:mg "range" = none
 «sorted»:mg "sorted" = none
 «isinstance»:mg "isinstance" = none
 «int»:mg "int" = none
 «bool»:mg "bool" = none
 «str»:mg "str" = none
 «list»:mg "list" = none
 «tuple»:mg "tuple" = none
 «dict»:mg "dict" = none
 «set»:mg "set" = none
 «max»:mg "max" = none
 «min»:mg "min" = none
 «all»:mg "all" = none
 «enumerate»:mg "enumerate" = none
theorem sq {ss acc rs:List aH} (J:Strip.Joining ss acc) (p:ss.Perm rs) (h:bQ rs):bQ acc:=λr hr=>
 ⟨J.hi 0 (λt ht=>(h t (p.mem_iff.mp ht)).1) r hr,J.tidy.up.le r hr,J.lo 400 (λt ht=>(h t (p.mem_iff.mp ht)).2.2) r hr⟩
theorem fB {ss acc rs:List aH} (J:Strip.Joining ss acc) (p:ss.Perm rs) (d:Strip.Disj rs) (n:Int):Strip.dayOf acc n=Strip.dayOf rs n:=by rw [J.day,Strip.dayOf_perm d p]
noncomputable def fQ (T:Addr):Sp:=λvs H Q _=>∃(a:Addr) (f l:Int) (rs:List aH),vs=[.ref a,.int f,.int l]/\Lm T H/\aS H a rs/\Strip.Disj rs/\bQ rs/\rs.length<=400/\0<=f/\f<=l/\l < 400/\
 ∀(b:Addr) (cs:List aH) (H':Hp),H b=none->Gm T H H'->aS H' b cs->Strip.DG cs (Strip.holeG rs f l)->bQ cs->cs.length<=rs.length+1->Q (.ref b) H'
theorem fW:FnScope ["rows", "first", "last", "kept", "start", "end", "mark"] ["rows", "first", "last"] (ah gS):=⟨rfl,rfl,rfl,by decide +kernel,rfl,by decide +kernel,by decide +kernel⟩
theorem sd {f T:Addr}{fd:FuncData} (F:Fun K "around" "around" gS f fd) (hmin:mg "min" = none) (hmax:mg "max" = none):FnOk P w K mg base CX0 3 f fd ["rows", "first", "last"] (fQ T):=by
 refine F.ok (k:=2) fW (λvs H Q E h=>?_) (λcdv A outer s H vs Q E hr h=>?_)
 ·obtain⟨a,f,l,rs,rfl,_⟩:=h
  rfl
 ·obtain⟨a,f,l,rs,rfl,L,⟨ps,ha,hp⟩,dj,hin,hlen,hf0,hfl,hl4,hq⟩:=h
  refine⟨_,(aj (aI (i:=3) fW.nd rfl (Or.inl rfl) (bx ae))
   (aj (bU PassesOwn.never rfl (bD (pv 0)) (cD rfl (aq (ay (i:=4) fW.nd rfl (Or.inl rfl)) (aq (ay (i:=5) fW.nd rfl (Or.inl rfl)) (aq (ay (i:=6) fW.nd rfl (Or.inl rfl)) bS)))) (aj (bp (aQ qF (pv 4) (pv 1) (aN _)) (al (aX (cY PySem.F.plainAttrs_list PySem.F.slot_list_append PySem.F.type_list_append bf (pv 3) (aa (bC (aa (pv 4) (aa (aJ (gX rfl) (by rfl) hmin PyProof.Rows.Boot.«min» (aa (pv 5) (aa (aF jk (pv 1) ai) ae))) (aa (pv 6) ae)))) ae)))) aG)
   (al (bp (aQ qF (pv 2) (pv 5) (aN _)) (al (aX (cY PySem.F.plainAttrs_list PySem.F.slot_list_append PySem.F.type_list_append bf (pv 3) (aa (bC (aa (aJ (jr rfl) (by rfl) hmax PyProof.Rows.Boot.«max» (aa (pv 4) (aa (aF bJ (pv 2) ai) ae))) (aa (pv 5) (aa (pv 6) ae)))) ae)))) aG))))
   (al (aB (pv 3))))),?_⟩
  refine⟨Nat.zero_le _,λst nst0=>?_⟩
  have g0:Gm T H (upd H st (.lst [])):=Go.new L nst0
  have hlp:=bo hp
  refine⟨_,rfl,a,rfl,⟨_,SqL.of (g0.lst L ha)⟩,bF (K:=K) (a:=a) (xs:=ps.map V.ref) (λi σ H2=>∃(cs:List aH) (v5 v6 v7:Option V),σ=[some (.ref a),some (.int f),some (.int l),some (.ref st),v5,v6,v7]/\Gm T H H2/\aS H2 st cs/\
    Strip.DG cs (Strip.holeG (rs.take i) f l)/\bQ cs/\(cs.length<=i\/(cs.length<=i+1/\∃r∈rs.take i,Strip.Has r f)))
   ⟨[],none,none,none,rfl,g0,dL ad,(Strip.hole_start (f:=f) (l:=l)).eq λn=>by rw [List.take_zero],(λ_ h=>nomatch h),.inl (Nat.le_refl _)⟩ (λi σ H2 _ hh=>?_) ?_ ?_⟩
  ·obtain⟨_,_,_,_,_,g,_⟩:=hh
   exact SqL.of (g.lst L ha)
  ·rintro i y σ H2 hi ⟨cs,v5,v6,v7,rfl,g2,⟨as,hst,hrs⟩,D,hi4,hln⟩
   rw [List.getElem?_map]at hi
   cases ep:ps[i]? with
   | none=>rw [ep]at hi;cases hi
   | some p=>
    rw [ep]at hi
    cases hi
    obtain⟨r,er,ht0,hmk⟩:=cZ hp ep
    have ht:=g2.tup L ht0
    have hil:i < rs.length:=(List.getElem?_eq_some_iff.mp er).1
    obtain⟨r0,r1,r2⟩:=hin r (List.mem_of_getElem? er)
    have hsz:cs.length<=i+2:=by rcases hln with h | h <;> omega
    have old:∀q∈rs.take i,Strip.Has q f->Strip.Has r f->False:=λq hq h1 h2=>by
     have:=dj.ahead er h2
     have d2:Strip.Disj (rs.take i):=⟨dj.ap.sublist (List.take_sublist _ _),λt ht=>dj.le t (List.mem_of_mem_take ht)⟩
     rw [Strip.dayOf_mem d2 hq h1]at this
     cases this
    refine⟨p,_,rfl,SqT.of ht,rfl,_,_,rfl,_,_,rfl,_,_,rfl,rfl,?_⟩
    have sz:∀{as2:List Addr}{cs2:List aH}{H3:Hp},bM H3 as2 cs2->cs2.length<=i+3->(as2.map V.ref).length < sizeLine:=λh1 h2=>by
     rw [List.length_map,bo h1]
     exact Nat.lt_of_lt_of_le (show _ < 900 by omega) (by decide)
    have mem:∀q,q∈rs.take i->q∈rs.take (i+1):=λq hq=>by rw [Strip.take_snoc er];exact List.mem_append_left _ hq
    have memr:r∈rs.take (i+1):=by rw [Strip.take_snoc er];exact List.mem_append_right _ (List.mem_singleton.mpr rfl)
    have noR:∀(cs2:List aH) (H3:Hp),¬l < r.2.1->Gm T H H3->aS H3 st cs2->Strip.DG cs2 (Strip.midH (rs.take i) f l r)->bQ cs2->(cs2.length<=i+1\/(cs2.length<=i+1+1/\∃r∈rs.take (i+1),Strip.Has r f))->∃(cs:List aH) (v5 v6 v7:Option V),[some (V.ref a),some (V.int f),some (V.int l),some (V.ref st),some (V.int r.1),some (V.int r.2.1),some r.2.2]=[some (.ref a),some (.int f),some (.int l),some (.ref st),v5,v6,v7]/\Gm T H (H3)/\aS (H3) st cs/\Strip.DG cs (Strip.holeG (rs.take (i+1)) f l)/\bQ cs/\(cs.length<=i+1\/(cs.length<=i+1+1/\∃r∈rs.take (i+1),Strip.Has r f)):=λcs2 H3 h g3 hr3 D3 i3 l3=>
     ⟨cs2,_,_,_,rfl,g3,hr3,Strip.hole_noRight er h D3,i3,l3⟩
    have doR:∀(cs2:List aH) (as2:List Addr) (H3:Hp),l < r.2.1->Gm T H H3->H3 st=some (.lst (as2.map V.ref))->bM H3 as2 cs2->Strip.DG cs2 (Strip.midH (rs.take i) f l r)->bQ cs2->(cs2.length<=i\/(cs2.length<=i+1/\∃r∈rs.take (i+1),Strip.Has r f))->∀p',H3 p'=none->∃(cs:List aH) (v5 v6 v7:Option V),[some (V.ref a),some (V.int f),some (V.int l),some (V.ref st),some (V.int r.1),some (V.int r.2.1),some r.2.2]=[some (.ref a),some (.int f),some (.int l),some (.ref st),v5,v6,v7]/\Gm T H (upd (upd H3 p' (.tup (cB (if l+1 > r.1 then l+1 else r.1,r.2.1,r.2.2)))) st (.lst (as2.map V.ref++[V.ref p'])))/\aS (upd (upd H3 p' (.tup (cB (if l+1 > r.1 then l+1 else r.1,r.2.1,r.2.2)))) st (.lst (as2.map V.ref++[V.ref p']))) st cs/\Strip.DG cs (Strip.holeG (rs.take (i+1)) f l)/\bQ cs/\(cs.length<=i+1\/(cs.length<=i+1+1/\∃r∈rs.take (i+1),Strip.Has r f)):=λcs2 as2 H3 h g3 hst3 hr3 D3 i3 l3 p' np=>by
     obtain⟨D4,a1⟩:=Strip.hole_right dj er hfl h rfl D3
     have a2:(if l+1 > r.1 then l+1 else r.1)<=r.2.1:=by split <;> omega
     obtain⟨z1,z2,z3⟩:=ji (r:=(if l+1 > r.1 then l+1 else r.1,r.2.1,r.2.2)) nst0 g3 hst3 hr3 np hmk
     refine⟨_,_,_,_,rfl,z1,z2,D4,i3.snoc (by show 0<=if l+1 > r.1 then l+1 else r.1;omega) a2 r2,?_⟩
     rw [List.length_append]
     simp only [List.length_singleton]
     rcases l3 with l3 | ⟨l3,q⟩
     ·exact .inl (by omega)
     ·exact .inr ⟨by omega,q⟩
    refine⟨_,rfl,_,rfl,_,_,rfl,rfl,_,rfl,fI (λh=>?_) (λh=>?_)⟩
    ·have h:r.1 < f:=of_decide_eq_true h
     obtain⟨D2,b1⟩:=Strip.hole_left dj er h rfl D
     have b2:r.1<=(if f - 1 < r.2.1 then f - 1 else r.2.1):=by split <;> omega
     refine⟨_,rfl,.inl ⟨rfl,_,SqL.of hst⟩,_,rfl,_,rfl,_,rfl,_,_,rfl,rfl,_,_,rfl,_,rfl,by show 3<=sizeLine;decide,λp1 np1=>?_⟩
     refine⟨st,_,_,rfl,rfl,by rw [ag (af hst np1)];exact hst,sz hrs (by omega),?_⟩
     obtain⟨z1,⟨as3,z2,z2'⟩,z3⟩:=ji (r:=(r.1,if f - 1 < r.2.1 then f - 1 else r.2.1,r.2.2)) nst0 g2 hst hrs np1 hmk
     have i3:=hi4.snoc (r:=(r.1,if f - 1 < r.2.1 then f - 1 else r.2.1,r.2.2)) r0 b2 (by show (if f - 1 < r.2.1 then f - 1 else r.2.1) < 400;omega)
     have l5:(cs++[(r.1,if f - 1 < r.2.1 then f - 1 else r.2.1,r.2.2)]).length=cs.length+1:=by rw [List.length_append];rfl
     refine⟨_,rfl,_,rfl,_,_,rfl,rfl,_,rfl,fI (λh2=>?_) (λh2=>?_)⟩
     ·have h2:l < r.2.1:=of_decide_eq_true h2
      refine⟨_,rfl,.inl ⟨rfl,_,SqL.of z2⟩,_,rfl,_,rfl,_,_,rfl,rfl,_,_,rfl,_,rfl,_,rfl,by show 3<=sizeLine;decide,λp2 np2=>?_⟩
      refine⟨st,_,_,rfl,rfl,by rw [ag (af z2 np2)];exact z2,sz z2' (by omega),?_⟩
      have hf:Strip.Has r f:=⟨by omega,by omega⟩
      refine doR _ as3 _ h2 z1 z2 z2' D2 i3 ?_ p2 np2
      rw [l5]
      rcases hln with q | ⟨q,t,ht,htf⟩
      ·exact .inr ⟨by omega,r,memr,hf⟩
      ·exact(old t ht htf hf).elim
     ·refine noR _ _ (λz=>h2 (decide_eq_true z)) z1 ⟨as3,z2,z2'⟩ D2 i3 ?_
      rw [l5]
      rcases hln with q | ⟨q,t,ht,htf⟩
      ·exact .inl (by omega)
      ·exact .inr ⟨by omega,t,mem t ht,htf⟩
    ·have D2:=Strip.hole_noLeft (λz=>h (decide_eq_true z)) D
     refine⟨_,rfl,_,rfl,_,_,rfl,rfl,_,rfl,fI (λh2=>?_) (λh2=>?_)⟩
     ·have h2:l < r.2.1:=of_decide_eq_true h2
      refine⟨_,rfl,.inl ⟨rfl,_,SqL.of hst⟩,_,rfl,_,rfl,_,_,rfl,rfl,_,_,rfl,_,rfl,_,rfl,by show 3<=sizeLine;decide,λp2 np2=>?_⟩
      refine⟨st,_,_,rfl,rfl,by rw [ag (af hst np2)];exact hst,sz hrs (by omega),?_⟩
      refine doR cs as H2 h2 g2 hst hrs D2 hi4 ?_ p2 np2
      rcases hln with q | ⟨q,t,ht,htf⟩
      ·exact .inl q
      ·exact .inr ⟨by omega,t,mem t ht,htf⟩
     ·refine noR cs H2 (λz=>h2 (decide_eq_true z)) g2 ⟨as,hst,hrs⟩ D2 hi4 ?_
      rcases hln with q | ⟨q,t,ht,htf⟩
      ·exact .inl (by omega)
      ·exact .inr ⟨by omega,t,mem t ht,htf⟩
  ·rintro σ H2 ⟨cs,v5,v6,v7,rfl,g2,hrs,D,hi4,hln⟩
   have e:(ps.map V.ref).length=rs.length:=by rw [List.length_map];exact hlp
   rw [e]at D hln
   rw [List.take_length]at D
   have hsz:cs.length<=rs.length+1:=by rcases hln with h | h <;> omega
   exact⟨_,rfl,hq st cs H2 nst0 g2 hrs D hi4 hsz⟩
noncomputable def kE (T:Addr):Sp:=λvs H Q _=>∃(a:Addr) (f l m:Int) (rs:List aH),vs=[.ref a,.int f,.int l,.int m]/\Lm T H/\aS H a rs/\Strip.Disj rs/\bQ rs/\rs.length<=400/\0<=f/\f<=l/\l < 400/\
 ∀(b:Addr) (acc:List aH) (H':Hp),H b=none->Gm T H H'->aS H' b acc->Strip.Tidy acc->(∀n,Strip.dayOf acc n=Strip.laidG (.int m) rs f l n)->bQ acc->acc.length<=rs.length+2->Q (.ref b) H'
theorem xw:FnScope ["strip", "first", "last", "mark"] ["strip", "first", "last", "mark"] (ah lY):=⟨rfl,rfl,rfl,by decide +kernel,rfl,by decide +kernel,by decide +kernel⟩
theorem we {f T f1 f2:Addr}{fd fd1 fd2:FuncData} (F:Fun K "laid" "laid" lY f fd) (CJ:Cal P w K mg base "joined" 3 ["rows"] (dQ T) f1 fd1) (CA:Cal P w K mg base "around" 3 ["rows", "first", "last"] (fQ T) f2 fd2):FnOk P w K mg base CX0 4 f fd ["strip", "first", "last", "mark"] (kE T):=by
 refine F.ok (k:=3) xw (λvs H Q E h=>?_) (λcdv A outer s H vs Q E hr h=>?_)
 ·obtain⟨a,f,l,m,rs,rfl,_⟩:=h
  rfl
 ·obtain⟨a,f,l,m,rs,rfl,L,hrs0,dj,hin,hlen,hf0,hfl,hl4,hq⟩:=h
  refine⟨_,(al (aB (am CJ.ok hr rfl CJ.nm CJ.kp CJ.bd .nil ao (aa (aF pH (am CA.ok hr rfl CA.nm CA.kp CA.bd .nil ao (aa (pv 0) (aa (pv 1) (aa (pv 2) ae)))) (bx (aa (bC (aa (pv 1) (aa (pv 2) (aa (pv 3) ae)))) ae))) ae)))),?_⟩
  refine⟨_,rfl,_,rfl,_,rfl,a,f,l,rs,rfl,L,hrs0,dj,hin,hlen,hf0,hfl,hl4,λb cs H1 nb g1 ⟨qs,hb,hqs⟩ D i1 l1=>?_⟩
  refine⟨_,rfl,_,rfl,_,rfl,by show 3<=sizeLine;decide,λp0 np0=>?_⟩
  have g2:Gm T H1 (upd H1 p0 (.tup (cB (f,l,V.int m)))):=Go.new g1.lam np0
  refine⟨by show 1<=sizeLine;decide,λst nst=>?_⟩
  have g3:Gm T (upd H1 p0 (.tup (cB (f,l,V.int m)))) (upd (upd H1 p0 (.tup (cB (f,l,V.int m)))) st (.lst [V.ref p0])):=Go.new g2.lam nst
  have g23:=g2.trans g3
  have hlq:=bo hqs
  refine⟨b,st,_,_,rfl,rfl,g23.lst g1.lam hb,ad,?_,λd nd=>?_⟩
  ·rw [List.length_map]
   exact Nat.le_trans (show qs.length+1<=900 by omega) (by decide)
  have g4:Gm T (upd (upd H1 p0 (.tup (cB (f,l,V.int m)))) st (.lst [V.ref p0])) (upd (upd (upd H1 p0 (.tup (cB (f,l,V.int m)))) st (.lst [V.ref p0])) d (.lst (qs.map V.ref++[V.ref p0]))):=Go.new g3.lam nd
  have gB:=g23.trans g4
  have gA:=g1.trans gB
  have DD:=Strip.hole_laid (m:=V.int m) hfl D
  refine⟨d,cs++[(f,l,V.int m)],rfl,gA.lam,⟨qs++[p0],?_,fo (g4.tup g3.lam (g3.tup g2.lam ad)) trivial (bv hqs λp xs e=>gB.tup g1.lam e)⟩,DD.dj,?_,λb2 ss acc H3 nb2 g5 hacc pss J=>?_⟩
  ·rw [ad,List.map_append];rfl
  ·rw [List.length_append];show cs.length+1<=most;unfold most;omega
  ·have i2:bQ (cs++[(f,l,V.int m)]):=i1.snoc hf0 hfl hl4
   refine hq b2 acc H3 (Gm.free gA nb2) (gA.trans g5) hacc J.tidy (λn=>?_) (sq J pss i2) ?_
   ·rw [fB J pss DD.dj,DD.day]
   ·have h1:=J.len
    have h2:=pss.length_eq
    rw [List.length_append]at h2
    have h3:cs.length+1=cs.length+[(f,l,V.int m)].length:=rfl
    omega
noncomputable def iy:Sp:=λvs H Q _=>∃(a:Addr) (rs:List aH) (day:Int),vs=[.ref a,.int day]/\aS H a rs/\Q ((Strip.markOn rs day).getD .non) H
theorem iC:FnScope ["strip", "day", "first", "last", "mark"] ["strip", "day"] (ah gN):=⟨rfl,rfl,rfl,by decide +kernel,rfl,by decide +kernel,by decide +kernel⟩
theorem rT {f:Addr}{fd:FuncData} (F:Fun K "mark_on" "mark_on" gN f fd):FnOk P w K mg base CX0 1 f fd ["strip", "day"] iy:=by
 refine F.ok iC (λvs H Q E h=>?_) (λcdv A outer s H vs Q E hr h=>?_)
 ·obtain⟨a,rs,day,rfl,_⟩:=h
  rfl
 ·obtain⟨a,rs,day,rfl,⟨ps,ha,hp⟩,hq⟩:=h
  refine⟨_,aj (bU PassesOwn.never rfl (bD (pv 0)) (cD rfl (aq (ay (i:=2) iC.nd rfl (Or.inl rfl)) (aq (ay (i:=3) iC.nd rfl (Or.inl rfl)) (aq (ay (i:=4) iC.nd rfl (Or.inl rfl)) bS))))
    (al (bp (kN eK eK (pv 2) (pv 1) (pv 3)) (al (aB (pv 4))) aG)))
   (al (aB gp)),?_⟩
  refine⟨_,rfl,a,rfl,⟨_,SqL.of ha⟩,bF (K:=K) (a:=a) (xs:=ps.map V.ref) (λi σ H2=>∃(v1 v2 v3:Option V),σ=[some (.ref a),some (.int day),v1,v2,v3]/\H2=H/\Strip.markOn rs day=Strip.markOn (rs.drop i) day)
   ⟨none,none,none,rfl,rfl,by rw [List.drop_zero]⟩ (λi σ H2 _ hh=>?_) ?_ ?_⟩
  ·obtain⟨_,_,_,_,rfl,_⟩:=hh
   exact SqL.of ha
  ·rintro i y σ H2 hi ⟨v1,v2,v3,rfl,rfl,hm⟩
   rw [List.getElem?_map]at hi
   cases ep:ps[i]? with
   | none=>rw [ep]at hi;cases hi
   | some p=>
    rw [ep]at hi
    cases hi
    obtain⟨r,er,ht,hmk⟩:=cZ hp ep
    have ed:rs.drop i=r::rs.drop (i+1):=by
     obtain⟨hlt,e⟩:=List.getElem?_eq_some_iff.mp er
     rw [List.drop_eq_getElem_cons hlt,e]
    refine⟨p,_,rfl,SqT.of ht,rfl,_,_,rfl,_,_,rfl,_,_,rfl,rfl,?_⟩
    have no:¬Strip.Has r day->∃(v1 v2 v3:Option V),[some (V.ref a),some (V.int day),some (V.int r.1),some (V.int r.2.1),some r.2.2]=[some (V.ref a),some (V.int day),v1,v2,v3]/\H2=H2/\Strip.markOn rs day=Strip.markOn (rs.drop (i+1)) day:=λhn=>by
     refine⟨_,_,_,rfl,rfl,?_⟩
     rw [hm,ed]
     exact if_neg hn
    refine⟨_,rfl,_,rfl,_,_,rfl,rfl,_,rfl,?_⟩
    refine fI (λh1=>?_) (λh1=>?_)
    ·have h1:=of_decide_eq_true h1
     refine⟨_,rfl,_,_,rfl,rfl,_,rfl,?_⟩
     refine fI (λh2=>?_) (λh2=>?_)
     ·have h2:=of_decide_eq_true h2
      refine⟨_,rfl,?_⟩
      have e:Strip.markOn rs day=some r.2.2:=by
       rw [hm,ed]
       exact if_pos ⟨h1,h2⟩
      rw [e]at hq
      exact hq
     ·exact no λz=>h2 (decide_eq_true z.2)
    ·exact⟨_,rfl,br (no λz=>h1 (decide_eq_true z.1))⟩
  ·rintro σ H2 ⟨v1,v2,v3,rfl,rfl,hm⟩
   have e:(ps.map V.ref).length=rs.length:=by rw [List.length_map];exact bo hp
   rw [e,List.drop_length]at hm
   have hm:Strip.markOn rs day=none:=hm
   rw [hm]at hq
   exact hq
noncomputable abbrev mj:Stmt:=top 45
noncomputable abbrev rB:Stmt:=top 46
noncomputable abbrev mf:Stmt:=top 47
noncomputable abbrev j4:Stmt:=top 48
noncomputable abbrev eU:Stmt:=top 51
noncomputable abbrev eV:Stmt:=top 15
noncomputable abbrev jd:Stmt:=top 16
noncomputable abbrev lX:Stmt:=top 17
noncomputable abbrev rC:Stmt:=top 18
noncomputable abbrev eX:Stmt:=top 42
noncomputable abbrev jg:Stmt:=top 43
noncomputable def aA (H H':Hp):Prop:=∀b o,H b=some o->H' b=some o
theorem aA.refl {H:Hp}:aA H H:=λ_ _ e=>e
theorem aA.trans {H H1 H2:Hp} (g:aA H H1) (g':aA H1 H2):aA H H2:=λb o e=>g' b o (g b o e)
theorem aA.new {H:Hp}{a:Addr}{o:HO} (n:H a=none):aA H (upd H a o):=λb o e=>by rw [ag (af e n)];exact e
theorem aA.free {H H':Hp} (g:aA H H'){a:Addr} (n:H' a=none):H a=none:=by
 cases e:H a with
 | none=>rfl
 | some o=>rw [g a o e]at n;cases n
noncomputable abbrev ii:Str:=Str.ofString "abcdefghijklmnopqrstuvwxyz"
structure Con (mg:Str->Option Value):Prop where
 letters:∃t,mg "LETTERS" = some (.str ii t)
 eight:∃t,mg "MOST_LETTERS" = some (.int 8 t)
 lastday:∃t,mg "LAST_DAY" = some (.int 399 t)
 keys:∃t,mg "MOST_KEYS" = some (.int 8 t)
 deeds:∃t,mg "MOST_DEEDS" = some (.int 60 t)
 value:∃t,mg "MOST_VALUE" = some (.int 1000000000 t)
noncomputable def n8 (K:PySem.W.Frag):Sp:=λvs H Q _=>∃(a:Addr) (ns:List Int) (k:Int),vs=[.ref a,.int k]/\SqL K H a (ns.map V.int)/\0<=k/\∀n:Int,Q (.int n) H
theorem xB:FnScope ["_law_script", "_law_k"] ["_law_script", "_law_k"] (ah mj):=⟨rfl,rfl,rfl,by decide +kernel,rfl,by decide +kernel,by decide +kernel⟩
theorem wq {f:Addr}{fd:FuncData} (F:Fun K "_law_cell" "_law_cell" mj f fd) (N:Free mg):FnOk P w K mg base CX0 1 f fd ["_law_script", "_law_k"] (n8 K):=by
 refine F.ok (k:=0) xB (λvs H Q E h=>?_) (λcdv A outer s H vs Q E hr h=>?_)
 ·obtain⟨a,ns,k,rfl,_⟩:=h
  rfl
 ·obtain⟨a,ns,k,rfl,hS,hk,q⟩:=h
  have hu:=bu hr
  refine⟨_,(aj (bp (aQ qF (pv 1) (aJ aZ (by rfl) N.len PySem.boot_len (aa (pv 0) ae)) (aN _)) (al (aB (aM bA (pv 0) (pv 1) (λ_ _=>rfl)))) aG)
   (al (aB (aF bJ (aF eQ ai (pv 1)) ai)))),?_⟩
  refine⟨_,rfl,_,rfl,a,_,rfl,.inl hS,_,_,rfl,rfl,_,rfl,?_⟩
  refine fI (λhlt=>?_) (λ_=>?_)
  ·have hlt:k < ((ns.map V.int).length:Int):=of_decide_eq_true hlt
   rw [List.length_map]at hlt
   obtain⟨j,rfl⟩:∃j:Nat,k=(j:Int):=⟨k.toNat,by omega⟩
   have hk2:j < ns.length:=by omega
   refine⟨_,rfl,_,rfl,a,_,(j:Int),.int ns[j],rfl,rfl,hS,dk ?_,q _⟩
   rw [List.getElem?_map,List.getElem?_eq_getElem hk2]
   rfl
  ·exact⟨_,rfl,_,_,rfl,rfl,.inl ⟨by decide,by decide⟩,_,_,rfl,rfl,q _⟩
noncomputable def lP:Sp:=λvs H Q _=>∃(c k:Int),vs=[.int c,.int k]/\0<=k/\k<=1000/\∀n:Int,0<=n->n < 2147483587->Q (.int n) H
noncomputable def fj:Sp:=λvs H Q _=>∃(c k m:Int),vs=[.int c,.int k,.int m]/\0<=k/\k<=1000/\0 < m/\∀n:Int,0<=n->n < m->Q (.int n) H
noncomputable def jK:Sp:=λvs H Q _=>∃i:Int,vs=[.int i]/\Q (.bl true) H
theorem tR:FnScope ["_law_cell_here", "_law_k", "_law_number"] ["_law_cell_here", "_law_k"] (ah rB):=⟨rfl,rfl,rfl,by decide +kernel,rfl,by decide +kernel,by decide +kernel⟩
theorem xO {f:Addr}{fd:FuncData} (F:Fun K "_law_mix" "_law_mix" rB f fd)  : FnOk P w K mg base CX0 1 f fd ["_law_cell_here", "_law_k"] lP:=by
 refine F.ok (k:=0) tR (λvs H Q E h=>?_) (λcdv A outer s H vs Q E hr h=>?_)
 ·obtain⟨c,k,rfl,_⟩:=h
  rfl
 ·obtain⟨c,k,rfl,hk,hk2,q⟩:=h
  have hu:=bu hr
  refine⟨_,(aj (aI (i:=2) tR.nd rfl (Or.inl rfl) (aF dC (aF eQ (aF bJ (aF dC (pv 0) ai) (aF eQ ai (pv 1))) ai) ai))
   (aj (aI (i:=2) tR.nd rfl (Or.inl rfl) (aF dC (aF eQ (pv 2) (pv 2)) ai))
   (al (aB (aF dC (aF bJ (aF bJ (aF eQ (pv 2) (pv 2)) (aF eQ ai (pv 2))) (pv 1)) ai))))),?_⟩
  have small:∀(x:Int){m:Int},0 < m->m < 2 ^ 64->-(2 ^ 64) < x % m/\x % m < 2 ^ 64:=λx m h1 h2=>by
   have a:=Int.emod_nonneg x (Int.ne_of_gt h1)
   have b:=Int.emod_lt_of_pos x h1
   omega
  refine⟨_,rfl,_,_,rfl,rfl,(by show (0:Int) < 2147483647;decide),_,rfl,_,_,rfl,rfl,.inl ⟨by decide,by decide⟩,_,_,rfl,rfl,_,_,rfl,rfl,.inr ⟨by decide,by decide⟩,_,_,rfl,rfl,(by show (0:Int) < 2147483647;decide),?_⟩
  refine⟨_,rfl,_,rfl,_,_,rfl,rfl,.inl (small _ (by decide) (by decide)),_,_,rfl,rfl,(by show (0:Int) < 2147483629;decide),?_⟩
  refine⟨_,rfl,_,rfl,_,_,rfl,rfl,.inl (small _ (by decide) (by decide)),_,rfl,_,_,rfl,rfl,.inl ⟨by decide,by decide⟩,_,_,rfl,rfl,_,rfl,_,_,rfl,rfl,_,_,rfl,rfl,(by show (0:Int) < 2147483587;decide),?_⟩
  exact q _ (Int.emod_nonneg _ (by decide)) (Int.emod_lt_of_pos _ (by decide))
theorem xA:FnScope ["_law_cell_here", "_law_k", "_law_many"] ["_law_cell_here", "_law_k", "_law_many"] (ah mf):=⟨rfl,rfl,rfl,by decide +kernel,rfl,by decide +kernel,by decide +kernel⟩
theorem wm {f f1:Addr}{fd:FuncData} (F:Fun K "_law_draw" "_law_draw" mf f fd){fd1:FuncData} (CM:Cal P w K mg base "_law_mix" 1 ["_law_cell_here", "_law_k"] lP f1 fd1):FnOk P w K mg base CX0 2 f fd ["_law_cell_here", "_law_k", "_law_many"] fj:=by
 refine F.ok (k:=1) xA (λvs H Q E h=>?_) (λcdv A outer s H vs Q E hr h=>?_)
 ·obtain⟨c,k,m,rfl,_⟩:=h
  rfl
 ·obtain⟨c,k,m,rfl,hk,hk2,hm,q⟩:=h
  have hu:=bu hr
  refine⟨_,(aj (bp (PW.pt (eO (aQ x9 (pv 0) (aF jl ai ai) (aN _)) (dG (aQ x8 (aF uf (pv 0) (aF eQ ai (pv 1))) ai (aN _))))) (al (aB (aF dC (aF dC (aF uf (pv 0) (aF eQ ai (pv 1))) (aF jl ai ai)) (pv 2)))) aG)
   (al (aB (aF dC (am CM.ok (hr.mono (by decide)) rfl CM.nm CM.kp CM.bd .nil ao (aa (pv 0) (aa (pv 1) ae))) (pv 2))))),?_⟩
  have hk0:(0:Int)<=40 * k:=by omega
  have fin:∀x:Int,0<=x % m/\x % m < m:=λx=>⟨Int.emod_nonneg x (by omega),Int.emod_lt_of_pos x hm⟩
  refine⟨_,rfl,10,18,rfl,rfl,⟨by decide,by decide,by decide⟩,_,_,rfl,rfl,_,rfl,?_⟩
  refine fI (λ_=>?_) (λ_=>br ?_)
  ·refine⟨_,rfl,_,rfl,_,_,rfl,rfl,.inl ⟨by decide,by decide⟩,_,_,rfl,rfl,hk0,_,_,rfl,rfl,_,rfl,?_⟩
   refine fI (λ_=>?_) (λ_=>?_)
   ·exact⟨_,rfl,_,rfl,_,_,rfl,rfl,.inl ⟨by decide,by decide⟩,_,_,rfl,rfl,hk0,2,40,rfl,rfl,⟨by decide,by decide,by decide⟩,_,_,rfl,rfl,(by show (0:Int) < 2 ^ Int.toNat 40;decide),_,rfl,_,_,rfl,rfl,hm,q _ (fin _).1 (fin _).2⟩
   ·exact⟨_,rfl,_,rfl,c,k,rfl,hk,hk2,λn _ _=>⟨_,rfl,_,_,rfl,rfl,hm,q _ (fin _).1 (fin _).2⟩⟩
  ·exact⟨_,rfl,_,rfl,c,k,rfl,hk,hk2,λn _ _=>⟨_,rfl,_,_,rfl,rfl,hm,q _ (fin _).1 (fin _).2⟩⟩
theorem vC:FnScope ["_law_found"] ["_law_found"] (ah j4):=⟨rfl,rfl,rfl,by decide +kernel,rfl,by decide +kernel,by decide +kernel⟩
theorem uh {f:Addr}{fd:FuncData} (F:Fun K "_law_whole" "_law_whole" j4 f fd) (N:Free mg):FnOk P w K mg base CX0 1 f fd ["_law_found"] jK:=by
 refine F.ok (k:=0) vC (λvs H Q E h=>?_) (λcdv A outer s H vs Q E hr h=>?_)
 ·obtain⟨i,rfl,_⟩:=h
  rfl
 ·obtain⟨i,rfl,q⟩:=h
  have hu:=bu hr
  refine⟨_,(al (aB (dW (aJ cO (by rfl) N.isinstance PyProof.Rows.Boot.«isinstance» (aa (pv 0) (aa (gU (v:=.ty "int") (by rfl) N.int PyProof.Rows.Boot.«int» rfl) ae))) (fu (ub (aJ cO (by rfl) N.isinstance PyProof.Rows.Boot.«isinstance» (aa (pv 0) (aa (gU (v:=.ty "bool") (by rfl) N.bool PyProof.Rows.Boot.«bool» rfl) ae)))))))),?_⟩
  exact⟨_,rfl,.int i,"int", _,true,rfl,.int i,by rfl,_,rfl,cg ⟨_,rfl,.int i,"bool", _,false,rfl,.int i,by rfl,_,rfl,q⟩⟩
theorem tu (s:Int){d:Int} (h0:0<=d) (h1:d < 3) (hs:0 < s):∃m:Int,0 < m/\atI [V.int 1,V.int 5,V.int s] d=some (V.int m):=by
 rcases (show d=0\/d=1\/d=2 by omega) with rfl | rfl | rfl
 ·exact⟨1,by decide,rfl⟩
 ·exact⟨5,by decide,rfl⟩
 ·exact⟨s,hs,rfl⟩
noncomputable def gI:Sp:=λvs H Q _=>∃(c k s:Int),vs=[.int c,.int k,.int s]/\0<=k/\k<=900/\0 < s/\s<=400/\
 ∀(p:Addr) (x y:Int) (H':Hp),aA H H'->H' p=some (.tup [.int x,.int y])->0<=x->x<=y->y < 400->Q (.ref p) H'
theorem lQ:FnScope ["_law_cell_here", "_law_k", "_law_span", "_law_first"] ["_law_cell_here", "_law_k", "_law_span"] (ah eU):=⟨rfl,rfl,rfl,by decide +kernel,rfl,by decide +kernel,by decide +kernel⟩
theorem pI {f f1:Addr}{fd:FuncData} (F:Fun K "_law_stretch" "_law_stretch" eU f fd) (N:Free mg){fd1:FuncData} (CD:Cal P w K mg base "_law_draw" 2 ["_law_cell_here", "_law_k", "_law_many"] fj f1 fd1):FnOk P w K mg base CX0 3 f fd ["_law_cell_here", "_law_k", "_law_span"] gI:=by
 refine F.ok (k:=2) lQ (λvs H Q E h=>?_) (λcdv A outer s H vs Q E hr h=>?_)
 ·obtain⟨c,k,s,rfl,_⟩:=h
  rfl
 ·obtain⟨c,k,s,rfl,k0,k9,s0,s4,q⟩:=h
  have hu:=bu hr
  refine⟨_,(aj (bp (aQ dF (am CD.ok (hr.mono (by decide)) rfl CD.nm CD.kp CD.bd .nil ao (aa (pv 0) (aa (pv 1) (aa ai ae)))) ai (aN _)) (al (aB (bC (aa ai (aa ai ae))))) aG)
   (aj (aI (i:=3) lQ.nd rfl (Or.inl rfl) (am CD.ok (hr.mono (by decide)) rfl CD.nm CD.kp CD.bd .nil ao (aa (pv 0) (aa (aF bJ (pv 1) ai) (aa (pv 2) ae)))))
   (al (aB (bC (aa (pv 3) (aa (aJ (gX rfl) (by rfl) N.min PyProof.Rows.Boot.«min» (aa (aF bJ (pv 3) (am CD.ok (hr.mono (by decide)) rfl CD.nm CD.kp CD.bd .nil ao (aa (pv 0) (aa (aF bJ (pv 1) ai) (aa (aM bA (bx (aa ai (aa ai (aa (pv 2) ae)))) (am CD.ok (hr.mono (by decide)) rfl CD.nm CD.kp CD.bd .nil ao (aa (pv 0) (aa (aF bJ (pv 1) ai) (aa ai ae)))) (λ_ _=>rfl)) ae))))) (aa (aF jk (pv 2) ai) ae))) ae))))))),?_⟩
  refine⟨_,rfl,_,rfl,c,k,12,rfl,k0,by omega,by decide,λn _ _=>⟨rfl,_,rfl,fI (λ_=>?_) (λ_=>?_)⟩⟩
  ·exact⟨by show 2<=sizeLine;decide,λp np=>q p 0 399 _ (aA.new np) ad (by decide) (by decide) (by decide)⟩
  ·refine⟨_,rfl,_,rfl,_,_,rfl,rfl,_,rfl,c,_,s,rfl,by omega,by omega,s0,λx x0 x1=>?_⟩
   refine⟨_,rfl,_,rfl,_,rfl,_,rfl,_,_,rfl,rfl,_,rfl,by show 3<=sizeLine;decide,λl nl=>?_⟩
   refine⟨_,rfl,_,rfl,_,_,rfl,rfl,c,_,3,rfl,by omega,by omega,by decide,λd d0 d1=>?_⟩
   obtain⟨m,m0,em⟩:=tu s d0 d1 s0
   refine⟨l,_,d,V.int m,rfl,rfl,SqL.of ad,em,c,_,m,rfl,by omega,by omega,m0,λy y0 y1=>?_⟩
   refine⟨_,_,rfl,rfl,_,rfl,_,_,rfl,rfl,_,_,rfl,by show 2<=sizeLine;decide,λp np=>?_⟩
   exact q p x _ _ ((aA.new nl).trans (aA.new np)) ad x0 (by split <;> omega) (by split <;> omega)
noncomputable def inZ (z:Str) (c:Nat):Bool:=decide (c∈z.cps.toList)
noncomputable def jG (x z:Str) (m:Int):Bool:=decide (1<=(x.length:Int)) && (decide ((x.length:Int)<=m) && x.cps.toList.all (inZ z))
noncomputable def qu:Sp:=λvs H Q _=>∃(x z:Str) (m:Int),vs=[.str x,.str z,.int m]/\x.length < sizeLine/\∀H',aA H H'->Q (.bl (jG x z m)) H'
theorem tw {σ:St}{H:Hp}{Q:VK}{x z:Str} (e0:σ[0]?=some (some (.str x))) (e1:σ[1]?=some (some (.str z))) (hl:x.length < sizeLine)
  (hq:∀(D:Addr) (H':Hp),H D=none->aA H H'->H' D=some (.lst ((x.cps.toList.map (inZ z)).map V.bl))->Q (.ref D) H') :
  kr (yL (dN 0)) [1] (λ_ H Q=>Q true H) (tOp (λx y H Q=>∃i j,x=.str i/\y=.str j/\Q (.bl (!(Builtin.Str.occurrences j i 0 j.length 1).isEmpty)) H) (dN 0) (dN 1)) σ H Q:=by
 have es:bN [1] σ=[some (.str z)]:=by
  show [(σ[1]?).join]=_
  rw [e1];rfl
 refine⟨_,e0,x,rfl,λD nD=>uY (x:=x) (sub:=[1]) (tt:=λ_ H Q=>Q true H) (te:=tOp (λx y H Q=>∃i j,x=.str i/\y=.str j/\Q (.bl (!(Builtin.Str.occurrences j i 0 j.length 1).isEmpty)) H) (dN 0) (dN 1)) (Q:=Q) (σ:=σ)
  (λi ys H2=>ys=((x.cps.toList.take i).map (inZ z)).map V.bl/\H2=upd H D (.lst ys)) ⟨rfl,rfl⟩ (λi c ys H2 hi hh=>?_) λys H2 hh=>?_⟩
 ·obtain⟨rfl,rfl⟩:=hh
  rw [es]
  show (if true=true then _ else _)
  rw [if_pos rfl]
  have hi':x.cps.toList[i]?=some c:=by simpa using hi
  have hil:i < x.cps.size:=(Array.getElem?_eq_some_iff.mp hi).1
  refine⟨_,rfl,_,rfl,_,_,rfl,rfl,ad,?_,?_,?_⟩
  ·rw [List.length_map,List.length_map,List.length_take]
   have:x.length < sizeLine:=hl
   have e:x.cps.toList.length=x.length:=by simp [Str.length]
   rw [e]
   omega
  ·rw [List.take_add_one,hi',List.map_append,List.map_append,PySem.StrLaws.found_one]
   rfl
  ·rw [gE]
 ·obtain⟨rfl,rfl⟩:=hh
  refine hq D _ nD (aA.new nD) ?_
  rw [ad,List.take_of_length_le (by simp)]
theorem yA:FnScope ["text", "signs", "most"] ["text", "signs", "most"] (ah rC):=⟨rfl,rfl,rfl,by decide +kernel,rfl,by decide +kernel,by decide +kernel⟩
theorem xQ {f:Addr}{fd:FuncData} (F:Fun K "has_only" "has_only" rC f fd) (N:Free mg):FnOk P w K mg base CX0 1 f fd ["text", "signs", "most"] qu:=by
 refine F.ok (k:=0) yA (λvs H Q E h=>?_) (λcdv A outer s H vs Q E hr h=>?_)
 ·obtain⟨x,z,m,rfl,_⟩:=h
  rfl
 ·obtain⟨x,z,m,rfl,hl,hq⟩:=h
  refine⟨_,al (aB (dW (oE eK eK ai (aJ iQ (by rfl) N.len PySem.boot_len (aa (pv 0) ae)) (pv 2))
   (fu (aJ (mL rfl) (by rfl) N.all PyProof.Rows.Boot.«all» (aa (ue (y:="signs") (i:=1) rfl (xI (pv 0)) rfl rfl (by decide) (by decide) rfl (by decide) rfl (.inr (.inl rfl)) (by show (some NameKind.cell)≠some NameKind.local;decide) (.inl rfl) rfl (λC fp s H=>eG) (λC fp s H=>cu rP (pv 0) (pv 1) (by with_unfolding_all rfl))) ae))))),?_⟩
  have gr:∀{b},jG x z m=b->Q (.bl b) H:=λ{b} e=>by rw [<- e];exact hq H aA.refl
  refine⟨_,rfl,x,rfl,Nat.le_of_lt hl,_,_,rfl,rfl,_,rfl,fI (λh1=>?_) λh1=>⟨_,rfl,br (gr ?_)⟩⟩
  ·refine⟨_,rfl,_,_,rfl,rfl,_,rfl,fI (λh2=>?_) λh2=>gr ?_⟩
   ·unfold tCB cK
    refine tw rfl rfl hl λD H' nD g hD=>⟨D,_,rfl,SqL.of hD,?_⟩
    have e:jG x z m=(x.cps.toList.map (inZ z)).all id:=by
     unfold jG
     rw [h1,h2,Bool.true_and,Bool.true_and,List.all_map];rfl
    rw [<- e]
    exact hq H' g
   ·unfold jG
    rw [Bool.eq_false_iff.mpr h2,Bool.false_and,Bool.and_false]
  ·unfold jG
   rw [Bool.eq_false_iff.mpr h1,Bool.false_and]
noncomputable def cL:Sp:=λvs H Q _=>∃(i lo hi:Int),vs=[.int i,.int lo,.int hi]/\Q (.bl (decide (lo<=i) && decide (i<=hi))) H
noncomputable def iz:Sp:=λvs H Q _=>∃(i:Int),vs=[.int i]/\Q (.bl (decide (0<=i) && decide (i<=399))) H
noncomputable def iX:Sp:=λvs H Q _=>∃x:Str,vs=[.str x]/\x.length < sizeLine/\∀H',aA H H'->Q (.bl (jG x ii 8)) H'
noncomputable def jS:Sp:=λvs H Q _=>∃(f l:Int),vs=[.int f,.int l]/\0<=f/\f<=l/\l < 400/\Q .non H
theorem rh:FnScope ["thing", "low", "high"] ["thing", "low", "high"] (ah eV):=⟨rfl,rfl,rfl,by decide +kernel,rfl,by decide +kernel,by decide +kernel⟩
theorem pJ {f:Addr}{fd:FuncData} (F:Fun K "is_whole" "is_whole" eV f fd) (N:Free mg):FnOk P w K mg base CX0 1 f fd ["thing", "low", "high"] cL:=by
 refine F.ok (k:=0) rh (λvs H Q E h=>?_) (λcdv A outer s H vs Q E hr h=>?_)
 ·obtain⟨i,lo,hi,rfl,_⟩:=h
  rfl
 ·obtain⟨i,lo,hi,rfl,q⟩:=h
  have hu:=bu hr
  refine⟨_,(al (aB (dW (aJ cO (by rfl) N.isinstance PyProof.Rows.Boot.«isinstance» (aa (pv 0) (aa (gU (v:=.ty "int") (by rfl) N.int PyProof.Rows.Boot.«int» rfl) ae))) (dW (ub (aJ cO (by rfl) N.isinstance PyProof.Rows.Boot.«isinstance» (aa (pv 0) (aa (gU (v:=.ty "bool") (by rfl) N.bool PyProof.Rows.Boot.«bool» rfl) ae)))) (fu (oE eK eK (pv 1) (pv 0) (pv 2))))))),?_⟩
  refine⟨_,rfl,.int i,"int", _,true,rfl,.int i,by rfl,_,rfl,cg ⟨_,rfl,.int i,"bool", _,false,rfl,.int i,by rfl,_,rfl,_,rfl,cg ?_⟩⟩
  refine⟨_,rfl,_,rfl,_,_,rfl,rfl,_,rfl,fI (λh1=>⟨_,rfl,_,_,rfl,rfl,?_⟩) λh1=>?_⟩
  ·rw [h1,Bool.true_and]at q
   exact q
  ·rw [Bool.eq_false_iff.mpr h1,Bool.false_and]at q
   exact q
theorem vI:FnScope ["thing"] ["thing"] (ah jd):=⟨rfl,rfl,rfl,by decide +kernel,rfl,by decide +kernel,by decide +kernel⟩
theorem ut {f f1:Addr}{fd:FuncData} (F:Fun K "is_day" "is_day" jd f fd) (N:Con mg){fd1:FuncData} (CW:Cal P w K mg base "is_whole" 1 ["thing", "low", "high"] cL f1 fd1):FnOk P w K mg base CX0 2 f fd ["thing"] iz:=by
 obtain⟨t1,c1⟩:=N.lastday
 refine F.ok (k:=1) vI (λvs H Q E h=>?_) (λcdv A outer s H vs Q E hr h=>?_)
 ·obtain⟨i,rfl,_⟩:=h
  rfl
 ·obtain⟨i,rfl,q⟩:=h
  have hu:=bu hr
  refine⟨_,(al (aB (am CW.ok (hr.mono (by decide)) rfl CW.nm CW.kp CW.bd .nil ao (aa (pv 0) (aa ai (aa (dH (v:=.int 399) (by rfl) c1 ⟨_,rfl⟩) ae)))))),?_⟩
  exact⟨_,rfl,i,0,399,rfl,q⟩
theorem xu:FnScope ["thing"] ["thing"] (ah lX):=⟨rfl,rfl,rfl,by decide +kernel,rfl,by decide +kernel,by decide +kernel⟩
theorem wc {f f1:Addr}{fd:FuncData} (F:Fun K "is_name" "is_name" lX f fd) (N:Free mg) (C:Con mg){fd1:FuncData} (CH:Cal P w K mg base "has_only" 1 ["text", "signs", "most"] qu f1 fd1):FnOk P w K mg base CX0 2 f fd ["thing"] iX:=by
 obtain⟨t1,c1⟩:=C.letters
 obtain⟨t2,c2⟩:=C.eight
 refine F.ok (k:=1) xu (λvs H Q E h=>?_) (λcdv A outer s H vs Q E hr h=>?_)
 ·obtain⟨x,rfl,_⟩:=h
  rfl
 ·obtain⟨x,rfl,hl,hq⟩:=h
  have hu:=bu hr
  refine⟨_,(al (aB (dW (aJ cO (by rfl) N.isinstance PyProof.Rows.Boot.«isinstance» (aa (pv 0) (aa (gU (v:=.ty "str") (by rfl) N.str PyProof.Rows.Boot.«str» rfl) ae))) (fu (am CH.ok (hr.mono (by decide)) rfl CH.nm CH.kp CH.bd .nil ao (aa (pv 0) (aa (dH (v:=.str ii) (by rfl) c1 ⟨_,rfl⟩) (aa (dH (v:=.int 8) (by rfl) c2 ⟨_,rfl⟩) ae)))))))),?_⟩
  exact⟨_,rfl,.str x,"str", _,true,rfl,.str x,by rfl,_,rfl,cg ⟨_,rfl,x,ii,8,rfl,hl,hq⟩⟩
theorem vL:FnScope ["first", "last"] ["first", "last"] (ah jg):=⟨rfl,rfl,rfl,by decide +kernel,rfl,by decide +kernel,by decide +kernel⟩
theorem ux {f f1 f2:Addr}{fd:FuncData} (F:Fun K "check_stretch" "check_stretch" jg f fd) (N:Con mg){fd1 fd2:FuncData} (CW:Cal P w K mg base "is_whole" 1 ["thing", "low", "high"] cL f1 fd1) (CY:Cal P w K mg base "is_day" 2 ["thing"] iz f2 fd2):FnOk P w K mg base CX0 3 f fd ["first", "last"] jS:=by
 obtain⟨t1,c1⟩:=N.lastday
 refine F.ok (k:=2) vL (λvs H Q E h=>?_) (λcdv A outer s H vs Q E hr h=>?_)
 ·obtain⟨f,l,rfl,_⟩:=h
  rfl
 ·obtain⟨f,l,rfl,h0,h1,h2,q⟩:=h
  have hu:=bu hr
  refine⟨_,(aj (bp (cI (cC (am CY.ok (hr.mono (by decide)) rfl CY.nm CY.kp CY.bd .nil ao (aa (pv 0) ae)))) (al cE) aG)
   (al (bp (cI (cC (am CW.ok (hr.mono (by decide)) rfl CW.nm CW.kp CW.bd .nil ao (aa (pv 1) (aa (pv 0) (aa (dH (v:=.int 399) (by rfl) c1 ⟨_,rfl⟩) ae)))))) (al cE) aG))),?_⟩
  refine⟨_,rfl,f,rfl,_,rfl,?_⟩
  rw [show (decide (0<=f) && decide (f<=399))=true from by rw [decide_eq_true h0,decide_eq_true (show f<=399 by omega)];rfl]
  refine br ⟨_,rfl,_,rfl,l,f,399,rfl,_,rfl,?_⟩
  rw [show (decide (f<=l) && decide (l<=399))=true from by rw [decide_eq_true h1,decide_eq_true (show l<=399 by omega)];rfl]
  exact br q
end Mine
namespace L2
open PySem PySem.Spec PyProof.Rows
theorem cm {α β:Type}{F:α->β->Prop}:∀{xs:List α}{ys:List β}{x:α}{y:β},Paired F xs ys->F x y->Paired F (xs++[x]) (ys++[y])
 | _,_,_,_,.nil,h=>.cons h .nil
 | _,_,_,_,.cons a t,h=>.cons a (cm t h)
section
variable {D:Ends}{σ:St}{H:Hp}{Q:VK}
theorem bz (h:D.nx σ H):tz D σ H:=h
theorem bT {te:TE} (h:te σ H D.rt):yo te D σ H:=h
theorem fq {te:TE} (h:te σ H λ_ H1=>D.nx σ H1):wU te D σ H:=h
theorem aP {t u:TS} (h:t { D with nx:=u D } σ H):xh t u D σ H:=h
theorem iG {ta tb:TE} (h:ta σ H λx H1=>∃c,x=.bl c/\if c=true then tb σ H1 Q else Q (.bl false) H1):wV ta tb σ H Q:=h
theorem wY {r:List V->Hp->VK->Prop}{t:TA} (h:t σ H λvs H1=>r vs H1 Q):tCB r t σ H Q:=h
theorem jV {ta:TE}{tr:TA}{R:List V->Hp->Prop} (h:ta σ H λx H1=>tr σ H1 λxs H2=>R (x::xs) H2):cK ta tr σ H R:=h
theorem xF {K:PySem.W.Frag}{ta tv:TE}{f:Str} (h:tv σ H λy H1=>ta σ H1 λx H2=>∃a C dx fs,x=.ref a/\H2 a=some (.ins C dx fs)/\Cls K C/\dE K C f/\fs.length < 1000/\D.nx σ (upd H2 a (.ins C dx (aW f y fs)))):yC K ta tv f D σ H:=h
theorem xE {t:TA} (h:t σ H λxs H1=>xs.length<=sizeLine/\∀p,H1 p=none->Q (.ref p) (upd H1 p (.lst xs))):tE t σ H Q:=h
theorem qB {K:PySem.W.Frag}{T:String}{r:V->List V->Hp->VK->Prop}{to:TE}{t:TA} (h:to σ H λx H1=>tyV K T x H1/\t σ H1 λxs H2=>r x xs H2 Q):tBM K T r to t σ H Q:=h
theorem bh {te:TE}{g:TG} (h:te σ H λx H1=>g x σ H1 D.nx):tH te g D σ H:=h
end
end L2
namespace L2
open PySem PySem.Spec PyProof.Rows
theorem dI (x:Str):x.length=x.cps.toList.length:=by simp [Str.length]
theorem wW {x:Str}{n:Nat} (h:n<=x.length):(Txt.slice x none (some (n:Int))).cps.toList=x.cps.toList.take n:=by
 rw [eq_of_beq (slice_to_min_closes (x:=x) (n:=(n:Int)) (m:=if (x.length:Int) < n then (x.length:Int) else n) (by omega) rfl),if_neg (by omega)]
 show (x.cps.toList.drop 0).take ((n:Int) - 0).toNat=_
 rw [List.drop_zero,Int.sub_zero,Int.toNat_natCast]
theorem vz {x:Str}{n:Nat} (h:n<=x.length):(Txt.slice x (some (n:Int)) none).cps.toList=x.cps.toList.drop n:=by
 rw [slice_from_eq (x:=x) (i:=(n:Int)) (b:=x.length) (by omega) (by omega) rfl]
 show (x.cps.toList.drop (n:Int).toNat).take _=_
 rw [Int.toNat_natCast,List.take_of_length_le]
 rw [List.length_drop,<- dI]
 omega
theorem gY (x y:Str):(x++y).cps.toList=x.cps.toList++y.cps.toList:=by
 show (x.cps++y.cps).toList=_
 rw [Array.toList_append]
theorem uG (zs:List Str):(Str.join (Str.ofString "") zs).cps.toList=(zs.map λz=>z.cps.toList).flatten:=by
 induction zs with
 | nil=>rfl
 | cons z zs ih=>
  cases zs with
  | nil=>simp [Str.join]
  | cons y ys=>
   show (z++Str.ofString ""++Str.join (Str.ofString "") (y::ys)).cps.toList=_
   rw [gY,gY,ih,List.map_cons (l:=y::ys),List.flatten_cons,show (Str.ofString "").cps.toList=[] from rfl,List.append_nil]
theorem yK (zs:List Str):(Txt.join (Str.ofString "") zs).cps.toList=(zs.map λz=>z.cps.toList).flatten:=by
 show (Builtin.Str.glued (Str.ofString "") zs).cps.toList=_
 rw [StrLaws.glued_eq_join]
 exact uG zs
theorem vv {x y:Str} (h:x.cps.toList=y.cps.toList):x=y:=by
 cases x;cases y
 congr 1
 exact Array.toList_inj.mp h
noncomputable def kX (b:List Nat) (at_ s k:Nat):List Nat:=b.take at_++(s::b.drop at_)++List.replicate (k % 3) 122
theorem qI {b:List Nat}{at_ s k:Nat} (h:at_<=b.length):(kX b at_ s k)[at_]?=some s:=by
 unfold kX
 rw [List.append_assoc,List.getElem?_append_right (by rw [List.length_take];omega),List.length_take,Nat.min_eq_left h,Nat.sub_self]
 rfl
theorem uE {b:List Nat}{at_ s k:Nat} (h:at_<=b.length):(kX b at_ s k).length=b.length+1+k % 3:=by
 unfold kX
 rw [List.length_append,List.length_append,List.length_cons,List.length_take,List.length_drop,List.length_replicate,Nat.min_eq_left h]
 omega
theorem uD {b:List Nat}{at_ s k:Nat}{P:Nat->Prop} (hb:∀c∈b,P c) (hs:P s) (hz:P 122):∀c∈kX b at_ s k,P c:=λc hc=>by
 unfold kX at hc
 rcases List.mem_append.mp hc with hc | hc
 ·rcases List.mem_append.mp hc with hc | hc
  ·exact hb c (List.mem_of_mem_take hc)
  ·rcases List.mem_cons.mp hc with hc | hc
   ·rw [hc];exact hs
   ·exact hb c (List.mem_of_mem_drop hc)
 ·rw [(List.mem_replicate.mp hc).2];exact hz
theorem vw {f s k k':Int} (hs:s=1\/s=5\/s=7\/s=9\/s=25) (h0:0<=k) (h1:k < 8) (h2:0<=k') (h3:k' < 8) (e:(f+s * k) % 26=(f+s * k') % 26):k=k':=by
 rcases hs with rfl | rfl | rfl | rfl | rfl <;> omega
theorem qx {P:Nat->Prop}:∀{ys:List V},(∀(i:Nat) (y:V),ys[i]?=some y->∃d:Nat,P d/\y=V.str ⟨#[d]⟩)->∃ds:List Nat,ys=(ds.map λd=>(⟨#[d]⟩:Str)).map V.str/\(∀d∈ds,P d)/\ds.length=ys.length
 | [],_=>⟨[],rfl,(λ_ h=>nomatch h),rfl⟩
 | y::ys,h=>by
  obtain⟨d,h1,h2⟩:=h 0 y rfl
  obtain⟨ds,e1,e2,e3⟩:=qx (ys:=ys) λi z e=>h (i+1) z (by simpa using e)
  refine⟨d::ds,by rw [h2,List.map_cons,List.map_cons,<- e1],λx hx=>?_,by rw [List.length_cons,List.length_cons,e3]⟩
  rcases List.mem_cons.mp hx with hx | hx
  ·rw [hx];exact h1
  ·exact e2 x hx
theorem iN:∀ds:List Nat,((ds.map λd=>(⟨#[d]⟩:Str)).map λz=>z.cps.toList).flatten=ds
 | []=>rfl
 | d::ds=>by rw [List.map_cons,List.map_cons,List.flatten_cons,iN ds];rfl
theorem ju:∀ds:List Nat,((ds.map λd=>(⟨#[d]⟩:Str)).map (·.length)).sum=ds.length
 | []=>rfl
 | d::ds=>by rw [List.map_cons,List.map_cons,List.sum_cons,ju ds,List.length_cons];show 1+_=_;omega
theorem uA {α β:Type}{f:Nat->β}{g:β->α}{n:Nat}{ys:List α} (hl:ys.length=n) (h:∀(i:Nat) (y:α),ys[i]?=some y->y=g (f i)):ys=((List.range n).map f).map g:=by
 apply List.ext_getElem?
 intro i
 rw [List.map_map,List.getElem?_map]
 by_cases hi:i < n
 ·rw [List.getElem?_range hi]
  have e:=List.getElem?_eq_getElem (l:=ys) (i:=i) (by omega)
  rw [e,h i _ e]
  rfl
 ·rw [List.getElem?_eq_none (by omega),List.getElem?_eq_none (by rw [List.length_range];omega)]
  rfl
end L2
namespace L2
open PySem PySem.Spec PyProof.Rows
noncomputable def oV (J:It) (sub:List Nat) (tt:TT) (te:TE) (σ:St) (Q:VK) (H1:Hp):Prop:=∀D,H1 D=none->∃W:Nat->Nat->List V->Hp->Prop,(∃m,W 0 m [] (upd H1 D (.lst [])))/\∀i m ys H2,W i m ys H2->
 (J.stop i H2/\Q (.ref D) H2)\/(J.go i H2/\∃N:List V->Hp->Prop,(∀ys' H',N ys' H'->∃m',m' < m/\W (i+1) m' ys' H')/\∀v H3,J.yld i H2 v H3->tt (some v::bN sub σ) H3 λb H4=>if b=true then
  te (some v::bN sub σ) H4 λy H5=>H5 D=some (.lst ys)/\ys.length < sizeLine/\N (ys++[y]) (upd H5 D (.lst (ys++[y])))
  else N ys H4)
noncomputable def vi (K:PySem.W.Frag) (J:It) (sub:List Nat) (tt:TT) (te:TE) (σ:St) (Q:VK) (H1:Hp):Prop:=∀D,H1 D=none->∃W:Nat->Nat->List V->Hp->Prop,(∃m,W 0 m [] (upd H1 D (.lst [])))/\∀i m ys H2,W i m ys H2->
 (J.stop i H2/\Q (.ref D) H2)\/(J.go i H2/\∃N:List V->Hp->Prop,(∀ys' H',N ys' H'->∃m',m' < m/\W (i+1) m' ys' H')/\∀v H3,J.yld i H2 v H3->∃(t:Addr) (a b:V),v=.ref t/\SqT K H3 t [a,b]/\tt (some a::some b::bN sub σ) H3 λc H4=>if c=true then
  te (some a::some b::bN sub σ) H4 λy H5=>H5 D=some (.lst ys)/\ys.length < sizeLine/\N (ys++[y]) (upd H5 D (.lst (ys++[y])))
  else N ys H4)
section
variable {wi:TI}{sub:List Nat}{tt:TT}{te:TE}{σ:St}{H:Hp}{Q:VK}{K:PySem.W.Frag}
theorem iF (h:wi σ H λJ H1=>oV J sub tt te σ Q H1):kr wi sub tt te σ H Q:=h
theorem tZ (h:wi σ H λJ H1=>vi K J sub tt te σ Q H1):p8 K wi sub tt te σ H Q:=h
theorem jB {n:Nat} (P:Nat->V->Prop) (hn:n<=1000) (hte:∀(i:Nat) (H2:Hp) (R:VK),i < n->(∀y,P i y->R y H2)->te (some (.int (0+(i:Int)))::bN sub σ) H2 R)
  (hq:∀(D:Addr) (ys:List V),H D=none->ys.length=n->(∀(i:Nat) (y:V),ys[i]?=some y->P i y)->Q (.ref D) (upd H D (.lst ys))):oV (Itr 0 n) sub (λ_ H Q=>Q true H) te σ Q H:=by
 intro D nD
 refine io (lo:=0) (n:=n) (sub:=sub) (tt:=λ_ H Q=>Q true H) (te:=te) (Q:=Q) (σ:=σ) (λi ys H2=>ys.length=i/\(∀(j:Nat) (y:V),ys[j]?=some y->P j y)/\H2=upd H D (.lst ys)) ⟨rfl,(λj y e=>by simp at e),rfl⟩ (λi ys H2 hi hh=>?_) λys H2 hh=>?_
 ·obtain⟨e1,e2,rfl⟩:=hh
  refine cg (hte i _ _ hi λy hy=>⟨ad,bB (by omega),by rw [List.length_append,e1];rfl,λj z ez=>?_,gE⟩)
  by_cases hj:j < ys.length
  ·rw [List.getElem?_append_left hj]at ez
   exact e2 j z ez
  ·have hj2:j=i:=by
    have:=(List.getElem?_eq_some_iff.mp ez).1
    rw [List.length_append]at this
    have:j < ys.length+1:=this
    omega
   rw [List.getElem?_append_right (by omega),hj2,e1,Nat.sub_self]at ez
   cases (show some y=some z from ez)
   rw [hj2]
   exact hy
 ·obtain⟨e1,e2,rfl⟩:=hh
  exact hq D ys nD e1 e2
theorem nV {n:Nat}{c:Nat->Bool} (hn:n<=1000) (htt:∀(i:Nat) (H2:Hp) (R:Bool->Hp->Prop),i < n->(∀b o,H b=some o->H2 b=some o)->R (c i) H2->tt (some (.int (0+(i:Int)))::bN sub σ) H2 R)
  (hte:∀(i:Nat) (H2:Hp) (R:VK),i < n->R (.int (i:Int)) H2->te (some (.int (0+(i:Int)))::bN sub σ) H2 R)
  (hq:∀(D:Addr),H D=none->Q (.ref D) (upd H D (.lst (((List.range n).filter c).map λi:Nat=>V.int (i:Int))))):oV (Itr 0 n) sub tt te σ Q H:=by
 intro D nD
 refine io (lo:=0) (n:=n) (sub:=sub) (tt:=tt) (te:=te) (Q:=Q) (σ:=σ) (λi ys H2=>ys=((List.range i).filter c).map (λi:Nat=>V.int (i:Int))/\H2=upd H D (.lst ys)) ⟨rfl,rfl⟩ (λi ys H2 hi hh=>?_) λys H2 hh=>?_
 ·obtain⟨rfl,rfl⟩:=hh
  refine htt i _ _ hi (λb o e=>by rw [ag (af e nD)];exact e) ?_
  have lf:(((List.range i).filter c).map λi:Nat=>V.int (i:Int)).length<=i:=by
   rw [List.length_map]
   have:=List.length_filter_le c (List.range i)
   rw [List.length_range]at this
   exact this
  cases hc:c i with
  | true=>
   refine cg (hte i _ _ hi ⟨ad,bB (by omega),?_,gE⟩)
   rw [List.range_succ,List.filter_append,List.map_append,List.filter_cons,hc];rfl
  | false=>
   refine br ⟨?_,?_⟩
   ·rw [List.range_succ,List.filter_append,List.map_append,List.filter_cons,hc];simp
   ·rfl
 ·obtain⟨rfl,rfl⟩:=hh
  exact hq D nD
theorem qf {a:Addr}{xs:List V} (P:Nat->V->Prop) (ha:H a=some (.lst xs)) (hn:xs.length<=1000) (hte:∀(i:Nat) (x:V) (H2:Hp) (R:VK),xs[i]?=some x->(∀y,P i y->R y H2)->te (some (.int (i:Int))::some x::bN sub σ) H2 R)
  (hq:∀(D:Addr) (ys:List V) (H':Hp),H D=none->(∀b o,H b=some o->H' b=some o)->H' D=some (.lst ys)->ys.length=xs.length->(∀(i:Nat) (y:V),ys[i]?=some y->P i y)->Q (.ref D) H'):vi K (Ite K a) sub (λ_ H Q=>Q true H) te σ Q H:=by
 intro D nD
 refine sQ (K:=K) (a:=a) (xs:=xs) (sub:=sub) (tt:=λ_ H Q=>Q true H) (te:=te) (Q:=Q) (σ:=σ) (λi ys H2=>ys.length=i/\(∀(j:Nat) (y:V),ys[j]?=some y->P j y)/\(∀b o,H b=some o->H2 b=some o)/\H2 D=some (.lst ys))
  ⟨rfl,(λj y e=>by simp at e),(λb o e=>by rw [ag (af e nD)];exact e),ad⟩ (λi ys H2 _ hh=>SqL.of (hh.2.2.1 _ _ ha)) (λi x ys H2 t hx hh nt=>?_) λys H2 hh=>?_
 ·obtain⟨e1,e2,g,hD⟩:=hh
  have hi:=(List.getElem?_eq_some_iff.mp hx).1
  have hD2:upd H2 t (.tup [.int (i:Int),x]) D=some (.lst ys):=by rw [ag (af hD nt)];exact hD
  refine cg (hte i x _ _ hx λy hy=>⟨hD2,bB (by omega),by rw [List.length_append,e1];rfl,λj z ez=>?_,λb o e=>?_,ad⟩)
  ·by_cases hj:j < ys.length
   ·rw [List.getElem?_append_left hj]at ez
    exact e2 j z ez
   ·have hj2:j=i:=by
     have:=(List.getElem?_eq_some_iff.mp ez).1
     rw [List.length_append]at this
     have:j < ys.length+1:=this
     omega
    rw [List.getElem?_append_right (by omega),hj2,e1,Nat.sub_self]at ez
    cases (show some y=some z from ez)
    rw [hj2]
    exact hy
  ·rw [ag (af e nD),ag (af (g _ _ e) nt)]
   exact g _ _ e
 ·obtain⟨e1,e2,g,hD⟩:=hh
  exact hq D ys H2 nD g hD e1 e2
end
end L2
namespace Mine
open PySem L2
variable {P:Program}{w:World}{K:PySem.W.Frag}{mg:Str->Option Value}{base:Heap}
noncomputable abbrev lZ:Stmt:=top 49
theorem uB {i:Int} (h0:0<=i) (h1:i < 26):atI ii.cps.toList i=some (97+i.toNat):=by
 obtain⟨j,rfl⟩:∃j:Nat,i=(j:Int):=⟨i.toNat,by omega⟩
 refine dk ?_
 have hj:j < 26:=by omega
 rw [Int.toNat_natCast]
 have:∀j,j < 26->ii.cps.toList[j]?=some (97+j):=by decide +kernel
 exact this j hj
theorem uR {d:Int} (h0:0<=d) (h1:d < 5):∃s:Int,(s=1\/s=5\/s=7\/s=9\/s=25)/\atI [V.int 1,V.int 5,V.int 7,V.int 9,V.int 25] d=some (V.int s):=by
 rcases (show d=0\/d=1\/d=2\/d=3\/d=4 by omega) with rfl | rfl | rfl | rfl | rfl
 ·exact⟨1,by simp,rfl⟩
 ·exact⟨5,by simp,rfl⟩
 ·exact⟨7,by simp,rfl⟩
 ·exact⟨9,by simp,rfl⟩
 ·exact⟨25,by simp,rfl⟩
noncomputable def nZ (c:Nat):Prop:=97<=c/\c<=122
theorem wx {c:Nat} (h:nZ c):inZ ii c=true:=by
 unfold inZ
 refine decide_eq_true ?_
 have:∀c,c < 123->97<=c->c∈ii.cps.toList:=by decide +kernel
 exact this c (by unfold nZ at h;omega) h.1
structure KeyOk (k:Str):Prop where
 has:jG k ii 8=true
 len:k.length < sizeLine
 nm:Nm k
theorem uF {k:Str} (h1:1<=k.length) (h2:k.length<=8) (hc:∀c∈k.cps.toList,nZ c):KeyOk k:=by
 refine⟨?_,Nat.lt_of_le_of_lt h2 (by decide),?_⟩
 ·unfold jG
  rw [decide_eq_true (show (1:Int)<=k.length by omega),decide_eq_true (show (k.length:Int)<=8 by omega),Bool.true_and,Bool.true_and,List.all_eq_true]
  exact λc hcc=>wx (hc c hcc)
 ·unfold Nm
  rw [<- Array.all_toList,List.all_eq_true]
  intro c hcc
  have:=hc c hcc
  unfold nZ at this
  exact decide_eq_true (by omega)
noncomputable def mY:Sp:=λvs H Q _=>∃(c:Int),vs=[.int c]/\∀(l:Addr) (ks:List Str) (H':Hp),H l=none->aA H H'->H' l=some (.lst (ks.map V.str))->1<=ks.length->ks.length<=8->ks.Nodup->(∀k∈ks,KeyOk k)->Q (.ref l) H'
theorem fU:FnScope ["_law_cell_here", "_law_letters", "_law_base", "_law_at", "_law_first", "_law_step", "_law_many", "_law_signs"] ["_law_cell_here"] (ah lZ):=⟨rfl,rfl,rfl,by decide +kernel,rfl,by decide +kernel,by decide +kernel⟩
theorem wg {f f1 f2:Addr}{fd:FuncData} (F:Fun K "_law_keys" "_law_keys" lZ f fd) (N:Free mg){fd1:FuncData} (CD:Cal P w K mg base "_law_draw" 2 ["_law_cell_here", "_law_k", "_law_many"] fj f1 fd1){fd2:FuncData} (CM:Cal P w K mg base "_law_mix" 1 ["_law_cell_here", "_law_k"] lP f2 fd2):FnOk P w K mg base CX0 3 f fd ["_law_cell_here"] mY:=by
 refine F.ok (k:=2) fU (λvs H Q E h=>?_) (λcdv A outer s H vs Q E hr h=>?_)
 ·obtain⟨c,rfl,_⟩:=h
  rfl
 ·obtain⟨c,rfl,q⟩:=h
  have hu:=bu hr
  refine⟨_,(aj (aI (i:=1) fU.nd rfl (Or.inr rfl) bL)
   (aj (aI (i:=2) fU.nd rfl (Or.inr rfl) (cY PySem.F.plainAttrs_str PySem.F.slot_str_join PySem.F.type_str_join ww bL (aa (kQ (da rfl (fb rfl N.range (aa (am CD.ok (hr.mono (by decide)) rfl CD.nm CD.kp CD.bd .nil ao (aa (pv 0) (aa ai (aa ai ae)))) ae)) rfl rfl (by show ∀p∈_,jI [Str.ofString "_law_letters", Str.ofString "_law_cell_here"] p;decide) (by decide) rfl (by show ([Str.ofString "_law_j", Str.ofString "_law_letters", Str.ofString "_law_cell_here"]:List Str).Nodup;decide) (.cons (i:=1) rfl (.inr (.inl rfl)) (by show (some NameKind.cell)≠some NameKind.local;decide) (.inl rfl) rfl (.cons (i:=0) rfl (.inr (.inl rfl)) (by show (some NameKind.cell)≠some NameKind.local;decide) (.inl rfl) rfl .nil)) (λC fp s H=>eG) (λC fp s H=>(aM uH (pv 1) (aF dC (am CM.ok (hr.mono (by decide)) rfl CM.nm CM.kp CM.bd .nil ao (aa (pv 2) (aa (aF bJ ai (pv 0)) ae))) ai) (λ_ _=>rfl))))) ae)))
   (aj (aI (i:=3) fU.nd rfl (Or.inr rfl) (am CD.ok (hr.mono (by decide)) rfl CD.nm CD.kp CD.bd .nil ao (aa (pv 0) (aa ai (aa (aF bJ (aJ iQ (by rfl) N.len PySem.boot_len (aa (pv 2) ae)) ai) ae)))))
   (aj (aI (i:=4) fU.nd rfl (Or.inr rfl) (am CD.ok (hr.mono (by decide)) rfl CD.nm CD.kp CD.bd .nil ao (aa (pv 0) (aa ai (aa ai ae)))))
   (aj (aI (i:=5) fU.nd rfl (Or.inr rfl) (aM bA (bx (aa ai (aa ai (aa ai (aa ai (aa ai ae)))))) (am CD.ok (hr.mono (by decide)) rfl CD.nm CD.kp CD.bd .nil ao (aa (pv 0) (aa ai (aa ai ae)))) (λ_ _=>rfl)))
   (aj (aI (i:=6) fU.nd rfl (Or.inl rfl) (aF bJ ai (am CD.ok (hr.mono (by decide)) rfl CD.nm CD.kp CD.bd .nil ao (aa (pv 0) (aa ai (aa ai ae))))))
   (aj (nA (i:=7) fU.nd rfl (Or.inl rfl) (da rfl (fb rfl N.range (aa (pv 6) ae)) rfl rfl (by show ∀p∈_,jI [Str.ofString "_law_step", Str.ofString "_law_letters", Str.ofString "_law_first"] p;decide) (by decide) rfl (by show ([Str.ofString "_law_k", Str.ofString "_law_step", Str.ofString "_law_letters", Str.ofString "_law_first"]:List Str).Nodup;decide) (.cons (i:=5) rfl (.inr (.inl rfl)) (by show (some NameKind.cell)≠some NameKind.local;decide) (.inl rfl) rfl (.cons (i:=1) rfl (.inr (.inl rfl)) (by show (some NameKind.cell)≠some NameKind.local;decide) (.inl rfl) rfl (.cons (i:=4) rfl (.inr (.inl rfl)) (by show (some NameKind.cell)≠some NameKind.local;decide) (.inl rfl) rfl .nil))) (λC fp s H=>eG) (λC fp s H=>(aM uH (pv 2) (aF dC (aF bJ (pv 3) (aF eQ (pv 1) (pv 0))) ai) (λ_ _=>rfl)))))
   (al (aB (kQ (pG rfl (qE rfl N.enumerate (aa (pv 7) ae)) rfl rfl (by show ∀p∈_,jI [Str.ofString "_law_base", Str.ofString "_law_at"] p;decide) (by decide) rfl rfl (by show ([Str.ofString "_law_k", Str.ofString "_law_sign", Str.ofString "_law_base", Str.ofString "_law_at"]:List Str).Nodup;decide) (.cons (i:=2) rfl (.inr (.inl rfl)) (by show (some NameKind.cell)≠some NameKind.local;decide) (.inl rfl) rfl (.cons (i:=3) rfl (.inr (.inl rfl)) (by show (some NameKind.cell)≠some NameKind.local;decide) (.inl rfl) rfl .nil)) (λC fp s H=>eG) (λC fp s H=>(aF i8 (aF i8 (aF i8 (bV pi (pv 2) cT (bY (pv 3))) (pv 1)) (bV pi (pv 2) (bY (pv 3)) cT)) (bV pi bL cT (bY (aF dC (pv 0) ai)))))))))))))))),?_⟩
  refine aP (bh ?_)
  dsimp only [tC,aO]
  refine aP (bh (qB ⟨rfl,jV (iF ?_)⟩))
  refine⟨_,rfl,c,1,5,rfl,by decide,by decide,by decide,λm m0 m1=>⟨m,rfl,by omega,by omega,?_⟩⟩
  refine jB (λ_ y=>∃d:Nat,nZ d/\y=V.str ⟨#[d]⟩) (by omega) (λi H2 R hi hR=>?_) λD ys nD hl hy=>?_
  ·refine⟨_,rfl,_,rfl,_,rfl,_,_,rfl,rfl,c,50+(0+(i:Int)),rfl,by omega,by omega,λx x0 x1=>⟨_,_,rfl,rfl,(by show (0:Int) < 26;decide),ii,x % 26,_,rfl,rfl,by decide,uB (Int.emod_nonneg _ (by decide)) (Int.emod_lt_of_pos _ (by decide)),hR _ ⟨_,?_,rfl⟩⟩⟩
   have h1:=Int.emod_nonneg x (show (26:Int)≠0 by decide)
   have h2:=Int.emod_lt_of_pos x (show (0:Int) < 26 by decide)
   unfold nZ
   omega
  obtain⟨ds,rfl,hds,ld⟩:=qx hy
  have ld4:ds.length<=4:=by omega
  refine⟨Str.ofString "", D,ds.map λd=>(⟨#[d]⟩:Str),rfl,rfl,ad,?_,?_⟩
  ·rw [ju,List.length_map,show (Str.ofString "").length=0 from rfl];omega
  have zc:(Txt.join (Str.ofString "") (ds.map λd=>(⟨#[d]⟩:Str))).cps.toList=ds:=by rw [yK,iN]
  generalize Txt.join (Str.ofString "") (ds.map λd=>(⟨#[d]⟩:Str))=z at zc
  have zl:z.length=ds.length:=by rw [dI,zc]
  have zs:z.length<=sizeLine:=Nat.le_trans (show z.length<=4 by omega) (by decide)
  dsimp only [aO]
  refine⟨_,rfl,_,rfl,z,rfl,zs,_,_,rfl,rfl,c,2,(z.length:Int)+1,rfl,by decide,by decide,by omega,λav a0 a1=>?_⟩
  obtain⟨at_,rfl⟩:∃j:Nat,av=(j:Int):=⟨av.toNat,by omega⟩
  refine⟨_,rfl,c,3,26,rfl,by decide,by decide,by decide,λf f0 f1=>?_⟩
  refine⟨by show 5<=sizeLine;decide,λl nl=>⟨_,rfl,c,4,5,rfl,by decide,by decide,by decide,λd d0 d1=>?_⟩⟩
  obtain⟨st,hst,es⟩:=uR d0 d1
  refine⟨l,_,d,V.int st,rfl,rfl,SqL.of ad,es,?_⟩
  refine⟨_,rfl,c,0,8,rfl,by decide,by decide,by decide,λmm mm0 mm1=>⟨_,_,rfl,rfl,?_⟩⟩
  have g2:aA H (upd (upd H D (.lst ((ds.map λd=>(⟨#[d]⟩:Str)).map V.str))) l (.lst [V.int 1,V.int 5,V.int 7,V.int 9,V.int 25])):=(aA.new nD).trans (aA.new nl)
  dsimp only
  refine aP (bh (iF ?_))
  refine⟨_,rfl,1+mm,rfl,by omega,by omega,?_⟩
  refine jB (λi y=>y=V.str ⟨#[97+((f+st * (i:Int)) % 26).toNat]⟩) (by omega) (λi H2 R hi hR=>?_) λD2 ys nD2 hl2 hy2=>?_
  ·refine⟨_,rfl,_,rfl,_,rfl,_,rfl,_,_,rfl,rfl,.inl (by rcases hst with rfl | rfl | rfl | rfl | rfl <;> decide),_,_,rfl,rfl,_,_,rfl,rfl,(by show (0:Int) < 26;decide),ii,_,_,rfl,rfl,by decide,uB (Int.emod_nonneg _ (by decide)) (Int.emod_lt_of_pos _ (by decide)),hR _ ?_⟩
   rw [Int.zero_add]
  have e2:=uA (f:=λi:Nat=>(⟨#[97+((f+st * (i:Int)) % 26).toNat]⟩:Str)) (g:=V.str) hl2 hy2
  dsimp only [aO]
  refine bT (tZ ?_)
  refine⟨_,rfl,D2,rfl,⟨_,SqL.of ad⟩,?_⟩
  have hmm:(1+mm).toNat<=8:=by omega
  refine qf (λi y=>y=V.str ⟨(kX ds at_ (97+((f+st * (i:Int)) % 26).toNat) i).toArray⟩) ad (by omega) (λi x H2 R hx hR=>?_) λD3 ys3 H3 nD3 g3 hD3 hl3 hy3=>?_
  ·have hx2:=hy2 i x hx
   subst hx2
   have hil:=(List.getElem?_eq_some_iff.mp hx).1
   have s1:(Txt.slice z none (some (at_:Int))).cps.toList=ds.take at_:=by rw [wW (by omega),zc]
   have s2:(Txt.slice z (some (at_:Int)) none).cps.toList=ds.drop at_:=by rw [vz (by omega),zc]
   have l1:(Txt.slice z none (some (at_:Int))).length<=4:=by rw [dI,s1,List.length_take];omega
   have l2:(Txt.slice z (some (at_:Int)) none).length<=4:=by rw [dI,s2,List.length_drop];omega
   have s3:(Txt.slice (Str.ofString "zz") none (some ((i:Int) % 3))).cps.toList=List.replicate (i % 3) 122:=by
    rw [show ((i:Int) % 3)=((i % 3:Nat):Int) by omega,wW (by show i % 3<=2;omega)]
    rcases (show i % 3=0\/i % 3=1\/i % 3=2 by omega) with e | e | e <;> rw [e] <;> rfl
   have l3:(Txt.slice (Str.ofString "zz") none (some ((i:Int) % 3))).length<=2:=by rw [dI,s3,List.length_replicate];omega
   have la:∀x y:Str,(x++y).length=x.length+y.length:=λx y=>by rw [dI,gY,List.length_append,<- dI,<- dI]
   have big:∀n,n<=1000->n<=sizeLine:=λn h=>Nat.le_trans h (by decide)
   refine⟨_,rfl,_,rfl,_,rfl,z,rfl,zs,_,rfl,_,_,rfl,rfl,big _ (by show _+1<=1000;omega),_,rfl,_,rfl,_,rfl,z,rfl,zs,_,_,rfl,rfl,big _ ?_,_,rfl,_,_,rfl,rfl,(by show (0:Int) < 3;decide),_,rfl,Str.ofString "zz", rfl,by decide,_,_,rfl,rfl,big _ ?_,hR _ ?_⟩
   ·rw [la];show _+1+_<=1000;omega
   ·rw [la,la];show _+1+_+_<=1000;omega
   ·congr 1
    apply vv
    rw [gY,gY,gY,s1,s2,s3]
    unfold kX
    simp
  have e3:=uA (f:=λi:Nat=>(⟨(kX ds at_ (97+((f+st * (i:Int)) % 26).toNat) i).toArray⟩:Str)) (g:=V.str) (hl3.trans (by rw [hl2])) hy3
  have mlt:∀i:Nat,(0:Int)<=(f+st * (i:Int)) % 26/\(f+st * (i:Int)) % 26 < 26:=λi=>⟨Int.emod_nonneg _ (by decide),Int.emod_lt_of_pos _ (by decide)⟩
  refine q D3 ((List.range (1+mm).toNat).map λi:Nat=>(⟨(kX ds at_ (97+((f+st * (i:Int)) % 26).toNat) i).toArray⟩:Str)) H3 ?_ ((g2.trans (aA.new nD2)).trans g3) (by rw [hD3,e3]) (by rw [List.length_map,List.length_range];omega) (by rw [List.length_map,List.length_range];exact hmm) ?_ λk hk=>?_
  ·exact(g2.trans (aA.new nD2)).free nD3
  ·unfold List.Nodup
   rw [List.pairwise_map]
   refine List.pairwise_lt_range.imp_of_mem λ{i j} hi hj hij he=>?_
   have hi:=List.mem_range.mp hi
   have hj:=List.mem_range.mp hj
   have he2:=congrArg (λs:Str=>s.cps.toList[at_]?) he
   dsimp only at he2
   rw [qI (by omega),qI (by omega)]at he2
   have he3:=Option.some.inj he2
   have:=vw (f:=f) (s:=st) (k:=(i:Int)) (k':=(j:Int)) hst (by omega) (by omega) (by omega) (by omega) (by have:=mlt i;have:=mlt j;omega)
   omega
  ·obtain⟨i,hi,rfl⟩:=List.mem_map.mp hk
   have hl:(⟨(kX ds at_ (97+((f+st * (i:Int)) % 26).toNat) i).toArray⟩:Str).length=ds.length+1+i % 3:=by
    rw [dI]
    exact uE (by omega)
   refine uF (by omega) (by omega) (uD (P:=nZ) hds (by have:=mlt i;unfold nZ;omega) (by unfold nZ;omega))
end Mine
namespace L2
open PySem PySem.Spec PyProof.Rows
structure SA where
 d:Addr
 k:Addr
 f:Addr
 g:Addr
 e:Addr
noncomputable def SA.At (s:SA) (b:Addr):Prop:=b=s.d\/b=s.k\/b=s.f\/b=s.g\/b=s.e
noncomputable def sD (s:SA):List (Key × V):=[(Sum.inr (Str.ofString "keys"),.ref s.k),(Sum.inr (Str.ofString "found"),.ref s.f),(Sum.inr (Str.ofString "gone"),.ref s.g),(Sum.inr (Str.ofString "deeds"),.ref s.e)]
theorem tW (s:SA):jn [] (sD s)=sD s:=by rfl
theorem ze (s:SA):valV (sD s) (Sum.inr (Str.ofString "keys"))=some (.ref s.k):=by rfl
theorem yE (s:SA):valV (sD s) (Sum.inr (Str.ofString "found"))=some (.ref s.f):=by rfl
theorem yD (s:SA):valV (sD s) (Sum.inr (Str.ofString "gone"))=some (.ref s.g):=by rfl
theorem xD (s:SA):valV (sD s) (Sum.inr (Str.ofString "deeds"))=some (.ref s.e):=by rfl
structure StAt (H:Hp) (s:SA) (B:Bk):Prop where
 dd:H s.d=some (.dK (sD s))
 hk:H s.k=some (.lst (B.ks.map V.str))
 hf:∃ps,H s.f=some (.lst (ps.map V.ref))/\o0 H ps B.fs
 hg:H s.g=some (.dK B.gs)
 he:∃ps,H s.e=some (.lst (ps.map V.ref))/\jD H ps B.ds
 fe:s.f≠s.e
 kf:s.k≠s.f
 ke:s.k≠s.e
 dg:s.d≠s.g
theorem StAt.keep {H H':Hp}{s:SA}{B:Bk} (h:StAt H s B) (g:∀b o,s.At b->H b=some o->H' b=some o) (t:∀b xs,H b=some (.tup xs)->H' b=some (.tup xs)):StAt H' s B:=by
 obtain⟨ps,e1,r1⟩:=h.hf
 obtain⟨qs,e2,r2⟩:=h.he
 exact⟨g _ _ (.inl rfl) h.dd,g _ _ (.inr (.inl rfl)) h.hk,⟨ps,g _ _ (.inr (.inr (.inl rfl))) e1,Paired.mapP r1 λ_ _ e=>t _ _ e⟩,g _ _ (.inr (.inr (.inr (.inl rfl)))) h.hg,⟨qs,g _ _ (.inr (.inr (.inr (.inr rfl)))) e2,Paired.mapP r2 λ_ _ e=>t _ _ e⟩,h.fe,h.kf,h.ke,h.dg⟩
theorem StAt.d_k {H:Hp}{s:SA}{B:Bk} (h:StAt H s B):cQ H s.d (.str (Str.ofString "keys")) (some (.ref s.k)):=by rw [<- ze s];exact cQ.k (k:=Sum.inr _) h.dd
theorem StAt.d_f {H:Hp}{s:SA}{B:Bk} (h:StAt H s B):cQ H s.d (.str (Str.ofString "found")) (some (.ref s.f)):=by rw [<- yE s];exact cQ.k (k:=Sum.inr _) h.dd
theorem StAt.d_g {H:Hp}{s:SA}{B:Bk} (h:StAt H s B):cQ H s.d (.str (Str.ofString "gone")) (some (.ref s.g)):=by rw [<- yD s];exact cQ.k (k:=Sum.inr _) h.dd
theorem StAt.d_e {H:Hp}{s:SA}{B:Bk} (h:StAt H s B):cQ H s.d (.str (Str.ofString "deeds")) (some (.ref s.e)):=by rw [<- xD s];exact cQ.k (k:=Sum.inr _) h.dd
theorem StAt.kind {H:Hp}{s:SA}{B:Bk} (h:StAt H s B){b:Addr} (hb:s.At b):(∃xs,H b=some (.lst xs))\/∃xs,H b=some (.dK xs):=by
 obtain⟨ps,e1,r1⟩:=h.hf
 obtain⟨qs,e2,r2⟩:=h.he
 rcases hb with rfl | rfl | rfl | rfl | rfl
 ·exact .inr ⟨_,h.dd⟩
 ·exact .inl ⟨_,h.hk⟩
 ·exact .inl ⟨_,e1⟩
 ·exact .inr ⟨_,h.hg⟩
 ·exact .inl ⟨_,e2⟩
theorem StAt.not_tup {H:Hp}{s:SA}{B:Bk} (h:StAt H s B){b:Addr}{xs:List V} (e:H b=some (.tup xs)):¬s.At b:=λz=>by
 rcases h.kind z with⟨ys,q⟩ | ⟨ys,q⟩ <;> rw [e]at q <;> cases q
theorem StAt.not_ins {H:Hp}{s:SA}{B:Bk} (h:StAt H s B){b C dx:Addr}{fs:List (Str × V)} (e:H b=some (.ins C dx fs)):¬s.At b:=λz=>by
 rcases h.kind z with⟨ys,q⟩ | ⟨ys,q⟩ <;> rw [e]at q <;> cases q
theorem StAt.not_none {H:Hp}{s:SA}{B:Bk} (h:StAt H s B){b:Addr} (e:H b=none):¬s.At b:=λz=>by
 rcases h.kind z with⟨ys,q⟩ | ⟨ys,q⟩ <;> rw [e]at q <;> cases q
theorem BkAt.dom {C:Addr}{H:Hp}{p:Addr}{a:BA}{F:Addr->Prop}{B:Bk} (h:BkAt C H p a F B):BkAt C H p a (λb=>F b/\H b≠none) B:=by
 obtain⟨ps,e1,r1⟩:=id h.hf
 obtain⟨qs,e2,r2⟩:=id h.hd
 obtain⟨ts,e3,l3,r3⟩:=id h.ht
 obtain⟨f1,f2,f3,f4,f5⟩:=h.fa
 have nn:∀{b:Addr}{o:HO},H b=some o->H b≠none:=λe z=>by rw [e]at z;cases z
 refine⟨h.ob,h.hn,h.hf,h.hw,h.hd,⟨ts,e3,l3,λi x e=>?_⟩,⟨⟨f1,nn h.hn⟩,⟨f2,nn e1⟩,⟨f3,nn h.hw⟩,⟨f4,nn e2⟩,⟨f5,nn e3⟩⟩,h.nn,h.fd,h.ft,h.dt,h.ok⟩
 obtain⟨kvs,q1,q2,q3⟩:=(r3 i x e).ex
 refine⟨⟨(r3 i x e).fp,nn q1⟩,(r3 i x e).nm,kvs,q1,q2,λk hk=>?_⟩
 obtain⟨ra,rs,q4,q5⟩:=q3 k hk
 obtain⟨ws,w1,w2⟩:=id q5.rl
 exact⟨ra,rs,q4,⟨q5.fp,nn w1⟩,q5.nm,q5.rl,q5.td,q5.i4,q5.dy⟩
theorem BkAt.M_F {C:Addr}{H:Hp}{p:Addr}{a:BA}{F:Addr->Prop}{B:Bk} (h:BkAt C H p a F B){b:Addr} (m:a.M b):F b:=by
 obtain⟨f1,f2,f3,f4,f5⟩:=h.fa
 rcases m with rfl | rfl | rfl | rfl <;> assumption
structure Pair (C L:Addr) (H:Hp) (p:Addr) (a:BA) (F:Addr->Prop) (s:SA) (B:Bk):Prop where
 bk:BkAt C H p a F B
 st:StAt H s B
 fd:∀b,F b->H b≠none/\b≠L
 sf:∀b,s.At b->¬F b
theorem tK {H H':Hp} (g:∀b o,H b=some o->H' b=some o){b:Addr} (n:H b≠none):H' b≠none:=λz=>by
 cases e:H b with
 | none=>exact n e
 | some o=>
  rw [g b o e]at z
  cases z
theorem Pair.grow {C L:Addr}{H H':Hp}{p:Addr}{a:BA}{F:Addr->Prop}{s:SA}{B:Bk} (h:Pair C L H p a F s B) (g:∀b o,H b=some o->H' b=some o):Pair C L H' p a F s B:=
 ⟨h.bk.keep ⟨λb o _ e=>g b o e,λb xs e=>g b _ e,λb c dx fs e=>g b _ e⟩,h.st.keep (λb o _ e=>g b o e) λb xs e=>g b _ e,λb f=>⟨tK g (h.fd b f).1,(h.fd b f).2⟩,h.sf⟩
theorem Pair.other {C L:Addr}{H H':Hp}{p:Addr}{a:BA}{F G:Addr->Prop}{s r:SA}{B:Bk}{ps:Array Value} (hL:H L=some (.tbl ps)) (h:Pair C L H p a F s B) (d1:∀b,F b->¬G b/\¬r.At b) (d2:∀b,s.At b->¬G b/\¬r.At b)
  (hr:∀b o,r.At b->H b=some o->(∃xs,o=.lst xs)\/∃xs,o=.dK xs) (hG:∀b,G b->(∀xs,H b≠some (.tup xs))/\∀c dx fs,H b≠some (.ins c dx fs))
  (g:∀b o,H b=some o->b≠L->¬G b->¬r.At b->H' b=some o):Pair C L H' p a F s B:=by
 have nr:∀{b:Addr}{o:HO},H b=some o->(∀xs,o≠.lst xs)->(∀xs,o≠.dK xs)->¬r.At b:=λ{b o} e n1 n2 z=>by
  rcases hr b o z e with⟨xs,q⟩ | ⟨xs,q⟩
  ·exact n1 xs q
  ·exact n2 xs q
 have tp:∀b xs,H b=some (.tup xs)->H' b=some (.tup xs):=λb xs e=>g b _ e (aD e hL (by intro z;cases z)) (λz=>(hG b z).1 xs e) (nr e (by intro _ z;cases z) (by intro _ z;cases z))
 refine⟨h.bk.keep ⟨λb o f e=>g b o e (h.fd b f).2 (d1 b f).1 (d1 b f).2,tp,λb c dx fs e=>g b _ e (aD e hL (by intro z;cases z)) (λz=>(hG b z).2 c dx fs e) (nr e (by intro _ z;cases z) (by intro _ z;cases z))⟩,
  h.st.keep (λb o sa e=>g b o e ?_ (d2 b sa).1 (d2 b sa).2) tp,λb f=>⟨λz=>?_,(h.fd b f).2⟩,h.sf⟩
 ·rcases h.st.kind sa with⟨ys,q⟩ | ⟨ys,q⟩
  ·exact aD q hL (by intro z;cases z)
  ·exact aD q hL (by intro z;cases z)
 ·have hn:=(h.fd b f).1
  cases e:H b with
  | none=>exact hn e
  | some o=>rw [g b o e (h.fd b f).2 (d1 b f).1 (d1 b f).2]at z;cases z
noncomputable def dB (B:Bk):List Nat:=(List.range B.fs.length).filter λi=>(valV B.gs (Sum.inl (i:Int))).isNone
theorem pc {B:Bk}{i:Nat}{n:Nat} (e:(dB B)[i]?=some n):n < B.fs.length/\valV B.gs (Sum.inl (n:Int))=none:=by
 have h:=List.mem_of_getElem? e
 obtain⟨h1,h2⟩:=List.mem_filter.mp h
 exact⟨List.mem_range.mp h1,Option.isNone_iff_eq_none.mp h2⟩
theorem Pair.keeps {C L:Addr}{H H':Hp}{p:Addr}{a:BA}{F:Addr->Prop}{s:SA}{B:Bk} (h:Pair C L H p a F s B) (g:∀b o,H b=some o->¬s.At b->H' b=some o):BkAt C H' p a F B:=
 h.bk.keep ⟨λb o f e=>g b o e λz=>h.sf b z f,λb xs e=>g b _ e (h.st.not_tup e),λb c dx fs e=>g b _ e (h.st.not_ins e)⟩
theorem StAt.find {H:Hp}{s:SA}{B:Bk} (h:StAt H s B){k:Str}{f l v:Int}{y z:Addr}{ps qs:List Addr} (e1:H s.f=some (.lst (ps.map V.ref))) (r1:o0 H ps B.fs) (e2:H s.e=some (.lst (qs.map V.ref))) (r2:jD H qs B.ds)
  (ny:H y=none){H1 H2:Hp} (E1:H1=upd (upd H y (.tup [.str ki,.int (B.fs.length:Int)])) s.e (.lst (qs.map V.ref++[.ref y]))) (nz:H1 z=none)
  (E2:H2=upd (upd H1 z (.tup [.str k,.int f,.int l,.int v,.int ((B.ds.length:Int)+1)])) s.f (.lst (ps.map V.ref++[.ref z]))) :
  StAt H2 s (B.find k f l v)/\∀b o,H b=some o->¬s.At b->H2 b=some o:=by
 have yn:=λ{b:Addr}{o:HO} (e:H b=some o)=>af e ny
 have k1:∀b o,H b=some o->b≠s.e->H1 b=some o:=λb o e n=>by rw [E1,ag n,ag (yn e)];exact e
 have k2:∀b o,H1 b=some o->b≠s.f->H2 b=some o:=λb o e n=>by rw [E2,ag n,ag (af e nz)];exact e
 have tp:∀b xs,H b=some (.tup xs)->H2 b=some (.tup xs):=λb xs e=>k2 b _ (k1 b _ e (aD e e2 (by intro z;cases z))) (aD e e1 (by intro z;cases z))
 have ey:H1 y=some (.tup [.str ki,.int (B.fs.length:Int)]):=by rw [E1,ag (yn e2).symm,ad]
 have ee:H1 s.e=some (.lst (qs.map V.ref++[.ref y])):=by rw [E1,ad]
 refine⟨⟨k2 _ _ (k1 _ _ h.dd (aD h.dd e2 (by intro z;cases z))) (aD h.dd e1 (by intro z;cases z)),k2 _ _ (k1 _ _ h.hk h.ke) h.kf,⟨ps++[z],by rw [E2,ad,List.map_append];rfl,?_⟩,k2 _ _ (k1 _ _ h.hg (aD h.hg e2 (by intro z;cases z))) (aD h.hg e1 (by intro z;cases z)),⟨qs++[y],?_,?_⟩,h.fe,h.kf,h.ke,h.dg⟩,λb o e n=>k2 b o (k1 b o e λz=>n (.inr (.inr (.inr (.inr z))))) λz=>n (.inr (.inr (.inl z)))⟩
 ·refine cm (Paired.mapP r1 λ_ _ e=>tp _ _ e) ?_
  rw [E2,ag (af (k1 _ _ e1 h.fe) nz).symm,ad]
  rfl
 ·rw [k2 _ _ ee h.fe.symm,List.map_append];rfl
 ·exact cm (Paired.mapP r2 λ_ _ e=>tp _ _ e) (k2 _ _ ey (yn e1).symm)
theorem StAt.withd {H:Hp}{s:SA}{B:Bk} (h:StAt H s B){n:Nat}{y:Addr}{qs:List Addr} (e2:H s.e=some (.lst (qs.map V.ref))) (r2:jD H qs B.ds)
  (ny:H y=none){H1 H2:Hp} (E1:H1=upd (upd H y (.tup [.str kh,.int (n:Int)])) s.e (.lst (qs.map V.ref++[.ref y])))
  (E2:H2=upd H1 s.g (.dK (cH B.gs (Sum.inl (n:Int)) (.int ((B.ds.length:Int)+1))))) :
  StAt H2 s (B.withd n)/\∀b o,H b=some o->¬s.At b->H2 b=some o:=by
 have yn:=λ{b:Addr}{o:HO} (e:H b=some o)=>af e ny
 obtain⟨ps,e1,r1⟩:=id h.hf
 have k1:∀b o,H b=some o->b≠s.e->H1 b=some o:=λb o e n=>by rw [E1,ag n,ag (yn e)];exact e
 have k2:∀b o,H1 b=some o->b≠s.g->H2 b=some o:=λb o e n=>by rw [E2,ag n];exact e
 have tp:∀b xs,H b=some (.tup xs)->H2 b=some (.tup xs):=λb xs e=>k2 b _ (k1 b _ e (aD e e2 (by intro z;cases z))) (aD e h.hg (by intro z;cases z))
 have ey:H1 y=some (.tup [.str kh,.int (n:Int)]):=by rw [E1,ag (yn e2).symm,ad]
 have ee:H1 s.e=some (.lst (qs.map V.ref++[.ref y])):=by rw [E1,ad]
 refine⟨⟨k2 _ _ (k1 _ _ h.dd (aD h.dd e2 (by intro z;cases z))) h.dg,k2 _ _ (k1 _ _ h.hk h.ke) (aD h.hk h.hg (by intro z;cases z)),⟨ps,k2 _ _ (k1 _ _ e1 h.fe) (aD e1 h.hg (by intro z;cases z)),Paired.mapP r1 λ_ _ e=>tp _ _ e⟩,by rw [E2,ad];rfl,⟨qs++[y],?_,?_⟩,h.fe,h.kf,h.ke,h.dg⟩,λb o e n=>k2 b o (k1 b o e λz=>n (.inr (.inr (.inr (.inr z))))) λz=>n (.inr (.inr (.inr (.inl z))))⟩
 ·rw [k2 _ _ ee (aD e2 h.hg (by intro z;cases z)),List.map_append];rfl
 ·exact cm (Paired.mapP r2 λ_ _ e=>tp _ _ e) (k2 _ _ ey (yn h.hg).symm)
theorem Pair.after {C L:Addr}{H H3 H':Hp}{p:Addr}{a:BA}{F F':Addr->Prop}{s:SA}{B B':Bk}{ps:Array Value} (h:Pair C L H p a F s B) (h3:StAt H3 s B') (k3:∀b o,H b=some o->¬s.At b->H3 b=some o) (hL:H3 L=some (.tbl ps))
  (f1:∀b,F' b->F b\/H3 b=none) (g:∀b o,H3 b=some o->b≠L->¬a.M b->H' b=some o) (hb:BkAt C H' p a F' B') :
  Pair C L H' p a (λb=>F' b/\H' b≠none) s B'/\(∀b,(F' b/\H' b≠none)->F b\/H b=none)/\∀b o,H b=some o->b≠L->¬a.M b->¬s.At b->H' b=some o:=by
 have sM:∀b,s.At b->¬a.M b:=λb z m=>h.sf b z (h.bk.M_F m)
 have sL:∀b,s.At b->b≠L:=λb z=>by
  rcases h3.kind z with⟨ys,q⟩ | ⟨ys,q⟩
  ·exact aD q hL (by intro z;cases z)
  ·exact aD q hL (by intro z;cases z)
 have tM:∀b xs,H3 b=some (.tup xs)->H' b=some (.tup xs):=λb xs e=>by
  refine g b _ e (aD e hL (by intro z;cases z)) λm=>?_
  have hF:=h.bk.M_F m
  have hn:=(h.fd b hF).1
  obtain⟨q1,q2,q3,q4⟩:=(⟨h.bk.hf,h.bk.hw,h.bk.hd,h.bk.ht⟩:_/\_/\_/\_)
  obtain⟨w1,x1,_⟩:=q1
  obtain⟨w3,x3,_⟩:=q3
  obtain⟨w4,x4,_,_⟩:=q4
  have nS:¬s.At b:=λz=>h.sf b z hF
  rcases m with m | m | m | m
  ·rw [m]at e nS;rw [k3 _ _ x1 nS]at e;cases e
  ·rw [m]at e nS;rw [k3 _ _ q2 nS]at e;cases e
  ·rw [m]at e nS;rw [k3 _ _ x3 nS]at e;cases e
  ·rw [m]at e nS;rw [k3 _ _ x4 nS]at e;cases e
 refine⟨⟨hb.dom,h3.keep (λb o z e=>g b o e (sL b z) (sM b z)) tM,λb hf=>⟨hf.2,?_⟩,λb z hf=>?_⟩,λb hf=>?_,λb o e n1 n2 n3=>g b o (k3 b o e n3) n1 n2⟩
 ·rcases f1 b hf.1 with q | q
  ·exact(h.fd b q).2
  ·exact(af hL q).symm
 ·rcases f1 b hf.1 with q | q
  ·exact h.sf b z q
  ·exact h3.not_none q z
 ·rcases f1 b hf.1 with q | q
  ·exact .inl q
  ·refine .inr ?_
   cases e:H b with
   | none=>rfl
   | some o=>
    by_cases z:s.At b
    ·exact absurd z (h3.not_none q)
    ·rw [k3 b o e z]at q;cases q
theorem vN {D:Ends}{σ:St}{H:Hp}{k:Nat}{v:Int} (hσ:σ[k]?=some (some (.int v))) (h:∀v':Int,(v'=v/\v<=1000000000\/v'=1000000000)->D.nx (σ.set k (some (.int v'))) H) :
  xl (og (tOp (rI0 λi j=>V.bl (decide (j < i))) (dN k) (tOp (rI vj λi j=>V.int (i ^ j.toNat)) (tC (V.int 10)) (tC (V.int 9))))) (tH (tOp (rI vj λi j=>V.int (i ^ j.toNat)) (tC (V.int 10)) (tC (V.int 9))) (aO k)) tz D σ H:=by
 have cp:vj 10 9:=⟨by decide,by decide,by decide⟩
 refine⟨_,hσ,10,9,rfl,rfl,cp,v,_,rfl,rfl,_,rfl,?_⟩
 by_cases hv:(10:Int) ^ (9:Int).toNat < v
 ·rw [decide_eq_true hv]
  refine cg ⟨10,9,rfl,rfl,cp,h _ (.inr (by decide))⟩
 ·rw [decide_eq_false hv]
  refine br ?_
  have z:(10:Int) ^ (9:Int).toNat=1000000000:=by decide
  rw [z]at hv
  have:=h v (.inl ⟨rfl,by omega⟩)
  have e:σ.set k (some (.int v))=σ:=by
   obtain⟨hk,e⟩:=List.getElem?_eq_some_iff.mp hσ
   rw [<- e]
   exact List.set_getElem_self hk
  rw [e]at this
  exact this
end L2
namespace Mine
open PySem L2
variable {P:Program}{w:World}{K:PySem.W.Frag}{mg:Str->Option Value}{base:Heap}
noncomputable abbrev j8:Stmt:=top 50
noncomputable abbrev j9:Stmt:=top 52
theorem bX {H:Hp}{a b:Addr}{o:HO} (h:upd H a o b=none):b≠a/\H b=none:=by
 have n:b≠a:=λz=>by rw [z,ad]at h;cases h
 rw [ag n]at h
 exact⟨n,h⟩
noncomputable def jM:Sp:=λvs H Q _=>∃(kl:Addr) (ks:List Str),vs=[.ref kl]/\H kl=some (.lst (ks.map V.str))/\∀(s:SA) (H':Hp),s.k=kl->aA H H'->(∀b,s.At b->b≠kl->H b=none)->StAt H' s (Bk.new ks)->Q (.ref s.d) H'
noncomputable def jN:Sp:=λvs H Q _=>∃(s:SA) (B:Bk),vs=[.ref s.d]/\StAt H s B/\B.fs.length<=60/\∀D,H D=none->Q (.ref D) (upd H D (.lst ((dB B).map λi:Nat=>V.int (i:Int))))
theorem vF:FnScope ["_law_keys_here"] ["_law_keys_here"] (ah j8):=⟨rfl,rfl,rfl,by decide +kernel,rfl,by decide +kernel,by decide +kernel⟩
theorem ul {f:Addr}{fd:FuncData} (F:Fun K "_law_state" "_law_state" j8 f fd) (N:Free mg):FnOk P w K mg base CX0 1 f fd ["_law_keys_here"] jM:=by
 refine F.ok (k:=0) vF (λvs H Q E h=>?_) (λcdv A outer s H vs Q E hr h=>?_)
 ·obtain⟨kl,ks,rfl,_⟩:=h
  rfl
 ·obtain⟨kl,ks,rfl,hk,q⟩:=h
  have hu:=bu hr
  refine⟨_,(al (aB (vU (iI bL (pv 0) (iI bL (bx ae) (iI bL oC (iI bL (bx ae) vP)))) rfl rfl (by decide) (by decide)))),?_⟩
  refine bT ?_
  intro d nd
  refine⟨_,rfl,Nat.zero_le _,λlf nf g ng=>⟨Nat.zero_le _,λle ne=>⟨?_,sD ⟨d,kl,lf,g,le⟩,rfl,(by show 4<=15;decide),?_⟩⟩⟩
  all_goals
   obtain⟨f1,f2⟩:=bX nf
   obtain⟨g1,g2⟩:=bX ng
   obtain⟨g3,g4⟩:=bX g2
   obtain⟨i1,i2⟩:=bX ne
   obtain⟨i3,i4⟩:=bX i2
   obtain⟨i5,i6⟩:=bX i4
  ·rw [ag i5.symm,ag g3.symm,ag f1.symm,ad]
  ·rw [tW]
   have nk:∀{b:Addr},H b=none->kl≠b:=λe z=>by rw [<- z,hk]at e;cases e
   refine q ⟨d,kl,lf,g,le⟩ _ rfl ?_ (λb hb n=>?_) ⟨ad,?_,⟨[],?_,.nil⟩,?_,⟨[],?_,.nil⟩,i3.symm,nk f2,nk i6,g3.symm⟩
   ·intro b o e
    rw [ag (af e nd),ag (af e i6),ag (af e g4),ag (af e f2),ag (af e nd)]
    exact e
   ·rcases hb with rfl | rfl | rfl | rfl | rfl
    ·exact nd
    ·exact absurd rfl n
    ·exact f2
    ·exact g4
    ·exact i6
   ·show upd _ d _ kl=_
    rw [ag (nk nd),ag (nk i6),ag (nk g4),ag (nk f2),ag (nk nd)]
    exact hk
   ·show upd _ d _ lf=_
    rw [ag f1,ag i3.symm,ag g1.symm,ad];rfl
   ·show upd _ d _ g=_
    rw [ag g3,ag i1.symm,ad];rfl
   ·show upd _ d _ le=_
    rw [ag i5,ad];rfl
theorem vG:FnScope ["_law_state_here"] ["_law_state_here"] (ah j9):=⟨rfl,rfl,rfl,by decide +kernel,rfl,by decide +kernel,by decide +kernel⟩
theorem um {f:Addr}{fd:FuncData} (F:Fun K "_law_standing" "_law_standing" j9 f fd) (N:Free mg):FnOk P w K mg base CX0 1 f fd ["_law_state_here"] jN:=by
 refine F.ok (k:=0) vG (λvs H Q E h=>?_) (λcdv A outer s H vs Q E hr h=>?_)
 ·obtain⟨s,B,rfl,_⟩:=h
  rfl
 ·obtain⟨s,B,rfl,h,h60,q⟩:=h
  have hu:=bu hr
  refine⟨_,(al (aB (kQ (da rfl (fb rfl N.range (aa (aJ aZ (by rfl) N.len PySem.boot_len (aa (bZ hu (pv 0) bL (λ_ _=>rfl)) ae)) ae)) rfl rfl (by show ∀p∈_,jI [Str.ofString "_law_state_here"] p;decide) (by decide) rfl (by show ([Str.ofString "_law_number", Str.ofString "_law_state_here"]:List Str).Nodup;decide) (.cons (i:=0) rfl (.inr (.inl rfl)) (by show (some NameKind.cell)≠some NameKind.local;decide) (.inl rfl) rfl .nil) (λC fp s H=>(qD (i7 (mw hu (pv 0) (bZ hu (pv 1) bL (λ_ _=>rfl)))))) (λC fp s H=>(pv 0)))))),?_⟩
  refine bT (iF ?_)
  obtain⟨ps,e1,r1⟩:=id h.hf
  have lps:ps.length=B.fs.length:=Paired.length r1
  refine⟨_,rfl,s.d,_,rfl,h.d_f,s.f,_,rfl,.inl (SqL.of e1),?_⟩
  rw [List.length_map,lps]
  refine⟨_,rfl,by omega,by omega,?_⟩
  rw [Int.toNat_natCast]
  refine nV (c:=λi=>(valV B.gs (Sum.inl (i:Int))).isNone) (by omega) (λi H2 R hi g hR=>?_) (λi H2 R hi hR=>⟨_,rfl,?_⟩) λD nD=>q D nD
  ·have h2:=StAt.keep h (λb o _ e=>g b o e) (λb xs e=>g b _ e)
   refine⟨_,rfl,_,rfl,s.d,_,rfl,h2.d_g,s.g,_,rfl,cQ.k (k:=Sum.inl _) h2.hg,_,rfl,?_⟩
   rw [Int.zero_add,Option.not_isSome]
   exact hR
  ·rw [Int.zero_add]
   exact hR
noncomputable def gJ:Sp:=λvs H Q _=>∃(a:Addr) (ks:List Str),vs=[.ref a]/\H a=some (.lst (ks.map V.str))/\1<=ks.length/\ks.length<=8/\ks.Nodup/\(∀k∈ks,jG k ii 8=true/\k.length < sizeLine)/\∀H',aA H H'->Q (.bl true) H'
theorem oe {K:PySem.W.Frag}{E:XK}{σ:St}{H:Hp}{Q:VK}{a:Addr}{ks:List Str} (e0:σ[0]?=some (some (.ref a))) (ha:H a=some (.lst (ks.map V.str))) (hk:∀k∈ks,jG k ii 8=true/\k.length < sizeLine) (hl:ks.length<=8)
  (hq:∀(D:Addr) (H':Hp),H D=none->aA H H'->H' D=some (.lst ((List.replicate ks.length true).map V.bl))->Q (.ref D) H') :
  kr (uL K (dN 0)) [] (λ_ H Q=>Q true H) (qp iX [] E (cK (dN 0) cn)) σ H Q:=by
 refine⟨_,e0,a,rfl,⟨_,SqL.of ha⟩,λD nD=>jq (K:=K) (a:=a) (xs:=ks.map V.str) (sub:=[]) (tt:=λ_ H Q=>Q true H) (te:=qp iX [] E (cK (dN 0) cn)) (Q:=Q) (σ:=σ)
  (λi ys H2=>ys=(List.replicate i true).map V.bl/\aA H H2/\H2 D=some (.lst ys)) ⟨rfl,aA.new nD,ad⟩ (λi ys H2 _ hh=>?_) (λi x ys H2 hi hh=>?_) λys H2 hh=>?_⟩
 ·exact SqL.of (hh.2.1 _ _ ha)
 ·obtain⟨rfl,g,hD⟩:=hh
  rw [List.getElem?_map]at hi
  cases ek:ks[i]? with
  | none=>rw [ek]at hi;cases hi
  | some k=>
   rw [ek]at hi
   cases hi
   have hil:=(List.getElem?_eq_some_iff.mp ek).1
   obtain⟨k1,k2⟩:=hk k (List.mem_of_getElem? ek)
   refine cg ⟨_,rfl,k,rfl,k2,λH3 g3=>⟨g3 _ _ hD,?_,?_,?_,?_⟩⟩
   ·rw [List.length_map,List.length_replicate]
    exact bB (by omega)
   ·rw [k1,List.replicate_succ',List.map_append];rfl
   ·intro b o e
    rw [ag (af e nD)]
    exact g3 _ _ (g _ _ e)
   ·exact ad
 ·obtain⟨rfl,g,hD⟩:=hh
  rw [List.length_map]at hD
  exact hq D H2 nD g hD
theorem rz:FnScope ["thing"] ["thing"] (ah eX):=⟨rfl,rfl,rfl,by decide +kernel,rfl,by decide +kernel,by decide +kernel⟩
theorem pM {f f1:Addr}{fd:FuncData} (F:Fun K "are_keys" "are_keys" eX f fd) (N:Free mg) (C:Con mg){fd1:FuncData} (CN:Cal P w K mg base "is_name" 2 ["thing"] iX f1 fd1):FnOk P w K mg base CX0 3 f fd ["thing"] gJ:=by
 obtain⟨t1,c1⟩:=C.keys
 refine F.ok (k:=2) rz (λvs H Q E h=>?_) (λcdv A outer s H vs Q E hr h=>?_)
 ·obtain⟨a,ks,rfl,_⟩:=h
  rfl
 ·obtain⟨a,ks,rfl,ha,k1,k8,nd,hk,hq⟩:=h
  have hu:=bu hr
  refine⟨_,(aj (bp (PW.pt (u7 (cI (cC (aJ cO (by rfl) N.isinstance PyProof.Rows.Boot.«isinstance» (aa (pv 0) (aa (gU (v:=.ty "list") (by rfl) N.list PyProof.Rows.Boot.«list» rfl) ae))))) (u6 (cI (kN eK eK ai (aJ aZ (by rfl) N.len PySem.boot_len (aa (pv 0) ae)) (dH (v:=.int 8) (by rfl) c1 ⟨_,rfl⟩)))))) (al (aB eJ)) aG)
   (al (aB (dW (aJ (mL rfl) (by rfl) N.all PyProof.Rows.Boot.«all» (aa (kQ (da rfl (bD (pv 0)) rfl rfl (by show ∀p∈_,jI [] p;decide) (by decide) rfl (by show ([Str.ofString "key"]:List Str).Nodup;decide) .nil (λC fp s H=>eG) (λC fp s H=>(am CN.ok (hr.mono (by decide)) rfl CN.nm CN.kp CN.bd .nil ao (aa (pv 0) ae))))) ae)) (fu (cu dF (aJ sS (by rfl) N.len PySem.boot_len (aa (ce (sR rfl) (by rfl) N.set PyProof.Rows.Boot.«set» (aa (pv 0) ae)) ae)) (aJ aZ (by rfl) N.len PySem.boot_len (aa (pv 0) ae)) (aN _))))))),?_⟩
  have hS:SqL K H a (ks.map V.str):=SqL.of ha
  refine⟨_,rfl,.ref a,"list", _,true,rfl,.lst ha,by rfl,_,rfl,br ?_⟩
  refine⟨_,rfl,a,_,rfl,.inl hS,_,_,rfl,rfl,_,rfl,?_⟩
  rw [List.length_map,decide_eq_true (show (1:Int)<=ks.length by omega)]
  refine cg ⟨_,_,rfl,rfl,_,rfl,?_⟩
  rw [decide_eq_true (show (ks.length:Int)<=8 by omega)]
  refine br ?_
  refine bz ?_
  dsimp only
  refine bT (iG (wY (jV ?_)))
  refine oe rfl ha hk k8 ?_
  intro D H' nD g hD
  refine⟨D,_,rfl,SqL.of hD,_,rfl,?_⟩
  rw [show (List.replicate ks.length true).all id=true from by simp]
  refine cg ?_
  refine⟨_,rfl,a,ks,rfl,SqL.of (g _ _ ha),nd,by omega,λp np=>?_⟩
  refine⟨p,ks,rfl,ad,_,rfl,a,_,rfl,.inl (SqL.of (by rw [ag (af (g _ _ ha) np)];exact g _ _ ha)),rfl,?_⟩
  rw [List.length_map,decide_eq_true rfl]
  exact hq _ (g.trans (aA.new np))
noncomputable abbrev rA:Stmt:=ca (top 41) 2
noncomputable abbrev gR:Stmt:=ca (top 41) 10
noncomputable abbrev gQ:Stmt:=ca (top 41) 11
noncomputable abbrev eW:Stmt:=ca (top 41) 12
noncomputable abbrev jb:Stmt:=ca (top 41) 13
noncomputable abbrev j7:Stmt:=ca (top 41) 9
noncomputable abbrev rE:Stmt:=ca (top 41) 1
noncomputable abbrev jf:Stmt:=ca (top 41) 6
noncomputable abbrev gL:Stmt:=ca (top 41) 7
noncomputable abbrev j5:Stmt:=ca (top 41) 8
theorem wC {k:Str}{ks:List Str} (h:k∈ks):inV (.str k) (ks.map V.str)=true:=by
 unfold inV
 rw [List.any_map,List.any_eq_true]
 exact⟨k,h,by show eqV (.str k) (.str k)=true;simp [eqV]⟩
theorem sG (ks:List Str):(ks.map V.str).all iO=true:=by
 rw [List.all_map,List.all_eq_true]
 intro x _
 rfl
noncomputable def kD (C:Addr):Sp:=λvs H Q _=>∃(p:Addr) (a:BA) (F:Addr->Prop) (B:Bk),vs=[.ref p]/\BkT C H p a F B/\Q (.int (B.ds.length:Int)) H
noncomputable def eT (C:Addr):Sp:=λvs H Q _=>∃(p:Addr) (a:BA) (F:Addr->Prop) (B:Bk) (k:Str),vs=[.ref p,.str k]/\BkT C H p a F B/\k∈B.ks/\Q .non H
noncomputable def fO (C:Addr):Sp:=λvs H Q _=>∃(p:Addr) (a:BA) (F:Addr->Prop) (B:Bk) (n:Nat),vs=[.ref p,.int (n:Int)]/\BkAt C H p a F B/\n < B.fs.length/\Q .non H
noncomputable def eS (C:Addr):Sp:=λvs H Q _=>∃(p:Addr) (a:BA) (F:Addr->Prop) (B:Bk),vs=[.ref p]/\BkT C H p a F B/\B.ds.length < 60/\Q .non H
noncomputable def ix (C:Addr):Sp:=λvs H Q _=>∃(p:Addr) (a:BA) (F:Addr->Prop) (B:Bk) (v:V) (t:Nat),vs=[.ref p,v]/\BkT C H p a F B/\t<=B.ds.length/\((v=.non/\t=B.ds.length)\/v=.int (t:Int))/\Q (.int (t:Int)) H
noncomputable def qw (C:Addr):Sp:=λvs H Q _=>∃(p:Addr) (a:BA) (F:Addr->Prop) (B:Bk),vs=[.ref p]/\BkAt C H p a F B/\∀l,H l=none->Q (.ref l) (upd H l (.lst (B.ks.map V.str)))
noncomputable def jR (C:Addr):Sp:=λvs H Q _=>∃(p:Addr) (a:BA) (F:Addr->Prop) (B:Bk) (n:Nat) (r:Fnd),vs=[.ref p,.int (n:Int)]/\BkAt C H p a F B/\B.fs[n]?=some r/\∀q H',aA H H'->H' q=some (.tup (p6 r++[(valV B.gs (Sum.inl (n:Int))).getD .non]))->Q (.ref q) H'
noncomputable def eE (C:Addr):Sp:=λvs H Q _=>∃(p:Addr) (a:BA) (F:Addr->Prop) (B:Bk) (k:Str) (v:V) (t:Nat),vs=[.ref p,.str k,v]/\BkT C H p a F B/\k∈B.ks/\t<=B.ds.length/\((v=.non/\t=B.ds.length)\/v=.int (t:Int))/\
 ∀(l:Addr) (ps:List Addr) (rs:List aH),H l=none->bM H ps rs->Strip.Tidy rs->bQ rs->(∀x,Strip.dayOf rs x=(B.spk k t x).map V.int)->Q (.ref l) (upd H l (.lst (ps.map V.ref)))
noncomputable def dP (C:Addr):Sp:=λvs H Q _=>∃(p:Addr) (a:BA) (F:Addr->Prop) (B:Bk) (k:Str) (d:Int) (v:V) (t:Nat),vs=[.ref p,.str k,.int d,v]/\BkT C H p a F B/\k∈B.ks/\0<=d/\d < 400/\t<=B.ds.length/\((v=.non/\t=B.ds.length)\/v=.int (t:Int))/\
 Q (((B.spk k t d).map V.int).getD .non) H
theorem yz:FnScope ["self"] ["self"] (ah rA):=⟨rfl,rfl,rfl,by decide +kernel,rfl,by decide +kernel,by decide +kernel⟩
theorem xN {f C:Addr}{fd:FuncData} (F:Fun K "now" "Book.now" rA f fd) (N:Free mg) (T:BkC K C):FnOk P w K mg base CX0 1 f fd ["self"] (kD C):=by
 refine F.ok (k:=0) yz (λvs H Q E h=>?_) (λcdv A outer s H vs Q E hr h=>?_)
 ·obtain⟨p,a,F,B,rfl,_⟩:=h
  rfl
 ·obtain⟨p,a,F,B,rfl,h,q⟩:=h
  have hu:=bu hr
  refine⟨_,(al (aB (aJ aZ (by rfl) N.len PySem.boot_len (aa (bW (pv 0) rfl) ae)))),?_⟩
  obtain⟨dx,ho⟩:=h.ob
  obtain⟨ps,e1,r1⟩:=h.hd
  refine⟨_,rfl,p,C,dx,_,_,rfl,ho,T.cl,T.n4,yR a,a.d,_,rfl,.inl (SqL.of e1),?_⟩
  rw [List.length_map,show ps.length=B.ds.length from Paired.length r1]
  exact q
theorem tV:FnScope ["self", "key"] ["self", "key"] (ah gR):=⟨rfl,rfl,rfl,by decide +kernel,rfl,by decide +kernel,by decide +kernel⟩
theorem rZ {f C:Addr}{fd:FuncData} (F:Fun K "check_key" "Book.check_key" gR f fd) (T:BkC K C):FnOk P w K mg base CX0 1 f fd ["self", "key"] (eT C):=by
 refine F.ok (k:=0) tV (λvs H Q E h=>?_) (λcdv A outer s H vs Q E hr h=>?_)
 ·obtain⟨p,a,F,B,k,rfl,_⟩:=h
  rfl
 ·obtain⟨p,a,F,B,k,rfl,h,hk,q⟩:=h
  have hu:=bu hr
  refine⟨_,(al (bp (aQ nG (pv 1) (bW (pv 0) rfl) (by with_unfolding_all rfl)) (al cE) aG)),?_⟩
  obtain⟨dx,ho⟩:=h.ob
  refine⟨_,rfl,_,rfl,p,C,dx,_,_,rfl,ho,T.cl,T.n1,yQ a,a.n,_,rfl,.inl (SqL.of h.hn),rfl,sG _,_,rfl,?_⟩
  rw [wC hk]
  exact br q
theorem tU:FnScope ["self", "number"] ["self", "number"] (ah gQ):=⟨rfl,rfl,rfl,by decide +kernel,rfl,by decide +kernel,by decide +kernel⟩
theorem rY {f C f1:Addr}{fd:FuncData} (F:Fun K "check_number" "Book.check_number" gQ f fd) (N:Free mg) (T:BkC K C){fd1:FuncData} (CW:Cal P w K mg base "is_whole" 1 ["thing", "low", "high"] cL f1 fd1):FnOk P w K mg base CX0 2 f fd ["self", "number"] (fO C):=by
 refine F.ok (k:=1) tU (λvs H Q E h=>?_) (λcdv A outer s H vs Q E hr h=>?_)
 ·obtain⟨p,a,F,B,n,rfl,_⟩:=h
  rfl
 ·obtain⟨p,a,F,B,n,rfl,h,hn,q⟩:=h
  have hu:=bu hr
  refine⟨_,(al (bp (cI (cC (am CW.ok (hr.mono (by decide)) rfl CW.nm CW.kp CW.bd .nil ao (aa (pv 1) (aa ai (aa (aF jk (aJ aZ (by rfl) N.len PySem.boot_len (aa (bW (pv 0) rfl) ae)) ai) ae)))))) (al cE) aG)),?_⟩
  obtain⟨dx,ho⟩:=h.ob
  obtain⟨ps,e1,r1⟩:=h.hf
  refine⟨_,rfl,_,rfl,p,C,dx,_,_,rfl,ho,T.cl,T.n2,oT a,a.f,_,rfl,.inl (SqL.of e1),_,_,rfl,rfl,n,0,_,rfl,_,rfl,?_⟩
  rw [List.length_map,show ps.length=B.fs.length from Paired.length r1,decide_eq_true (show (0:Int)<=n by omega),decide_eq_true (show (n:Int)<=(B.fs.length:Int) - 1 by omega)]
  exact br q
theorem rj:FnScope ["self"] ["self"] (ah eW):=⟨rfl,rfl,rfl,by decide +kernel,rfl,by decide +kernel,by decide +kernel⟩
theorem pK {f C f1:Addr}{fd:FuncData} (F:Fun K "check_room" "Book.check_room" eW f fd) (N:Con mg) (T:BkC K C){fd1:FuncData} (MN:MC P w K mg base C "now" 1 ["self"] [] [] (kD C) f1 fd1):FnOk P w K mg base CX0 2 f fd ["self"] (eS C):=by
 obtain⟨t1,c1⟩:=N.deeds
 refine F.ok (k:=1) rj (λvs H Q E h=>?_) (λcdv A outer s H vs Q E hr h=>?_)
 ·obtain⟨p,a,F,B,rfl,_⟩:=h
  rfl
 ·obtain⟨p,a,F,B,rfl,h,hr6,q⟩:=h
  have hu:=bu hr
  refine⟨_,(al (bp (aQ x9 (dr (pv 0) MN.cl MN.mt MN.ok (hr.mono (by decide)) MN.bd MN.dv ao) (dH (v:=.int 60) (by rfl) c1 ⟨_,rfl⟩) (aN _)) (al cE) aG)),?_⟩
  obtain⟨dx,ho⟩:=h.ob
  refine⟨_,rfl,p,dx,_,rfl,ho,bK a (by decide +kernel) (by decide +kernel) (by decide +kernel) (by decide +kernel) (by decide +kernel),p,a,F,B,rfl,h,_,_,rfl,rfl,_,rfl,?_⟩
  rw [decide_eq_false (show ¬(60:Int)<=B.ds.length by omega)]
  exact br q
theorem vH:FnScope ["self", "turn"] ["self", "turn"] (ah jb):=⟨rfl,rfl,rfl,by decide +kernel,rfl,by decide +kernel,by decide +kernel⟩
theorem uq {f C f1 f2:Addr}{fd:FuncData} (F:Fun K "turn_meant" "Book.turn_meant" jb f fd) (T:BkC K C){fd1:FuncData} (MN:MC P w K mg base C "now" 1 ["self"] [] [] (kD C) f1 fd1){fd2:FuncData} (CW:Cal P w K mg base "is_whole" 1 ["thing", "low", "high"] cL f2 fd2):FnOk P w K mg base CX0 2 f fd ["self", "turn"] (ix C):=by
 refine F.ok (k:=1) vH (λvs H Q E h=>?_) (λcdv A outer s H vs Q E hr h=>?_)
 ·obtain⟨p,a,F,B,v,t,rfl,_⟩:=h
  rfl
 ·obtain⟨p,a,F,B,v,t,rfl,h,ht,hv,q⟩:=h
  have hu:=bu hr
  refine⟨_,(aj (bp (i7 (nE (pv 1))) (al (aB (dr (pv 0) MN.cl MN.mt MN.ok (hr.mono (by decide)) MN.bd MN.dv ao))) aG)
   (aj (bp (cI (cC (am CW.ok (hr.mono (by decide)) rfl CW.nm CW.kp CW.bd .nil ao (aa (pv 1) (aa ai (aa (dr (pv 0) MN.cl MN.mt MN.ok (hr.mono (by decide)) MN.bd MN.dv ao) ae)))))) (al cE) aG)
   (al (aB (pv 1))))),?_⟩
  obtain⟨dx,ho⟩:=h.ob
  rcases hv with⟨rfl,rfl⟩ | rfl
  ·exact⟨_,rfl,_,rfl,cg ⟨_,rfl,p,dx,_,rfl,ho,bK a (by decide +kernel) (by decide +kernel) (by decide +kernel) (by decide +kernel) (by decide +kernel),p,a,F,B,rfl,h,q⟩⟩
  ·refine⟨_,rfl,_,rfl,br ⟨_,rfl,_,rfl,p,dx,_,rfl,ho,bK a (by decide +kernel) (by decide +kernel) (by decide +kernel) (by decide +kernel) (by decide +kernel),p,a,F,B,rfl,h,t,0,_,rfl,_,rfl,?_⟩⟩
   rw [decide_eq_true (show (0:Int)<=t by omega),decide_eq_true (show (t:Int)<=B.ds.length by omega)]
   exact br ⟨_,rfl,q⟩
theorem yB:FnScope ["self"] ["self"] (ah rE):=⟨rfl,rfl,rfl,by decide +kernel,rfl,by decide +kernel,by decide +kernel⟩
theorem xS {f C:Addr}{fd:FuncData} (F:Fun K "all_keys" "Book.all_keys" rE f fd) (N:Free mg) (T:BkC K C):FnOk P w K mg base CX0 1 f fd ["self"] (qw C):=by
 refine F.ok (k:=0) yB (λvs H Q E h=>?_) (λcdv A outer s H vs Q E hr h=>?_)
 ·obtain⟨p,a,F,B,rfl,_⟩:=h
  rfl
 ·obtain⟨p,a,F,B,rfl,h,q⟩:=h
  have hu:=bu hr
  refine⟨_,(al (aB (ce cV (by rfl) N.list PyProof.Rows.Boot.«list» (aa (bW (pv 0) rfl) ae)))),?_⟩
  obtain⟨dx,ho⟩:=h.ob
  exact⟨_,rfl,p,C,dx,_,_,rfl,ho,T.cl,T.n1,yQ a,a.n,_,rfl,.inl (SqL.of h.hn),λl nl=>q l nl⟩
theorem vK:FnScope ["self", "number"] ["self", "number"] (ah jf):=⟨rfl,rfl,rfl,by decide +kernel,rfl,by decide +kernel,by decide +kernel⟩
theorem uw {f C f1:Addr}{fd:FuncData} (F:Fun K "found" "Book.found" jf f fd) (T:BkC K C){fd1:FuncData} (MK:MC P w K mg base C "check_number" 2 ["self", "number"] [] [] (fO C) f1 fd1):FnOk P w K mg base CX0 3 f fd ["self", "number"] (jR C):=by
 refine F.ok (k:=2) vK (λvs H Q E h=>?_) (λcdv A outer s H vs Q E hr h=>?_)
 ·obtain⟨p,a,F,B,n,r,rfl,_⟩:=h
  rfl
 ·obtain⟨p,a,F,B,n,r,rfl,h,hr1,q⟩:=h
  have hu:=bu hr
  refine⟨_,(aj (aX (bi (pv 0) MK.cl MK.mt MK.ok (hr.mono (by decide)) MK.bd MK.dv ao (aa (pv 1) ae)))
   (al (aB (aF qG (aM bA (bW (pv 0) rfl) (pv 1) (λ_ _=>rfl)) (bC (aa (uc hu (bW (pv 0) rfl) (pv 1) ⟨rfl,rfl,rfl,rfl⟩) ae)))))),?_⟩
  obtain⟨dx,ho⟩:=h.ob
  obtain⟨ps,e1,r1⟩:=h.hf
  have hn:=(List.getElem?_eq_some_iff.mp hr1).1
  obtain⟨x,ex,e2⟩:=kg r1 hr1
  refine⟨_,rfl,p,dx,_,rfl,ho,bK a (by decide +kernel) (by decide +kernel) (by decide +kernel) (by decide +kernel) (by decide +kernel),_,rfl,p,a,F,B,n,rfl,h,hn,?_⟩
  refine⟨_,rfl,p,C,dx,_,_,rfl,ho,T.cl,T.n2,oT a,_,rfl,a.f,_,_,V.ref x,rfl,rfl,SqL.of e1,dk (by rw [List.getElem?_map,ex];rfl),?_⟩
  refine⟨_,rfl,p,C,dx,_,_,rfl,ho,T.cl,T.n3,wM a,a.w,rfl,.inl ⟨_,.inl h.hw⟩,_,rfl,_,cQ.k (k:=Sum.inl (n:Int)) h.hw,by show 1<=sizeLine;decide,λy ny=>?_⟩
  refine⟨x,y,_,_,rfl,rfl,SqT.of (by rw [ag (af e2 ny)];exact e2),SqT.of ad,(by intro z;cases z),by show 6<=sizeLine;decide,(λz=>by cases z),λ_ z nz=>?_⟩
  exact q z _ ((aA.new ny).trans (aA.new nz)) ad
theorem vE:FnScope ["self", "key", "turn"] ["self", "key", "turn"] (ah j7):=⟨rfl,rfl,rfl,by decide +kernel,rfl,by decide +kernel,by decide +kernel⟩
theorem uk {f C f1 f2:Addr}{fd:FuncData}{dV:Value} (F:FunD K "table" "Book.table" j7 dV f fd) (N:Free mg) (T:BkC K C){fd1:FuncData} (MY:MC P w K mg base C "check_key" 1 ["self", "key"] [] [] (eT C) f1 fd1){fd2:FuncData} (MT:MC P w K mg base C "turn_meant" 2 ["self", "turn"] [] [] (ix C) f2 fd2):FnOk P w K mg base CX0 3 f fd ["self", "key", "turn"] (eE C):=by
 refine F.ok (k:=2) vE (λvs H Q E h=>?_) (λcdv A outer s H vs Q E hr h=>?_)
 ·obtain⟨p,a,F,B,k,v,t,rfl,_⟩:=h
  rfl
 ·obtain⟨p,a,F,B,k,v,t,rfl,h,hk,ht,hv,q⟩:=h
  have hu:=bu hr
  refine⟨_,(aj (aX (bi (pv 0) MY.cl MY.mt MY.ok (hr.mono (by decide)) MY.bd MY.dv ao (aa (pv 1) ae)))
   (al (aB (ce cV (by rfl) N.list PyProof.Rows.Boot.«list» (aa (bZ hu (aM bA (bW (pv 0) rfl) (bi (pv 0) MT.cl MT.mt MT.ok (hr.mono (by decide)) MT.bd MT.dv ao (aa (pv 2) ae)) (λ_ _=>rfl)) (pv 1) (λ_ _=>rfl)) ae))))),?_⟩
  obtain⟨dx,ho⟩:=h.ob
  obtain⟨ts,x,kvs,ra,rs,e1,e2,e3,e4,R,lt⟩:=h.tab ht hk
  obtain⟨ps,e5,r5⟩:=R.rl
  refine⟨_,rfl,p,dx,_,rfl,ho,bK a (by decide +kernel) (by decide +kernel) (by decide +kernel) (by decide +kernel) (by decide +kernel),_,rfl,p,a,F,B,k,rfl,h,hk,?_⟩
  refine⟨_,rfl,p,C,dx,_,_,rfl,ho,T.cl,T.n5,wN a,_,rfl,p,dx,_,rfl,ho,bK a (by decide +kernel) (by decide +kernel) (by decide +kernel) (by decide +kernel) (by decide +kernel),_,rfl,p,a,F,B,v,t,rfl,h,ht,hv,?_⟩
  refine⟨a.t,_,_,V.ref x,rfl,rfl,SqL.of e1,dk (by rw [List.getElem?_map,e2];rfl),_,rfl,x,V.ref ra,rfl,?_,?_⟩
  ·have:=cQ.k (k:=Sum.inr k) e3
   rw [e4]at this
   exact this
  ·exact⟨ra,_,rfl,.inl (SqL.of e5),λl nl=>q l ps rs nl r5 R.td R.i4 R.dy⟩
noncomputable abbrev jc:Stmt:=ca (top 41) 14
noncomputable abbrev lT:Stmt:=ca (top 41) 15
noncomputable abbrev md:Stmt:=ca (top 41) 3
noncomputable abbrev iZ:Stmt:=ca (top 41) 4
theorem kU {fs:List Fnd}{i:Nat}{f:Fnd} (e:fs[i]?=some f) (c:Nat->Fnd->Bool):cy fs c (i+1)=if c i f=true then some (i:Int) else cy fs c i:=by
 show (match fs[i]? with | some f=>if c i f=true then some (i:Int) else cy fs c i | none=>cy fs c i)=_
 rw [e]
noncomputable def jP (C T:Addr):Sp:=λvs H Q _=>∃(p:Addr) (a:BA) (k:Str) (fs:List Fnd) (gs:List (Key × V)) (dx:Addr) (ps:List Addr),vs=[.ref p,.str k]/\H p=some (.ins C dx (cW a))/\H a.f=some (.lst (ps.map V.ref))/\o0 H ps fs/\H a.w=some (.dK gs)/\
 (∀f∈fs,0<=f.2.1/\f.2.1<=f.2.2.1/\f.2.2.1 < 400)/\Lm T H/\∀(l:Addr) (rs:List aH) (H':Hp),H l=none->Gm T H H'->aS H' l rs->Strip.Tidy rs->bQ rs->(∀x,Strip.dayOf rs x=(cy fs (lH gs k x) fs.length).map V.int)->Q (.ref l) H'
theorem xa {T:Addr}{H H':Hp} (g:Gm T H H') (L:Lm T H){b:Addr}{o:HO} (e:H b=some o) (n:∀ps,o≠.tbl ps:=by intro _ z;cases z):H' b=some o:=g.at L e n
theorem iD:FnScope ["self", "key", "strip", "number", "finding"] ["self", "key"] (ah jc):=⟨rfl,rfl,rfl,by decide +kernel,rfl,by decide +kernel,by decide +kernel⟩
theorem ur {f C L f1:Addr}{fd:FuncData} (F:Fun K "table_of_known" "Book.table_of_known" jc f fd) (N:Free mg) (T:BkC K C){fd1:FuncData} (CL:Cal P w K mg base "laid" 4 ["strip", "first", "last", "mark"] (kE L) f1 fd1):FnOk P w K mg base CX0 5 f fd ["self", "key"] (jP C L):=by
 refine F.ok (k:=4) iD (λvs H Q E h=>?_) (λcdv A outer s H vs Q E hr h=>?_)
 ·obtain⟨p,a,k,fs,gs,dx,ps,rfl,_⟩:=h
  rfl
 ·obtain⟨p,a,k,fs,gs,dx,ps,rfl,ho,e1,r1,e2,hin,LL,q⟩:=h
  have hu:=bu hr
  refine⟨_,(aj (aI (i:=2) iD.nd rfl (Or.inl rfl) (bx ae))
   (aj (bU PassesOwn.never rfl (qE rfl N.enumerate (aa (bW (pv 0) rfl) ae)) (cD rfl (aq (ay (i:=3) iD.nd rfl (Or.inl rfl)) (aq (ay (i:=4) iD.nd rfl (Or.inl rfl)) bS)))
   (al (bp (PW.pt (eO (aQ dF (aM aY (pv 4) ai (λ_ _=>rfl)) (pv 1) (aN _)) (dG (i7 (mw hu (pv 3) (bW (pv 0) rfl)))))) (al (aI (i:=2) iD.nd rfl (Or.inl rfl) (am CL.ok (hr.mono (by decide)) rfl CL.nm CL.kp CL.bd .nil ao (aa (pv 2) (aa (aM aY (pv 4) ai (λ_ _=>rfl)) (aa (aM aY (pv 4) ai (λ_ _=>rfl)) (aa (pv 3) ae))))))) aG)))
   (al (aB (pv 2))))),?_⟩
  have hlp:ps.length=fs.length:=Paired.length r1
  refine⟨Nat.zero_le _,λst nst=>?_⟩
  have g0:Gm L H (upd H st (.lst [])):=Go.new LL nst
  have ho0:=xa g0 LL ho
  refine⟨_,rfl,p,C,dx,_,_,rfl,ho0,T.cl,T.n2,oT a,a.f,rfl,⟨_,SqL.of (g0.lst LL e1)⟩,uP (K:=K) (a:=a.f) (xs:=ps.map V.ref) (λi σ H2=>∃(l:Addr) (rs:List aH) (v3 v4:Option V),σ=[some (.ref p),some (.str k),some (.ref l),v3,v4]/\H l=none/\Gm L H H2/\aS H2 l rs/\Strip.Tidy rs/\bQ rs/\∀x,Strip.dayOf rs x=(cy fs (lH gs k x) i).map V.int)
   ⟨st,[],none,none,rfl,nst,g0,dL ad,Strip.tidy_nil,(λ_ h=>nomatch h),λx=>rfl⟩ (λi σ H2 _ hh=>?_) ?_ ?_⟩
  ·obtain⟨_,_,_,_,_,_,g,_⟩:=hh
   exact SqL.of (g.lst LL e1)
  ·rintro i y σ H2 t hi ⟨l,rs,v3,v4,rfl,nl,g2,hrs,td,i4,dy⟩ nt
   rw [List.getElem?_map]at hi
   cases ep:ps[i]? with
   | none=>rw [ep]at hi;cases hi
   | some x=>
    rw [ep]at hi
    cases hi
    obtain⟨r,er,ht0⟩:=cJ r1 ep
    have hil:i < fs.length:=(List.getElem?_eq_some_iff.mp er).1
    obtain⟨h0,h1,h2⟩:=hin r (List.mem_of_getElem? er)
    have few:=fY td.up i4
    have g3:Gm L H2 (upd H2 t (.tup [.int (i:Int),.ref x])):=Go.new g2.lam nt
    have g23:=g2.trans g3
    have ht:=g23.tup LL ht0
    have hrs3:=g3.rows g2.lam hrs
    have ho3:=xa g23 LL ho
    have e23:=g23.dK LL e2
    refine⟨t,_,rfl,SqT.of ad,rfl,_,_,rfl,_,_,rfl,rfl,?_⟩
    have skip:(∀d,lH gs k d i r=false)->∃(l':Addr) (rs:List aH) (v3 v4:Option V),[some (V.ref p),some (.str k),some (.ref l),some (.int (i:Int)),some (.ref x)]=[some (.ref p),some (.str k),some (.ref l'),v3,v4]/\H l'=none/\Gm L H (upd H2 t (.tup [.int (i:Int),.ref x]))/\aS (upd H2 t (.tup [.int (i:Int),.ref x])) l' rs/\Strip.Tidy rs/\bQ rs/\∀x,Strip.dayOf rs x=(cy fs (lH gs k x) (i+1)).map V.int:=λhn=>by
     refine⟨l,rs,_,_,rfl,nl,g23,hrs3,td,i4,λd=>?_⟩
     rw [kU er,hn d,if_neg (by decide)]
     exact dy d
    refine⟨_,rfl,x,_,0,V.str r.1,rfl,rfl,SqT.of ht,rfl,_,rfl,rfl,_,rfl,fI (λhk=>?_) (λhk=>br (skip λd=>?_))⟩
    ·have hk:r.1=k:=by
      have:=of_decide_eq_true hk
      injection this
     refine⟨_,rfl,_,rfl,p,C,dx,_,_,rfl,ho3,T.cl,T.n3,wM a,a.w,_,rfl,cQ.k (k:=Sum.inl (i:Int)) e23,_,rfl,?_⟩
     cases eg:valV gs (Sum.inl (i:Int)) with
     | some v=>
      refine br (skip λd=>?_)
      unfold lH
      rw [eg,show (some v:Option V).isNone=false from rfl,Bool.false_and,Bool.and_false]
     | none=>
      refine cg ⟨_,rfl,_,rfl,x,_,1,V.int r.2.1,rfl,rfl,SqT.of ht,rfl,_,rfl,x,_,2,V.int r.2.2.1,rfl,rfl,SqT.of ht,rfl,_,rfl,?_⟩
      refine⟨l,r.2.1,r.2.2.1,(i:Int),rs,rfl,g23.lam,hrs3,td.up.disj,i4,few,h0,h1,h2,λc acc H4 nc g4 hacc td4 dy4 i44 _=>?_⟩
      refine⟨c,acc,_,_,rfl,Gm.free g23 nc,g23.trans g4,hacc,td4,i44,λd=>?_⟩
      rw [dy4,kU er]
      unfold Strip.laidG lH
      rw [eg,decide_eq_true hk,show (none:Option V).isNone=true from rfl,Bool.true_and,Bool.true_and]
      by_cases hd:r.2.1<=d/\d<=r.2.2.1
      ·rw [if_pos hd,decide_eq_true hd.1,decide_eq_true hd.2]
       rfl
      ·rw [if_neg hd,if_neg (by rw [<- Bool.decide_and,decide_eq_false hd];decide)]
       exact dy d
    ·have hk:¬r.1=k:=λz=>hk (decide_eq_true (by rw [z]))
     unfold lH
     rw [decide_eq_false hk,Bool.false_and]
  ·rintro σ H2 ⟨l,rs,v3,v4,rfl,nl,g2,hrs,td,i4,dy⟩
   rw [List.length_map,hlp]at dy
   exact⟨_,rfl,q l rs H2 nl g2 hrs td i4 dy⟩
structure Half (C:Addr) (H:Hp) (p:Addr) (a:BA) (F:Addr->Prop) (B B':Bk) (n:Nat) (r:Fnd) (word:Str):Prop where
 t:BkT C H p a F B
 hf:∃ps,H a.f=some (.lst (ps.map V.ref))/\o0 H ps B'.fs
 hw:H a.w=some (.dK B'.gs)
 fa:F a.n/\F a.f/\F a.w/\F a.d/\F a.t
 nn:¬a.M a.n
 fd:a.f≠a.d
 ft:a.f≠a.t
 dt:a.d≠a.t
 ks:B'.ks=B.ks
 ds:B'.ds=B.ds++[(word,(n:Int))]
 ok:B'.Ok
 hr:B'.fs[n]?=some r
 old:∀k (t:Int) d,t<=B.ds.length->B'.spk k t d=B.spk k t d
 oth:∀k d,k≠r.1->B'.spk k ((B.ds.length:Int)+1) d=B.spk k B.ds.length d
theorem Half.tupM {C:Addr}{H:Hp}{p:Addr}{a:BA}{F:Addr->Prop}{B B':Bk}{n:Nat}{r:Fnd}{word:Str} (h:Half C H p a F B B' n r word):∀b xs,H b=some (.tup xs)->¬a.M b:=λb xs e z=>by
 obtain⟨ps,e1,_⟩:=h.hf
 obtain⟨qs,e2,_⟩:=h.t.hd
 obtain⟨ts,e3,_,_⟩:=h.t.ht
 rcases z with z | z | z | z
 ·rw [z,e1]at e;cases e
 ·rw [z,h.hw]at e;cases e
 ·rw [z,e2]at e;cases e
 ·rw [z,e3]at e;cases e
noncomputable def kB (C:Addr):Sp:=λvs H Q _=>∃(p:Addr) (a:BA) (F:Addr->Prop) (B B':Bk) (n:Nat) (r:Fnd) (word:Str) (st:Addr) (rs:List aH),vs=[.ref p,.str word,.int (n:Int),.ref st]/\Half C H p a F B B' n r word/\aS H st rs/\¬a.M st/\Strip.Tidy rs/\bQ rs/\
 (∀x,Strip.dayOf rs x=(B'.spk r.1 ((B.ds.length:Int)+1) x).map V.int)/\
 ∀(H':Hp) (F':Addr->Prop),(∀b,F b->F' b)->(∀b,F' b->F b\/b=st\/H b=none)->(∀b o,H b=some o->b≠a.d->b≠a.t->H' b=some o)->BkAt C H' p a F' B'->Q .non H'
theorem tP:FnScope ["self", "word", "number", "strip", "tables"] ["self", "word", "number", "strip"] (ah lT):=⟨rfl,rfl,rfl,by decide +kernel,rfl,by decide +kernel,by decide +kernel⟩
theorem w6 {f C:Addr}{fd:FuncData} (F:Fun K "take_deed" "Book.take_deed" lT f fd) (N:Free mg) (T:BkC K C):FnOk P w K mg base CX0 1 f fd ["self", "word", "number", "strip"] (kB C):=by
 refine F.ok (k:=0) tP (λvs H Q E h=>?_) (λcdv A outer s H vs Q E hr h=>?_)
 ·obtain⟨p,a,F,B,B',n,r,word,st,rs,rfl,_⟩:=h
  rfl
 ·obtain⟨p,a,F,B,B',n,r,word,st,rs,rfl,h,hrs,stM,td,i4,dy,q⟩:=h
  have hu:=bu hr
  refine⟨_,(aj (aI (i:=4) tP.nd rfl (Or.inl rfl) (ce nW (by rfl) N.dict PyProof.Rows.Boot.«dict» (aa (aM bA (bW (pv 0) rfl) (jw fN ai) (λ_ _=>rfl)) ae)))
   (aj (nB hu (pv 4) (aM aY (aM bA (bW (pv 0) rfl) (pv 2) (λ_ _=>rfl)) ai (λ_ _=>rfl)) (pv 3) rfl)
   (aj (aX (cY PySem.F.plainAttrs_list PySem.F.slot_list_append PySem.F.type_list_append bf (bW (pv 0) rfl) (aa (pv 4) ae)))
   (al (aX (cY PySem.F.plainAttrs_list PySem.F.slot_list_append PySem.F.type_list_append bf (bW (pv 0) rfl) (aa (bC (aa (pv 1) (aa (pv 2) ae))) ae))))))),?_⟩
  obtain⟨dx,ho⟩:=h.t.ob
  obtain⟨ps,e1,r1⟩:=h.hf
  obtain⟨qs,e2,r2⟩:=h.t.hd
  obtain⟨ts,e3,l3,r3⟩:=h.t.ht
  have z60:=h.ok.dsz
  rw [h.ds,List.length_append]at z60
  have z60:B.ds.length+1<=60:=z60
  obtain⟨t0,x,rfl⟩:∃t0 x,ts=t0++[x]:=by
   rcases List.eq_nil_or_concat ts with e | ⟨t0,x,e⟩
   ·rw [e]at l3;simp at l3
   ·exact⟨t0,x,by rw [e,List.concat_eq_append]⟩
  have l0:t0.length=B.ds.length:=by rw [List.length_append]at l3;simpa using l3
  have hx:(t0++[x])[B.ds.length]?=some x:=by rw [<- l0];simp
  have TX:=r3 _ x hx
  obtain⟨kvs,ex,kl,kk⟩:=TX.ex
  obtain⟨y0,ey,e4⟩:=kg r1 h.hr
  have elm:(t0++[x]).map V.ref=t0.map V.ref++[V.ref x]:=by rw [List.map_append];rfl
  refine⟨_,rfl,p,C,dx,_,_,rfl,ho,T.cl,T.n5,wN a,_,rfl,a.t,_,-1,V.ref x,rfl,rfl,SqL.of e3,by rw [elm];exact lC _ _,x,kvs,rfl,ex,λy ny=>?_⟩
  have old:∀{b:Addr}{o o':HO},H b=some o->(upd H y o') b=some o:=λe=>by rw [ag (af e ny)];exact e
  refine⟨_,rfl,_,rfl,_,rfl,p,C,dx,_,_,rfl,old ho,T.cl,T.n2,oT a,_,rfl,a.f,_,_,V.ref y0,rfl,rfl,SqL.of (old e1),dk (by rw [List.getElem?_map,ey];rfl),y0,_,0,V.str r.1,rfl,rfl,SqT.of (old e4),rfl,y,_,rfl,qj.k (k:=Sum.inr r.1) ad (bB (by omega)),?_⟩
  rw [gE]
  refine⟨_,rfl,p,C,dx,_,_,rfl,old ho,T.cl,T.n5,wN a,.inl ⟨rfl,_,SqL.of (old e3)⟩,_,rfl,a.t,_,_,rfl,rfl,old e3,?_,?_⟩
  ·rw [List.length_map]
   exact bB (by rw [l3];omega)
  have dT:p≠a.t:=aD ho e3 (by intro z;cases z)
  have dD:p≠a.d:=aD ho e2 (by intro z;cases z)
  refine⟨_,rfl,p,C,dx,_,_,rfl,by rw [ag dT];exact old ho,T.cl,T.n4,yR a,.inl ⟨rfl,_,SqL.of (by rw [ag h.dt];exact old e2)⟩,_,rfl,_,rfl,by show 2<=sizeLine;decide,λw nw=>?_⟩
  have nw1:H w=none:=by
   by_cases z:w=a.t
   ·rw [z,ad]at nw;cases nw
   ·rw [ag z]at nw
    by_cases z2:w=y
    ·rw [z2,ad]at nw;cases nw
    ·rw [ag z2]at nw;exact nw
  have wy:w≠y:=λz=>by
   by_cases z':w=a.t
   ·rw [z',ad]at nw;cases nw
   ·rw [ag z',z,ad]at nw;cases nw
  have aw:a.d≠w:=λz=>by rw [<- z,e2]at nw1;cases nw1
  refine⟨a.d,_,_,rfl,rfl,by rw [ag aw,ag h.dt];exact old e2,?_,?_⟩
  ·rw [List.length_map,show qs.length=B.ds.length from Paired.length r2]
   exact bB (by omega)
  have st5:∀b o,H b=some o->b≠a.d->b≠a.t->upd (upd (upd (upd H y (.dK (cH kvs (Sum.inr r.1) (.ref st)))) a.t (.lst ((t0++[x]).map V.ref++[V.ref y]))) w (.tup [.str word,.int (n:Int)])) a.d (.lst (qs.map V.ref++[V.ref w])) b=some o:=λb o e n1 n2=>by
   rw [ag n1,ag (af e nw1),ag n2]
   exact old e
  have M5:KeepM H _ a:=⟨λb o nb e=>st5 b o e (λz=>nb (.inr (.inr (.inl z)))) λz=>nb (.inr (.inr (.inr z)))⟩
  have tup5:=M5.tup h.tupM
  have yM:¬a.M y:=λz=>by
   rcases z with z | z | z | z
   ·rw [z,e1]at ny;cases ny
   ·rw [z,h.hw]at ny;cases ny
   ·rw [z,e2]at ny;cases ny
   ·rw [z,e3]at ny;cases ny
  have yd:y≠a.d:=λz=>yM (.inr (.inr (.inl z)))
  have yt:y≠a.t:=λz=>yM (.inr (.inr (.inr z)))
  obtain⟨f1,f2,f3,f4,f5⟩:=h.fa
  have wd:a.w≠a.d:=aD h.hw e2 (by intro z;cases z)
  have wt:a.w≠a.t:=aD h.hw e3 (by intro z;cases z)
  refine q _ (λb=>F b\/b=st\/b=y) (λb z=>.inl z) (λb z=>?_) st5 ⟨⟨dx,st5 _ _ ho dD dT⟩,by rw [h.ks];exact M5.own _ _ h.nn h.t.hn,⟨ps,st5 _ _ e1 h.fd h.ft,Paired.mapP r1 λ_ _ e=>tup5 _ _ e⟩,st5 _ _ h.hw wd wt,⟨qs++[w],?_,?_⟩,⟨t0++[x]++[y],?_,?_,λi z hz=>?_⟩,⟨.inl f1,.inl f2,.inl f3,.inl f4,.inl f5⟩,h.nn,h.fd,h.ft,h.dt,h.ok⟩
  ·rcases z with z | z | z
   ·exact .inl z
   ·exact .inr (.inl z)
   ·exact .inr (.inr (by rw [z];exact ny))
  ·rw [ad,List.map_append];rfl
  ·rw [h.ds]
   have hw5:upd (upd (upd (upd H y (.dK (cH kvs (Sum.inr r.1) (.ref st)))) a.t (.lst ((t0++[x]).map V.ref++[V.ref y]))) w (.tup [.str word,.int (n:Int)])) a.d (.lst (qs.map V.ref++[V.ref w])) w=some (.tup (yk (word,(n:Int)))):=by
    rw [ag (Ne.symm aw),ad];rfl
   exact cm (Paired.mapP r2 λ_ _ e=>tup5 _ _ e) hw5
  ·rw [ag (Ne.symm h.dt),ag (λz=>by rw [<- z,e3]at nw1;cases nw1),ad,List.map_append (l₁:=t0++[x])];rfl
  ·rw [List.length_append,l3,h.ds,List.length_append];rfl
  ·by_cases hi:i < (t0++[x]).length
   ·rw [List.getElem?_append_left hi]at hz
    exact((r3 i z hz).keepM M5 h.tupM).other (λb z=>.inl z) h.ks λk d=>h.old k i d (by omega)
   ·have hi2:i=B.ds.length+1:=by
     have:=(List.getElem?_eq_some_iff.mp hz).1
     rw [List.length_append]at this
     have:i < (t0++[x]).length+1:=this
     omega
    have ez:z=y:=by
     rw [List.getElem?_append_right (by omega),hi2,l3,Nat.sub_self]at hz
     exact(Option.some.inj hz).symm
    subst ez hi2
    refine⟨.inr (.inr rfl),yM,cH kvs (Sum.inr r.1) (.ref st),?_,?_,λk hk=>?_⟩
    ·rw [ag yd,ag (Ne.symm wy),ag yt,ad]
    ·have:=du kvs (Sum.inr r.1) (V.ref st);omega
    ·rw [h.ks]at hk
     by_cases ek:k=r.1
     ·subst ek
      refine⟨st,rs,by rw [fL,if_pos rfl],.inr (.inl rfl),stM,d9 hrs (λxs e=>M5.own _ _ stM e) tup5,td,i4,dy⟩
     ·obtain⟨ra,rs',e5,R⟩:=kk k hk
      have R5:=R.keepM M5 h.tupM
      refine⟨ra,rs',by rw [fL,if_neg (λz=>ek (Sum.inr.inj z))];exact e5,.inl R5.fp,R5.nm,R5.rl,R5.td,R5.i4,λd=>?_⟩
      have:=h.oth k d ek
      rw [R5.dy]
      exact congrArg (Option.map V.int) this.symm
theorem qU {C:Addr}{H:Hp}{p:Addr}{a:BA}{F:Addr->Prop}{B:Bk} (h:BkAt C H p a F B):∀b xs,H b=some (.tup xs)->¬a.M b:=λb xs e z=>by
 obtain⟨ps,e1,_⟩:=h.hf
 obtain⟨qs,e2,_⟩:=h.hd
 obtain⟨ts,e3,_,_⟩:=h.ht
 rcases z with z | z | z | z
 ·rw [z,e1]at e;cases e
 ·rw [z,h.hw]at e;cases e
 ·rw [z,e2]at e;cases e
 ·rw [z,e3]at e;cases e
theorem wL {C:Addr}{H:Hp}{p:Addr}{a:BA}{F:Addr->Prop}{B:Bk} (h:BkAt C H p a F B):∀b c dx fs,H b=some (.ins c dx fs)->¬a.M b:=λb c dx fs e z=>by
 obtain⟨ps,e1,_⟩:=h.hf
 obtain⟨qs,e2,_⟩:=h.hd
 obtain⟨ts,e3,_,_⟩:=h.ht
 rcases z with z | z | z | z
 ·rw [z,e1]at e;cases e
 ·rw [z,h.hw]at e;cases e
 ·rw [z,e2]at e;cases e
 ·rw [z,e3]at e;cases e
theorem qh {C:Addr}{H:Hp}{p:Addr}{a:BA}{F:Addr->Prop}{B:Bk} (h:BkAt C H p a F B){b:Addr} (e:H b=none):¬a.M b:=λz=>by
 obtain⟨ps,e1,_⟩:=h.hf
 obtain⟨qs,e2,_⟩:=h.hd
 obtain⟨ts,e3,_,_⟩:=h.ht
 rcases z with z | z | z | z
 ·rw [z,e1]at e;cases e
 ·rw [z,h.hw]at e;cases e
 ·rw [z,e2]at e;cases e
 ·rw [z,e3]at e;cases e
theorem vd {C:Addr}{H H':Hp}{p:Addr}{a:BA}{F:Addr->Prop}{B:Bk} (h:BkAt C H p a F B) (g:KeepM H H' a) (ed:∀xs,H a.d=some (.lst xs)->H' a.d=some (.lst xs)) (et:∀xs,H a.t=some (.lst xs)->H' a.t=some (.lst xs)):BkT C H' p a F B:=by
 obtain⟨dx,e0⟩:=h.ob
 obtain⟨qs,e2,r2⟩:=h.hd
 obtain⟨ts,e3,l3,r3⟩:=h.ht
 exact⟨⟨dx,g.own _ _ (wL h _ _ _ _ e0) e0⟩,g.own _ _ h.nn h.hn,⟨qs,ed _ e2,Paired.mapP r2 λ_ _ e=>g.tup (qU h) _ _ e⟩,⟨ts,et _ e3,l3,λi x e=>(r3 i x e).keepM g (qU h)⟩⟩
theorem bP {T:Addr}{H H':Hp} (L:Lm T H) (k:∀b o,H b=some o->(∀xs,o≠.lst xs)->(∀xs,o≠.dK xs)->H' b=some o):Lm T H':=by
 rcases L with e | ⟨c,e1,e2⟩
 ·exact .inl (k _ _ e (by intro _ z;cases z) (by intro _ z;cases z))
 ·exact .inr ⟨c,k _ _ e1 (by intro _ z;cases z) (by intro _ z;cases z),k _ _ e2 (by intro _ z;cases z) (by intro _ z;cases z)⟩
noncomputable def jJ (C L:Addr):Sp:=λvs H Q _=>∃(p:Addr) (a:BA) (F:Addr->Prop) (B:Bk) (n:Nat) (r:Fnd),vs=[.ref p,.int (n:Int)]/\Lm L H/\BkAt C H p a F B/\B.fs[n]?=some r/\valV B.gs (Sum.inl (n:Int))=none/\B.ds.length < 60/\
 ∀(H':Hp) (F':Addr->Prop),Lm L H'->(∀b,F b->F' b)->(∀b,F' b->F b\/H b=none)->(∀b o,H b=some o->b≠L->¬a.M b->H' b=some o)->BkAt C H' p a F' (B.withd n)->Q .non H'
theorem vB:FnScope ["self", "number"] ["self", "number"] (ah iZ):=⟨rfl,rfl,rfl,by decide +kernel,rfl,by decide +kernel,by decide +kernel⟩
theorem ug {f C L f1 f2 f3 f4 f5:Addr}{fd:FuncData} (F:Fun K "withdraw" "Book.withdraw" iZ f fd) (T:BkC K C){fd1:FuncData} (MK:MC P w K mg base C "check_number" 2 ["self", "number"] [] [] (fO C) f1 fd1){fd2:FuncData} (MR:MC P w K mg base C "check_room" 2 ["self"] [] [] (eS C) f2 fd2){fd3:FuncData} (MN:MC P w K mg base C "now" 1 ["self"] [] [] (kD C) f3 fd3){fd4:FuncData} (MD:MC P w K mg base C "take_deed" 1 ["self", "word", "number", "strip"] [] [] (kB C) f4 fd4){fd5:FuncData} (MW:MC P w K mg base C "table_of_known" 5 ["self", "key"] [] [] (jP C L) f5 fd5):FnOk P w K mg base CX0 6 f fd ["self", "number"] (jJ C L):=by
 refine F.ok (k:=5) vB (λvs H Q E h=>?_) (λcdv A outer s H vs Q E hr h=>?_)
 ·obtain⟨p,a,F,B,n,r,rfl,_⟩:=h
  rfl
 ·obtain⟨p,a,F,B,n,r,rfl,LL,h,hr1,hg,h60,q⟩:=h
  have hu:=bu hr
  refine⟨_,(aj (aX (bi (pv 0) MK.cl MK.mt MK.ok (hr.mono (by decide)) MK.bd MK.dv ao (aa (pv 1) ae)))
   (aj (bp (i7 (xM hu (pv 1) (bW (pv 0) rfl))) (al cE) aG)
   (aj (aX (dr (pv 0) MR.cl MR.mt MR.ok (hr.mono (by decide)) MR.bd MR.dv ao))
   (aj (nB hu (bW (pv 0) rfl) (pv 1) (aF bJ (dr (pv 0) MN.cl MN.mt MN.ok (hr.mono (by decide)) MN.bd MN.dv ao) ai) rfl)
   (al (aX (bi (pv 0) MD.cl MD.mt MD.ok (hr.mono (by decide)) MD.bd MD.dv ao (aa bL (aa (pv 1) (aa (bi (pv 0) MW.cl MW.mt MW.ok (hr.mono (by decide)) MW.bd MW.dv ao (aa (aM aY (aM bA (bW (pv 0) rfl) (pv 1) (λ_ _=>rfl)) ai (λ_ _=>rfl)) ae)) ae)))))))))),?_⟩
  obtain⟨dx,ho⟩:=h.ob
  obtain⟨ps,e1,r1⟩:=h.hf
  obtain⟨qs,e2,r2⟩:=h.hd
  obtain⟨ts,e3,l3,r3⟩:=h.ht
  obtain⟨y0,ey,e4⟩:=kg r1 hr1
  have hn:=(List.getElem?_eq_some_iff.mp hr1).1
  have gsz:=h.ok.gsz
  refine⟨_,rfl,p,dx,_,rfl,ho,bK a (by decide +kernel) (by decide +kernel) (by decide +kernel) (by decide +kernel) (by decide +kernel),_,rfl,p,a,F,B,n,rfl,h,hn,?_⟩
  refine⟨_,rfl,_,rfl,p,C,dx,_,_,rfl,ho,T.cl,T.n3,wM a,a.w,_,rfl,cQ.k (k:=Sum.inl (n:Int)) h.hw,_,rfl,?_⟩
  rw [hg]
  refine br ⟨_,rfl,p,dx,_,rfl,ho,bK a (by decide +kernel) (by decide +kernel) (by decide +kernel) (by decide +kernel) (by decide +kernel),p,a,F,B,rfl,h.toT,h60,?_⟩
  refine⟨_,rfl,p,dx,_,rfl,ho,bK a (by decide +kernel) (by decide +kernel) (by decide +kernel) (by decide +kernel) (by decide +kernel),p,a,F,B,rfl,h.toT,_,_,rfl,rfl,_,rfl,p,C,dx,_,_,rfl,ho,T.cl,T.n3,wM a,_,rfl,a.w,_,rfl,qj.k (k:=Sum.inl (n:Int)) h.hw (bB (by omega)),?_⟩
  have ste1:∀b o,H b=some o->b≠a.w->upd H a.w (.dK (cH B.gs (Sum.inl (n:Int)) (.int ((B.ds.length:Int)+1)))) b=some o:=λb o e n1=>by
   rw [ag n1];exact e
  have wp:p≠a.w:=aD ho h.hw (by intro z;cases z)
  have wf:a.f≠a.w:=aD e1 h.hw (by intro z;cases z)
  have wd:a.d≠a.w:=aD e2 h.hw (by intro z;cases z)
  have wt:a.t≠a.w:=aD e3 h.hw (by intro z;cases z)
  have L1:Lm L (upd H a.w (.dK (cH B.gs (Sum.inl (n:Int)) (.int ((B.ds.length:Int)+1))))):=bP LL λb o e _ n1=>ste1 b o e λz=>by rw [z,h.hw]at e;exact n1 _ (Option.some.inj e).symm
  have tup1:∀b xs,H b=some (.tup xs)->upd H a.w (.dK (cH B.gs (Sum.inl (n:Int)) (.int ((B.ds.length:Int)+1)))) b=some (.tup xs):=λb xs e=>ste1 _ _ e (aD e h.hw (by intro z;cases z))
  refine⟨_,rfl,p,dx,_,rfl,ste1 _ _ ho wp,bK a (by decide +kernel) (by decide +kernel) (by decide +kernel) (by decide +kernel) (by decide +kernel),_,rfl,_,rfl,p,dx,_,rfl,ste1 _ _ ho wp,bK a (by decide +kernel) (by decide +kernel) (by decide +kernel) (by decide +kernel) (by decide +kernel),_,rfl,p,C,dx,_,_,rfl,ste1 _ _ ho wp,T.cl,T.n2,oT a,_,rfl,a.f,_,_,V.ref y0,rfl,rfl,SqL.of (ste1 _ _ e1 wf),dk (by rw [List.getElem?_map,ey];rfl),y0,_,0,V.str r.1,rfl,rfl,SqT.of (tup1 _ _ e4),rfl,?_⟩
  refine⟨p,a,r.1,B.fs,cH B.gs (Sum.inl (n:Int)) (.int ((B.ds.length:Int)+1)),dx,ps,rfl,ste1 _ _ ho wp,ste1 _ _ e1 wf,Paired.mapP r1 λ_ _ e=>tup1 _ _ e,ad,λx hx=>?_,L1,λst rs H3 nst g3 hrs td i4 dy=>?_⟩
  ·obtain⟨_,a1,a2,a3,_⟩:=h.ok.fin x hx
   exact⟨a1,a2,a3⟩
  have keep3:∀b o,H b=some o->b≠L->b≠a.w->H3 b=some o:=λb o e n1 n2=>g3.same b o n1 (ste1 b o e n2)
  have free1:∀b,H3 b=none->H b=none:=λb e=>by
   have e1':=Gm.free g3 e
   by_cases z:b=a.w
   ·rw [z,ad]at e1';cases e1'
   ·rw [ag z]at e1';exact e1'
  have nst1:H st=none:=by
   by_cases z:st=a.w
   ·rw [z,ad]at nst;cases nst
   ·rw [ag z]at nst;exact nst
  have noL:∀{b:Addr}{o:HO},H b=some o->(∀ps,o≠.tbl ps)->b≠L:=λe n z=>by
   obtain⟨us,eu⟩:=LL.tbl
   rw [z,eu]at e
   exact n us (Option.some.inj e).symm
  have tup3:∀b xs,H b=some (.tup xs)->H3 b=some (.tup xs):=λb xs e=>g3.tup L1 (tup1 b xs e)
  have O':=h.ok.withd hn h60
  have el:((B.withd n).ds.length:Int)=(B.ds.length:Int)+1:=by simp [Bk.withd]
  have T3:BkT C H3 p a F B:=by
   refine⟨⟨dx,keep3 _ _ ho (noL ho (by intro _ z;cases z)) wp⟩,keep3 _ _ h.hn (noL h.hn (by intro _ z;cases z)) (λz=>h.nn (.inr (.inl z))),⟨qs,keep3 _ _ e2 (noL e2 (by intro _ z;cases z)) wd,Paired.mapP r2 λ_ _ e=>tup3 _ _ e⟩,⟨ts,keep3 _ _ e3 (noL e3 (by intro _ z;cases z)) wt,l3,λi x e=>?_⟩⟩
   obtain⟨kvs,ex,kl,kk⟩:=(r3 i x e).ex
   refine⟨(r3 i x e).fp,(r3 i x e).nm,kvs,keep3 _ _ ex (noL ex (by intro _ z;cases z)) (λz=>(r3 i x e).nm (.inr (.inl z))),kl,λk' hk'=>?_⟩
   obtain⟨ra,rs',e5,R⟩:=kk k' hk'
   exact⟨ra,rs',e5,R.fp,R.nm,d9 R.rl (λxs e=>keep3 _ _ e (noL e (by intro _ z;cases z)) λz=>R.nm (.inr (.inl z))) tup3,R.td,R.i4,R.dy⟩
  have HF:Half C H3 p a F B (B.withd n) n r kh:=by
   refine⟨T3,⟨ps,keep3 _ _ e1 (noL e1 (by intro _ z;cases z)) wf,Paired.mapP r1 λ_ _ e=>tup3 _ _ e⟩,g3.dK L1 ad,h.fa,h.nn,h.fd,h.ft,h.dt,rfl,rfl,O',hr1,λk' t d ht=>h.ok.withd_old hg ht k' d,λk' d hk'=>h.ok.withd_other hr1 h60 hk' d⟩
  refine⟨p,a,F,B,B.withd n,n,r,kh,st,rs,rfl,HF,hrs,qh h nst1,td,i4,λd=>?_,λH' F' hF hF2 st5 BK=>?_⟩
  ·have nw:=O'.now r.1 d
   rw [el]at nw
   rw [dy,nw]
   rfl
  ·refine q H' F' (bP g3.lam λb o e n1 n2=>st5 b o e (λz=>?_) λz=>?_) hF (λb z=>?_) (λb o e n1 n2=>st5 b o (keep3 b o e n1 λz=>n2 (.inr (.inl z))) (λz=>n2 (.inr (.inr (.inl z)))) λz=>n2 (.inr (.inr (.inr z)))) BK
   ·obtain⟨_,e4,_⟩:=T3.hd
    rw [z,e4]at e;exact n1 _ (Option.some.inj e).symm
   ·obtain⟨_,e4,_⟩:=T3.ht
    rw [z,e4]at e;exact n1 _ (Option.some.inj e).symm
   ·rcases hF2 b z with z | z | z
    ·exact .inl z
    ·exact .inr (by rw [z];exact nst1)
    ·exact .inr (free1 b z)
noncomputable def mZ (C L:Addr):Sp:=λvs H Q _=>∃(p:Addr) (a:BA) (F:Addr->Prop) (B:Bk) (k:Str) (f l v:Int),vs=[.ref p,.str k,.int f,.int l,.int v]/\Lm L H/\BkAt C H p a F B/\k∈B.ks/\0<=f/\f<=l/\l < 400/\-1000000000<=v/\v<=1000000000/\B.ds.length < 60/\
 ∀(H':Hp) (F':Addr->Prop),Lm L H'->(∀b,F b->F' b)->(∀b,F' b->F b\/H b=none)->(∀b o,H b=some o->b≠L->¬a.M b->H' b=some o)->BkAt C H' p a F' (B.find k f l v)->Q (.int (B.fs.length:Int)) H'
theorem tT:FnScope ["self", "key", "first", "last", "value", "number"] ["self", "key", "first", "last", "value"] (ah md):=⟨rfl,rfl,rfl,by decide +kernel,rfl,by decide +kernel,by decide +kernel⟩
theorem wk {f C L f1 f2 f3 f4 f5 f6 f7 f8:Addr}{fd:FuncData} (F:Fun K "find" "Book.find" md f fd) (N:Free mg) (Z:Con mg) (T:BkC K C){fd1:FuncData} (MY:MC P w K mg base C "check_key" 1 ["self", "key"] [] [] (eT C) f1 fd1){fd2:FuncData} (CC:Cal P w K mg base "check_stretch" 3 ["first", "last"] jS f2 fd2){fd3:FuncData} (CW:Cal P w K mg base "is_whole" 1 ["thing", "low", "high"] cL f3 fd3){fd4:FuncData} (MR:MC P w K mg base C "check_room" 2 ["self"] [] [] (eS C) f4 fd4){fd5:FuncData} (MN:MC P w K mg base C "now" 1 ["self"] [] [] (kD C) f5 fd5){fd6:FuncData} (MD:MC P w K mg base C "take_deed" 1 ["self", "word", "number", "strip"] [] [] (kB C) f6 fd6){fd7:FuncData} (MB:MC P w K mg base C "table" 3 ["self", "key", "turn"] [Value.none] [V.non] (eE C) f7 fd7){fd8:FuncData} (CL:Cal P w K mg base "laid" 4 ["strip", "first", "last", "mark"] (kE L) f8 fd8):FnOk P w K mg base CX0 5 f fd ["self", "key", "first", "last", "value"] (mZ C L):=by
 obtain⟨t1,c1⟩:=Z.value
 refine F.ok (k:=4) tT (λvs H Q E h=>?_) (λcdv A outer s H vs Q E hr h=>?_)
 ·obtain⟨p,a,F,B,k,f,l,v,rfl,_⟩:=h
  rfl
 ·obtain⟨p,a,F,B,k,f,l,v,rfl,LL,h,hk,h0,h1,h2,v0,v1,h60,q⟩:=h
  have hu:=bu hr
  refine⟨_,(aj (aX (bi (pv 0) MY.cl MY.mt MY.ok (hr.mono (by decide)) MY.bd MY.dv ao (aa (pv 1) ae)))
   (aj (aX (am CC.ok (hr.mono (by decide)) rfl CC.nm CC.kp CC.bd .nil ao (aa (pv 2) (aa (pv 3) ae))))
   (aj (bp (cI (cC (am CW.ok (hr.mono (by decide)) rfl CW.nm CW.kp CW.bd .nil ao (aa (pv 4) (aa (jw fN (dH (v:=.int 1000000000) (by rfl) c1 ⟨_,rfl⟩)) (aa (dH (v:=.int 1000000000) (by rfl) c1 ⟨_,rfl⟩) ae)))))) (al cE) aG)
   (aj (aX (dr (pv 0) MR.cl MR.mt MR.ok (hr.mono (by decide)) MR.bd MR.dv ao))
   (aj (aI (i:=5) tT.nd rfl (Or.inl rfl) (aJ aZ (by rfl) N.len PySem.boot_len (aa (bW (pv 0) rfl) ae)))
   (aj (aX (cY PySem.F.plainAttrs_list PySem.F.slot_list_append PySem.F.type_list_append bf (bW (pv 0) rfl) (aa (bC (aa (pv 1) (aa (pv 2) (aa (pv 3) (aa (pv 4) (aa (aF bJ (dr (pv 0) MN.cl MN.mt MN.ok (hr.mono (by decide)) MN.bd MN.dv ao) ai) ae)))))) ae)))
   (aj (aX (bi (pv 0) MD.cl MD.mt MD.ok (hr.mono (by decide)) MD.bd MD.dv ao (aa bL (aa (pv 5) (aa (am CL.ok (hr.mono (by decide)) rfl CL.nm CL.kp CL.bd .nil ao (aa (bi (pv 0) MB.cl MB.mt MB.ok (hr.mono (by decide)) MB.bd MB.dv ao (aa (pv 1) ae)) (aa (pv 2) (aa (pv 3) (aa (pv 5) ae))))) ae)))))
   (al (aB (pv 5)))))))))),?_⟩
  obtain⟨dx,ho⟩:=h.ob
  obtain⟨ps,e1,r1⟩:=h.hf
  obtain⟨qs,e2,r2⟩:=h.hd
  obtain⟨ts,e3,l3,r3⟩:=h.ht
  have lps:ps.length=B.fs.length:=Paired.length r1
  have fsz:=h.ok.fsz
  refine⟨_,rfl,p,dx,_,rfl,ho,bK a (by decide +kernel) (by decide +kernel) (by decide +kernel) (by decide +kernel) (by decide +kernel),_,rfl,p,a,F,B,k,rfl,h.toT,hk,?_⟩
  refine⟨_,rfl,_,rfl,f,l,rfl,h0,h1,h2,?_⟩
  refine⟨_,rfl,_,rfl,v,-1000000000,1000000000,rfl,_,rfl,?_⟩
  rw [decide_eq_true v0,decide_eq_true v1]
  refine br ⟨_,rfl,p,dx,_,rfl,ho,bK a (by decide +kernel) (by decide +kernel) (by decide +kernel) (by decide +kernel) (by decide +kernel),p,a,F,B,rfl,h.toT,h60,?_⟩
  refine⟨_,rfl,p,C,dx,_,_,rfl,ho,T.cl,T.n2,oT a,a.f,_,rfl,.inl (SqL.of e1),?_⟩
  rw [List.length_map,lps]
  refine⟨_,rfl,p,C,dx,_,_,rfl,ho,T.cl,T.n2,oT a,.inl ⟨rfl,_,SqL.of e1⟩,_,rfl,_,rfl,_,rfl,_,rfl,_,rfl,p,dx,_,rfl,ho,bK a (by decide +kernel) (by decide +kernel) (by decide +kernel) (by decide +kernel) (by decide +kernel),p,a,F,B,rfl,h.toT,_,_,rfl,rfl,by show 5<=sizeLine;decide,λy ny=>?_⟩
  refine⟨a.f,_,_,rfl,rfl,by rw [ag (af e1 ny)];exact e1,by rw [List.length_map];exact bB (by omega),?_⟩
  have yM:=qh h ny
  have ste1:∀b o,H b=some o->b≠a.f->upd (upd H y (.tup (p6 (k,f,l,v,(B.ds.length:Int)+1)))) a.f (.lst (ps.map V.ref++[V.ref y])) b=some o:=λb o e n1=>by
   rw [ag n1,ag (af e ny)];exact e
  have M1:KeepM H _ a:=⟨λb o nb e=>ste1 b o e λz=>nb (.inl z)⟩
  have T1:BkT C _ p a F B:=vd h M1 (λxs e=>ste1 _ _ e (Ne.symm h.fd)) λxs e=>ste1 _ _ e (Ne.symm h.ft)
  have pf:p≠a.f:=aD ho e1 (by intro z;cases z)
  have L1:Lm L (upd (upd H y (.tup (p6 (k,f,l,v,(B.ds.length:Int)+1)))) a.f (.lst (ps.map V.ref++[V.ref y]))):=bP LL λb o e n1 _=>ste1 b o e λz=>by rw [z,e1]at e;exact n1 _ (Option.some.inj e).symm
  refine⟨_,rfl,p,dx,_,rfl,ste1 _ _ ho pf,bK a (by decide +kernel) (by decide +kernel) (by decide +kernel) (by decide +kernel) (by decide +kernel),_,rfl,_,rfl,p,dx,_,rfl,ste1 _ _ ho pf,bK a (by decide +kernel) (by decide +kernel) (by decide +kernel) (by decide +kernel) (by decide +kernel),_,rfl,p,a,F,B,k,.non,B.ds.length,rfl,T1,hk,Nat.le_refl _,.inl ⟨rfl,rfl⟩,λls ps2 rs nls rp td i4 dy=>?_⟩
  have g2:Gm L (upd (upd H y (.tup (p6 (k,f,l,v,(B.ds.length:Int)+1)))) a.f (.lst (ps.map V.ref++[V.ref y]))) _:=Go.new (o:=.lst (ps2.map V.ref)) L1 nls
  refine⟨_,rfl,_,rfl,_,rfl,ls,f,l,(B.fs.length:Int),rs,rfl,g2.lam,⟨ps2,ad,bv rp λx xs e=>g2.tup L1 e⟩,td.up.disj,i4,fY td.up i4,h0,h1,h2,λst acc H3 nst g3 hacc td3 dy3 i43 _=>?_⟩
  have g13:=g2.trans g3
  have keep3:∀b o,H b=some o->b≠L->b≠a.f->H3 b=some o:=λb o e n1 n2=>g13.same b o n1 (ste1 b o e n2)
  have free1:∀b,H3 b=none->H b=none:=λb e=>by
   have e1':=Gm.free g13 e
   by_cases z:b=a.f
   ·rw [z,ad]at e1';cases e1'
   ·rw [ag z]at e1'
    by_cases z2:b=y
    ·rw [z2];exact ny
    ·rw [ag z2]at e1';exact e1'
  have nst1:H st=none:=by
   have e1':=Gm.free g2 nst
   by_cases z:st=a.f
   ·rw [z,ad]at e1';cases e1'
   ·rw [ag z]at e1'
    by_cases z2:st=y
    ·rw [z2];exact ny
    ·rw [ag z2]at e1';exact e1'
  have noL:∀{b:Addr}{o:HO},H b=some o->(∀ps,o≠.tbl ps)->b≠L:=λe n z=>by
   obtain⟨us,eu⟩:=LL.tbl
   rw [z,eu]at e
   exact n us (Option.some.inj e).symm
  have tup3:∀b xs,H b=some (.tup xs)->H3 b=some (.tup xs):=λb xs e=>keep3 _ _ e (noL e (by intro _ z;cases z)) (aD e e1 (by intro z;cases z))
  have O':=h.ok.find (v:=v) hk h0 h1 h2 h60
  have T3:BkT C H3 p a F B:=by
   refine⟨⟨dx,keep3 _ _ ho (noL ho (by intro _ z;cases z)) pf⟩,keep3 _ _ h.hn (noL h.hn (by intro _ z;cases z)) (λz=>h.nn (.inl z)),⟨qs,keep3 _ _ e2 (noL e2 (by intro _ z;cases z)) (Ne.symm h.fd),Paired.mapP r2 λ_ _ e=>tup3 _ _ e⟩,⟨ts,keep3 _ _ e3 (noL e3 (by intro _ z;cases z)) (Ne.symm h.ft),l3,λi x e=>?_⟩⟩
   obtain⟨kvs,ex,kl,kk⟩:=(r3 i x e).ex
   refine⟨(r3 i x e).fp,(r3 i x e).nm,kvs,keep3 _ _ ex (noL ex (by intro _ z;cases z)) (λz=>(r3 i x e).nm (.inl z)),kl,λk' hk'=>?_⟩
   obtain⟨ra,rs',e5,R⟩:=kk k' hk'
   exact⟨ra,rs',e5,R.fp,R.nm,d9 R.rl (λxs e=>keep3 _ _ e (noL e (by intro _ z;cases z)) λz=>R.nm (.inl z)) tup3,R.td,R.i4,R.dy⟩
  have f3:H3 a.f=some (.lst (ps.map V.ref++[V.ref y])):=g13.lst L1 ad
  have y3:H3 y=some (.tup (p6 (k,f,l,v,(B.ds.length:Int)+1))):=g13.tup L1 (by rw [ag (λz=>yM (.inl z)),ad])
  have HF:Half C H3 p a F B (B.find k f l v) B.fs.length (k,f,l,v,(B.ds.length:Int)+1) ki:=by
   refine⟨T3,⟨ps++[y],by rw [f3,List.map_append];rfl,cm (Paired.mapP r1 λ_ _ e=>tup3 _ _ e) y3⟩,keep3 _ _ h.hw (noL h.hw (by intro _ z;cases z)) (aD h.hw e1 (by intro z;cases z)),h.fa,h.nn,h.fd,h.ft,h.dt,rfl,rfl,O',?_,λk' t d ht=>h.ok.find_old ht k' d,λk' d hk'=>?_⟩
   ·show (B.fs++[(k,f,l,v,(B.ds.length:Int)+1)])[B.fs.length]?=_
    simp
   ·rw [h.ok.find_now,if_neg (λz=>hk' z.1.symm)]
  refine⟨p,a,F,B,B.find k f l v,B.fs.length,(k,f,l,v,(B.ds.length:Int)+1),ki,st,acc,rfl,HF,hacc,qh h nst1,td3,i43,λd=>?_,λH' F' hF hF2 st5 BK=>?_⟩
  ·rw [dy3,h.ok.find_now]
   unfold Strip.laidG
   by_cases hd:f<=d/\d<=l
   ·rw [if_pos hd,if_pos ⟨rfl,hd⟩];rfl
   ·rw [if_neg hd,if_neg (λz=>hd z.2)];exact dy d
  ·refine⟨_,rfl,q H' F' (bP g13.lam λb o e n1 n2=>st5 b o e (λz=>?_) λz=>?_) hF (λb z=>?_) (λb o e n1 n2=>st5 b o (keep3 b o e n1 λz=>n2 (.inl z)) (λz=>n2 (.inr (.inr (.inl z)))) λz=>n2 (.inr (.inr (.inr z)))) BK⟩
   ·obtain⟨_,e4,_⟩:=T3.hd
    rw [z,e4]at e;exact n1 _ (Option.some.inj e).symm
   ·obtain⟨_,e4,_⟩:=T3.ht
    rw [z,e4]at e;exact n1 _ (Option.some.inj e).symm
   ·rcases hF2 b z with z | z | z
    ·exact .inl z
    ·exact .inr (by rw [z];exact nst1)
    ·exact .inr (free1 b z)
noncomputable abbrev mh:Stmt:=top 53
theorem dq {c:TT}{t u:TS}{D:Ends}{σ:St}{H:Hp} (h:c σ H λb H1=>if b=true then t D σ H1 else u D σ H1):xl c t u D σ H:=h
theorem tm {a b i:Int} (h0:0<=i) (h1:i < 2):∃s:Int,(s=a\/s=b)/\atI [V.int a,V.int b] i=some (V.int s):=by
 rcases (show i=0\/i=1 by omega) with rfl | rfl
 ·exact⟨a,.inl rfl,rfl⟩
 ·exact⟨b,.inr rfl,rfl⟩
theorem oQ {H:Hp}:∀xs:List Nat,DatVs H (xs.map λi:Nat=>V.int (i:Int)) (xs.map λi:Nat=>PySem.W.Dat.int (i:Int))
 | []=>.nil
 | x::xs=>.cons (.int _) (oQ xs)
theorem sJ {σ:St}{H:Hp}{D:Addr}{c:Int}{xs:List Nat}{R:Bool->Hp->Prop} (h2:σ[2]?=some (some (.int c))) (h4:σ[4]?=some (some (.ref D))) (hD:H D=some (.lst (xs.map λi:Nat=>V.int (i:Int))))
  (h:∀(bb:Bool) (H1:Hp),aA H H1->(bb=true->xs≠[])->R bb H1) :
  yx (og (tOp rEq (qp fj [] E0 (cK (dN 2) (cK (tC (V.int 0)) (cK (tC (V.int 4)) cn)))) (tC (V.int 3)))) (og (tOp (pD true) (dN 4) (tE cn))) σ H R:=by
 refine⟨_,h2,c,0,4,rfl,by decide,by decide,by decide,λn _ _=>⟨rfl,_,rfl,?_⟩⟩
 cases decide (V.int n=V.int 3) with
 | false=>exact br (h _ _ aA.refl λz=>by cases z)
 | true=>
  refine cg ⟨_,h4,Nat.zero_le _,λp np=>?_⟩
  have hD2:upd H p (.lst []) D=some (.lst (xs.map λi:Nat=>V.int (i:Int))):=by rw [ag (af hD np)];exact hD
  refine⟨.list (xs.map λi:Nat=>PySem.W.Dat.int (i:Int)),.list [],.lst hD2 (oQ xs),.lst ad .nil,?_,rfl,decide (xs=[]),?_,_,rfl,h _ _ (aA.new np) λz=>?_⟩
  ·show (xs.map λi:Nat=>PySem.W.Dat.int (i:Int)).all (PySem.W.kqdOk 8)=true
   refine List.all_eq_true.mpr λd hd=>?_
   obtain⟨i,_,rfl⟩:=List.mem_map.mp hd
   rfl
  ·rw [decide_eq_true_iff]
   constructor
   ·intro e;rw [e];rfl
   ·intro e
    have:=PySem.W.Dat.list.inj e
    exact List.map_eq_nil_iff.mp this
  ·intro e
   rw [e]at z
   cases z
noncomputable def n6 (C L:Addr):Sp:=λvs H Q _=>∃(p:Addr) (a:BA) (F:Addr->Prop) (s:SA) (B:Bk) (c span:Int),vs=[.ref p,.ref s.d,.int c,.int span]/\Lm L H/\Pair C L H p a F s B/\0 < span/\span<=400/\B.ds.length < 60/\
 ∀(H':Hp) (F':Addr->Prop) (B':Bk),Lm L H'->Pair C L H' p a F' s B'->B'.ds.length=B.ds.length+1->1<=B'.fs.length->(∃(w:Str) (n:Nat) (f:Fnd),B'.ds=B.ds++[(w,(n:Int))]/\B'.fs[n]?=some f)->(∀b,F' b->F b\/H b=none)->(∀b o,H b=some o->b≠L->¬a.M b->¬s.At b->H' b=some o)->Q (.bl true) H'
theorem dS:FnScope ["_law_book", "_law_state_here", "_law_cell_here", "_law_span", "_law_standing_here", "_law_number", "_law_key", "_law_first", "_law_last", "_law_value", "_law_told"] ["_law_book", "_law_state_here", "_law_cell_here", "_law_span"] (ah mh):=⟨rfl,rfl,rfl,by decide +kernel,rfl,by decide +kernel,by decide +kernel⟩
theorem wn {f f1 f2 f3 f4 f5 f6 C L:Addr}{fd:FuncData} (F:Fun K "_law_done" "_law_done" mh f fd) (N:Free mg){fd1:FuncData} (CD:Cal P w K mg base "_law_draw" 2 ["_law_cell_here", "_law_k", "_law_many"] fj f1 fd1){fd2:FuncData} (CS:Cal P w K mg base "_law_standing" 1 ["_law_state_here"] jN f2 fd2){fd3:FuncData} (CT:Cal P w K mg base "_law_stretch" 3 ["_law_cell_here", "_law_k", "_law_span"] gI f3 fd3){fd4:FuncData} (CW:Cal P w K mg base "_law_whole" 1 ["_law_found"] jK f4 fd4){fd5:FuncData} (MF:MC P w K mg base C "find" 5 ["self", "key", "first", "last", "value"] [] [] (mZ C L) f5 fd5){fd6:FuncData} (MW:MC P w K mg base C "withdraw" 6 ["self", "number"] [] [] (jJ C L) f6 fd6):FnOk P w K mg base CX0 7 f fd ["_law_book", "_law_state_here", "_law_cell_here", "_law_span"] (n6 C L):=by
 refine F.ok (k:=6) dS (λvs H Q E h=>?_) (λcdv A outer s H vs Q E hr h=>?_)
 ·obtain⟨p,a,F,s,B,c,span,rfl,_⟩:=h
  rfl
 ·obtain⟨p,a,F,s,B,c,span,rfl,LL,h,s0,s1,h60,q⟩:=h
  have hu:=bu hr
  refine⟨_,(aj (aI (i:=4) dS.nd rfl (Or.inl rfl) (am CS.ok (hr.mono (by decide)) rfl CS.nm CS.kp CS.bd .nil ao (aa (pv 1) ae)))
   (aj (bp (PW.pt (eO (aQ dF (am CD.ok (hr.mono (by decide)) rfl CD.nm CD.kp CD.bd .nil ao (aa (pv 2) (aa ai (aa ai ae)))) ai (aN _)) (dG (aQ (iL hr.units) (pv 4) (bx ae) (aN _))))) (aj (aI (i:=5) dS.nd rfl (Or.inl rfl) (aM bA (pv 4) (am CD.ok (hr.mono (by decide)) rfl CD.nm CD.kp CD.bd .nil ao (aa (pv 2) (aa ai (aa (aJ aZ (by rfl) N.len PySem.boot_len (aa (pv 4) ae)) ae)))) (λ_ _=>rfl)))
   (aj (aX (cY PySem.F.plainAttrs_list PySem.F.slot_list_append PySem.F.type_list_append bf (bZ hu (pv 1) bL (λ_ _=>rfl)) (aa (bC (aa bL (aa (pv 5) ae))) ae)))
   (aj (nB hu (bZ hu (pv 1) bL (λ_ _=>rfl)) (pv 5) (aJ aZ (by rfl) N.len PySem.boot_len (aa (bZ hu (pv 1) bL (λ_ _=>rfl)) ae)) rfl)
   (al (aB (xL (nE (bi (pv 0) MW.cl MW.mt MW.ok (hr.mono (by decide)) MW.bd MW.dv ao (aa (pv 5) ae))))))))) aG)
   (aj (aI (i:=6) dS.nd rfl (Or.inl rfl) (aM bA (bZ hu (pv 1) bL (λ_ _=>rfl)) (am CD.ok (hr.mono (by decide)) rfl CD.nm CD.kp CD.bd .nil ao (aa (pv 2) (aa ai (aa (aJ aZ (by rfl) N.len PySem.boot_len (aa (bZ hu (pv 1) bL (λ_ _=>rfl)) ae)) ae)))) (λ_ _=>rfl)))
   (aj (pE (am CT.ok (hr.mono (by decide)) rfl CT.nm CT.kp CT.bd .nil ao (aa (pv 2) (aa ai (aa (pv 3) ae)))) (cD rfl (aq (ay (i:=7) dS.nd rfl (Or.inl rfl)) (aq (ay (i:=8) dS.nd rfl (Or.inl rfl)) bS))))
   (aj (aI (i:=9) dS.nd rfl (Or.inl rfl) (am CD.ok (hr.mono (by decide)) rfl CD.nm CD.kp CD.bd .nil ao (aa (pv 2) (aa ai (aa (aM bA (bx (aa ai (aa (aF bJ (aF eQ ai (aF jl ai ai)) ai) ae))) (am CD.ok (hr.mono (by decide)) rfl CD.nm CD.kp CD.bd .nil ao (aa (pv 2) (aa ai (aa ai ae)))) (λ_ _=>rfl)) ae)))))
   (aj (aI (i:=9) dS.nd rfl (Or.inl rfl) (aM bA (bx (aa (pv 9) (aa (aF jk (pv 9) (aF jl ai ai)) ae))) (am CD.ok (hr.mono (by decide)) rfl CD.nm CD.kp CD.bd .nil ao (aa (pv 2) (aa ai (aa ai ae)))) (λ_ _=>rfl)))
   (aj (bp (aQ x8 (pv 9) (aF jl ai ai) (aN _)) (al (aI (i:=9) dS.nd rfl (Or.inl rfl) (aF jl ai ai))) aG)
   (aj (aI (i:=5) dS.nd rfl (Or.inl rfl) (aJ aZ (by rfl) N.len PySem.boot_len (aa (bZ hu (pv 1) bL (λ_ _=>rfl)) ae)))
   (aj (aX (cY PySem.F.plainAttrs_list PySem.F.slot_list_append PySem.F.type_list_append bf (bZ hu (pv 1) bL (λ_ _=>rfl)) (aa (bC (aa bL (aa (pv 5) ae))) ae)))
   (aj (aX (cY PySem.F.plainAttrs_list PySem.F.slot_list_append PySem.F.type_list_append bf (bZ hu (pv 1) bL (λ_ _=>rfl)) (aa (bC (aa (pv 6) (aa (pv 7) (aa (pv 8) (aa (pv 9) (aa (aJ aZ (by rfl) N.len PySem.boot_len (aa (bZ hu (pv 1) bL (λ_ _=>rfl)) ae)) ae)))))) ae)))
   (aj (aI (i:=10) dS.nd rfl (Or.inl rfl) (bi (pv 0) MF.cl MF.mt MF.ok (hr.mono (by decide)) MF.bd MF.dv ao (aa (pv 6) (aa (pv 7) (aa (pv 8) (aa (pv 9) ae))))))
   (al (aB (dW (am CW.ok (hr.mono (by decide)) rfl CW.nm CW.kp CW.bd .nil ao (aa (pv 10) ae)) (fu (cu dF (pv 10) (pv 5) (aN _))))))))))))))))),?_⟩
  obtain⟨dx,ho⟩:=h.bk.ob
  have fsz:=h.bk.ok.fsz
  have k1:=h.bk.ok.k1
  refine aP (bh ?_)
  refine⟨_,rfl,s,B,rfl,h.st,by omega,λD nD=>?_⟩
  dsimp only [aO]
  have g1:aA H (upd H D (.lst ((dB B).map λi:Nat=>V.int (i:Int)))):=aA.new nD
  have eD:upd H D (.lst ((dB B).map λi:Nat=>V.int (i:Int))) D=some (.lst ((dB B).map λi:Nat=>V.int (i:Int))):=ad
  have L1:Lm L (upd H D (.lst ((dB B).map λi:Nat=>V.int (i:Int)))):=LL.upd_new nD
  generalize upd H D (.lst ((dB B).map λi:Nat=>V.int (i:Int)))=H1 at g1 eD L1
  have P1:=h.grow g1
  refine aP (dq (sJ (xs:=dB B) rfl rfl eD λbb H2 g2 hb=>?_))
  have P2:=P1.grow g2
  have g12:=g1.trans g2
  have L2':Lm L H2:=bP L1 λb o e _ _=>g2 b o e
  obtain⟨pL,hL2⟩:=L2'.tbl
  have eD2:=g2 _ _ eD
  have ho2:=g12 _ _ ho
  obtain⟨ps,e1,r1⟩:=id P2.st.hf
  obtain⟨qs,e2,r2⟩:=id P2.st.he
  have lps:ps.length=B.fs.length:=Paired.length r1
  have lqs:qs.length=B.ds.length:=Paired.length r2
  dsimp only
  cases bb with
  | true=>
   refine cg (aP (bh ?_))
   have hne:(dB B).length≠0:=λz=>hb rfl (List.eq_nil_of_length_eq_zero z)
   refine⟨_,rfl,_,rfl,_,rfl,D,_,rfl,.inl (SqL.of eD2),c,1,_,rfl,by decide,by decide,by rw [List.length_map];omega,λi i0 i1=>?_⟩
   rw [List.length_map]at i1
   obtain⟨i,rfl⟩:∃j:Nat,i=(j:Int):=⟨i.toNat,by omega⟩
   have ei:(dB B)[i]?=some ((dB B)[i]'(by omega)):=List.getElem?_eq_getElem (by omega)
   generalize (dB B)[i]'(by omega)=n at ei
   obtain⟨n1,n2⟩:=pc ei
   refine⟨D,_,(i:Int),V.int (n:Int),rfl,rfl,SqL.of eD2,dk (by rw [List.getElem?_map,ei];rfl),?_⟩
   dsimp only [aO]
   refine aP (fq (qB ?_))
   refine⟨_,rfl,s.d,_,rfl,P2.st.d_e,.inl ⟨rfl,_,SqL.of e2⟩,_,rfl,by show 2<=sizeLine;decide,λy ny=>?_⟩
   have ne2:upd H2 y (.tup [.str kh,.int (n:Int)]) s.e=some (.lst (qs.map V.ref)):=by rw [ag (af e2 ny)];exact e2
   refine⟨s.e,_,_,rfl,rfl,ne2,by rw [List.length_map];exact bB (by omega),?_⟩
   dsimp only
   generalize E1:upd (upd H2 y (.tup [.str (Str.ofString "withdraw"),.int (n:Int)])) s.e (.lst (qs.map V.ref++[.ref y]))=H3
   generalize E2:upd H3 s.g (.dK (cH B.gs (Sum.inl (n:Int)) (.int ((B.ds.length:Int)+1))))=H4
   obtain⟨S4,K4⟩:=P2.st.withd e2 r2 ny E1.symm E2.symm
   have k3:∀b o,H2 b=some o->b≠s.e->H3 b=some o:=λb o e nb=>by rw [<- E1,ag nb,ag (af e ny)];exact e
   have d3:=k3 _ _ P2.st.dd (aD P2.st.dd e2 (by intro z;cases z))
   have g3:=k3 _ _ P2.st.hg (aD P2.st.hg e2 (by intro z;cases z))
   have e3:H3 s.e=some (.lst (qs.map V.ref++[.ref y])):=by rw [<- E1,ad]
   refine aP ?_
   refine⟨_,rfl,s.d,_,rfl,by rw [<- xD s];exact cQ.k (k:=Sum.inr _) d3,s.e,_,rfl,.inl (SqL.of e3),_,rfl,s.d,_,rfl,by rw [<- yD s];exact cQ.k (k:=Sum.inr _) d3,_,rfl,s.g,_,rfl,qj.k (k:=Sum.inl _) g3 (bB (by have:=h.bk.ok.gsz;omega)),?_⟩
   rw [show ((qs.map V.ref++[V.ref y]).length:Int)=(B.ds.length:Int)+1 by rw [List.length_append,List.length_map,lqs];rfl,E2]
   dsimp only
   have bk4:=P2.keeps K4
   have L4:Lm L H4:=bP L2' λb o e n1 n2=>K4 b o e λz=>by
    rcases P2.st.kind z with⟨ys,w⟩ | ⟨ys,w⟩
    ·rw [e]at w;exact n1 ys (Option.some.inj w)
    ·rw [e]at w;exact n2 ys (Option.some.inj w)
   obtain⟨pL4,hL4⟩:=L4.tbl
   have ho4:=K4 _ _ ho2 (P2.st.not_ins ho2)
   have hr1:B.fs[n]?=some (B.fs[n]'n1):=List.getElem?_eq_getElem n1
   refine bT ⟨_,rfl,p,dx,_,rfl,ho4,bK a (by decide +kernel) (by decide +kernel) (by decide +kernel) (by decide +kernel) (by decide +kernel),_,rfl,p,a,F,B,n,_,rfl,L4,bk4,hr1,n2,h60,λH' F' LH _ f1 gg bk'=>?_⟩
   obtain⟨A1,A2,A3⟩:=P2.after S4 K4 hL4 f1 gg bk'
   refine q H' _ _ LH A1 (by show (B.ds++[_]).length=_;rw [List.length_append];rfl) (by show 1<=B.fs.length;omega) ⟨_,n,_,rfl,hr1⟩ (λb hb=>(A2 b hb).imp_right g12.free) λb o e w1 w2 w3=>A3 b o (g12 b o e) w1 w2 w3
  | false=>
   refine br (bz ?_)
   dsimp only
   refine aP (bh ?_)
   refine⟨_,rfl,s.d,_,rfl,P2.st.d_k,_,rfl,_,rfl,s.d,_,rfl,P2.st.d_k,s.k,_,rfl,.inl (SqL.of P2.st.hk),c,2,_,rfl,by decide,by decide,by rw [List.length_map];omega,λi i0 i1=>?_⟩
   rw [List.length_map]at i1
   obtain⟨i,rfl⟩:∃j:Nat,i=(j:Int):=⟨i.toNat,by omega⟩
   have ei:B.ks[i]?=some (B.ks[i]'(by omega)):=List.getElem?_eq_getElem (by omega)
   generalize B.ks[i]'(by omega)=k at ei
   have hkk:=List.mem_of_getElem? ei
   refine⟨s.k,_,(i:Int),V.str k,rfl,rfl,SqL.of P2.st.hk,dk (by rw [List.getElem?_map,ei];rfl),?_⟩
   dsimp only [aO]
   refine aP (bh ⟨_,rfl,_,rfl,c,3,span,rfl,by decide,by decide,s0,s1,λt x y H3 g3 et x0 xy y4=>?_⟩)
   refine⟨t,_,rfl,SqT.of et,rfl,_,_,rfl,_,_,rfl,rfl,?_⟩
   dsimp only
   have cp:vj 10 9:=⟨by decide,by decide,by decide⟩
   refine aP (bh ⟨_,rfl,10,9,rfl,rfl,cp,2,_,rfl,rfl,.inl (by decide),_,_,rfl,rfl,by show 2<=sizeLine;decide,λl1 nl1=>⟨_,rfl,c,8,2,rfl,by decide,by decide,by decide,λj j0 j1=>?_⟩⟩)
   obtain⟨m,hm,em⟩:=tm (a:=4) (b:=2 * 10 ^ (9:Int).toNat+1) j0 j1
   have hm2:0 < m/\m<=2000000001:=by
    have z:(2 * 10 ^ (9:Int).toNat+1:Int)=2000000001:=by decide
    rw [z]at hm
    omega
   refine⟨l1,_,j,V.int m,rfl,rfl,SqL.of ad,em,c,7,m,rfl,by decide,by decide,hm2.1,λv v0 v1=>?_⟩
   dsimp only [aO]
   have g4:aA H3 (upd H3 l1 (.lst [.int 4,.int (2 * 10 ^ (9:Int).toNat+1)])):=aA.new nl1
   generalize upd H3 l1 (.lst [.int 4,.int (2 * 10 ^ (9:Int).toNat+1)])=H4 at g4
   refine aP (bh ⟨_,rfl,_,rfl,10,9,rfl,rfl,cp,_,_,rfl,rfl,by show 2<=sizeLine;decide,λl2 nl2=>⟨_,rfl,c,9,2,rfl,by decide,by decide,by decide,λj j0 j1=>?_⟩⟩)
   obtain⟨m',hm',em'⟩:=tm (a:=v) (b:=v - 10 ^ (9:Int).toNat) j0 j1
   have hv2 : -1000000000<=m'/\m'<=2000000000:=by
    have z:(10 ^ (9:Int).toNat:Int)=1000000000:=by decide
    rw [z]at hm'
    omega
   refine⟨l2,_,j,V.int m',rfl,rfl,SqL.of ad,em',?_⟩
   dsimp only [aO]
   have g5:aA H4 (upd H4 l2 (.lst [.int v,.int (v - 10 ^ (9:Int).toNat)])):=aA.new nl2
   generalize upd H4 l2 (.lst [.int v,.int (v - 10 ^ (9:Int).toNat)])=H5 at g5
   refine aP (vN (k:=9) (v:=m') rfl λv' hv'=>?_)
   dsimp only
   have g25:=(g3.trans g4).trans g5
   have g15:=g12.trans g25
   have P5:=P2.grow g25
   have L5:Lm L H5:=bP L2' λb o e _ _=>g25 b o e
   have ho5:=g25 _ _ ho2
   clear r1 r2 e1 e2 lps lqs
   obtain⟨ps,e1,r1⟩:=id P5.st.hf
   obtain⟨qs,e2,r2⟩:=id P5.st.he
   have lps:ps.length=B.fs.length:=Paired.length r1
   have lqs:qs.length=B.ds.length:=Paired.length r2
   refine aP (bh ⟨_,rfl,s.d,_,rfl,P5.st.d_f,s.f,_,rfl,.inl (SqL.of e1),?_⟩)
   rw [List.length_map,lps]
   dsimp only [aO]
   refine aP (fq (qB ?_))
   refine⟨_,rfl,s.d,_,rfl,P5.st.d_e,.inl ⟨rfl,_,SqL.of e2⟩,_,rfl,by show 2<=sizeLine;decide,λy' ny=>?_⟩
   have ne2:upd H5 y' (.tup [.str ki,.int (B.fs.length:Int)]) s.e=some (.lst (qs.map V.ref)):=by rw [ag (af e2 ny)];exact e2
   refine⟨s.e,_,_,rfl,rfl,ne2,by rw [List.length_map];exact bB (by omega),?_⟩
   dsimp only
   generalize E1:upd (upd H5 y' (.tup [.str (Str.ofString "find"),.int (B.fs.length:Int)])) s.e (.lst (qs.map V.ref++[.ref y']))=H6
   have k6:∀b o,H5 b=some o->b≠s.e->H6 b=some o:=λb o e nb=>by rw [<- E1,ag nb,ag (af e ny)];exact e
   have d6:=k6 _ _ P5.st.dd (aD P5.st.dd e2 (by intro z;cases z))
   have f6':=k6 _ _ e1 P5.st.fe
   have e6:H6 s.e=some (.lst (qs.map V.ref++[.ref y'])):=by rw [<- E1,ad]
   have dg6:cQ H6 s.d (.str (Str.ofString "found")) (some (.ref s.f)):=by rw [<- yE s];exact cQ.k (k:=Sum.inr _) d6
   refine aP (fq (qB ?_))
   refine⟨_,rfl,s.d,_,rfl,dg6,.inl ⟨rfl,_,SqL.of f6'⟩,_,rfl,_,rfl,_,rfl,_,rfl,_,rfl,s.d,_,rfl,by rw [<- xD s];exact cQ.k (k:=Sum.inr _) d6,s.e,_,rfl,.inl (SqL.of e6),by show 5<=sizeLine;decide,λz nz=>?_⟩
   rw [show ((qs.map V.ref++[V.ref y']).length:Int)=(B.ds.length:Int)+1 by rw [List.length_append,List.length_map,lqs];rfl]
   refine⟨s.f,_,_,rfl,rfl,by rw [ag (af f6' nz)];exact f6',by rw [List.length_map];exact bB (by omega),?_⟩
   dsimp only
   generalize E2:upd (upd H6 z (.tup [.str k,.int x,.int y,.int v',.int ((B.ds.length:Int)+1)])) s.f (.lst (ps.map V.ref++[.ref z]))=H7
   obtain⟨S7,K7⟩:=P5.st.find e1 r1 e2 r2 ny E1.symm nz E2.symm
   have bk7:=P5.keeps K7
   have L7:Lm L H7:=bP L5 λb o e n1 n2=>K7 b o e λz=>by
    rcases P5.st.kind z with⟨ys,w⟩ | ⟨ys,w⟩
    ·rw [e]at w;exact n1 ys (Option.some.inj w)
    ·rw [e]at w;exact n2 ys (Option.some.inj w)
   obtain⟨pL7,hL7⟩:=L7.tbl
   have ho7:=K7 _ _ ho5 (P5.st.not_ins ho5)
   refine aP (bh ⟨_,rfl,p,dx,_,rfl,ho7,bK a (by decide +kernel) (by decide +kernel) (by decide +kernel) (by decide +kernel) (by decide +kernel),_,rfl,_,rfl,_,rfl,_,rfl,p,a,F,B,k,x,y,v',rfl,L7,bk7,hkk,x0,xy,y4,by omega,by omega,h60,λH' F' LH _ f1 gg bk'=>?_⟩)
   obtain⟨A1,A2,A3⟩:=P5.after S7 K7 hL7 f1 gg bk'
   dsimp only [aO]
   refine bT (iG ⟨_,rfl,_,rfl,_,rfl,cg ⟨_,rfl,_,rfl,rfl,?_⟩⟩)
   rw [decide_eq_true rfl]
   refine q H' _ _ LH A1 (by show (B.ds++[_]).length=_;rw [List.length_append];rfl) (by show 1<=(B.fs++[_]).length;rw [List.length_append];exact Nat.le_add_left _ _) ⟨_,B.fs.length,_,rfl,List.getElem?_concat_length⟩ (λb hb=>(A2 b hb).imp_right g15.free) λb o e w1 w2 w3=>A3 b o (g15 b o e) w1 w2 w3
noncomputable abbrev rD:Stmt:=top 6
noncomputable abbrev gP:Stmt:=top 7
noncomputable abbrev lU:Stmt:=top 10
noncomputable def Within (rs:List aH) (f l:Int):Prop:=∀r∈rs,f<=r.1/\r.2.1<=l
theorem hV {ss acc rs:List aH}{f l:Int} (J:Strip.Joining ss acc) (p:ss.Perm rs) (h:Within rs f l):Within acc f l:=λr hr=>
 ⟨J.hi f (λt ht=>(h t (p.mem_iff.mp ht)).1) r hr,by have:=J.lo (l+1) (λt ht=>by have:=(h t (p.mem_iff.mp ht)).2;omega) r hr;omega⟩
noncomputable def qv (T:Addr):Sp:=λvs H Q _=>∃(a:Addr) (f l:Int) (rs:List aH),vs=[.ref a,.int f,.int l]/\Lm T H/\aS H a rs/\Strip.Disj rs/\rs.length<=most/\f<=l/\
 ∀(b:Addr) (acc:List aH) (H':Hp),H b=none->Gm T H H'->aS H' b acc->Strip.Tidy acc->(∀n,Strip.dayOf acc n=if f<=n/\n<=l then Strip.dayOf rs n else none)->Within acc f l->acc.length<=rs.length->Q (.ref b) H'
theorem oo:FnScope ["strip", "first", "last", "rows", "start", "end", "mark"] ["strip", "first", "last"] (ah rD):=⟨rfl,rfl,rfl,by decide +kernel,rfl,by decide +kernel,by decide +kernel⟩
theorem xR {f T f1:Addr}{fd fd1:FuncData} (F:Fun K "cut" "cut" rD f fd) (N:Free mg) (CJ:Cal P w K mg base "joined" 3 ["rows"] (dQ T) f1 fd1):FnOk P w K mg base CX0 4 f fd ["strip", "first", "last"] (qv T):=by
 refine F.ok (k:=3) oo (λvs H Q E h=>?_) (λcdv A outer s H vs Q E hr h=>?_)
 ·obtain⟨a,f,l,rs,rfl,_⟩:=h
  rfl
 ·obtain⟨a,f,l,rs,rfl,L,⟨ps,ha,hp⟩,dj,hlen,hfl,hq⟩:=h
  refine⟨_,(aj (aI (i:=3) oo.nd rfl (Or.inl rfl) (bx ae))
   (aj (bU PassesOwn.never rfl (bD (pv 0)) (cD rfl (aq (ay (i:=4) oo.nd rfl (Or.inl rfl)) (aq (ay (i:=5) oo.nd rfl (Or.inl rfl)) (aq (ay (i:=6) oo.nd rfl (Or.inl rfl)) bS)))) (al (bp (PW.pt (eO (aQ eK (pv 4) (pv 2) (aN _)) (dG (aQ eK (pv 1) (pv 5) (aN _))))) (al (aX (cY PySem.F.plainAttrs_list PySem.F.slot_list_append PySem.F.type_list_append bf (pv 3) (aa (bC (aa (aJ (jr rfl) (by rfl) N.max PyProof.Rows.Boot.«max» (aa (pv 4) (aa (pv 1) ae))) (aa (aJ (gX rfl) (by rfl) N.min PyProof.Rows.Boot.«min» (aa (pv 5) (aa (pv 2) ae))) (aa (pv 6) ae)))) ae)))) aG)))
   (al (aB (am CJ.ok hr rfl CJ.nm CJ.kp CJ.bd .nil ao (aa (pv 3) ae)))))),?_⟩
  refine⟨Nat.zero_le _,λst nst=>?_⟩
  have g0:Gm T H (upd H st (.lst [])):=Go.new L nst
  have hlp:=bo hp
  refine⟨_,rfl,a,rfl,⟨_,SqL.of (g0.lst L ha)⟩,bF (K:=K) (a:=a) (xs:=ps.map V.ref) (λi σ H2=>∃(cs:List aH) (v4 v5 v6:Option V),σ=[some (.ref a),some (.int f),some (.int l),some (.ref st),v4,v5,v6]/\Gm T H H2/\aS H2 st cs/\
    Strip.DG cs (λn=>if f<=n/\n<=l then Strip.dayOf (rs.take i) n else none)/\Within cs f l/\cs.length<=i)
   ⟨[],none,none,none,rfl,g0,dL ad,Strip.DG.nil.eq λn=>by rw [List.take_zero];split <;> rfl,(λ_ h=>nomatch h),Nat.le_refl _⟩ (λi σ H2 _ hh=>?_) ?_ ?_⟩
  ·obtain⟨_,_,_,_,_,g,_⟩:=hh
   exact SqL.of (g.lst L ha)
  ·rintro i y σ H2 hi ⟨cs,v4,v5,v6,rfl,g2,⟨as,hst,hrs⟩,D,hw,hln⟩
   rw [List.getElem?_map]at hi
   cases ep:ps[i]? with
   | none=>rw [ep]at hi;cases hi
   | some p=>
    rw [ep]at hi
    cases hi
    obtain⟨r,er,ht0,hmk⟩:=cZ hp ep
    have ht:=g2.tup L ht0
    have hil:i < rs.length:=(List.getElem?_eq_some_iff.mp er).1
    refine⟨p,_,rfl,SqT.of ht,rfl,_,_,rfl,_,_,rfl,_,_,rfl,rfl,?_⟩
    have skip:¬(r.1<=l/\f<=r.2.1)->∃(cs:List aH) (v4 v5 v6:Option V),[some (V.ref a),some (V.int f),some (V.int l),some (V.ref st),some (V.int r.1),some (V.int r.2.1),some r.2.2]=[some (.ref a),some (.int f),some (.int l),some (.ref st),v4,v5,v6]/\Gm T H H2/\aS H2 st cs/\
      Strip.DG cs (λn=>if f<=n/\n<=l then Strip.dayOf (rs.take (i+1)) n else none)/\Within cs f l/\cs.length<=i+1:=λhn=>
     ⟨cs,_,_,_,rfl,g2,⟨as,hst,hrs⟩,Strip.cut_skip er hn D,hw,by omega⟩
    refine⟨_,rfl,_,rfl,_,_,rfl,rfl,_,rfl,fI (λh1=>?_) (λh1=>br (skip λz=>h1 (decide_eq_true z.1)))⟩
    have h1:r.1<=l:=of_decide_eq_true h1
    refine⟨_,rfl,_,rfl,_,_,rfl,rfl,_,rfl,fI (λh2=>?_) (λh2=>skip λz=>h2 (decide_eq_true z.2))⟩
    have h2:f<=r.2.1:=of_decide_eq_true h2
    obtain⟨D2,a1,b1⟩:=Strip.cut_put dj er hfl h1 h2 rfl rfl D
    refine⟨_,rfl,.inl ⟨rfl,_,SqL.of hst⟩,_,rfl,_,rfl,_,_,rfl,_,rfl,_,rfl,_,_,rfl,_,rfl,by show 3<=sizeLine;decide,λp' np=>?_⟩
    obtain⟨y1,y2⟩:=kM (r:=(if f > r.1 then f else r.1,if l < r.2.1 then l else r.2.1,r.2.2)) hst hrs np hmk
    refine⟨st,_,_,rfl,rfl,by rw [ag (af hst np)];exact hst,by rw [List.length_map,bo hrs];exact Nat.lt_of_le_of_lt hln (Nat.lt_of_lt_of_le (show i < 1000 by unfold most at hlen;omega) (by decide)),?_⟩
    refine⟨cs++[(if f > r.1 then f else r.1,if l < r.2.1 then l else r.2.1,r.2.2)],_,_,_,rfl,⟨λb o n e=>y2 b o (af e nst) (g2.same b o n e),g2.lam.row hst np⟩,y1,D2,λc hc=>?_,by rw [List.length_append];simp only [List.length_singleton];omega⟩
    rcases List.mem_append.mp hc with hc | hc
    ·exact hw c hc
    ·rw [List.mem_singleton.mp hc];exact⟨a1,b1⟩
  ·rintro σ H2 ⟨cs,v4,v5,v6,rfl,g2,hrs,D,hw,hln⟩
   have e:(ps.map V.ref).length=rs.length:=by rw [List.length_map];exact hlp
   rw [e]at D hln
   rw [List.take_length]at D
   refine⟨_,rfl,st,cs,rfl,g2.lam,hrs,D.dj,by omega,λb ss acc H3 nb g3 hacc pss J=>?_⟩
   have nb0:H b=none:=by
    refine g2.none nb λz=>?_
    obtain⟨ts,et⟩:=g2.lam.tbl
    rw [z,et]at nb;cases nb
   refine hq b acc H3 nb0 (g2.trans g3) hacc J.tidy (λn=>?_) (hV J pss hw) (by have:=J.len;have:=pss.length_eq;omega)
   rw [fB J pss D.dj,D.day]
noncomputable def iB (T:Addr):Sp:=λvs H Q _=>∃(a:Addr) (f l:Int) (rs:List aH),vs=[.ref a,.int f,.int l]/\Lm T H/\aS H a rs/\Strip.Disj rs/\rs.length<=400/\f<=l/\
 ∀(b:Addr) (acc:List aH) (H':Hp),H b=none->Gm T H H'->aS H' b acc->Strip.Tidy acc->(∀n,Strip.dayOf acc n=if f<=n/\n<=l then some ((Strip.dayOf rs n).getD .non) else none)->Within acc f l->acc.length<=2 * rs.length+1->Q (.ref b) H'
theorem Within.snoc {cs:List aH}{f l:Int}{r:aH} (h:Within cs f l) (h1:f<=r.1) (h2:r.2.1<=l):Within (cs++[r]) f l:=λc hc=>by
 rcases List.mem_append.mp hc with hc | hc
 ·exact h c hc
 ·rw [List.mem_singleton.mp hc];exact⟨h1,h2⟩
theorem dR:FnScope ["strip", "first", "last", "rows", "day", "start", "end", "mark"] ["strip", "first", "last"] (ah gP):=⟨rfl,rfl,rfl,by decide +kernel,rfl,by decide +kernel,by decide +kernel⟩
theorem rX {f T f1 f2:Addr}{fd fd1 fd2:FuncData} (F:Fun K "filled" "filled" gP f fd) (CJ:Cal P w K mg base "joined" 3 ["rows"] (dQ T) f1 fd1) (CC:Cal P w K mg base "cut" 4 ["strip", "first", "last"] (qv T) f2 fd2):FnOk P w K mg base CX0 5 f fd ["strip", "first", "last"] (iB T):=by
 refine F.ok (k:=4) dR (λvs H Q E h=>?_) (λcdv A outer s H vs Q E hr h=>?_)
 ·obtain⟨a,f,l,rs,rfl,_⟩:=h
  rfl
 ·obtain⟨a,f,l,rs,rfl,L,hrs,dj,hlen,hfl,hq⟩:=h
  have h3:Room 3 _:=hr.mono (by decide)
  refine⟨_,(aj (aI (i:=3) dR.nd rfl (Or.inl rfl) (bx ae))
   (aj (aI (i:=4) dR.nd rfl (Or.inl rfl) (pv 1))
   (aj (bU PassesOwn.never rfl (bD (am CC.ok hr rfl CC.nm CC.kp CC.bd .nil ao (aa (pv 0) (aa (pv 1) (aa (pv 2) ae))))) (cD rfl (aq (ay (i:=5) dR.nd rfl (Or.inl rfl)) (aq (ay (i:=6) dR.nd rfl (Or.inl rfl)) (aq (ay (i:=7) dR.nd rfl (Or.inl rfl)) bS)))) (aj (bp (aQ qF (pv 4) (pv 5) (aN _)) (al (aX (cY PySem.F.plainAttrs_list PySem.F.slot_list_append PySem.F.type_list_append bf (pv 3) (aa (bC (aa (pv 4) (aa (aF jk (pv 5) ai) (aa gp ae)))) ae)))) aG)
   (aj (aX (cY PySem.F.plainAttrs_list PySem.F.slot_list_append PySem.F.type_list_append bf (pv 3) (aa (bC (aa (pv 5) (aa (pv 6) (aa (pv 7) ae)))) ae)))
   (al (aI (i:=4) dR.nd rfl (Or.inl rfl) (aF bJ (pv 6) ai))))))
   (aj (bp (aQ eK (pv 4) (pv 2) (aN _)) (al (aX (cY PySem.F.plainAttrs_list PySem.F.slot_list_append PySem.F.type_list_append bf (pv 3) (aa (bC (aa (pv 4) (aa (pv 2) (aa gp ae)))) ae)))) aG)
   (al (aB (am CJ.ok h3 rfl CJ.nm CJ.kp CJ.bd .nil ao (aa (pv 3) ae)))))))),?_⟩
  refine⟨Nat.zero_le _,λst nst=>?_⟩
  have g0:Gm T H (upd H st (.lst [])):=Go.new L nst
  refine⟨_,rfl,?_⟩
  refine⟨_,rfl,_,rfl,_,rfl,a,f,l,rs,rfl,g0.lam,g0.rows L hrs,dj,by unfold most;omega,hfl,λb acc H1 nb g1 hacc ht hday hw hal=>?_⟩
  obtain⟨ps,hb,hp⟩:=hacc
  have g01:Gm T H H1:=g0.trans g1
  have hst1:H1 st=some (.lst []):=g1.lst g0.lam ad
  have bst:b≠st:=λz=>by rw [z,ad]at nb;cases nb
  have hlp:=bo hp
  refine⟨b,rfl,⟨_,SqL.of hb⟩,bF (K:=K) (a:=b) (xs:=ps.map V.ref) (λi σ H2=>∃(cs:List aH) (day:Int) (v5 v6 v7:Option V),σ=[some (.ref a),some (.int f),some (.int l),some (.ref st),some (.int day),v5,v6,v7]/\Gm T H H2/\H2 b=some (.lst (ps.map V.ref))/\(∀p xs,H1 p=some (.tup xs)->H2 p=some (.tup xs))/\aS H2 st cs/\
    Strip.DG cs (Strip.fillG .non (acc.take i) f day)/\Within cs f l/\f<=day/\day<=l+1/\(∀r∈acc.take i,r.2.1 < day)/\(∀r,acc[i]?=some r->day<=r.1)/\cs.length<=2 * i)
   ⟨[],f,none,none,none,rfl,g01,hb,(λ_ _ e=>e),dL hst1,Strip.DG.nil.eq λn=>(if_neg (by omega)).symm,(λ_ h=>nomatch h),Int.le_refl _,by omega,(λr h=>by rw [List.take_zero]at h;cases h),λr h=>(hw r (List.mem_of_getElem? h)).1,Nat.le_refl _⟩ (λi σ H2 _ hh=>?_) ?_ ?_⟩
  ·obtain⟨_,_,_,_,_,_,_,hb2,_⟩:=hh
   exact SqL.of hb2
  ·rintro i y σ H2 hi ⟨cs,day,v5,v6,v7,rfl,g2,hb2,kt,⟨as,hst,hrs2⟩,D,hw2,d0,d1,hp2,hnx,hln⟩
   rw [List.getElem?_map]at hi
   cases ep:ps[i]? with
   | none=>rw [ep]at hi;cases hi
   | some p=>
    rw [ep]at hi
    cases hi
    obtain⟨r,er,ht1,hmk⟩:=cZ hp ep
    have ht2:=kt p _ ht1
    have hil:i < acc.length:=(List.getElem?_eq_some_iff.mp er).1
    have hrl:r.1<=r.2.1:=ht.up.le r (List.mem_of_getElem? er)
    obtain⟨hw1,hw3⟩:=hw r (List.mem_of_getElem? er)
    have hdr:day<=r.1:=hnx r er
    refine⟨p,_,rfl,SqT.of ht2,rfl,_,_,rfl,_,_,rfl,_,_,rfl,rfl,?_⟩
    have go:∀(cs2:List aH) (as2:List Addr) (H3:Hp),Gm T H H3->H3 b=some (.lst (ps.map V.ref))->(∀p xs,H1 p=some (.tup xs)->H3 p=some (.tup xs))->H3 st=some (.lst (as2.map V.ref))->bM H3 as2 cs2->Strip.DG cs2 (Strip.fillG .non (acc.take i) f r.1)->Within cs2 f l->cs2.length<=2 * i+1->
      ∀p',H3 p'=none->∃(cs:List aH) (day:Int) (v5 v6 v7:Option V),[some (V.ref a),some (V.int f),some (V.int l),some (V.ref st),some (V.int (r.2.1+1)),some (V.int r.1),some (V.int r.2.1),some r.2.2]=[some (.ref a),some (.int f),some (.int l),some (.ref st),some (.int day),v5,v6,v7]/\Gm T H (upd (upd H3 p' (.tup (cB r))) st (.lst (as2.map V.ref++[V.ref p'])))/\(upd (upd H3 p' (.tup (cB r))) st (.lst (as2.map V.ref++[V.ref p']))) b=some (.lst (ps.map V.ref))/\(∀p xs,H1 p=some (.tup xs)->(upd (upd H3 p' (.tup (cB r))) st (.lst (as2.map V.ref++[V.ref p']))) p=some (.tup xs))/\aS (upd (upd H3 p' (.tup (cB r))) st (.lst (as2.map V.ref++[V.ref p']))) st cs/\
       Strip.DG cs (Strip.fillG .non (acc.take (i+1)) f day)/\Within cs f l/\f<=day/\day<=l+1/\(∀r∈acc.take (i+1),r.2.1 < day)/\(∀r,acc[i+1]?=some r->day<=r.1)/\cs.length<=2 * (i+1):=λcs2 as2 H3 g3 hb3 kt3 hst3 hrs3 D3 hw4 hl4 p' np=>by
     obtain⟨z1,z2,z3⟩:=ji nst g3 hst3 hrs3 np hmk
     have D4:=Strip.fill_row D3 hrl hw1 rfl
     rw [<- Strip.take_snoc er]at D4
     refine⟨cs2++[r],r.2.1+1,_,_,_,rfl,z1,z3 b _ bst hb3,λp xs e=>z3 p _ (aD (kt3 p xs e) hst3 (by intro z;cases z)) (kt3 p xs e),z2,D4,hw4.snoc hw1 hw3,by omega,by omega,λq hq=>?_,λq hq=>?_,by rw [List.length_append];simp only [List.length_singleton];omega⟩
     ·rw [Strip.take_snoc er]at hq
      rcases List.mem_append.mp hq with hq | hq
      ·have:=hp2 q hq;omega
      ·rw [List.mem_singleton.mp hq];omega
     ·have:=List.pairwise_iff_getElem.mp ht.up.lt i (i+1) hil (List.getElem?_eq_some_iff.mp hq).1 (Nat.lt_succ_self _)
      rw [(List.getElem?_eq_some_iff.mp er).2,(List.getElem?_eq_some_iff.mp hq).2]at this
      unfold Strip.Lt at this
      omega
    have sz:∀{as2:List Addr}{cs2:List aH}{H3:Hp},bM H3 as2 cs2->cs2.length<=2 * i+1->(as2.map V.ref).length < sizeLine:=λh1 h2=>by
     rw [List.length_map,bo h1]
     exact Nat.lt_of_lt_of_le (show _ < 900 by omega) (by decide)
    refine⟨_,rfl,_,rfl,_,_,rfl,rfl,_,rfl,fI (λh=>?_) (λh=>?_)⟩
    ·have h:day < r.1:=of_decide_eq_true h
     refine⟨_,rfl,.inl ⟨rfl,_,SqL.of hst⟩,_,rfl,_,rfl,_,_,rfl,rfl,by show 3<=sizeLine;decide,λp1 np1=>?_⟩
     refine⟨st,_,_,rfl,rfl,by rw [ag (af hst np1)];exact hst,sz hrs2 (by omega),?_⟩
     obtain⟨z1,⟨as3,z2,z2'⟩,z3⟩:=ji (r:=(day,r.1 - 1,V.non)) nst g2 hst hrs2 np1 trivial
     have D2:=Strip.fill_gap D hp2 d0 (show day<=r.1 - 1 by omega) (show r.1=r.1 - 1+1 by omega)
     have ht3:=z3 p _ (aD ht2 hst (by intro z;cases z)) ht2
     have hl5:(cs++[(day,r.1 - 1,V.non)]).length<=2 * i+1:=by rw [List.length_append];simp only [List.length_singleton];omega
     refine⟨_,rfl,.inl ⟨rfl,_,SqL.of z2⟩,_,rfl,_,rfl,_,rfl,by show 3<=sizeLine;decide,λp2 np2=>?_⟩
     refine⟨st,_,_,rfl,rfl,by rw [ag (af z2 np2)];exact z2,sz z2' hl5,_,rfl,_,_,rfl,rfl,?_⟩
     exact go _ as3 _ z1 (z3 b _ bst hb2) (λq xs e=>z3 q _ (aD (kt q xs e) hst (by intro z;cases z)) (kt q xs e)) z2 z2' D2 (hw2.snoc d0 (by show r.1 - 1<=l;omega)) hl5 p2 np2
    ·have h:r.1=day:=by
      have:¬day < r.1:=λz=>h (decide_eq_true z)
      omega
     refine⟨_,rfl,.inl ⟨rfl,_,SqL.of hst⟩,_,rfl,_,rfl,_,rfl,by show 3<=sizeLine;decide,λp2 np2=>?_⟩
     refine⟨st,_,_,rfl,rfl,by rw [ag (af hst np2)];exact hst,sz hrs2 (by omega),_,rfl,_,_,rfl,rfl,?_⟩
     exact go cs as H2 g2 hb2 kt hst hrs2 (by rw [h];exact D) hw2 (by omega) p2 np2
  ·rintro σ H2 ⟨cs,day,v5,v6,v7,rfl,g2,hb2,kt,⟨as,hst,hrs2⟩,D,hw2,d0,d1,hp2,hnx,hln⟩
   have e:(ps.map V.ref).length=acc.length:=by rw [List.length_map];exact hlp
   rw [e]at D hp2 hln
   rw [List.take_length]at D hp2
   have fin:∀(cs2:List aH) (H3:Hp),Gm T H H3->aS H3 st cs2->Strip.DG cs2 (Strip.fillG .non acc f (l+1))->Within cs2 f l->cs2.length<=2 * rs.length+1->dQ T [.ref st] H3 Q E:=λcs2 H3 g3 hr3 D3 hw3 hl3=>by
    refine⟨st,cs2,rfl,g3.lam,hr3,D3.dj,by unfold most;omega,λb2 ss acc2 H4 nb2 g4 hacc2 pss J=>?_⟩
    refine hq b2 acc2 H4 (Gm.free g3 nb2) (g3.trans g4) hacc2 J.tidy (λn=>?_) (hV J pss hw3) (by have:=J.len;have:=pss.length_eq;omega)
    rw [fB J pss D3.dj,D3.day]
    unfold Strip.fillG
    by_cases z:f<=n/\n<=l
    ·rw [if_pos z,if_pos (by omega),hday,if_pos z]
    ·rw [if_neg z,if_neg (by omega)]
   refine⟨_,rfl,_,rfl,_,_,rfl,rfl,_,rfl,fI (λh=>?_) (λh=>?_)⟩
   ·have h:day<=l:=of_decide_eq_true h
    refine⟨_,rfl,.inl ⟨rfl,_,SqL.of hst⟩,_,rfl,_,rfl,by show 3<=sizeLine;decide,λp1 np1=>?_⟩
    refine⟨st,_,_,rfl,rfl,by rw [ag (af hst np1)];exact hst,by rw [List.length_map,bo hrs2];exact Nat.lt_of_lt_of_le (show cs.length < 900 by omega) (by decide),?_⟩
    obtain⟨z1,z2,z3⟩:=ji (r:=(day,l,V.non)) nst g2 hst hrs2 np1 trivial
    exact⟨_,rfl,fin _ _ z1 z2 (Strip.fill_gap D hp2 d0 h rfl) (hw2.snoc d0 (Int.le_refl _)) (by rw [List.length_append];simp only [List.length_singleton];omega)⟩
   ·have h:day=l+1:=by
     have:¬day<=l:=λz=>h (decide_eq_true z)
     omega
    subst h
    exact⟨_,rfl,fin cs H2 g2 ⟨as,hst,hrs2⟩ D hw2 (by omega)⟩
noncomputable def gOf (rs:List aH):Int->V:=λn=>(Strip.dayOf rs n).getD .non
noncomputable def uO (rs ss:List aH):Int->V × V:=λn=>(gOf rs n,gOf ss n)
noncomputable def mW (T:Addr):Sp:=λvs H Q _=>∃(a b:Addr) (f l:Int) (rs ss:List aH),vs=[.ref a,.ref b,.int f,.int l]/\Lm T H/\aS H a rs/\aS H b ss/\Strip.Disj rs/\Strip.Disj ss/\rs.length<=400/\ss.length<=400/\f<=l/\
 ∀(d:Addr) (acc:List eC) (H':Hp),H d=none->Gm T H H'->mT H' d acc->Strip.Full acc f l (uO rs ss)->acc.length < 700000->Q (.ref d) H'
theorem fR:FnScope ["one", "other", "first", "last", "rows", "start", "end", "mark", "beside_start", "beside_end", "beside"] ["one", "other", "first", "last"] (ah lU):=⟨rfl,rfl,rfl,by decide +kernel,rfl,by decide +kernel,by decide +kernel⟩
theorem w8 {f T f1:Addr}{fd fd1:FuncData} (F:Fun K "side_by_side" "side_by_side" lU f fd) (CF:Cal P w K mg base "filled" 5 ["strip", "first", "last"] (iB T) f1 fd1):FnOk P w K mg base CX0 6 f fd ["one", "other", "first", "last"] (mW T):=by
 refine F.ok (k:=5) fR (λvs H Q E h=>?_) (λcdv A outer s H vs Q E hr h=>?_)
 ·obtain⟨a,b,f,l,rs,ss,rfl,_⟩:=h
  rfl
 ·obtain⟨a,b,f,l,rs,ss,rfl,L,hrs,hss,d1,d2,ln1,ln2,hfl,hq⟩:=h
  refine⟨_,(aj (aI (i:=4) fR.nd rfl (Or.inl rfl) (bx ae))
   (aj (bU PassesOwn.never rfl (bD (am CF.ok hr rfl CF.nm CF.kp CF.bd .nil ao (aa (pv 0) (aa (pv 2) (aa (pv 3) ae))))) (cD rfl (aq (ay (i:=5) fR.nd rfl (Or.inl rfl)) (aq (ay (i:=6) fR.nd rfl (Or.inl rfl)) (aq (ay (i:=7) fR.nd rfl (Or.inl rfl)) bS)))) (al (bU PassesOwn.never rfl (bD (am CF.ok hr rfl CF.nm CF.kp CF.bd .nil ao (aa (pv 1) (aa (pv 5) (aa (pv 6) ae))))) (cD rfl (aq (ay (i:=8) fR.nd rfl (Or.inl rfl)) (aq (ay (i:=9) fR.nd rfl (Or.inl rfl)) (aq (ay (i:=10) fR.nd rfl (Or.inl rfl)) bS)))) (al (aX (cY PySem.F.plainAttrs_list PySem.F.slot_list_append PySem.F.type_list_append bf (pv 4) (aa (bC (aa (pv 8) (aa (pv 9) (aa (pv 7) (aa (pv 10) ae))))) ae)))))))
   (al (aB (pv 4))))),?_⟩
  refine⟨Nat.zero_le _,λst nst=>?_⟩
  have g0:Gm T H (upd H st (.lst [])):=Go.new L nst
  refine⟨_,rfl,_,rfl,_,rfl,a,f,l,rs,rfl,g0.lam,g0.rows L hrs,d1,ln1,hfl,λb1 acc1 H1 nb1 g1 hacc1 t1 dy1 w1 l1=>?_⟩
  have F1:Strip.Full acc1 f l (gOf rs):=⟨t1,dy1⟩
  obtain⟨ps,hb1,hp1⟩:=hacc1
  have g01:Gm T H H1:=g0.trans g1
  have hst1:H1 st=some (.lst []):=g1.lst g0.lam ad
  have b1st:b1≠st:=λz=>by rw [z,ad]at nb1;cases nb1
  have hlp:=bo hp1
  have some1:=F1.some hfl
  refine⟨b1,rfl,⟨_,SqL.of hb1⟩,bF (K:=K) (a:=b1) (xs:=ps.map V.ref) (λi σ H2=>∃(cs:List eC) (day:Int) (v5 v6 v7 v8 v9 v10:Option V),σ=[some (.ref a),some (.ref b),some (.int f),some (.int l),some (.ref st),v5,v6,v7,v8,v9,v10]/\Gm T H H2/\H2 b1=some (.lst (ps.map V.ref))/\(∀p xs,H1 p=some (.tup xs)->H2 p=some (.tup xs))/\mT H2 st cs/\
    Strip.Part cs f day (uO rs ss)/\(∀r,acc1[i]?=some r->day=r.1)/\(acc1[i]?=none->day=l+1)/\cs.length<=801 * i)
   ⟨[],f,none,none,none,none,none,none,rfl,g01,hb1,(λ_ _ e=>e),⟨[],hst1,.nil⟩,Strip.Part.nil,λr e=>(F1.first e).symm,λe=>absurd some1 (by have:=List.getElem?_eq_none_iff.mp e;omega),Nat.le_refl _⟩ (λi σ H2 _ hh=>?_) ?_ ?_⟩
  ·obtain⟨_,_,_,_,_,_,_,_,_,_,hb,_⟩:=hh
   exact SqL.of hb
  ·rintro i y σ H2 hi ⟨cs,day,v5,v6,v7,v8,v9,v10,rfl,g2,hb2,kt,hcs,PP,hdy,hdn,hln⟩
   rw [List.getElem?_map]at hi
   cases ep:ps[i]? with
   | none=>rw [ep]at hi;cases hi
   | some p=>
    rw [ep]at hi
    cases hi
    obtain⟨r,er,ht1,hmk⟩:=cZ hp1 ep
    have ht2:=kt p _ ht1
    have hil:i < acc1.length:=(List.getElem?_eq_some_iff.mp er).1
    have hrl:r.1<=r.2.1:=t1.up.le r (List.mem_of_getElem? er)
    obtain⟨rf,rl,rg⟩:=F1.row (List.mem_of_getElem? er)
    have hday:day=r.1:=hdy r er
    refine⟨p,_,rfl,SqT.of ht2,rfl,_,_,rfl,_,_,rfl,_,_,rfl,rfl,?_⟩
    refine⟨_,rfl,_,rfl,_,rfl,b,r.1,r.2.1,ss,rfl,g2.lam,g2.rows L hss,d2,ln2,hrl,λb2 acc2 H3 nb2 g3 hacc2 t2 dy2 w2 l2=>?_⟩
    have F2:Strip.Full acc2 r.1 r.2.1 (gOf ss):=⟨t2,dy2⟩
    obtain⟨qs,hb3,hq3⟩:=hacc2
    have g03:Gm T H H3:=g2.trans g3
    have hcs3:=g3.rowsW g2.lam hcs
    have hb13:=g3.lst g2.lam hb2
    have kt3:∀p xs,H1 p=some (.tup xs)->H3 p=some (.tup xs):=λp xs e=>g3.tup g2.lam (kt p xs e)
    have b2st:b2≠st:=by
     obtain⟨_,e,_⟩:=hcs
     exact(af e nb2).symm
    have hlq:=bo hq3
    have some2:=F2.some hrl
    refine⟨b2,rfl,⟨_,SqL.of hb3⟩,bF (K:=K) (a:=b2) (xs:=qs.map V.ref) (λj σ H4=>∃(cs:List eC) (day:Int) (v8 v9 v10:Option V),σ=[some (.ref a),some (.ref b),some (.int f),some (.int l),some (.ref st),some (.int r.1),some (.int r.2.1),some r.2.2,v8,v9,v10]/\Gm T H H4/\H4 b1=some (.lst (ps.map V.ref))/\H4 b2=some (.lst (qs.map V.ref))/\(∀p xs,H1 p=some (.tup xs)->H4 p=some (.tup xs))/\(∀p xs,H3 p=some (.tup xs)->H4 p=some (.tup xs))/\mT H4 st cs/\
      Strip.Part cs f day (uO rs ss)/\(∀s,acc2[j]?=some s->day=s.1)/\(acc2[j]?=none->day=r.2.1+1)/\cs.length<=801 * i+j)
     ⟨cs,day,v8,v9,v10,rfl,g03,hb13,hb3,kt3,(λ_ _ e=>e),hcs3,PP,λs e=>hday.trans (F2.first e).symm,λe=>absurd some2 (by have:=List.getElem?_eq_none_iff.mp e;omega),by omega⟩ (λj σ H4 _ hh=>?_) ?_ ?_⟩
    ·obtain⟨_,_,_,_,_,_,_,_,hb,_⟩:=hh
     exact SqL.of hb
    ·rintro j y σ H4 hj ⟨cs,day,v8,v9,v10,rfl,g4,hb14,hb24,kt4,kt43,⟨as,hst4,hcs4⟩,PP,hdy2,hdn2,hln2⟩
     rw [List.getElem?_map]at hj
     cases eq:qs[j]? with
     | none=>rw [eq]at hj;cases hj
     | some p2=>
      rw [eq]at hj
      cases hj
      obtain⟨s,es,hs3,hmk2⟩:=cZ hq3 eq
      have hs4:=kt43 p2 _ hs3
      have hjl:j < acc2.length:=(List.getElem?_eq_some_iff.mp es).1
      have hsl:s.1<=s.2.1:=t2.up.le s (List.mem_of_getElem? es)
      obtain⟨sf,sl,sg⟩:=F2.row (List.mem_of_getElem? es)
      have hday2:day=s.1:=hdy2 s es
      subst hday2
      refine⟨p2,_,rfl,SqT.of hs4,rfl,_,_,rfl,_,_,rfl,_,_,rfl,rfl,?_⟩
      refine⟨_,rfl,.inl ⟨rfl,_,SqL.of hst4⟩,_,rfl,_,rfl,_,rfl,_,rfl,by show 4<=sizeLine;decide,λp' np=>?_⟩
      have P2:=PP.put (e:=s.2.1) (m:=(r.2.2,s.2.2)) (by omega) hsl (λn n0 n1=>by
       show (gOf rs n,gOf ss n)=(r.2.2,s.2.2)
       rw [rg n ⟨by omega,by omega⟩,sg n ⟨n0,n1⟩]) (by
       cases j with
       | succ j'=>
        right
        obtain⟨s',es'⟩:∃s',acc2[j']?=some s':=⟨_,List.getElem?_eq_getElem (by omega)⟩
        obtain⟨n1,n2⟩:=F2.next es' es
        have ls':=t2.up.le s' (List.mem_of_getElem? es')
        have g':=(F2.row (List.mem_of_getElem? es')).2.2 s'.2.1 ⟨ls',Int.le_refl _⟩
        intro z
        have z2:gOf ss (s.1 - 1)=s.2.2:=congrArg Prod.snd z
        rw [show s.1 - 1=s'.2.1 by omega,g']at z2
        exact n2 z2
       | zero=>
        have e1:s.1=r.1:=F2.first es
        cases i with
        | zero=>left;rw [e1];exact F1.first er
        | succ i'=>
         right
         obtain⟨r',er'⟩:∃r',acc1[i']?=some r':=⟨_,List.getElem?_eq_getElem (by omega)⟩
         obtain⟨n1,n2⟩:=F1.next er' er
         have lr':=t1.up.le r' (List.mem_of_getElem? er')
         have g':=(F1.row (List.mem_of_getElem? er')).2.2 r'.2.1 ⟨lr',Int.le_refl _⟩
         intro z
         have z2:gOf rs (s.1 - 1)=r.2.2:=congrArg Prod.fst z
         rw [show s.1 - 1=r'.2.1 by omega,g']at z2
         exact n2 z2)
      obtain⟨y1,y2⟩:=rH (r:=(s.1,s.2.1,r.2.2,s.2.2)) hst4 hcs4 np ⟨hmk,hmk2⟩
      refine⟨st,_,_,rfl,rfl,by rw [ag (af hst4 np)];exact hst4,by rw [List.length_map,mn hcs4];exact Nat.lt_of_lt_of_le (show cs.length < 700000 by omega) (by decide),?_⟩
      refine⟨cs++[(s.1,s.2.1,r.2.2,s.2.2)],s.2.1+1,_,_,_,rfl,⟨λc o n e=>y2 c o (af e nst) (g4.same c o n e),g4.lam.row hst4 np⟩,y2 b1 _ b1st hb14,y2 b2 _ b2st hb24,λq xs e=>y2 q _ (aD (kt4 q xs e) hst4 (by intro z;cases z)) (kt4 q xs e),λq xs e=>y2 q _ (aD (kt43 q xs e) hst4 (by intro z;cases z)) (kt43 q xs e),y1,P2,λs' e=>(F2.next es e).1.symm,λe=>by rw [F2.last es e],by rw [List.length_append];simp only [List.length_singleton];omega⟩
    ·rintro σ H4 ⟨cs,day,v8,v9,v10,rfl,g4,hb14,hb24,kt4,kt43,hcs4,PP,hdy2,hdn2,hln2⟩
     have e:(qs.map V.ref).length=acc2.length:=by rw [List.length_map];exact hlq
     rw [e]at hdn2 hln2
     have hd:=hdn2 (List.getElem?_eq_none (Nat.le_refl _))
     subst hd
     refine⟨cs,r.2.1+1,_,_,_,_,_,_,rfl,g4,hb14,kt4,hcs4,PP,λr' e=>(F1.next er e).1.symm,λe=>by rw [F1.last er e],by omega⟩
  ·rintro σ H2 ⟨cs,day,v5,v6,v7,v8,v9,v10,rfl,g2,hb2,kt,hcs,PP,hdy,hdn,hln⟩
   have e:(ps.map V.ref).length=acc1.length:=by rw [List.length_map];exact hlp
   rw [e]at hdn hln
   have hd:=hdn (List.getElem?_eq_none (Nat.le_refl _))
   subst hd
   exact⟨_,rfl,hq st cs H2 nst g2 hcs PP.full (by omega)⟩
noncomputable abbrev gK:Stmt:=top 20
noncomputable def fG (B:Bk) (k:Str) (t u:Nat):Int->V × V:=λn=>(((B.spk k t n).map V.int).getD .non,((B.spk k u n).map V.int).getD .non)
noncomputable def neW (r:eC):Bool:=!decide (r.2.2.1=r.2.2.2)
noncomputable def iq (k:Str) (r:eC):aE:=(k,r.1,r.2.1,r.2.2.1,r.2.2.2)
inductive Boxes (B:Bk) (t u:Nat):List Str->List aE->Prop
 | nil:Boxes B t u [] []
 | snoc {ks:List Str}{k:Str}{bs:List aE}{acc:List eC}:Boxes B t u ks bs->Strip.Full acc 0 399 (fG B k t u)->Boxes B t u (ks++[k]) (bs++(acc.filter neW).map (iq k))
theorem t9 {B:Bk}{k:Str}{t u:Nat}{rs ss:List aH} (h1:∀x,Strip.dayOf rs x=(B.spk k t x).map V.int) (h2:∀x,Strip.dayOf ss x=(B.spk k u x).map V.int):uO rs ss=fG B k t u:=by
 funext n
 unfold uO gOf fG
 rw [h1,h2]
noncomputable def Turn (B:Bk) (v:V) (t:Nat):Prop:=t<=B.ds.length/\((v=.non/\t=B.ds.length)\/v=.int (t:Int))
noncomputable def dO (C L:Addr):Sp:=λvs H Q _=>∃(p:Addr) (a:BA) (F:Addr->Prop) (B:Bk) (v1 v2:V) (t u:Nat),vs=[.ref p,v1,v2]/\Lm L H/\BkAt C H p a F B/\(∀b,F b->b≠L)/\Turn B v1 t/\Turn B v2 u/\
 ∀(d:Addr) (bs:List aE) (H':Hp),H d=none->Gm L H H'->cx H' d bs->Boxes B t u B.ks bs->bs.length<=6000000->Q (.ref d) H'
theorem dm:FnScope ["book", "one", "other", "boxes", "key", "table", "first", "last", "speaker", "beside"] ["book", "one", "other"] (ah gK):=⟨rfl,rfl,rfl,by decide +kernel,rfl,by decide +kernel,by decide +kernel⟩
theorem rQ {f f1 f2 f3 C L:Addr}{fd:FuncData} (F:Fun K "unlike" "unlike" gK f fd) (N:Con mg){fd1:FuncData} (ML:MC P w K mg base C "all_keys" 1 ["self"] [] [] (qw C) f1 fd1){fd2:FuncData} (T2:MC P w K mg base C "table" 3 ["self", "key", "turn"] [] [] (eE C) f2 fd2){fd3:FuncData} (CS:Cal P w K mg base "side_by_side" 6 ["one", "other", "first", "last"] (mW L) f3 fd3):FnOk P w K mg base CX0 7 f fd ["book", "one", "other"] (dO C L):=by
 obtain⟨t1,c1⟩:=N.lastday
 refine F.ok (k:=6) dm (λvs H Q E h=>?_) (λcdv A outer s H vs Q E hr h=>?_)
 ·obtain⟨p,a,F,B,v1,v2,t,u,rfl,_⟩:=h
  rfl
 ·obtain⟨p,a,F,B,v1,v2,t,u,rfl,LL,h,hF,⟨ht,hv1⟩,⟨hu2,hv2⟩,q⟩:=h
  have hu:=bu hr
  refine⟨_,(aj (aI (i:=3) dm.nd rfl (Or.inl rfl) (bx ae))
   (aj (bU PassesOwn.never rfl (bD (dr (pv 0) ML.cl ML.mt ML.ok (hr.mono (by decide)) ML.bd ML.dv ao)) (ay (i:=4) dm.nd rfl (Or.inl rfl))
   (aj (aI (i:=5) dm.nd rfl (Or.inl rfl) (bi (pv 0) T2.cl T2.mt T2.ok (hr.mono (by decide)) T2.bd T2.dv ao (aa (pv 4) (aa (pv 1) ae))))
   (al (bU PassesOwn.never rfl (bD (am CS.ok (hr.mono (by decide)) rfl CS.nm CS.kp CS.bd .nil ao (aa (pv 5) (aa (bi (pv 0) T2.cl T2.mt T2.ok (hr.mono (by decide)) T2.bd T2.dv ao (aa (pv 4) (aa (pv 2) ae))) (aa ai (aa (dH (v:=.int 399) (by rfl) c1 ⟨_,rfl⟩) ae)))))) (cD rfl (aq (ay (i:=6) dm.nd rfl (Or.inl rfl)) (aq (ay (i:=7) dm.nd rfl (Or.inl rfl)) (aq (ay (i:=8) dm.nd rfl (Or.inl rfl)) (aq (ay (i:=9) dm.nd rfl (Or.inl rfl)) bS)))))
   (al (bp (aQ wZ (pv 8) (pv 9) (aN _)) (al (aX (cY PySem.F.plainAttrs_list PySem.F.slot_list_append PySem.F.type_list_append bf (pv 3) (aa (bC (aa (pv 4) (aa (pv 6) (aa (pv 7) (aa (pv 8) (aa (pv 9) ae)))))) ae)))) aG))))))
   (al (aB (pv 3))))),?_⟩
  obtain⟨dx,ho⟩:=h.ob
  have O:=h.ok
  have k8:=O.k8
  obtain⟨pL,hL⟩:=LL.tbl
  have bkG:∀{H2:Hp},Gm L H H2->BkAt C H2 p a F B:=λg=>h.keep ⟨λb o f e=>g.same b o (hF b f) e,λb xs e=>g.tup LL e,λb c dx fs e=>g.same b _ (aD e hL (by intro z;cases z)) e⟩
  have hoG:∀{H2:Hp},Gm L H H2->H2 p=some (.ins C dx (cW a)):=λg=>g.same p _ (aD ho hL (by intro z;cases z)) ho
  refine aP (bh ⟨Nat.zero_le _,λbl nbl=>?_⟩)
  have g1:Gm L H (upd H bl (.lst [])):=Go.new LL nbl
  have e1:upd H bl (.lst []) bl=some (.lst []):=ad
  generalize upd H bl (.lst [])=H1 at g1 e1
  dsimp only [aO]
  refine aP ?_
  refine⟨_,rfl,p,dx,_,rfl,hoG g1,bK a (by decide +kernel) (by decide +kernel) (by decide +kernel) (by decide +kernel) (by decide +kernel),p,a,F,B,rfl,bkG g1,λkl nkl=>?_⟩
  have g2:Gm L H (upd H1 kl (.lst (B.ks.map V.str))):=g1.trans (Go.new g1.lam nkl)
  have ek:upd H1 kl (.lst (B.ks.map V.str)) kl=some (.lst (B.ks.map V.str)):=ad
  have e2:upd H1 kl (.lst (B.ks.map V.str)) bl=some (.lst []):=by rw [ag (af e1 nkl)];exact e1
  have kb:kl≠bl:=λz=>by rw [z,e1]at nkl;cases nkl
  have nkl0:H kl=none:=Gm.free g1 nkl
  generalize upd H1 kl (.lst (B.ks.map V.str))=H2 at g2 ek e2
  refine⟨kl,rfl,⟨_,SqL.of ek⟩,bF (K:=K) (a:=kl) (xs:=B.ks.map V.str) (λi σ H3=>∃(bs:List aE) (v4 v5 v6 v7 v8 v9:Option V),σ=[some (.ref p),some v1,some v2,some (.ref bl),v4,v5,v6,v7,v8,v9]/\Gm L H H3/\H3 kl=some (.lst (B.ks.map V.str))/\cx H3 bl bs/\Boxes B t u (B.ks.take i) bs/\bs.length<=700000 * i)
   ⟨[],none,none,none,none,none,none,rfl,g2,ek,⟨[],e2,.nil⟩,(by rw [List.take_zero];exact .nil),Nat.zero_le _⟩ (λi σ H3 _ hh=>?_) ?_ ?_⟩
  ·obtain⟨_,_,_,_,_,_,_,_,_,e,_⟩:=hh
   exact SqL.of e
  ·rintro i y σ H3 hi ⟨bs,v4,v5,v6,v7,v8,v9,rfl,g3,ek3,hbs,hB,hln⟩
   rw [List.getElem?_map]at hi
   cases ekk:B.ks[i]? with
   | none=>rw [ekk]at hi;cases hi
   | some k=>
    rw [ekk]at hi
    cases hi
    have hkm:=List.mem_of_getElem? ekk
    have hi8:=(List.getElem?_eq_some_iff.mp ekk).1
    have hNk:=O.nm k hkm
    dsimp only [aO]
    refine aP (bh ⟨_,rfl,p,dx,_,rfl,hoG g3,bK a (by decide +kernel) (by decide +kernel) (by decide +kernel) (by decide +kernel) (by decide +kernel),_,rfl,_,rfl,p,a,F,B,k,_,t,rfl,(bkG g3).toT,hkm,ht,hv1,λl1 ps1 rs1 nl1 hp1 td1 i41 dy1=>?_⟩)
    have g4:Gm L H3 (upd H3 l1 (.lst (ps1.map V.ref))):=Go.new g3.lam nl1
    have el1:upd H3 l1 (.lst (ps1.map V.ref)) l1=some (.lst (ps1.map V.ref)):=ad
    generalize upd H3 l1 (.lst (ps1.map V.ref))=H4 at g4 el1
    have g04:=g3.trans g4
    dsimp only [aO]
    refine⟨_,rfl,_,rfl,p,dx,_,rfl,hoG g04,bK a (by decide +kernel) (by decide +kernel) (by decide +kernel) (by decide +kernel) (by decide +kernel),_,rfl,_,rfl,p,a,F,B,k,_,u,rfl,(bkG g04).toT,hkm,hu2,hv2,λl2 ps2 rs2 nl2 hp2 td2 i42 dy2=>?_⟩
    have g5:Gm L H4 (upd H4 l2 (.lst (ps2.map V.ref))):=Go.new g04.lam nl2
    have el2:upd H4 l2 (.lst (ps2.map V.ref)) l2=some (.lst (ps2.map V.ref)):=ad
    generalize upd H4 l2 (.lst (ps2.map V.ref))=H5 at g5 el2
    have g05:=g04.trans g5
    have r1:aS H5 l1 rs1:=⟨ps1,g5.lst g04.lam el1,bv hp1 λ_ _ e=>g5.tup g04.lam (g4.tup g3.lam e)⟩
    have r2:aS H5 l2 rs2:=⟨ps2,el2,bv hp2 λ_ _ e=>g5.tup g04.lam e⟩
    refine⟨l1,l2,0,399,rs1,rs2,rfl,g05.lam,r1,r2,td1.up.disj,td2.up.disj,fY td1.up i41,fY td2.up i42,by decide,λdl acc H6 ndl g6 hacc FU hal=>?_⟩
    rw [t9 dy1 dy2]at FU
    have g06:=g05.trans g6
    obtain⟨qs,eq,hq6⟩:=hacc
    have g36:Gm L H3 H6:=g4.trans (g5.trans g6)
    have ek6:=g36.lst g3.lam ek3
    have hbs6:=g36.boxL g3.lam hbs
    have ndl0:H dl=none:=Gm.free g05 ndl
    obtain⟨pL6,hL6⟩:=g06.lam.tbl
    have dlL:dl≠L:=aD eq hL6 (by intro z;cases z)
    obtain⟨as6,hst6,_⟩:=id hbs6
    have dlb:dl≠bl:=λz=>by
     have:=(g4.trans g5).lst g3.lam hbs.choose_spec.1
     rw [z,this]at ndl;cases ndl
    refine⟨dl,rfl,⟨_,SqL.of eq⟩,bF (K:=K) (a:=dl) (xs:=qs.map V.ref) (λj σ H7=>∃(v6 v7 v8 v9:Option V),σ=[some (.ref p),some v1,some v2,some (.ref bl),some (.str k),some (.ref l1),v6,v7,v8,v9]/\Gm L H H7/\(∀b o,b≠bl->H6 b=some o->b≠L->H7 b=some o)/\cx H7 bl (bs++((acc.take j).filter neW).map (iq k)))
     ⟨_,_,_,_,rfl,g06,(λb o _ e _=>e),(by rw [List.take_zero,List.filter_nil,List.map_nil,List.append_nil];exact hbs6)⟩ (λj σ H7 _ hh=>?_) ?_ ?_⟩
    ·obtain⟨_,_,_,_,_,_,kp,_⟩:=hh
     exact SqL.of (kp _ _ dlb eq dlL)
    ·rintro j y σ H7 hj ⟨v6',v7',v8',v9',rfl,g7,kp,⟨as,hst,hrs⟩⟩
     rw [List.getElem?_map]at hj
     cases eqq:qs[j]? with
     | none=>rw [eqq]at hj;cases hj
     | some x=>
      rw [eqq]at hj
      cases hj
      obtain⟨r,er,ht0,hmk⟩:=rF hq6 eqq
      have hx:=kp _ _ (aD ht0 hst6 (by intro z;cases z)) ht0 (aD ht0 hL6 (by intro z;cases z))
      refine⟨x,_,rfl,SqT.of hx,rfl,_,_,rfl,_,_,rfl,_,_,rfl,_,_,rfl,rfl,?_⟩
      dsimp only
      refine dq ?_
      refine⟨_,rfl,_,rfl,cG hmk.1 hmk.2,_,rfl,?_⟩
      have ft:(acc.take (j+1)).filter neW=(acc.take j).filter neW++(if neW r=true then [r] else []):=by
       rw [Strip.take_snoc er,List.filter_append]
       congr 1
       rw [List.filter_cons]
       rfl
      by_cases hne:r.2.2.1=r.2.2.2
      ·have hn:neW r=false:=by unfold neW;rw [decide_eq_true hne];rfl
       rw [decide_eq_true hne]
       refine br (bz ⟨_,_,_,_,rfl,g7,kp,?_⟩)
       rw [ft,hn,if_neg (by decide),List.append_nil]
       exact⟨as,hst,hrs⟩
      ·have hn:neW r=true:=by unfold neW;rw [decide_eq_false hne];rfl
       rw [decide_eq_false hne]
       refine cg (fq ?_)
       refine⟨_,rfl,.inl ⟨rfl,_,SqL.of hst⟩,_,rfl,_,rfl,_,rfl,_,rfl,_,rfl,by show 5<=sizeLine;decide,λp' np=>?_⟩
       obtain⟨y1,y2⟩:=oy (r:=iq k r) hst hrs np ⟨hNk,hmk.1,hmk.2⟩
       have lj:j < acc.length:=(List.getElem?_eq_some_iff.mp er).1
       refine⟨bl,_,_,rfl,rfl,by rw [ag (af hst np)];exact hst,?_,_,_,_,_,rfl,⟨λb o n e=>y2 b o (af e nbl) (g7.same b o n e),g7.lam.row hst np⟩,(λb o nb e nL=>y2 b o nb (kp b o nb e nL)),?_⟩
       ·rw [List.length_map,cF hrs,List.length_append,List.length_map]
        have:=List.length_filter_le neW (acc.take j)
        rw [List.length_take]at this
        exact Nat.lt_of_lt_of_le (show _ < 9000000 by omega) (by decide)
       ·rw [ft,hn,if_pos rfl,List.map_append,<- List.append_assoc]
        exact y1
    ·rintro σ H7 ⟨v6',v7',v8',v9',rfl,g7,kp,hb7⟩
     rw [List.length_map,mn hq6,List.take_length]at hb7
     refine⟨_,_,_,_,_,_,_,rfl,g7,kp _ _ kb ek6 (aD ek6 hL6 (by intro z;cases z)),hb7,?_,?_⟩
     ·rw [Strip.take_snoc ekk]
      exact .snoc hB FU
     ·rw [List.length_append,List.length_map]
      have:=List.length_filter_le neW acc
      omega
  ·rintro σ H3 ⟨bs,v4,v5,v6,v7,v8,v9,rfl,g3,ek3,hbs,hB,hln⟩
   dsimp only
   rw [List.length_map]at hln hB
   rw [List.take_length]at hB
   exact bT ⟨_,rfl,q bl bs H3 nbl g3 hbs hB (by omega)⟩
noncomputable abbrev j6:Stmt:=top 22
noncomputable abbrev je:Stmt:=top 24
noncomputable def cb (B:Bk):V->V
 | .int n=>(match B.fs[n.toNat]? with
  | some f=>.int f.2.2.2.1
  | none=>.non)
 | _=>.non
noncomputable def Spk (B:Bk) (v:V):Prop:=v=.non\/∃(n:Nat) (f:Fnd),v=.int (n:Int)/\B.fs[n]?=some f
noncomputable def jL (C:Addr):Sp:=λvs H Q _=>∃(p:Addr) (a:BA) (F:Addr->Prop) (B:Bk) (v:V),vs=[.ref p,v]/\BkAt C H p a F B/\Spk B v/\∀H',aA H H'->Q (cb B v) H'
noncomputable def OnB (l b:aE):Prop:=l.1=b.1/\l.2.2.1+1=b.2.1/\l.2.2.2=b.2.2.2
noncomputable def jQ:Sp:=λvs H Q _=>∃(x y:Addr) (l b:aE),vs=[.ref x,.ref y]/\H x=some (.tup (ck l))/\H y=some (.tup (ck b))/\fH l/\fH b/\∀(k:Bool) (H':Hp),aA H H'->(k=true↔OnB l b)->Q (.bl k) H'
theorem mI {x y x' y':V} (h1:aV x) (h2:aV y) (h1':aV x') (h2':aV y') (e:PySem.W.Dat.tuple [dz x,dz y]=.tuple [dz x',dz y']):(x,y)=(x',y'):=by
 have e1:=PySem.W.Dat.tuple.inj e
 have a:=(List.cons.inj e1).1
 have b:=(List.cons.inj (List.cons.inj e1).2).1
 rw [lw h1 h1' a,lw h2 h2' b]
theorem vD:FnScope ["book", "number"] ["book", "number"] (ah j6):=⟨rfl,rfl,rfl,by decide +kernel,rfl,by decide +kernel,by decide +kernel⟩
theorem uj {f f1 C:Addr}{fd:FuncData} (F:Fun K "value_of" "value_of" j6 f fd){fd1:FuncData} (MO:MC P w K mg base C "found" 3 ["self", "number"] [] [] (jR C) f1 fd1):FnOk P w K mg base CX0 4 f fd ["book", "number"] (jL C):=by
 refine F.ok (k:=3) vD (λvs H Q E h=>?_) (λcdv A outer s H vs Q E hr h=>?_)
 ·obtain⟨p,a,F,B,v,rfl,_⟩:=h
  rfl
 ·obtain⟨p,a,F,B,v,rfl,h,hv,q⟩:=h
  have hu:=bu hr
  refine⟨_,(al (aB (oB (i7 (nE (pv 1))) gp (aM aY (bi (pv 0) MO.cl MO.mt MO.ok (hr.mono (by decide)) MO.bd MO.dv ao (aa (pv 1) ae)) ai (λ_ _=>rfl))))),?_⟩
  obtain⟨dx,ho⟩:=h.ob
  rcases hv with rfl | ⟨n,f,rfl,hf⟩
  ·exact bT ⟨_,rfl,_,rfl,cg (q H aA.refl)⟩
  ·refine bT ⟨_,rfl,_,rfl,br ⟨_,rfl,p,dx,_,rfl,ho,bK a (by decide +kernel) (by decide +kernel) (by decide +kernel) (by decide +kernel) (by decide +kernel),_,rfl,p,a,F,B,n,f,rfl,h,hf,λq1 H1 g1 e1=>⟨q1,_,3,V.int f.2.2.2.1,rfl,rfl,SqT.of e1,rfl,?_⟩⟩⟩
   have:=q H1 g1
   have ev:cb B (.int (n:Int))=.int f.2.2.2.1:=by
    show (match B.fs[((n:Int)).toNat]? with | some f=>V.int f.2.2.2.1 | none=>.non)=_
    rw [Int.toNat_natCast,hf]
   rw [ev]at this
   exact this
theorem vJ:FnScope ["box", "behind"] ["box", "behind"] (ah je):=⟨rfl,rfl,rfl,by decide +kernel,rfl,by decide +kernel,by decide +kernel⟩
theorem uu {f:Addr}{fd:FuncData} (F:Fun K "goes_on" "goes_on" je f fd)  : FnOk P w K mg base CX0 1 f fd ["box", "behind"] jQ:=by
 refine F.ok (k:=0) vJ (λvs H Q E h=>?_) (λcdv A outer s H vs Q E hr h=>?_)
 ·obtain⟨x,y,l,b,rfl,_⟩:=h
  rfl
 ·obtain⟨x,y,l,b,rfl,hx,hy,ml,mb,q⟩:=h
  have hu:=bu hr
  refine⟨_,(al (aB (dW (cu dF (aM aY (pv 0) ai (λ_ _=>rfl)) (aM aY (pv 1) ai (λ_ _=>rfl)) (aN _)) (dW (cu dF (aF bJ (aM aY (pv 0) ai (λ_ _=>rfl)) ai) (aM aY (pv 1) ai (λ_ _=>rfl)) (aN _)) (fu (cu (gt hr.units) (bV hW (pv 0) (bY ai) cT) (bV hW (pv 1) (bY ai) cT) (aN _))))))),?_⟩
  refine bT (iG ?_)
  refine⟨_,rfl,x,_,0,V.str l.1,rfl,rfl,SqT.of hx,rfl,_,rfl,y,_,0,V.str b.1,rfl,rfl,SqT.of hy,rfl,rfl,_,rfl,?_⟩
  by_cases c1:l.1=b.1
  ·rw [decide_eq_true (show V.str l.1=V.str b.1 by rw [c1])]
   refine cg (iG ?_)
   refine⟨_,rfl,x,_,2,V.int l.2.2.1,rfl,rfl,SqT.of hx,rfl,_,_,rfl,rfl,_,rfl,y,_,1,V.int b.2.1,rfl,rfl,SqT.of hy,rfl,rfl,_,rfl,?_⟩
   by_cases c2:l.2.2.1+1=b.2.1
   ·rw [decide_eq_true (show V.int (l.2.2.1+1)=V.int b.2.1 by rw [c2])]
    refine cg ?_
    refine⟨_,rfl,3,rfl,x,_,rfl,SqT.of hx,(by show ¬(HT.sIx 5 0 (some 3)=0/\HT.sIx 5 5 none=5);decide),λp1 n1=>?_⟩
    have g1:aA H (upd H p1 (.tup (cutV (ck l) (some 3) none))):=aA.new n1
    have e1:upd H p1 (.tup (cutV (ck l) (some 3) none)) p1=some (.tup [l.2.2.2.1,l.2.2.2.2]):=ad
    generalize upd H p1 (.tup (cutV (ck l) (some 3) none))=H1 at g1 e1
    refine⟨_,rfl,3,rfl,y,_,rfl,SqT.of (g1 _ _ hy),(by show ¬(HT.sIx 5 0 (some 3)=0/\HT.sIx 5 5 none=5);decide),λp2 n2=>?_⟩
    have g2:aA H1 (upd H1 p2 (.tup (cutV (ck b) (some 3) none))):=aA.new n2
    have e2:upd H1 p2 (.tup (cutV (ck b) (some 3) none)) p2=some (.tup [b.2.2.2.1,b.2.2.2.2]):=ad
    generalize upd H1 p2 (.tup (cutV (ck b) (some 3) none))=H2 at g2 e2
    have k9:∀{u v:V},aV u->aV v->PySem.W.kqdOk 9 (.tuple [dz u,dz v])=true:=λhu hv=>by
     show ([dz _,dz _].all (PySem.W.kqdOk 8))=true
     rw [List.all_cons,List.all_cons,gW 8 hu,gW 8 hv];rfl
    by_cases c3:l.2.2.2=b.2.2.2
    ·exact⟨_,_,.tup (g2 _ _ e1) (.cons (bO ml.2.1) (.cons (bO ml.2.2) .nil)),.tup e2 (.cons (bO mb.2.1) (.cons (bO mb.2.2) .nil)),k9 ml.2.1 ml.2.2,k9 mb.2.1 mb.2.2,true,⟨λ_=>by rw [c3],λ_=>rfl⟩,q true H2 (g1.trans g2) ⟨λ_=>⟨c1,c2,c3⟩,λ_=>rfl⟩⟩
    ·exact⟨_,_,.tup (g2 _ _ e1) (.cons (bO ml.2.1) (.cons (bO ml.2.2) .nil)),.tup e2 (.cons (bO mb.2.1) (.cons (bO mb.2.2) .nil)),k9 ml.2.1 ml.2.2,k9 mb.2.1 mb.2.2,false,⟨(λz=>by cases z),λz=>absurd (mI ml.2.1 ml.2.2 mb.2.1 mb.2.2 z) c3⟩,q false H2 (g1.trans g2) ⟨(λz=>by cases z),λz=>absurd z.2.2 c3⟩⟩
   ·rw [decide_eq_false (λz=>c2 (V.int.inj z))]
    exact br (q false H aA.refl ⟨(λz=>by cases z),λz=>absurd z.2.1 c2⟩)
  ·rw [decide_eq_false (λz=>c1 (V.str.inj z))]
   exact br (q false H aA.refl ⟨(λz=>by cases z),λz=>absurd z.1 c1⟩)
noncomputable abbrev lW:Stmt:=top 23
noncomputable instance (l b:aE):Decidable (OnB l b):=inferInstanceAs (Decidable (_/\_/\_))
noncomputable def jE (bs:List aE) (b:aE):List aE:=match bs.getLast? with
 | some l=>if OnB l b then bs.dropLast++[(l.1,l.2.1,b.2.2.1,b.2.2.2)] else bs++[b]
 | none=>bs++[b]
theorem iH {bs:List aE}{l b:aE} (h:OnB l b):jE (bs++[l]) b=bs++[(l.1,l.2.1,b.2.2.1,b.2.2.2)]:=by
 unfold jE
 rw [List.getLast?_concat,List.dropLast_concat]
 exact if_pos h
theorem gn {bs:List aE}{l b:aE} (h:¬OnB l b):jE (bs++[l]) b=bs++[l]++[b]:=by
 unfold jE
 rw [List.getLast?_concat]
 exact if_neg h
theorem ow (bs:List aE) (b:aE):(jE bs b).length<=bs.length+1:=by
 rcases List.eq_nil_or_concat bs with e | ⟨i,l,e⟩
 ·rw [e];exact Nat.le_refl _
 ·rw [List.concat_eq_append]at e
  rw [e]
  by_cases h:OnB l b
  ·rw [iH h];simp
  ·rw [gn h];simp
theorem mO {H:Hp}{l:aE}:∀{bs:List aE}{ps:List Addr},gz H ps (bs++[l])->∃qs pl,ps=qs++[pl]/\gz H qs bs/\H pl=some (.tup (ck l))/\fH l
 | [],_,.cons a .nil=>⟨[],_,rfl,.nil,a.1,a.2⟩
 | _::bs,_,.cons a t=>by
  obtain⟨qs,pl,e,h1,h2,h3⟩:=mO (bs:=bs) t
  exact⟨_::qs,pl,by rw [e];rfl,.cons a h1,h2,h3⟩
theorem tJ {H:Hp}{st p pl:Addr}{qs:List Addr}{acc:List aE}{r:aE} (hst:H st=some (.lst ((qs++[pl]).map V.ref))) (hrs:gz H qs acc) (np:H p=none) (hm:fH r) :
  cx (upd (upd H p (.tup (ck r))) st (.lst (((qs++[pl]).map V.ref).set qs.length (V.ref p)))) st (acc++[r])/\∀b o,b≠st->H b=some o->upd (upd H p (.tup (ck r))) st (.lst (((qs++[pl]).map V.ref).set qs.length (V.ref p))) b=some o:=by
 have ps:p≠st:=λz=>by rw [z,hst]at np;cases np
 have keep:∀b o,b≠st->H b=some o->upd (upd H p (.tup (ck r))) st (.lst (((qs++[pl]).map V.ref).set qs.length (V.ref p))) b=some o:=λb o n e=>by
  rw [ag n,ag (af e np)];exact e
 refine⟨⟨qs++[p],?_,fh ?_ hm (de hrs λb xs e=>keep b _ (aD e hst (by intro z;cases z)) e)⟩,keep⟩
 ·rw [ad,List.map_append,List.map_append,List.set_append]
  simp
 ·rw [ag ps,ad]
noncomputable def mX:Sp:=λvs H Q _=>∃(bl y:Addr) (bs:List aE) (b:aE),vs=[.ref bl,.ref y]/\cx H bl bs/\H y=some (.tup (ck b))/\fH b/\bs.length < 9000000/\∀H':Hp,cx H' bl (jE bs b)->(∀c o,c≠bl->H c=some o->H' c=some o)->Q .non H'
theorem xr:FnScope ["boxes", "box"] ["boxes", "box"] (ah lW):=⟨rfl,rfl,rfl,by decide +kernel,rfl,by decide +kernel,by decide +kernel⟩
theorem wb {f f1:Addr}{fd:FuncData} (F:Fun K "put_behind" "put_behind" lW f fd){fd1:FuncData} (CG:Cal P w K mg base "goes_on_turns" 1 ["box", "behind"] jQ f1 fd1):FnOk P w K mg base CX0 2 f fd ["boxes", "box"] mX:=by
 refine F.ok (k:=1) xr (λvs H Q E h=>?_) (λcdv A outer s H vs Q E hr h=>?_)
 ·obtain⟨bl,y,bs,b,rfl,_⟩:=h
  rfl
 ·obtain⟨bl,y,bs,b,rfl,⟨as,hbl,hbs⟩,hy,mb,h9,q⟩:=h
  have hu:=bu hr
  refine⟨_,(al (bp (PW.pt (eO (oz (pv 0) (λ_=>rfl)) (dG (cC (am CG.ok (hr.mono (by decide)) rfl CG.nm CG.kp CG.bd .nil ao (aa (aM bA (pv 0) (jw fN ai) (λ_ _=>rfl)) (aa (pv 1) ae))))))) (al (pE (aF qG (bV hW (aM bA (pv 0) (jw fN ai) (λ_ _=>rfl)) cT (bY ai)) (bV hW (pv 1) (bY ai) cT)) (ua (pv 0) (jw fN ai) om))) (al (aX (cY PySem.F.plainAttrs_list PySem.F.slot_list_append PySem.F.type_list_append bf (pv 0) (aa (pv 1) ae)))))),?_⟩
  have hlen:=cF hbs
  have put:∀{H2:Hp},aA H H2->(jE bs b=bs++[b])->_:=λ{H2} g2 ep=>(⟨_,rfl,.inl ⟨rfl,_,SqL.of (g2 _ _ hbl)⟩,_,rfl,bl,_,_,rfl,rfl,g2 _ _ hbl,by rw [List.length_map,hlen];exact Nat.lt_of_lt_of_le h9 (by decide),by
   have yb:y≠bl:=aD hy hbl (by intro z;cases z)
   refine q _ ⟨as++[y],?_,?_⟩ λc o nc e=>by rw [ag nc];exact g2 _ _ e
   ·rw [ad,List.map_append];rfl
   ·rw [ep]
    refine fh (by rw [ag yb];exact g2 _ _ hy) mb (de hbs λc xs e=>?_)
    rw [ag (aD e hbl (by intro z;cases z))]
    exact g2 _ _ e⟩:tBM K "list" qC (dN 0) (cK (dN 1) cn) [some (.ref bl),some (.ref y)] H2 λ_ H3=>Q .non H3)
  refine dq ?_
  rcases List.eq_nil_or_concat bs with e | ⟨ini,l,e⟩
  ·subst e
   have e0:as=[]:=List.eq_nil_of_length_eq_zero hlen
   subst e0
   exact⟨_,rfl,false,.inl ⟨[],SqL.of hbl,rfl⟩,br (br (fq (put aA.refl rfl)))⟩
  ·rw [List.concat_eq_append]at e
   subst e
   obtain⟨qs,pl,rfl,hq,hpl,ml⟩:=mO hbs
   have elm:(qs++[pl]).map V.ref=qs.map V.ref++[V.ref pl]:=by rw [List.map_append];rfl
   have at1:atI ((qs++[pl]).map V.ref) (-1)=some (V.ref pl):=by rw [elm];exact lC _ _
   refine⟨_,rfl,true,.inl ⟨_,SqL.of hbl,by rw [elm];simp⟩,cg ?_⟩
   refine⟨_,rfl,1,rfl,bl,_,-1,V.ref pl,rfl,rfl,SqL.of hbl,at1,_,rfl,pl,y,l,b,rfl,hpl,hy,ml,mb,λk H1 g1 hk=>⟨_,rfl,?_⟩⟩
   cases k with
   | false=>
    have hn:¬OnB l b:=λz=>Bool.noConfusion (hk.mpr z)
    exact br (fq (put g1 (gn hn)))
   | true=>
    have hon:=hk.mp rfl
    refine cg (bh ?_)
    have hpl1:=g1 _ _ hpl
    refine⟨_,rfl,1,rfl,bl,_,-1,V.ref pl,rfl,rfl,SqL.of (g1 _ _ hbl),at1,2,rfl,pl,_,rfl,SqT.of hpl1,(by show ¬(HT.sIx 5 0 none=0/\HT.sIx 5 5 (some 2)=5);decide),λp1 n1=>?_⟩
    have g2:aA H1 (upd H1 p1 (.tup (cutV (ck l) none (some 2)))):=aA.new n1
    have e2:upd H1 p1 (.tup (cutV (ck l) none (some 2))) p1=some (.tup [.str l.1,.int l.2.1]):=ad
    generalize upd H1 p1 (.tup (cutV (ck l) none (some 2)))=H2 at g2 e2
    refine⟨_,rfl,2,rfl,y,_,rfl,SqT.of (g2 _ _ (g1 _ _ hy)),(by show ¬(HT.sIx 5 0 (some 2)=0/\HT.sIx 5 5 none=5);decide),λp2 n2=>?_⟩
    have g3:aA H2 (upd H2 p2 (.tup (cutV (ck b) (some 2) none))):=aA.new n2
    have e3:upd H2 p2 (.tup (cutV (ck b) (some 2) none)) p2=some (.tup [.int b.2.2.1,b.2.2.2.1,b.2.2.2.2]):=ad
    generalize upd H2 p2 (.tup (cutV (ck b) (some 2) none))=H3 at g3 e3
    refine⟨p1,p2,_,_,rfl,rfl,SqT.of (g3 _ _ e2),SqT.of e3,(by intro z;cases z),by show 5<=sizeLine;decide,(by intro z;cases z),λ_ p3 n3=>?_⟩
    have g03:=(g1.trans g2).trans g3
    have hbl3:=g03 _ _ hbl
    obtain⟨y1,y2⟩:=tJ (r:=(l.1,l.2.1,b.2.2.1,b.2.2.2)) hbl3 (de hq λc xs e=>g03 _ _ e) n3 ⟨ml.1,mb.2.1,mb.2.2⟩
    refine⟨_,rfl,1,rfl,bl,_,-1,qs.length,rfl,rfl,by rw [ag (af hbl3 n3)];exact hbl3,by rw [List.length_map,List.length_append];exact oK _,?_⟩
    refine q _ ?_ λc o nc e=>y2 c o nc (g03 _ _ e)
    rw [iH hon]
    exact y1
noncomputable abbrev lR:Stmt:=top 21
noncomputable def cR (B:Bk) (b:aE):aE:=(b.1,b.2.1,b.2.2.1,cb B b.2.2.2.1,cb B b.2.2.2.2)
noncomputable def valsB (B:Bk) (bs:List aE):List aE:=bs.foldl (λacc b=>if cb B b.2.2.2.1=cb B b.2.2.2.2 then acc else jE acc (cR B b)) []
theorem dM (B:Bk) (bs:List aE) (b:aE):valsB B (bs++[b])=if cb B b.2.2.2.1=cb B b.2.2.2.2 then valsB B bs else jE (valsB B bs) (cR B b):=by
 unfold valsB
 rw [List.foldl_append]
 rfl
theorem lM (B:Bk):∀v:V,aV (cb B v)
 | .int n=>by
  show aV (match B.fs[n.toNat]? with | some f=>V.int f.2.2.2.1 | none=>.non)
  split <;> trivial
 | .non=>trivial
 | .bl _=>trivial
 | .str _=>trivial
 | .byt _=>trivial
 | .ref _=>trivial
 | .ty _=>trivial
 | .flt _=>trivial
theorem qr (B:Bk) (k:Str) (t n:Int):Spk B (((B.spk k t n).map V.int).getD .non):=by
 cases e:B.spk k t n with
 | none=>exact .inl rfl
 | some m=>
  obtain⟨j,f,e1,_,e2,_⟩:=iM e
  subst e1
  exact .inr ⟨j,f,rfl,e2⟩
theorem sU {B:Bk}{t u:Nat}{ks:List Str}{bs:List aE} (h:Boxes B t u ks bs):∀b∈bs,Spk B b.2.2.2.1/\Spk B b.2.2.2.2:=by
 induction h with
 | nil=>exact λ_ h=>nomatch h
 | @snoc ks k bs acc _ FU ih=>
  intro b hb
  rcases List.mem_append.mp hb with hb | hb
  ·exact ih b hb
  ·obtain⟨r,hr,rfl⟩:=List.mem_map.mp hb
   have hr':=(List.mem_filter.mp hr).1
   obtain⟨_,_,hg⟩:=FU.row hr'
   have:=hg r.1 ⟨Int.le_refl _,FU.tidy.up.le r hr'⟩
   show Spk B r.2.2.1/\Spk B r.2.2.2
   rw [<- this]
   exact⟨qr B k t r.1,qr B k u r.1⟩
noncomputable def iW (C L:Addr):Sp:=λvs H Q _=>∃(p:Addr) (a:BA) (F:Addr->Prop) (B:Bk) (v1 v2:V) (t u:Nat),vs=[.ref p,v1,v2]/\Lm L H/\BkAt C H p a F B/\(∀b,F b->b≠L)/\Turn B v1 t/\Turn B v2 u/\
 ∀(d:Addr) (bs:List aE) (H':Hp),H d=none->Gm L H H'->cx H' d (valsB B bs)->Boxes B t u B.ks bs->Q (.ref d) H'
theorem fm:FnScope ["book", "one", "other", "boxes", "key", "first", "last", "speaker", "beside", "value", "value_beside"] ["book", "one", "other"] (ah lR):=⟨rfl,rfl,rfl,by decide +kernel,rfl,by decide +kernel,by decide +kernel⟩
theorem vZ {f f1 f2 f3 C L:Addr}{fd:FuncData} (F:Fun K "unlike_values" "unlike_values" lR f fd){fd1:FuncData} (CU:Cal P w K mg base "unlike" 7 ["book", "one", "other"] (dO C L) f1 fd1){fd2:FuncData} (CV:Cal P w K mg base "value_of" 4 ["book", "number"] (jL C) f2 fd2){fd3:FuncData} (CP:Cal P w K mg base "put_behind" 2 ["boxes", "box"] mX f3 fd3):FnOk P w K mg base CX0 8 f fd ["book", "one", "other"] (iW C L):=by
 refine F.ok (k:=7) fm (λvs H Q E h=>?_) (λcdv A outer s H vs Q E hr h=>?_)
 ·obtain⟨p,a,F,B,v1,v2,t,u,rfl,_⟩:=h
  rfl
 ·obtain⟨p,a,F,B,v1,v2,t,u,rfl,LL,h,hF,T1,T2,q⟩:=h
  have hu:=bu hr
  refine⟨_,(aj (aI (i:=3) fm.nd rfl (Or.inl rfl) (bx ae))
   (aj (bU PassesOwn.never rfl (bD (am CU.ok (hr.mono (by decide)) rfl CU.nm CU.kp CU.bd .nil ao (aa (pv 0) (aa (pv 1) (aa (pv 2) ae))))) (cD rfl (aq (ay (i:=4) fm.nd rfl (Or.inl rfl)) (aq (ay (i:=5) fm.nd rfl (Or.inl rfl)) (aq (ay (i:=6) fm.nd rfl (Or.inl rfl)) (aq (ay (i:=7) fm.nd rfl (Or.inl rfl)) (aq (ay (i:=8) fm.nd rfl (Or.inl rfl)) bS))))))
   (aj (aI (i:=9) fm.nd rfl (Or.inl rfl) (am CV.ok (hr.mono (by decide)) rfl CV.nm CV.kp CV.bd .nil ao (aa (pv 0) (aa (pv 7) ae))))
   (aj (aI (i:=10) fm.nd rfl (Or.inl rfl) (am CV.ok (hr.mono (by decide)) rfl CV.nm CV.kp CV.bd .nil ao (aa (pv 0) (aa (pv 8) ae))))
   (al (bp (aQ wZ (pv 9) (pv 10) (aN _)) (al (aX (am CP.ok (hr.mono (by decide)) rfl CP.nm CP.kp CP.bd .nil ao (aa (pv 3) (aa (bC (aa (pv 4) (aa (pv 5) (aa (pv 6) (aa (pv 9) (aa (pv 10) ae)))))) ae))))) aG)))))
   (al (aB (pv 3))))),?_⟩
  obtain⟨pL,hL⟩:=LL.tbl
  have bkG:∀{H2:Hp},Gm L H H2->BkAt C H2 p a F B:=λg=>h.keep ⟨λb o f e=>g.same b o (hF b f) e,λb xs e=>g.tup LL e,λb c dx fs e=>g.same b _ (aD e hL (by intro z;cases z)) e⟩
  have gG:∀{H2 H3:Hp},Gm L H H2->aA H2 H3->Gm L H H3:=λg w=>⟨λb o n e=>w _ _ (g.same b o n e),bP g.lam λb o e _ _=>w _ _ e⟩
  refine aP (bh ⟨Nat.zero_le _,λbl nbl=>?_⟩)
  have g1:Gm L H (upd H bl (.lst [])):=Go.new LL nbl
  have e1:upd H bl (.lst []) bl=some (.lst []):=ad
  generalize upd H bl (.lst [])=H1 at g1 e1
  dsimp only [aO]
  refine aP ?_
  refine⟨_,rfl,_,rfl,_,rfl,p,a,F,B,v1,v2,t,u,rfl,g1.lam,bkG g1,hF,T1,T2,λdl bs H2 ndl g2 hbs hB hl6=>?_⟩
  obtain⟨qs,eq,hq⟩:=hbs
  have g02:=g1.trans g2
  have e2:=g2.lst g1.lam e1
  have dlb:dl≠bl:=λz=>by rw [z,e1]at ndl;cases ndl
  have hsp:=sU hB
  have hlq:=cF hq
  refine⟨dl,rfl,⟨_,SqL.of eq⟩,bF (K:=K) (a:=dl) (xs:=qs.map V.ref) (λi σ H3=>∃(v4 v5 v6 v7 v8 v9 v10:Option V),σ=[some (.ref p),some v1,some v2,some (.ref bl),v4,v5,v6,v7,v8,v9,v10]/\Gm L H H3/\(∀c o,c≠bl->H2 c=some o->H3 c=some o)/\cx H3 bl (valsB B (bs.take i))/\(valsB B (bs.take i)).length<=i)
   ⟨none,none,none,none,none,none,none,rfl,g02,(λc o _ e=>e),⟨[],e2,(by rw [List.take_zero];exact .nil)⟩,(by rw [List.take_zero];exact Nat.le_refl _)⟩ (λi σ H3 _ hh=>?_) ?_ ?_⟩
  ·obtain⟨_,_,_,_,_,_,_,_,_,kp,_⟩:=hh
   exact SqL.of (kp _ _ dlb eq)
  ·rintro i y σ H3 hi ⟨v4,v5,v6,v7,v8,v9,v10,rfl,g3,kp,hbx,hln⟩
   rw [List.getElem?_map]at hi
   cases eqq:qs[i]? with
   | none=>rw [eqq]at hi;cases hi
   | some x=>
    rw [eqq]at hi
    cases hi
    obtain⟨b,eb,hx2,mb⟩:=dA hq eqq
    have hx:=kp _ _ (aD hx2 e2 (by intro z;cases z)) hx2
    have hib:=(List.getElem?_eq_some_iff.mp eb).1
    obtain⟨s1,s2⟩:=hsp b (List.mem_of_getElem? eb)
    have et:valsB B (bs.take (i+1))=if cb B b.2.2.2.1=cb B b.2.2.2.2 then valsB B (bs.take i) else jE (valsB B (bs.take i)) (cR B b):=by
     rw [<- dM,List.take_add_one,eb];rfl
    refine⟨x,_,rfl,SqT.of hx,rfl,_,_,rfl,_,_,rfl,_,_,rfl,_,_,rfl,_,_,rfl,rfl,?_⟩
    dsimp only
    refine aP (bh ⟨_,rfl,_,rfl,p,a,F,B,_,rfl,bkG g3,s1,λH4 g4=>?_⟩)
    have g04:=gG g3 g4
    dsimp only [aO]
    refine aP (bh ⟨_,rfl,_,rfl,p,a,F,B,_,rfl,bkG g04,s2,λH5 g5=>?_⟩)
    have g05:=gG g04 g5
    have g35:=g4.trans g5
    dsimp only [aO]
    have m1:=lM B b.2.2.2.1
    have m2:=lM B b.2.2.2.2
    have hb5:cx H5 bl (valsB B (bs.take i)):=fi hbx (λxs e=>g35 _ _ e) λc xs e=>g35 _ _ e
    refine dq ?_
    refine⟨_,rfl,_,rfl,cG m1 m2,_,rfl,?_⟩
    by_cases c:cb B b.2.2.2.1=cb B b.2.2.2.2
    ·rw [decide_eq_true c]
     rw [if_pos c]at et
     refine br (bz ⟨_,_,_,_,_,_,_,rfl,g05,(λc o nc e=>g35 _ _ (kp c o nc e)),?_,?_⟩)
     ·rw [et];exact hb5
     ·rw [et];omega
    ·rw [decide_eq_false c]
     rw [if_neg c]at et
     refine cg (fq ?_)
     refine⟨_,rfl,_,rfl,_,rfl,_,rfl,_,rfl,_,rfl,by show 5<=sizeLine;decide,λp' np=>?_⟩
     have g6:aA H5 (upd H5 p' (.tup (ck (cR B b)))):=aA.new np
     have e6:upd H5 p' (.tup (ck (cR B b))) p'=some (.tup (ck (cR B b))):=ad
     refine⟨bl,p',valsB B (bs.take i),cR B b,rfl,fi hb5 (λxs e=>g6 _ _ e) λc xs e=>g6 _ _ e,e6,⟨mb.1,m1,m2⟩,by omega,λH7 hb7 k7=>?_⟩
     obtain⟨as5,eb5,_⟩:=hb5
     have g56:=g35.trans g6
     refine⟨_,_,_,_,_,_,_,rfl,⟨λc o n e=>k7 c o (af e nbl) (g6 _ _ (g05.same c o n e)),?_⟩,(λc o nc e=>k7 c o nc (g56 _ _ (kp c o nc e))),?_,?_⟩
     ·refine bP g05.lam λc o e n1 n2=>k7 c o (λz=>?_) (g6 _ _ e)
      rw [z,eb5]at e
      exact n1 _ (Option.some.inj e).symm
     ·rw [et];exact hb7
     ·rw [et]
      have:=ow (valsB B (bs.take i)) (cR B b)
      omega
  ·rintro σ H3 ⟨v4,v5,v6,v7,v8,v9,v10,rfl,g3,kp,hbx,hln⟩
   dsimp only
   rw [List.length_map,hlq,List.take_length]at hbx
   exact bT ⟨_,rfl,q bl bs H3 nbl g3 hbx hB⟩
noncomputable def valB (B:Bk) (k:Str) (t d:Int):V:=match B.spk k t d with
 | some n=>(match B.fs[n.toNat]? with
  | some f=>.int f.2.2.2.1
  | none=>.non)
 | none=>.non
theorem lN (B:Bk) (k:Str) (t d:Int):aV (valB B k t d):=by
 unfold valB
 split
 ·split <;> trivial
 ·trivial
theorem oj (B:Bk) (k:Str) (t d:Int):aV (((B.spk k t d).map V.int).getD .non):=by
 cases B.spk k t d <;> trivial
theorem xp {B:Bk}{k:Str}{t d n:Int} (h:B.spk k t d=some n):∃(j:Nat) (f:Fnd),n=(j:Int)/\B.fs[j]?=some f/\f.1=k:=by
 obtain⟨j,f,e1,_,e2,e3⟩:=iM h
 refine⟨j,f,e1,e2,?_⟩
 unfold fX at e3
 rw [Bool.and_eq_true]at e3
 exact of_decide_eq_true e3.1
noncomputable def gH (C:Addr):Sp:=λvs H Q _=>∃(p:Addr) (a:BA) (F:Addr->Prop) (B:Bk) (k:Str) (d:Int) (v:V) (t:Nat),vs=[.ref p,.str k,.int d,v]/\BkAt C H p a F B/\k∈B.ks/\0<=d/\d < 400/\t<=B.ds.length/\((v=.non/\t=B.ds.length)\/v=.int (t:Int))/\Q (valB B k t d) H
theorem tQ:FnScope ["self", "key", "day", "turn"] ["self", "key", "day", "turn"] (ah gL):=⟨rfl,rfl,rfl,by decide +kernel,rfl,by decide +kernel,by decide +kernel⟩
theorem rR {f C f1 f2 f3 f4:Addr}{fd:FuncData}{dV:Value} (F:FunD K "speaks" "Book.speaks" gL dV f fd) (N:Free mg) (T:BkC K C){fd1:FuncData} (MY:MC P w K mg base C "check_key" 1 ["self", "key"] [] [] (eT C) f1 fd1){fd2:FuncData} (MT:MC P w K mg base C "turn_meant" 2 ["self", "turn"] [] [] (ix C) f2 fd2){fd3:FuncData} (CK:Cal P w K mg base "mark_on" 1 ["strip", "day"] iy f3 fd3){fd4:FuncData} (CY:Cal P w K mg base "is_day" 2 ["thing"] iz f4 fd4):FnOk P w K mg base CX0 3 f fd ["self", "key", "day", "turn"] (dP C):=by
 refine F.ok (k:=2) tQ (λvs H Q E h=>?_) (λcdv A outer s H vs Q E hr h=>?_)
 ·obtain⟨p,a,F,B,k,d,v,t,rfl,_⟩:=h
  rfl
 ·obtain⟨p,a,F,B,k,d,v,t,rfl,h,hk,d0,d1,ht,hv,q⟩:=h
  have hu:=bu hr
  refine⟨_,(aj (aX (bi (pv 0) MY.cl MY.mt MY.ok (hr.mono (by decide)) MY.bd MY.dv ao (aa (pv 1) ae)))
   (aj (bp (cI (cC (am CY.ok (hr.mono (by decide)) rfl CY.nm CY.kp CY.bd .nil ao (aa (pv 2) ae)))) (al cE) aG)
   (al (aB (am CK.ok (hr.mono (by decide)) rfl CK.nm CK.kp CK.bd .nil ao (aa (bZ hu (aM bA (bW (pv 0) rfl) (bi (pv 0) MT.cl MT.mt MT.ok (hr.mono (by decide)) MT.bd MT.dv ao (aa (pv 3) ae)) (λ_ _=>rfl)) (pv 1) (λ_ _=>rfl)) (aa (pv 2) ae))))))),?_⟩
  obtain⟨dx,ho⟩:=h.ob
  obtain⟨ts,x,kvs,ra,rs,e1,e2,e3,e4,R,lt⟩:=h.tab ht hk
  obtain⟨ps,e5,r5⟩:=R.rl
  refine⟨_,rfl,p,dx,_,rfl,ho,bK a (by decide +kernel) (by decide +kernel) (by decide +kernel) (by decide +kernel) (by decide +kernel),_,rfl,p,a,F,B,k,rfl,h,hk,?_⟩
  refine⟨_,rfl,d,rfl,_,rfl,?_⟩
  rw [decide_eq_true d0,decide_eq_true (show d<=399 by omega)]
  refine br ?_
  refine⟨_,rfl,p,C,dx,_,_,rfl,ho,T.cl,T.n5,wN a,_,rfl,p,dx,_,rfl,ho,bK a (by decide +kernel) (by decide +kernel) (by decide +kernel) (by decide +kernel) (by decide +kernel),_,rfl,p,a,F,B,v,t,rfl,h,ht,hv,?_⟩
  refine⟨a.t,_,_,V.ref x,rfl,rfl,SqL.of e1,dk (by rw [List.getElem?_map,e2];rfl),_,rfl,x,V.ref ra,rfl,?_,?_⟩
  ·have:=cQ.k (k:=Sum.inr k) e3
   rw [e4]at this
   exact this
  ·refine⟨_,rfl,ra,rs,d,rfl,⟨ps,e5,r5⟩,?_⟩
   rw [Strip.markOn_eq R.td.up.disj,R.dy]
   exact q
theorem qz:FnScope ["self", "key", "day", "turn", "number"] ["self", "key", "day", "turn"] (ah j5):=⟨rfl,rfl,rfl,by decide +kernel,rfl,by decide +kernel,by decide +kernel⟩
theorem ui {f C f1:Addr}{fd:FuncData}{dV:Value} (F:FunD K "value" "Book.value" j5 dV f fd) (T:BkC K C){fd1:FuncData} (MS:MC P w K mg base C "speaks" 3 ["self", "key", "day", "turn"] [] [] (dP C) f1 fd1):FnOk P w K mg base CX0 4 f fd ["self", "key", "day", "turn"] (gH C):=by
 refine F.ok (k:=3) qz (λvs H Q E h=>?_) (λcdv A outer s H vs Q E hr h=>?_)
 ·obtain⟨p,a,F,B,k,d,v,t,rfl,_⟩:=h
  rfl
 ·obtain⟨p,a,F,B,k,d,v,t,rfl,h,hk,d0,d1,ht,hv,q⟩:=h
  have hu:=bu hr
  refine⟨_,(aj (aI (i:=4) qz.nd rfl (Or.inl rfl) (bi (pv 0) MS.cl MS.mt MS.ok (hr.mono (by decide)) MS.bd MS.dv ao (aa (pv 1) (aa (pv 2) (aa (pv 3) ae)))))
   (al (aB (oB (i7 (nE (pv 4))) gp (aM aY (aM bA (bW (pv 0) rfl) (pv 4) (λ_ _=>rfl)) ai (λ_ _=>rfl)))))),?_⟩
  obtain⟨dx,ho⟩:=h.ob
  obtain⟨ps,e1,r1⟩:=id h.hf
  refine aP (bh ⟨_,rfl,p,dx,_,rfl,ho,bK a (by decide +kernel) (by decide +kernel) (by decide +kernel) (by decide +kernel) (by decide +kernel),_,rfl,_,rfl,_,rfl,p,a,F,B,k,d,v,t,rfl,h.toT,hk,d0,d1,ht,hv,?_⟩)
  dsimp only [aO]
  unfold valB at q
  cases e:B.spk k t d with
  | none=>
   rw [e]at q
   exact bT ⟨_,rfl,_,rfl,cg q⟩
  | some n=>
   rw [e]at q
   obtain⟨j,f,rfl,e2,_⟩:=xp e
   dsimp only at q
   rw [Int.toNat_natCast,e2]at q
   obtain⟨y,e3,e4⟩:=kg r1 e2
   refine bT ⟨_,rfl,_,rfl,br ⟨_,rfl,p,C,dx,_,_,rfl,ho,T.cl,T.n2,oT a,_,rfl,a.f,_,_,V.ref y,rfl,rfl,SqL.of e1,dk (by rw [List.getElem?_map,e3];rfl),y,_,3,V.int f.2.2.2.1,rfl,rfl,SqT.of e4,rfl,?_⟩⟩
   exact q
noncomputable abbrev gM:Stmt:=top 56
noncomputable def cw (k:Str) (d:Int) (b:aE):Bool:=decide (b.1=k) && (decide (b.2.1<=d) && decide (d<=b.2.2.1))
noncomputable def oU (bs:List aE) (k:Str) (d:Int) (H:Hp) (Q:VK):Prop:=match bs.find? (cw k d) with
 | some b=>∀(p:Addr) (H':Hp),aA H H'->H' p=some (.tup [b.2.2.2.1,b.2.2.2.2])->fH b->Q (.ref p) H'
 | none=>Q .non H
noncomputable def iw:Sp:=λvs H Q _=>∃(a:Addr) (bs:List aE) (k:Str) (d:Int),vs=[.ref a,.str k,.int d]/\cx H a bs/\oU bs k d H Q
theorem sH {bs:List aE}{f:aE->Bool}{i:Nat}{b:aE} (h:(bs.take i).find? f=none) (e:bs[i]?=some b) (hf:f b=true):bs.find? f=some b:=by
 have es:bs=bs.take i++bs.drop i:=(List.take_append_drop i bs).symm
 have ed:bs.drop i=b::bs.drop (i+1):=by
  obtain⟨hi,hb⟩:=List.getElem?_eq_some_iff.mp e
  rw [List.drop_eq_getElem_cons hi,hb]
 rw [es,List.find?_append,h,ed,List.find?_cons,hf];rfl
theorem sI {bs:List aE}{f:aE->Bool}{i:Nat}{b:aE} (h:(bs.take i).find? f=none) (e:bs[i]?=some b) (hf:f b=false):(bs.take (i+1)).find? f=none:=by
 rw [List.take_add_one,e,List.find?_append,h]
 show ([b]).find? f=none
 rw [List.find?_cons,hf];rfl
theorem on:FnScope ["_law_boxes", "_law_key", "_law_day", "_law_box"] ["_law_boxes", "_law_key", "_law_day"] (ah gM):=⟨rfl,rfl,rfl,by decide +kernel,rfl,by decide +kernel,by decide +kernel⟩
theorem rS {f:Addr}{fd:FuncData} (F:Fun K "_law_pair_on" "_law_pair_on" gM f fd)  : FnOk P w K mg base CX0 1 f fd ["_law_boxes", "_law_key", "_law_day"] iw:=by
 refine F.ok (k:=0) on (λvs H Q E h=>?_) (λcdv A outer s H vs Q E hr h=>?_)
 ·obtain⟨a,bs,k,d,rfl,_⟩:=h
  rfl
 ·obtain⟨a,bs,k,d,rfl,⟨ps,ha,hp⟩,q⟩:=h
  have hu:=bu hr
  refine⟨_,(aj (bU PassesOwn.never rfl (bD (pv 0)) (ay (i:=3) on.nd rfl (Or.inl rfl))
   (al (bp (PW.pt (eO (aQ dF (aM aY (pv 3) ai (λ_ _=>rfl)) (pv 1) (aN _)) (dG (kN eK eK (aM aY (pv 3) ai (λ_ _=>rfl)) (pv 2) (aM aY (pv 3) ai (λ_ _=>rfl)))))) (al (aB (bV hW (pv 3) (bY ai) cT))) aG)))
   (al (aB gp))),?_⟩
  have hlp:=cF hp
  refine aP ?_
  refine⟨_,rfl,a,rfl,⟨_,SqL.of ha⟩,bF (K:=K) (a:=a) (xs:=ps.map V.ref) (λi σ H2=>∃(v3:Option V),σ=[some (.ref a),some (.str k),some (.int d),v3]/\H2=H/\(bs.take i).find? (cw k d)=none)
   ⟨none,rfl,rfl,(by rw [List.take_zero];rfl)⟩ (λi σ H2 _ hh=>?_) ?_ ?_⟩
  ·obtain⟨_,_,rfl,_⟩:=hh
   exact SqL.of ha
  ·rintro i y σ H2 hi ⟨v3,rfl,rfl,hn⟩
   rw [List.getElem?_map]at hi
   cases ep:ps[i]? with
   | none=>rw [ep]at hi;cases hi
   | some x=>
    rw [ep]at hi
    cases hi
    obtain⟨b,eb,hx,mb⟩:=dA hp ep
    have no:cw k d b=false->∃(v3:Option V),[some (V.ref a),some (.str k),some (.int d),some (.ref x)]=[some (.ref a),some (.str k),some (.int d),v3]/\H2=H2/\(bs.take (i+1)).find? (cw k d)=none:=λz=>⟨_,rfl,rfl,sI hn eb z⟩
    dsimp only [aO]
    refine dq ?_
    refine⟨_,rfl,x,_,0,V.str b.1,rfl,rfl,SqT.of hx,rfl,_,rfl,rfl,_,rfl,?_⟩
    by_cases c1:b.1=k
    ·rw [decide_eq_true (show V.str b.1=V.str k by rw [c1])]
     refine cg ⟨_,rfl,x,_,1,V.int b.2.1,rfl,rfl,SqT.of hx,rfl,_,rfl,_,_,rfl,rfl,_,rfl,?_⟩
     by_cases c2:b.2.1<=d
     ·rw [decide_eq_true c2]
      refine cg ⟨_,rfl,x,_,2,V.int b.2.2.1,rfl,rfl,SqT.of hx,rfl,_,_,rfl,rfl,_,rfl,?_⟩
      by_cases c3:d<=b.2.2.1
      ·rw [decide_eq_true c3]
       have ht:cw k d b=true:=by unfold cw;rw [decide_eq_true c1,decide_eq_true c2,decide_eq_true c3];rfl
       unfold oU at q
       rw [sH hn eb ht]at q
       refine cg (bT ⟨_,rfl,3,rfl,x,_,rfl,SqT.of hx,(by show ¬(HT.sIx 5 0 (some 3)=0/\HT.sIx 5 5 none=5);decide),λp1 n1=>?_⟩)
       exact q p1 _ (aA.new n1) ad mb
      ·rw [decide_eq_false c3]
       exact br (bz (no (by unfold cw;rw [decide_eq_false c3];simp)))
     ·rw [decide_eq_false c2]
      exact br ⟨_,rfl,br (bz (no (by unfold cw;rw [decide_eq_false c2];simp)))⟩
    ·rw [decide_eq_false (λz=>c1 (V.str.inj z))]
     exact br (br (bz (no (by unfold cw;rw [decide_eq_false c1];simp))))
  ·rintro σ H2 ⟨v3,rfl,rfl,hn⟩
   dsimp only
   rw [List.length_map,hlp,List.take_length]at hn
   unfold oU at q
   rw [hn]at q
   exact bT q
noncomputable abbrev mi:Stmt:=top 57
noncomputable def iR (bs:List aE) (k:Str) (d:Int) (a b:V):Prop:=match bs.find? (cw k d) with
 | some c=>c.2.2.2=(a,b)/\a≠b
 | none=>a=b
noncomputable def kG (C:Addr):Sp:=λvs H Q _=>∃(p:Addr) (a:BA) (F:Addr->Prop) (B:Bk) (x y ta:Addr) (bs ws:List aE) (k:Str) (d:Int) (t u:Nat),vs=[.ref p,.ref x,.ref y,.str k,.int d,.ref ta]/\BkAt C H p a F B/\cx H x bs/\cx H y ws/\H ta=some (.tup [.int (t:Int),.int (u:Int)])/\k∈B.ks/\0<=d/\d < 400/\t<=B.ds.length/\u<=B.ds.length/\
 iR bs k d (((B.spk k t d).map V.int).getD .non) (((B.spk k u d).map V.int).getD .non)/\iR ws k d (valB B k t d) (valB B k u d)/\∀H',aA H H'->Q (.bl true) H'
theorem cr {D:Ends}{σ:St}{H:Hp}{t u:TS} (h:∀N:St->Hp->Prop,(∀σ' H',u D σ' H'->N σ' H')->t { D with nx:=N } σ H):xh t u D σ H:=h (u D) λ_ _ x=>x
theorem uJ {C p:Addr}{a:BA}{F:Addr->Prop}{B:Bk}{k:Str}{d:Int}{t:Nat}{H:Hp}{Q:VK}{E:XK} (h:BkT C H p a F B) (hk:k∈B.ks) (d0:0<=d) (d1:d < 400) (ht:t<=B.ds.length) (q:Q (((B.spk k t d).map V.int).getD .non) H):dP C [.ref p,.str k,.int d,.int (t:Int)] H Q E:=⟨p,a,F,B,k,d,_,t,rfl,h,hk,d0,d1,ht,.inr rfl,q⟩
theorem uI {C p:Addr}{a:BA}{F:Addr->Prop}{B:Bk}{k:Str}{d:Int}{t:Nat}{H:Hp}{Q:VK}{E:XK} (h:BkAt C H p a F B) (hk:k∈B.ks) (d0:0<=d) (d1:d < 400) (ht:t<=B.ds.length) (q:Q (valB B k t d) H):gH C [.ref p,.str k,.int d,.int (t:Int)] H Q E:=⟨p,a,F,B,k,d,_,t,rfl,h,hk,d0,d1,ht,.inr rfl,q⟩
theorem gF {H:Hp}{p:Addr}{a b:V} (e:H p=some (.tup [a,b])) (ha:aV a) (hb:aV b):DatV H (.ref p) (.tuple [dz a,dz b]):=.tup e (.cons (bO ha) (.cons (bO hb) .nil))
theorem iU {a b:V} (ha:aV a) (hb:aV b):PySem.W.kqdOk 9 (.tuple [dz a,dz b])=true:=by
 show ([dz a,dz b].all (PySem.W.kqdOk 8))=true
 rw [List.all_cons,List.all_cons,gW 8 ha,gW 8 hb];rfl
theorem pq:FnScope ["_law_book", "_law_boxes", "_law_values", "_law_key", "_law_day", "_law_turns", "_law_pair", "_law_told"] ["_law_book", "_law_boxes", "_law_values", "_law_key", "_law_day", "_law_turns"] (ah mi):=⟨rfl,rfl,rfl,by decide +kernel,rfl,by decide +kernel,by decide +kernel⟩
theorem wo {f f1 f2 f3 C:Addr}{fd:FuncData} (F:Fun K "_law_day_right" "_law_day_right" mi f fd) (N:Free mg){fd1:FuncData} (CO:Cal P w K mg base "_law_pair_on" 1 ["_law_boxes", "_law_key", "_law_day"] iw f1 fd1){fd2:FuncData} (S3:MC P w K mg base C "speaks" 3 ["self", "key", "day", "turn"] [] [] (dP C) f2 fd2){fd3:FuncData} (V3:MC P w K mg base C "value" 4 ["self", "key", "day", "turn"] [] [] (gH C) f3 fd3):FnOk P w K mg base CX0 5 f fd ["_law_book", "_law_boxes", "_law_values", "_law_key", "_law_day", "_law_turns"] (kG C):=by
 refine F.ok (k:=4) pq (λvs H Q E h=>?_) (λcdv A outer s H vs Q E hr h=>?_)
 ·obtain⟨p,a,F,B,x,y,ta,bs,ws,k,d,t,u,rfl,_⟩:=h
  rfl
 ·obtain⟨p,a,F,B,x,y,ta,bs,ws,k,d,t,u,rfl,h,hx,hy,hta,hk,d0,d1,ht,hu',h1,h2,q⟩:=h
  have hu:=bu hr
  refine⟨_,(aj (aI (i:=6) pq.nd rfl (Or.inl rfl) (bC (aa (bi (pv 0) S3.cl S3.mt S3.ok (hr.mono (by decide)) S3.bd S3.dv ao (aa (pv 3) (aa (pv 4) (aa (aM aY (pv 5) ai (λ_ _=>rfl)) ae)))) (aa (bi (pv 0) S3.cl S3.mt S3.ok (hr.mono (by decide)) S3.bd S3.dv ao (aa (pv 3) (aa (pv 4) (aa (aM aY (pv 5) ai (λ_ _=>rfl)) ae)))) ae))))
   (aj (aI (i:=7) pq.nd rfl (Or.inl rfl) (bC (aa (bi (pv 0) V3.cl V3.mt V3.ok (hr.mono (by decide)) V3.bd V3.dv ao (aa (pv 3) (aa (pv 4) (aa (aM aY (pv 5) ai (λ_ _=>rfl)) ae)))) (aa (bi (pv 0) V3.cl V3.mt V3.ok (hr.mono (by decide)) V3.bd V3.dv ao (aa (pv 3) (aa (pv 4) (aa (aM aY (pv 5) ai (λ_ _=>rfl)) ae)))) ae))))
   (aj (bp (aQ (iL hr.units) (am CO.ok (hr.mono (by decide)) rfl CO.nm CO.kp CO.bd .nil ao (aa (pv 1) (aa (pv 3) (aa (pv 4) ae)))) (aM bA (bx (aa (pv 6) (aa gp ae))) (ce mK (by rfl) N.int PyProof.Rows.Boot.«int» (aa (cu dF (aM aY (pv 6) ai (λ_ _=>rfl)) (aM aY (pv 6) ai (λ_ _=>rfl)) (aN _)) ae)) (λ_ _=>rfl)) (aN _)) (al (aB eJ)) aG)
   (al (aB (cu (gt hr.units) (am CO.ok (hr.mono (by decide)) rfl CO.nm CO.kp CO.bd .nil ao (aa (pv 2) (aa (pv 3) (aa (pv 4) ae)))) (aM bA (bx (aa (pv 7) (aa gp ae))) (ce mK (by rfl) N.int PyProof.Rows.Boot.«int» (aa (cu dF (aM aY (pv 7) ai (λ_ _=>rfl)) (aM aY (pv 7) ai (λ_ _=>rfl)) (aN _)) ae)) (λ_ _=>rfl)) (aN _))))))),?_⟩
  obtain⟨dx,ho⟩:=h.ob
  have bkG:∀{H2:Hp},aA H H2->BkAt C H2 p a F B:=λg=>h.keep ⟨λb o _ e=>g b o e,λb xs e=>g b _ e,λb c dx fs e=>g b _ e⟩
  have boG:∀{H2:Hp}{z:Addr}{cs:List aE},cx H z cs->aA H H2->cx H2 z cs:=λhz g=>fi hz (λxs e=>g _ _ e) λc xs e=>g _ _ e
  have mA:=oj B k t d
  have mB:=oj B k u d
  have mC:=lN B k t d
  have mD:=lN B k u d
  generalize eA:((B.spk k t d).map V.int).getD .non=sA at h1 mA
  generalize eB:((B.spk k u d).map V.int).getD .non=sB at h1 mB
  refine cr λZ1 hZ1=>(bh ⟨_,rfl,p,dx,_,rfl,ho,bK a (by decide +kernel) (by decide +kernel) (by decide +kernel) (by decide +kernel) (by decide +kernel),_,rfl,_,rfl,_,rfl,ta,_,0,V.int (t:Int),rfl,rfl,SqT.of hta,rfl,?_⟩)
  try dsimp only [cn,List.cons_append,List.nil_append,List.append_nil]
  refine uJ h.toT hk d0 d1 ht ?_
  rw [eA]
  refine⟨_,rfl,p,dx,_,rfl,ho,bK a (by decide +kernel) (by decide +kernel) (by decide +kernel) (by decide +kernel) (by decide +kernel),_,rfl,_,rfl,_,rfl,ta,_,1,V.int (u:Int),rfl,rfl,SqT.of hta,rfl,?_⟩
  try dsimp only [cn,List.cons_append,List.nil_append,List.append_nil]
  refine uJ h.toT hk d0 d1 hu' ?_
  rw [eB]
  refine⟨by show 2<=sizeLine;decide,λq1 n1=>?_⟩
  have g1:aA H (upd H q1 (.tup [sA,sB])):=aA.new n1
  have e1:upd H q1 (.tup [sA,sB]) q1=some (.tup [sA,sB]):=ad
  generalize upd H q1 (.tup [sA,sB])=H1 at g1 e1
  dsimp only [aO]
  refine hZ1 _ _ ?_
  have hta1:=g1 _ _ hta
  refine cr λZ2 hZ2=>(bh ⟨_,rfl,p,dx,_,rfl,g1 _ _ ho,bK a (by decide +kernel) (by decide +kernel) (by decide +kernel) (by decide +kernel) (by decide +kernel),_,rfl,_,rfl,_,rfl,ta,_,0,V.int (t:Int),rfl,rfl,SqT.of hta1,rfl,?_⟩)
  try dsimp only [cn,List.cons_append,List.nil_append,List.append_nil]
  refine uI (bkG g1) hk d0 d1 ht ?_
  refine⟨_,rfl,p,dx,_,rfl,g1 _ _ ho,bK a (by decide +kernel) (by decide +kernel) (by decide +kernel) (by decide +kernel) (by decide +kernel),_,rfl,_,rfl,_,rfl,ta,_,1,V.int (u:Int),rfl,rfl,SqT.of hta1,rfl,?_⟩
  try dsimp only [cn,List.cons_append,List.nil_append,List.append_nil]
  refine uI (bkG g1) hk d0 d1 hu' ?_
  generalize valB B k t d=sC at h2 mC
  generalize valB B k u d=sD at h2 mD
  refine⟨by show 2<=sizeLine;decide,λq2 n2=>?_⟩
  have g2:aA H1 (upd H1 q2 (.tup [sC,sD])):=aA.new n2
  have e2:upd H1 q2 (.tup [sC,sD]) q2=some (.tup [sC,sD]):=ad
  generalize upd H1 q2 (.tup [sC,sD])=H2 at g2 e2
  have g02:=g1.trans g2
  have e12:=g2 _ _ e1
  dsimp only [aO]
  refine hZ2 _ _ ?_
  refine cr λZ hZ=>dq ?_
  have fin:∀{H6:Hp},aA H2 H6->Z [some (.ref p),some (.ref x),some (.ref y),some (.str k),some (.int d),some (.ref ta),some (.ref q1),some (.ref q2)] H6:=λ{H6} g23=>by
   have g03:=g02.trans g23
   have e23:=g23 _ _ e2
   refine hZ _ _ ?_
   refine bT ?_
   refine⟨_,rfl,_,rfl,_,rfl,y,ws,k,d,rfl,(boG hy g03),?_⟩
   unfold oU
   unfold iR at h2
   cases e':ws.find? (cw k d) with
   | some c=>
    rw [e']at h2
    dsimp only
    intro pp H7 g7 epp mc
    have g05:=g03.trans g7
    refine⟨_,rfl,by show 2<=sizeLine;decide,λl1 nl1=>?_⟩
    have g8:aA H7 (upd H7 l1 (.lst [.ref q2,.non])):=aA.new nl1
    have e8:upd H7 l1 (.lst [.ref q2,.non]) l1=some (.lst [.ref q2,.non]):=ad
    generalize upd H7 l1 (.lst [.ref q2,.non])=H8 at g8 e8
    have ep6:=g8 _ _ (g7 _ _ e23)
    refine⟨_,rfl,q2,_,0,_,rfl,rfl,SqT.of ep6,rfl,_,rfl,q2,_,1,_,rfl,rfl,SqT.of ep6,rfl,cG mC mD,.inr ⟨_,rfl,?_⟩⟩
    rw [decide_eq_false h2.2]
    refine⟨l1,_,0,V.ref q2,rfl,rfl,SqL.of e8,rfl,?_⟩
    have epp6:=g8 _ _ epp
    rw [show c.2.2.2.1=sC from congrArg Prod.fst h2.1,show c.2.2.2.2=sD from congrArg Prod.snd h2.1]at epp6
    refine⟨_,_,gF epp6 mC mD,gF ep6 mC mD,iU mC mD,iU mC mD,true,⟨λ_=>rfl,λ_=>rfl⟩,?_⟩
    have G8:=g05.trans g8
    exact q _ G8
   | none=>
    rw [e']at h2
    dsimp only
    refine⟨_,rfl,by show 2<=sizeLine;decide,λl1 nl1=>?_⟩
    have g8:aA H6 (upd H6 l1 (.lst [.ref q2,.non])):=aA.new nl1
    have e8:upd H6 l1 (.lst [.ref q2,.non]) l1=some (.lst [.ref q2,.non]):=ad
    generalize upd H6 l1 (.lst [.ref q2,.non])=H8 at g8 e8
    have ep6:=g8 _ _ e23
    refine⟨_,rfl,q2,_,0,_,rfl,rfl,SqT.of ep6,rfl,_,rfl,q2,_,1,_,rfl,rfl,SqT.of ep6,rfl,cG mC mD,.inr ⟨_,rfl,?_⟩⟩
    rw [decide_eq_true h2]
    refine⟨l1,_,1,V.non,rfl,rfl,SqL.of e8,rfl,?_⟩
    refine⟨_,_,.non,.non,rfl,rfl,true,⟨λ_=>rfl,λ_=>rfl⟩,?_⟩
    have G8:=g03.trans g8
    exact q _ G8
  refine⟨_,rfl,_,rfl,_,rfl,x,bs,k,d,rfl,(boG hx g02),?_⟩
  unfold oU
  unfold iR at h1
  cases e:bs.find? (cw k d) with
  | some c=>
   rw [e]at h1
   dsimp only
   intro pp H5 g5 epp mc
   have g05:=g02.trans g5
   refine⟨_,rfl,by show 2<=sizeLine;decide,λl1 nl1=>?_⟩
   have g6:aA H5 (upd H5 l1 (.lst [.ref q1,.non])):=aA.new nl1
   have e6:upd H5 l1 (.lst [.ref q1,.non]) l1=some (.lst [.ref q1,.non]):=ad
   generalize upd H5 l1 (.lst [.ref q1,.non])=H6 at g6 e6
   have ep6:=g6 _ _ (g5 _ _ e12)
   refine⟨_,rfl,q1,_,0,_,rfl,rfl,SqT.of ep6,rfl,_,rfl,q1,_,1,_,rfl,rfl,SqT.of ep6,rfl,cG mA mB,.inr ⟨_,rfl,?_⟩⟩
   rw [decide_eq_false h1.2]
   refine⟨l1,_,0,V.ref q1,rfl,rfl,SqL.of e6,rfl,?_⟩
   have epp6:=g6 _ _ epp
   rw [show c.2.2.2.1=sA from congrArg Prod.fst h1.1,show c.2.2.2.2=sB from congrArg Prod.snd h1.1]at epp6
   refine⟨_,_,gF epp6 mA mB,gF ep6 mA mB,iU mA mB,iU mA mB,true,⟨λ_=>rfl,λ_=>rfl⟩,?_⟩
   have G6:=g05.trans g6
   exact⟨_,rfl,br (bz (fin (g5.trans g6)))⟩
  | none=>
   rw [e]at h1
   dsimp only
   refine⟨_,rfl,by show 2<=sizeLine;decide,λl1 nl1=>?_⟩
   have g6:aA H2 (upd H2 l1 (.lst [.ref q1,.non])):=aA.new nl1
   have e6:upd H2 l1 (.lst [.ref q1,.non]) l1=some (.lst [.ref q1,.non]):=ad
   generalize upd H2 l1 (.lst [.ref q1,.non])=H6 at g6 e6
   have ep6:=g6 _ _ e12
   refine⟨_,rfl,q1,_,0,_,rfl,rfl,SqT.of ep6,rfl,_,rfl,q1,_,1,_,rfl,rfl,SqT.of ep6,rfl,cG mA mB,.inr ⟨_,rfl,?_⟩⟩
   rw [decide_eq_true h1]
   refine⟨l1,_,1,V.non,rfl,rfl,SqL.of e6,rfl,?_⟩
   refine⟨_,_,.non,.non,rfl,rfl,true,⟨λ_=>rfl,λ_=>rfl⟩,?_⟩
   have G6:=g02.trans g6
   exact⟨_,rfl,br (bz (fin g6))⟩
noncomputable abbrev lV:Stmt:=top 26
theorem jm:∀(n:Nat) (xs:List Int),xs.Nodup->(∀x∈xs,0<=x/\x < n)->xs.length<=n
 | 0,[],_,_=>Nat.le_refl _
 | 0,x::xs,_,h=>by have:=h x List.mem_cons_self;omega
 | n+1,xs,nd,h=>by
  by_cases hm:(n:Int)∈xs
  ·have ih:=jm n (xs.erase (n:Int)) (nd.erase _) λx hx=>by
    have hx':=List.mem_of_mem_erase hx
    have:=h x hx'
    have hne:x≠(n:Int):=λz=>by
     rw [z]at hx
     exact(nd.not_mem_erase) hx
    omega
   rw [List.length_erase_of_mem hm]at ih
   have:0 < xs.length:=List.length_pos_of_mem hm
   omega
  ·have ih:=jm n xs nd λx hx=>by
    have:=h x hx
    have hne:x≠(n:Int):=λz=>hm (z ▸ hx)
    omega
   omega
theorem ln {cs:List aH} (d:Strip.Disj cs) (i:bQ cs):cs.length<=400:=by
 have nd:(cs.map (·.1)).Nodup:=by
  rw [List.Nodup,List.pairwise_map]
  refine d.1.imp_of_mem λ{r s} hr hs h=>?_
  have h1:=d.2 r hr
  have h2:=d.2 s hs
  intro z
  rcases h with h | h <;> omega
 have:=jm 400 _ nd λx hx=>by
  obtain⟨r,hr,rfl⟩:=List.mem_map.mp hx
  have:=i r hr
  exact⟨this.1,by omega⟩
 rw [List.length_map]at this
 exact this
noncomputable def oW (b:aE):Prop:=0<=b.2.1/\b.2.1<=b.2.2.1/\b.2.2.1 < 400
noncomputable def kC (T:Addr):Sp:=λvs H Q _=>∃(a b:Addr) (rs:List aH) (bs:List aE),vs=[.ref a,.ref b]/\Lm T H/\aS H a rs/\cx H b bs/\Strip.Disj rs/\bQ rs/\rs.length<=400/\(∀x∈bs,oW x)/\
 ∀(d:Addr) (acc:List aH) (H':Hp),H d=none->Gm T H H'->aS H' d acc->Strip.Tidy acc->(∀n,Strip.dayOf acc n=Strip.boxG rs bs n)->acc.length<=400->Q (.ref d) H'
theorem fS:FnScope ["strip", "boxes", "rows", "key", "first", "last", "one", "other"] ["strip", "boxes"] (ah lV):=⟨rfl,rfl,rfl,by decide +kernel,rfl,by decide +kernel,by decide +kernel⟩
theorem wa {f T f1 f2:Addr}{fd fd1 fd2:FuncData} (F:Fun K "read_with" "read_with" lV f fd) (N:Free mg)
  (CA:Cal P w K mg base "around" 3 ["rows", "first", "last"] (fQ T) f1 fd1)
  (CJ:Cal P w K mg base "joined" 3 ["rows"] (dQ T) f2 fd2):FnOk P w K mg base CX0 4 f fd ["strip", "boxes"] (kC T):=by
 refine F.ok (k:=3) fS (λvs H Q E h=>?_) (λcdv A outer s H vs Q E hr h=>?_)
 ·obtain⟨a,b,rs,bs,rfl,_⟩:=h
  rfl
 ·obtain⟨a,b,rs,bs,rfl,L,⟨ps,ha,hp⟩,⟨qs,hb,hpb⟩,dj,hin,hl8,hbo,hq⟩:=h
  refine⟨_,(aj (aI (i:=2) fS.nd rfl (Or.inl rfl) (ce cV (by rfl) N.list PyProof.Rows.Boot.«list» (aa (pv 0) ae)))
   (aj (bU PassesOwn.never rfl (bD (pv 1)) (cD rfl (aq (ay (i:=3) fS.nd rfl (Or.inl rfl)) (aq (ay (i:=4) fS.nd rfl (Or.inl rfl)) (aq (ay (i:=5) fS.nd rfl (Or.inl rfl)) (aq (ay (i:=6) fS.nd rfl (Or.inl rfl)) (aq (ay (i:=7) fS.nd rfl (Or.inl rfl)) bS)))))) (aj (aI (i:=2) fS.nd rfl (Or.inl rfl) (am CA.ok hr rfl CA.nm CA.kp CA.bd .nil ao (aa (pv 2) (aa (pv 4) (aa (pv 5) ae)))))
   (al (bp (i7 (vV (pv 7))) (al (aX (cY PySem.F.plainAttrs_list PySem.F.slot_list_append PySem.F.type_list_append bf (pv 2) (aa (bC (aa (pv 4) (aa (pv 5) (aa (pv 7) ae)))) ae)))) aG))))
   (al (aB (am CJ.ok hr rfl CJ.nm CJ.kp CJ.bd .nil ao (aa (pv 2) ae)))))),?_⟩
  have hlp:=bo hp
  have hlq:=cF hpb
  refine⟨_,rfl,a,_,rfl,.inl (SqL.of ha),λr0 nr0=>?_⟩
  have g0:Gm T H (upd H r0 (.lst (ps.map V.ref))):=Go.new L nr0
  have hp0:bM (upd H r0 (.lst (ps.map V.ref))) ps rs:=bv hp λp xs e=>g0.tup L e
  refine⟨_,rfl,b,rfl,⟨_,SqL.of (g0.lst L hb)⟩,bF (K:=K) (a:=b) (xs:=qs.map V.ref) (λi σ H2=>∃(r:Addr) (cs:List aH) (v3 v4 v5 v6 v7:Option V),σ=[some (.ref a),some (.ref b),some (.ref r),v3,v4,v5,v6,v7]/\H r=none/\Gm T H H2/\aS H2 r cs/\
    Strip.DG cs (Strip.boxG rs (bs.take i))/\bQ cs)
   ⟨r0,rs,none,none,none,none,none,rfl,nr0,g0,⟨ps,ad,hp0⟩,⟨dj,λn=>rfl⟩,hin⟩ (λi σ H2 _ hh=>?_) ?_ ?_⟩
  ·obtain⟨_,_,_,_,_,_,_,_,_,g,_⟩:=hh
   exact SqL.of (g.lst L hb)
  ·rintro i y σ H2 hi ⟨r,cs,v3,v4,v5,v6,v7,rfl,nr,g2,hrs,D,hi4⟩
   have hln:=ln D.dj hi4
   rw [List.getElem?_map]at hi
   cases ep:qs[i]? with
   | none=>rw [ep]at hi;cases hi
   | some p=>
    rw [ep]at hi
    cases hi
    obtain⟨x,ex,ht0,hmk⟩:=dA hpb ep
    have ht:=g2.tup L ht0
    have hil:i < bs.length:=(List.getElem?_eq_some_iff.mp ex).1
    obtain⟨b0,b1,b2⟩:=hbo x (List.mem_of_getElem? ex)
    have et:bs.take (i+1)=bs.take i++[x]:=by rw [List.take_add_one,ex];rfl
    refine⟨p,_,rfl,SqT.of ht,rfl,_,_,rfl,_,_,rfl,_,_,rfl,_,_,rfl,_,_,rfl,rfl,?_⟩
    refine⟨_,rfl,_,rfl,_,rfl,r,x.2.1,x.2.2.1,cs,rfl,g2.lam,hrs,D.dj,hi4,by omega,b0,b1,b2,λk ds H3 nk g3 ⟨ks,hk,hks⟩ D3 i3 l3=>?_⟩
    have nk0:H k=none:=Gm.free g2 nk
    have g03:=g2.trans g3
    refine⟨_,rfl,_,rfl,?_⟩
    by_cases hn:x.2.2.2.2=.non
    ·rw [show (!decide (x.2.2.2.2=V.non))=false from by rw [decide_eq_true hn];rfl]
     refine br ⟨k,ds,_,_,_,_,_,rfl,nk0,g03,⟨ks,hk,hks⟩,?_,i3⟩
     rw [et,Strip.boxG_snoc]
     exact Strip.box_hole hn D3 D.day
    ·rw [show (!decide (x.2.2.2.2=V.non))=true from by rw [decide_eq_false hn];rfl]
     refine cg ⟨_,rfl,.inl ⟨rfl,_,SqL.of hk⟩,_,rfl,_,rfl,_,rfl,by show 3<=sizeLine;decide,λp1 np1=>?_⟩
     obtain⟨z1,z2,z3⟩:=ji (r:=(x.2.1,x.2.2.1,x.2.2.2.2)) nk0 g03 hk hks np1 hmk.2.2
     refine⟨k,_,_,rfl,rfl,by rw [ag (af hk np1)];exact hk,?_,?_⟩
     ·rw [List.length_map,bo hks]
      exact Nat.lt_of_lt_of_le (show ds.length < 900 by have:=ln D3.dj i3;omega) (by decide)
     refine⟨k,_,_,_,_,_,_,rfl,nk0,z1,z2,?_,i3.snoc b0 b1 b2⟩
     rw [et,Strip.boxG_snoc]
     exact Strip.box_put hn b1 D3 D.day
  ·rintro σ H2 ⟨r,cs,v3,v4,v5,v6,v7,rfl,nr,g2,hrs,D,hi4⟩
   have hln:=ln D.dj hi4
   have e:(qs.map V.ref).length=bs.length:=by rw [List.length_map];exact hlq
   rw [e]at D
   rw [List.take_length]at D
   refine⟨_,rfl,r,cs,rfl,g2.lam,hrs,D.dj,by unfold most;omega,λd ss acc H3 nd g3 hacc pss J=>?_⟩
   refine hq d acc H3 (Gm.free g2 nd) (g2.trans g3) hacc J.tidy (λn=>?_) (by have:=J.len;have:=pss.length_eq;omega)
   rw [fB J pss D.dj,D.day]
theorem ip {B:Bk}{t u:Nat}{ks:List Str}{bs:List aE} (h:Boxes B t u ks bs):∀c∈bs,c.1∈ks:=by
 induction h with
 | nil=>exact λ_ h=>nomatch h
 | @snoc ks k bs acc _ _ ih=>
  intro c hc
  rcases List.mem_append.mp hc with hc | hc
  ·exact List.mem_append_left _ (ih c hc)
  ·obtain⟨r,_,rfl⟩:=List.mem_map.mp hc
   exact List.mem_append_right _ (List.mem_singleton.mpr rfl)
theorem jt {B:Bk}{t u:Nat}{ks:List Str}{bs:List aE} (h:Boxes B t u ks bs) (nd:ks.Nodup):∀k∈ks,∃acc,Strip.Full acc 0 399 (fG B k t u)/\bs.filter (λc=>decide (c.1=k))=(acc.filter neW).map (iq k):=by
 induction h with
 | nil=>exact λ_ h=>nomatch h
 | @snoc ks k' bs acc hB FU ih=>
  intro k hk
  have nd':=List.nodup_append.mp nd
  have hb:=ip hB
  rw [List.filter_append]
  by_cases z:k=k'
  ·refine⟨acc,by rw [z];exact FU,?_⟩
   have e1:bs.filter (λc=>decide (c.1=k))=[]:=List.filter_eq_nil_iff.mpr λc hc hd=>by
    have:=of_decide_eq_true hd
    exact nd'.2.2 c.1 (hb c hc) k' (List.mem_singleton.mpr rfl) (this.trans z)
   have e2:((acc.filter neW).map (iq k')).filter (λc=>decide (c.1=k))=(acc.filter neW).map (iq k'):=List.filter_eq_self.mpr λc hc=>by
    obtain⟨r,_,rfl⟩:=List.mem_map.mp hc
    exact decide_eq_true z.symm
   rw [e1,e2,z];rfl
  ·have hk2:k∈ks:=by
    rcases List.mem_append.mp hk with hk | hk
    ·exact hk
    ·exact absurd (List.mem_singleton.mp hk) z
   obtain⟨acc',F',e'⟩:=ih nd'.1 k hk2
   refine⟨acc',F',?_⟩
   have e2:((acc.filter neW).map (iq k')).filter (λc=>decide (c.1=k))=[]:=List.filter_eq_nil_iff.mpr λc hc hd=>by
    obtain⟨r,_,rfl⟩:=List.mem_map.mp hc
    exact z (of_decide_eq_true hd).symm
   rw [e',e2,List.append_nil]
theorem sV {B:Bk}{t u:Nat}{ks:List Str}{bs:List aE} (h:Boxes B t u ks bs) (nd:ks.Nodup){k:Str}{d:Int} (hk:k∈ks) (d0:0<=d) (d1:d < 400) :
  iR bs k d (((B.spk k t d).map V.int).getD .non) (((B.spk k u d).map V.int).getD .non):=by
 obtain⟨acc,FU,e⟩:=jt h nd k hk
 have mem:∀c∈bs,c.1=k->∃r∈acc,neW r=true/\c=iq k r:=λc hc ec=>by
  have:c∈bs.filter (λc=>decide (c.1=k)):=List.mem_filter.mpr ⟨hc,decide_eq_true ec⟩
  rw [e]at this
  obtain⟨r,hr,rfl⟩:=List.mem_map.mp this
  exact⟨r,(List.mem_filter.mp hr).1,(List.mem_filter.mp hr).2,rfl⟩
 unfold iR
 cases ef:bs.find? (cw k d) with
 | some c=>
  have hc:=List.find?_some ef
  unfold cw at hc
  simp only [Bool.and_eq_true,decide_eq_true_eq]at hc
  obtain⟨r,hr,hn,rfl⟩:=mem c (List.mem_of_find?_eq_some ef) hc.1
  have hg:=(FU.row hr).2.2 d ⟨hc.2.1,hc.2.2⟩
  have hg':fG B k t u d=r.2.2:=hg
  refine⟨?_,?_⟩
  ·show r.2.2=_
   rw [<- hg'];rfl
  ·intro z
   unfold neW at hn
   have e1:r.2.2.1=r.2.2.2:=by rw [<- hg'];exact z
   rw [decide_eq_true e1]at hn
   cases hn
 | none=>
  have hno:=List.find?_eq_none.mp ef
  have hd:Strip.dayOf acc d=some (fG B k t u d):=by rw [FU.day,if_pos ⟨d0,by omega⟩]
  obtain⟨r,hr,hh,er⟩:=Strip.dayOf_some hd
  cases hn:neW r with
  | false=>
   unfold neW at hn
   have e1:r.2.2.1=r.2.2.2:=by
    by_cases z:r.2.2.1=r.2.2.2
    ·exact z
    ·rw [decide_eq_false z]at hn;cases hn
   rw [er]at e1
   exact e1
  | true=>
   exfalso
   have hm:iq k r∈bs.filter (λc=>decide (c.1=k)):=by
    rw [e]
    exact List.mem_map.mpr ⟨r,List.mem_filter.mpr ⟨hr,hn⟩,rfl⟩
   refine hno _ (List.mem_filter.mp hm).1 ?_
   unfold cw
   rw [decide_eq_true (show (iq k r).1=k from rfl),decide_eq_true (show (iq k r).2.1<=d from hh.1),decide_eq_true (show d<=(iq k r).2.2.1 from hh.2)];rfl
noncomputable def swB (b:aE):aE:=(b.1,b.2.1,b.2.2.1,b.2.2.2.2,b.2.2.2.1)
noncomputable def swR (r:eC):eC:=(r.1,r.2.1,(r.2.2.2,r.2.2.1))
theorem lz {B:Bk}{t u:Nat}{ks:List Str}{bs:List aE} (h:Boxes B t u ks bs):∀{cs:List aE},Boxes B t u ks cs->bs=cs:=by
 induction h with
 | nil=>
  intro cs h
  generalize e:([]:List Str)=ks at h
  cases h with
  | nil=>rfl
  | snoc _ _=>exact absurd e.symm (List.append_ne_nil_of_right_ne_nil _ (by intro z;cases z))
 | @snoc ks k bs acc hB FU ih=>
  intro cs h
  generalize e:ks++[k]=ks2 at h
  cases h with
  | nil=>exact absurd e (List.append_ne_nil_of_right_ne_nil _ (by intro z;cases z))
  | @snoc ks' k' bs' acc' hB' FU'=>
   obtain⟨e1,e2⟩:=List.append_inj' e rfl
   cases e2
   cases e1
   rw [ih hB',FU.unique FU' λ_ _ _=>rfl]
theorem sE {B:Bk}{k:Str}{t u:Nat}{acc:List eC} (F:Strip.Full acc 0 399 (fG B k t u)):Strip.Full (acc.map swR) 0 399 (fG B k u t):=
 F.map (λp:V × V=>(p.2,p.1)) λx y e=>by
  obtain⟨x1,x2⟩:=x
  obtain⟨y1,y2⟩:=y
  cases e
  rfl
theorem wv (acc:List eC) (k:Str):((acc.map swR).filter neW).map (iq k)=((acc.filter neW).map (iq k)).map swB:=by
 induction acc with
 | nil=>rfl
 | cons r t ih=>
  have e:neW (swR r)=neW r:=by
   unfold neW swR
   by_cases h:r.2.2.1=r.2.2.2
   ·rw [decide_eq_true h,decide_eq_true (show r.2.2.2=r.2.2.1 from h.symm)]
   ·rw [decide_eq_false h,decide_eq_false (show ¬r.2.2.2=r.2.2.1 from λz=>h z.symm)]
  rw [List.map_cons,List.filter_cons,List.filter_cons,e]
  cases neW r with
  | true=>rw [if_pos rfl,if_pos rfl,List.map_cons,List.map_cons,List.map_cons,ih];rfl
  | false=>rw [if_neg (by decide),if_neg (by decide),ih]
theorem fD {B:Bk}{t u:Nat}{ks:List Str}{bs:List aE} (h:Boxes B t u ks bs):Boxes B u t ks (bs.map swB):=by
 induction h with
 | nil=>exact .nil
 | @snoc ks k bs acc hB FU ih=>
  rw [List.map_append,<- wv]
  exact .snoc ih (sE FU)
theorem qH {l b:aE}:OnB (swB l) (swB b)↔OnB l b:=by
 unfold OnB swB
 obtain⟨a1,a2,a3,a4,a5⟩:=l
 obtain⟨b1,b2,b3,b4,b5⟩:=b
 dsimp only
 constructor
 ·rintro⟨h1,h2,h3⟩
  cases h3
  exact⟨h1,h2,rfl⟩
 ·rintro⟨h1,h2,h3⟩
  cases h3
  exact⟨h1,h2,rfl⟩
theorem u8 (bs:List aE) (b:aE):jE (bs.map swB) (swB b)=(jE bs b).map swB:=by
 rcases List.eq_nil_or_concat bs with e | ⟨i,l,e⟩
 ·rw [e];rfl
 ·rw [List.concat_eq_append]at e
  rw [e,List.map_append,show List.map swB [l]=[swB l] from rfl]
  by_cases h:OnB l b
  ·rw [iH h,iH (qH.mpr h),List.map_append];rfl
  ·rw [gn h,gn λz=>h (qH.mp z),List.map_append,List.map_append];rfl
theorem iE {α:Type}{p:List α->Prop} (h0:p []) (h1:∀xs x,p xs->p (xs++[x])) (xs:List α):p xs:=by
 have:∀n (xs:List α),xs.length=n->p xs:=by
  intro n
  induction n with
  | zero=>intro xs e;rw [List.eq_nil_of_length_eq_zero e];exact h0
  | succ n ih=>
   intro xs e
   rcases List.eq_nil_or_concat xs with z | ⟨i,l,z⟩
   ·rw [z]at e;cases e
   ·rw [List.concat_eq_append]at z
    rw [z]at e ⊢
    rw [List.length_append]at e
    exact h1 i l (ih i (by simpa using e))
 exact this _ xs rfl
theorem qX (B:Bk) (bs:List aE):valsB B (bs.map swB)=(valsB B bs).map swB:=by
 refine iE (p:=λbs=>valsB B (bs.map swB)=(valsB B bs).map swB) rfl (λbs b ih=>?_) bs
 rw [List.map_append,show List.map swB [b]=[swB b] from rfl,dM,dM,ih]
 by_cases h:cb B b.2.2.2.1=cb B b.2.2.2.2
 ·rw [if_pos h,if_pos (show cb B (swB b).2.2.2.1=cb B (swB b).2.2.2.2 from h.symm)]
 ·rw [if_neg h,if_neg (show ¬cb B (swB b).2.2.2.1=cb B (swB b).2.2.2.2 from λz=>h z.symm),show cR B (swB b)=swB (cR B b) from rfl,u8]
noncomputable def ApB (l b:aE):Prop:=l.1=b.1->l.2.2.1 < b.2.1
structure ApL (bs:List aE):Prop where
 lt:bs.Pairwise ApB
 no:∀(i:Nat) (l b:aE),bs[i]?=some l->bs[i+1]?=some b->¬OnB l b
theorem r9 {M:Type} [DecidableEq M] {rs:List (Strip.Row M)} (T:Strip.Tidy rs):rs.Pairwise λr s=>Strip.Lt r s/\¬Strip.Beside r s:=by
 rw [List.pairwise_iff_getElem]
 intro i j hi hj hij
 refine⟨List.pairwise_iff_getElem.mp T.up.lt i j hi hj hij,λhb=>?_⟩
 by_cases h:j=i+1
 ·subst h
  exact T.no i _ _ (List.getElem?_eq_getElem hi) (List.getElem?_eq_getElem hj) hb
 ·have h1:=List.pairwise_iff_getElem.mp T.up.lt i (i+1) hi (by omega) (by omega)
  have h2:=List.pairwise_iff_getElem.mp T.up.lt (i+1) j (by omega) hj (by omega)
  have h3:=T.up.le rs[i+1] (List.getElem_mem _)
  have h4:=hb.1
  unfold Strip.Lt at h1 h2
  omega
theorem gx {B:Bk}{t u:Nat}{ks:List Str}{bs:List aE} (h:Boxes B t u ks bs) (nd:ks.Nodup):bs.Pairwise λl b=>ApB l b/\¬OnB l b:=by
 induction h with
 | nil=>exact .nil
 | @snoc ks k bs acc hB FU ih=>
  have nd':=List.nodup_append.mp nd
  refine List.pairwise_append.mpr ⟨ih nd'.1,?_,λl hl b hb=>?_⟩
  ·rw [List.pairwise_map]
   refine((r9 FU.tidy).filter _).imp λ{r s} h=>⟨λ_=>h.1,λhb=>h.2 ⟨hb.2.1,hb.2.2⟩⟩
  ·obtain⟨r,_,rfl⟩:=List.mem_map.mp hb
   have hne:l.1≠k:=λz=>nd'.2.2 l.1 (ip hB l hl) k (List.mem_singleton.mpr rfl) z
   exact⟨λz=>absurd z hne,λz=>hne z.1⟩
theorem yS {bs:List aE} (h:bs.Pairwise λl b=>ApB l b/\¬OnB l b):ApL bs:=by
 refine⟨h.imp λx=>x.1,λi l b e1 e2=>?_⟩
 obtain⟨h1,f1⟩:=List.getElem?_eq_some_iff.mp e1
 obtain⟨h2,f2⟩:=List.getElem?_eq_some_iff.mp e2
 have:=List.pairwise_iff_getElem.mp h i (i+1) h1 h2 (by omega)
 rw [f1,f2]at this
 exact this.2
structure VInv (B:Bk) (bs ws:List aE):Prop where
 ap:ApL ws
 le:∀c∈ws,c.2.1<=c.2.2.1
 nd:∀c∈ws,∃b∈bs,c.1=b.1/\c.2.2.1=b.2.2.1
 one:∀c∈ws,∀k d,cw k d c=true->∃b∈bs,cw k d b=true/\cb B b.2.2.2.1≠cb B b.2.2.2.2/\c.2.2.2=(cb B b.2.2.2.1,cb B b.2.2.2.2)
 all:∀b∈bs,cb B b.2.2.2.1≠cb B b.2.2.2.2->∀k d,cw k d b=true->∃c∈ws,cw k d c=true
theorem cU {k:Str}{d:Int}{b:aE}:cw k d b=true↔b.1=k/\b.2.1<=d/\d<=b.2.2.1:=by
 unfold cw
 simp only [Bool.and_eq_true,decide_eq_true_eq]
theorem o6 (B:Bk) (bs:List aE) (ok:∀b∈bs,b.2.1<=b.2.2.1) (ap:bs.Pairwise ApB):VInv B bs (valsB B bs):=by
 revert ok ap
 refine iE (p:=λbs=>(∀b∈bs,b.2.1<=b.2.2.1)->bs.Pairwise ApB->VInv B bs (valsB B bs)) ?_ (λbs b ih=>?_) bs
 ·intro _ _
  exact⟨⟨.nil,λi l b e _=>by simp [valsB]at e⟩,(λ_ h=>nomatch h),(λ_ h=>nomatch h),(λ_ h=>nomatch h),λ_ h=>nomatch h⟩
 intro ok ap
 have ap':=List.pairwise_append.mp ap
 have I:=ih (λc hc=>ok c (List.mem_append_left _ hc)) ap'.1
 have hb:=ok b (List.mem_append_right _ (List.mem_singleton.mpr rfl))
 have hlt:∀c∈valsB B bs,ApB c b:=λc hc e=>by
  obtain⟨b',hb',e1,e2⟩:=I.nd c hc
  rw [e2]
  exact ap'.2.2 b' hb' b (List.mem_singleton.mpr rfl) (e1.symm.trans e)
 rw [dM]
 by_cases hv:cb B b.2.2.2.1=cb B b.2.2.2.2
 ·rw [if_pos hv]
  refine⟨I.ap,I.le,λc hc=>?_,λc hc k d h=>?_,λb' hb' hn k d h=>?_⟩
  ·obtain⟨b',h1,h2⟩:=I.nd c hc
   exact⟨b',List.mem_append_left _ h1,h2⟩
  ·obtain⟨b',h1,h2⟩:=I.one c hc k d h
   exact⟨b',List.mem_append_left _ h1,h2⟩
  ·rcases List.mem_append.mp hb' with hb' | hb'
   ·exact I.all b' hb' hn k d h
   ·rw [List.mem_singleton.mp hb']at hn
    exact absurd hv hn
 ·rw [if_neg hv]
  generalize valsB B bs=ws at I hlt
  have hbm:b∈bs++[b]:=List.mem_append_right _ (List.mem_singleton.mpr rfl)
  have old:∀c∈ws,∃b'∈bs++[b],c.1=b'.1/\c.2.2.1=b'.2.2.1:=λc hc=>by
   obtain⟨b',h1,h2⟩:=I.nd c hc
   exact⟨b',List.mem_append_left _ h1,h2⟩
  have old1:∀c∈ws,∀k d,cw k d c=true->∃b'∈bs++[b],cw k d b'=true/\cb B b'.2.2.2.1≠cb B b'.2.2.2.2/\c.2.2.2=(cb B b'.2.2.2.1,cb B b'.2.2.2.2):=λc hc k d h=>by
   obtain⟨b',h1,h2⟩:=I.one c hc k d h
   exact⟨b',List.mem_append_left _ h1,h2⟩
  have new1:∀k d,cw k d (cR B b)=true->∃b'∈bs++[b],cw k d b'=true/\cb B b'.2.2.2.1≠cb B b'.2.2.2.2/\(cR B b).2.2.2=(cb B b'.2.2.2.1,cb B b'.2.2.2.2):=λk d h=>⟨b,hbm,h,hv,rfl⟩
  have app:(∀l,ws.getLast?=some l->¬OnB l (cR B b))->VInv B (bs++[b]) (ws++[cR B b]):=λhl=>by
   refine⟨⟨List.pairwise_append.mpr ⟨I.ap.lt,List.pairwise_singleton _ _,λc hc x hx=>?_⟩,λi l x e1 e2=>?_⟩,λc hc=>?_,λc hc=>?_,λc hc k d h=>?_,λb' hb' hn k d h=>?_⟩
   ·rw [List.mem_singleton.mp hx];exact hlt c hc
   ·rw [Strip.get_snoc]at e1 e2
    by_cases h1:i+1 < ws.length
    ·rw [if_pos h1]at e2
     rw [if_pos (by omega)]at e1
     exact I.ap.no i l x e1 e2
    ·rw [if_neg h1]at e2
     by_cases h2:i+1=ws.length
     ·rw [if_pos h2]at e2
      rw [if_pos (by omega)]at e1
      cases e2
      refine hl l ?_
      rw [List.getLast?_eq_getElem?,<- h2]
      exact e1
     ·rw [if_neg h2]at e2;cases e2
   ·rcases List.mem_append.mp hc with hc | hc
    ·exact I.le c hc
    ·rw [List.mem_singleton.mp hc];exact hb
   ·rcases List.mem_append.mp hc with hc | hc
    ·exact old c hc
    ·rw [List.mem_singleton.mp hc];exact⟨b,hbm,rfl,rfl⟩
   ·rcases List.mem_append.mp hc with hc | hc
    ·exact old1 c hc k d h
    ·rw [List.mem_singleton.mp hc]at h ⊢;exact new1 k d h
   ·rcases List.mem_append.mp hb' with hb' | hb'
    ·obtain⟨c,h1,h2⟩:=I.all b' hb' hn k d h
     exact⟨c,List.mem_append_left _ h1,h2⟩
    ·rw [List.mem_singleton.mp hb']at h
     exact⟨cR B b,List.mem_append_right _ (List.mem_singleton.mpr rfl),h⟩
  rcases List.eq_nil_or_concat ws with e | ⟨i,l,e⟩
  ·rw [e]at app ⊢
   exact app λl h=>by cases h
  ·rw [List.concat_eq_append]at e
   by_cases ho:OnB l (cR B b)
   ·rw [e,iH ho]
    subst e
    obtain⟨o1,o2,o3⟩:=ho
    have o2':l.2.2.1+1=b.2.1:=o2
    have lm:l∈i++[l]:=List.mem_append_right _ (List.mem_singleton.mpr rfl)
    have ll:=I.le l lm
    have lp:=List.pairwise_append.mp I.ap.lt
    refine⟨⟨List.pairwise_append.mpr ⟨lp.1,List.pairwise_singleton _ _,λc hc x hx=>?_⟩,λj m x e1 e2=>?_⟩,λc hc=>?_,λc hc=>?_,λc hc k d h=>?_,λb' hb' hn k d h=>?_⟩
    ·rw [List.mem_singleton.mp hx];exact lp.2.2 c hc l (List.mem_singleton.mpr rfl)
    ·rw [Strip.get_snoc]at e1 e2
     by_cases h1:j+1 < i.length
     ·rw [if_pos h1]at e2
      rw [if_pos (by omega)]at e1
      exact I.ap.no j m x (by rw [Strip.get_snoc,if_pos (by omega)];exact e1) (by rw [Strip.get_snoc,if_pos h1];exact e2)
     ·rw [if_neg h1]at e2
      by_cases h2:j+1=i.length
      ·rw [if_pos h2]at e2
       rw [if_pos (by omega)]at e1
       cases e2
       intro hz
       exact I.ap.no j m l (by rw [Strip.get_snoc,if_pos (by omega)];exact e1) (by rw [Strip.get_snoc,if_neg h1,if_pos h2]) ⟨hz.1,hz.2.1,hz.2.2.trans o3.symm⟩
      ·rw [if_neg h2]at e2;cases e2
    ·rcases List.mem_append.mp hc with hc | hc
     ·exact I.le c (List.mem_append_left _ hc)
     ·rw [List.mem_singleton.mp hc]
      show l.2.1<=b.2.2.1
      omega
    ·rcases List.mem_append.mp hc with hc | hc
     ·exact old c (List.mem_append_left _ hc)
     ·rw [List.mem_singleton.mp hc];exact⟨b,hbm,o1,rfl⟩
    ·rcases List.mem_append.mp hc with hc | hc
     ·exact old1 c (List.mem_append_left _ hc) k d h
     ·rw [List.mem_singleton.mp hc]at h ⊢
      obtain⟨q1,q2,q3⟩:=cU.mp h
      have q2':l.2.1<=d:=q2
      have q3':d<=b.2.2.1:=q3
      by_cases hd:d<=l.2.2.1
      ·obtain⟨b',h1,h2,h3,h4⟩:=old1 l lm k d (cU.mpr ⟨q1,q2',hd⟩)
       exact⟨b',h1,h2,h3,o3.symm.trans h4⟩
      ·exact new1 k d (cU.mpr ⟨o1.symm.trans q1,by show b.2.1<=d;omega,q3'⟩)
    ·have key:∀c∈i++[l],cw k d c=true->∃c∈i++[(l.1,l.2.1,(cR B b).2.2.1,(cR B b).2.2.2)],cw k d c=true:=λc hc h=>by
      rcases List.mem_append.mp hc with hc | hc
      ·exact⟨c,List.mem_append_left _ hc,h⟩
      ·rw [List.mem_singleton.mp hc]at h
       obtain⟨q1,q2,q3⟩:=cU.mp h
       exact⟨_,List.mem_append_right _ (List.mem_singleton.mpr rfl),cU.mpr ⟨q1,q2,by show d<=b.2.2.1;omega⟩⟩
     rcases List.mem_append.mp hb' with hb' | hb'
     ·obtain⟨c,h1,h2⟩:=I.all b' hb' hn k d h
      exact key c h1 h2
     ·rw [List.mem_singleton.mp hb']at h
      obtain⟨q1,q2,q3⟩:=cU.mp h
      exact⟨_,List.mem_append_right _ (List.mem_singleton.mpr rfl),cU.mpr ⟨o1.trans q1,by show l.2.1<=d;omega,q3⟩⟩
   ·rw [e,gn ho,<- e]
    refine app λl' h=>?_
    rw [e,List.getLast?_concat]at h
    cases h
    exact ho
theorem xY {bs:List aE}{k:Str}{d:Int}{a b:V} (h1:∀c∈bs,cw k d c=true->c.2.2.2=(a,b)/\a≠b) (h2:(∀c∈bs,¬cw k d c=true)->a=b):iR bs k d a b:=by
 unfold iR
 cases ef:bs.find? (cw k d) with
 | some c=>exact h1 c (List.mem_of_find?_eq_some ef) (List.find?_some ef)
 | none=>exact h2 (List.find?_eq_none.mp ef)
theorem fg {B:Bk}{t u:Nat}{ks:List Str}{bs:List aE} (h:Boxes B t u ks bs):∀b∈bs,oW b:=by
 induction h with
 | nil=>exact λ_ h=>nomatch h
 | @snoc ks k bs acc _ FU ih=>
  intro b hb
  rcases List.mem_append.mp hb with hb | hb
  ·exact ih b hb
  ·obtain⟨r,hr,rfl⟩:=List.mem_map.mp hb
   have hr':=(List.mem_filter.mp hr).1
   obtain⟨h1,h2,_⟩:=FU.row hr'
   have h3:=FU.tidy.up.le r hr'
   exact⟨h1,h3,by show r.2.1 < 400;omega⟩
noncomputable abbrev iV (B:Bk) (k:Str) (t:Nat) (d:Int):V:=((B.spk k t d).map V.int).getD .non
theorem mN {B:Bk}{t u:Nat}{ks:List Str}{bs:List aE} (h:Boxes B t u ks bs) (nd:ks.Nodup){k:Str}{d:Int} (hk:k∈ks) :
  ∀c∈bs,cw k d c=true->c.2.2.2=(iV B k t d,iV B k u d)/\iV B k t d≠iV B k u d:=by
 obtain⟨acc,FU,e⟩:=jt h nd k hk
 intro c hm hc
 obtain⟨q1,q2,q3⟩:=cU.mp hc
 have:c∈bs.filter (λc=>decide (c.1=k)):=List.mem_filter.mpr ⟨hm,decide_eq_true q1⟩
 rw [e]at this
 obtain⟨r,hr,rfl⟩:=List.mem_map.mp this
 have hn:=(List.mem_filter.mp hr).2
 have hg:fG B k t u d=r.2.2:=(FU.row (List.mem_filter.mp hr).1).2.2 d ⟨q2,q3⟩
 refine⟨?_,λz=>?_⟩
 ·show r.2.2=_
  rw [<- hg];rfl
 ·unfold neW at hn
  have e1:r.2.2.1=r.2.2.2:=by rw [<- hg];exact z
  rw [decide_eq_true e1]at hn
  cases hn
theorem mM {B:Bk}{t u:Nat}{ks:List Str}{bs:List aE} (h:Boxes B t u ks bs) (nd:ks.Nodup){k:Str}{d:Int} (hk:k∈ks) (d0:0<=d) (d1:d < 400) (hno:∀c∈bs,¬cw k d c=true) :
  iV B k t d=iV B k u d:=by
 obtain⟨acc,FU,e⟩:=jt h nd k hk
 have hd:Strip.dayOf acc d=some (fG B k t u d):=by rw [FU.day,if_pos ⟨d0,by omega⟩]
 obtain⟨r,hr,hh,er⟩:=Strip.dayOf_some hd
 cases hn:neW r with
 | false=>
  unfold neW at hn
  have e1:r.2.2.1=r.2.2.2:=by
   by_cases z:r.2.2.1=r.2.2.2
   ·exact z
   ·rw [decide_eq_false z]at hn;cases hn
  rw [er]at e1
  exact e1
 | true=>
  exfalso
  have hm:iq k r∈bs.filter (λc=>decide (c.1=k)):=by
   rw [e]
   exact List.mem_map.mpr ⟨r,List.mem_filter.mpr ⟨hr,hn⟩,rfl⟩
  exact hno _ (List.mem_filter.mp hm).1 (cU.mpr ⟨rfl,hh.1,hh.2⟩)
theorem t8 (B:Bk) (k:Str) (t:Nat) (d:Int):valB B k t d=cb B (iV B k t d):=by
 unfold valB iV
 cases B.spk k t d <;> rfl
theorem t7 {B:Bk}{t u:Nat}{ks:List Str}{bs:List aE} (h:Boxes B t u ks bs) (nd:ks.Nodup){k:Str}{d:Int} (hk:k∈ks) (d0:0<=d) (d1:d < 400) :
  iR (valsB B bs) k d (valB B k t d) (valB B k u d):=by
 have I:=o6 B bs (λb hb=>(fg h b hb).2.1) ((gx h nd).imp λx=>x.1)
 have A:=mN h nd (d:=d) hk
 rw [t8,t8]
 refine xY (λc hc hh=>?_) λhno=>?_
 ·obtain⟨b,hb,h1,h2,h3⟩:=I.one c hc k d hh
  obtain⟨e1,_⟩:=A b hb h1
  rw [show b.2.2.2.1=_ from congrArg Prod.fst e1,show b.2.2.2.2=_ from congrArg Prod.snd e1]at h2 h3
  exact⟨h3,h2⟩
 ·by_cases z:cb B (iV B k t d)=cb B (iV B k u d)
  ·exact z
  ·exfalso
   have hne:iV B k t d≠iV B k u d:=λe=>z (by rw [e])
   have:∃b∈bs,cw k d b=true:=by
    by_cases q:∃b∈bs,cw k d b=true
    ·exact q
    ·exact absurd (mM h nd hk d0 d1 λc hc hh=>q ⟨c,hc,hh⟩) hne
   obtain⟨b,hb,hh⟩:=this
   obtain⟨e1,_⟩:=A b hb hh
   obtain⟨c,hc,h2⟩:=I.all b hb (by rw [show b.2.2.2.1=_ from congrArg Prod.fst e1,show b.2.2.2.2=_ from congrArg Prod.snd e1];exact z) k d hh
   exact hno c hc h2
theorem qT {rs:List aH}{n:Int} (bs:List aE) (h:∀c∈bs,¬(c.2.1<=n/\n<=c.2.2.1)):Strip.boxG rs bs n=Strip.dayOf rs n:=by
 revert h
 refine iE (p:=λbs=>(∀c∈bs,¬(c.2.1<=n/\n<=c.2.2.1))->Strip.boxG rs bs n=Strip.dayOf rs n) (λ_=>rfl) (λbs b ih h=>?_) bs
 rw [Strip.boxG_snoc]
 unfold Strip.boxS
 rw [if_neg (h b (List.mem_append_right _ (List.mem_singleton.mpr rfl)))]
 exact ih λc hc=>h c (List.mem_append_left _ hc)
theorem vc {rs:List aH}{n:Int}{v:V} (bs:List aE) (h:∀c∈bs,(c.2.1<=n/\n<=c.2.2.1)->c.2.2.2.2=v) (hx:∃c∈bs,c.2.1<=n/\n<=c.2.2.1):Strip.boxG rs bs n=Strip.optV v:=by
 revert h hx
 refine iE (p:=λbs=>(∀c∈bs,(c.2.1<=n/\n<=c.2.2.1)->c.2.2.2.2=v)->(∃c∈bs,c.2.1<=n/\n<=c.2.2.1)->Strip.boxG rs bs n=Strip.optV v) ?_ (λbs b ih h hx=>?_) bs
 ·rintro _ ⟨c,hc,_⟩;cases hc
 ·rw [Strip.boxG_snoc]
  unfold Strip.boxS
  by_cases z:b.2.1<=n/\n<=b.2.2.1
  ·rw [if_pos z,h b (List.mem_append_right _ (List.mem_singleton.mpr rfl)) z]
  ·rw [if_neg z]
   refine ih (λc hc=>h c (List.mem_append_left _ hc)) ?_
   obtain⟨c,hc,q⟩:=hx
   rcases List.mem_append.mp hc with hc | hc
   ·exact⟨c,hc,q⟩
   ·rw [List.mem_singleton.mp hc]at q;exact absurd q z
theorem nF (o:Option Int):Strip.optV ((o.map V.int).getD .non)=o.map V.int:=by cases o <;> rfl
theorem vW {o o':Option Int} (h:(o.map V.int).getD .non=(o'.map V.int).getD .non):o.map V.int=o'.map V.int:=by
 rw [<- nF o,<- nF o',h]
theorem kL {B:Bk}{t u:Nat}{ks:List Str}{bs:List aE} (h:Boxes B t u ks bs) (nd:ks.Nodup){k:Str} (hk:k∈ks){rs ss:List aH} (i1:bQ rs) (i2:bQ ss) (h1:∀x,Strip.dayOf rs x=(B.spk k t x).map V.int) (h2:∀x,Strip.dayOf ss x=(B.spk k u x).map V.int) (n:Int) :
  Strip.boxG rs (bs.filter λc=>decide (c.1=k)) n=Strip.dayOf ss n:=by
 have mem:∀c∈bs.filter (λc=>decide (c.1=k)),c∈bs/\c.1=k:=λc hc=>⟨(List.mem_filter.mp hc).1,of_decide_eq_true (List.mem_filter.mp hc).2⟩
 by_cases hn:0<=n/\n < 400
 ·by_cases hx:∃c∈bs.filter (λc=>decide (c.1=k)),c.2.1<=n/\n<=c.2.2.1
  ·rw [vc (v:=iV B k u n) _ (λc hc q=>congrArg Prod.snd (mN h nd hk c (mem c hc).1 (cU.mpr ⟨(mem c hc).2,q⟩)).1) hx,h2]
   exact nF _
  ·rw [qT _ λc hc q=>hx ⟨c,hc,q⟩,h1,h2]
   refine vW (mM h nd hk hn.1 hn.2 λc hc q=>?_)
   obtain⟨q1,q2⟩:=cU.mp q
   exact hx ⟨c,List.mem_filter.mpr ⟨hc,decide_eq_true q1⟩,q2⟩
 ·rw [qT _ λc hc q=>by
   have:=fg h c (mem c hc).1
   unfold oW at this
   omega]
  rw [Strip.dayOf_none λr hr q=>?_,Strip.dayOf_none λr hr q=>?_]
  ·have:=i2 r hr;unfold Strip.Has at q;omega
  ·have:=i1 r hr;unfold Strip.Has at q;omega
end Mine
namespace L2
open PySem PySem.Spec PyProof.Rows
noncomputable def Itz (K:PySem.W.Frag) (a b:Addr):It:=
 ⟨λi H=>∃xs ys x y,SqL K H a xs/\SqL K H b ys/\xs[i]?=some x/\ys[i]?=some y,λi H v H'=>∃(t:Addr) (x y:V),v=.ref t/\H t=none/\H'=upd H t (.tup [x,y])/\(∀xs,SqL K H a xs->xs[i]?=some x)/\∀ys,SqL K H b ys->ys[i]?=some y,λi H=>∃xs ys,SqL K H a xs/\SqL K H b ys/\(xs.length<=i\/ys.length<=i)⟩
theorem tq {P:Program}{w:World}{K:PySem.W.Frag}{elts:List Expr}{kk:Nat}{pos:Pos} (a b z TI TO i1 i2:Addr) (D:ZipApart z TI TO i1 i2 a b):Turn P w K (.Tuple elts kk pos) (Itz K a b) [z,TI,TO,i1,i2] z
  (λi h=>IsZip h z TI TO .none/\IsPair h TI (.ref i1) (.ref i2)/\(∃u v,IsPair h TO u v)/\h.IsListIter i1 a i/\h.IsListIter i2 b i) where
 mem:=by simp
 obj:=λi h st c hc=>by
  obtain⟨hz,hTI,⟨u,v,hTO⟩,⟨o1,e1,c1,d1⟩,⟨o2,e2,c2,d2⟩⟩:=st
  simp only [List.mem_cons,List.not_mem_nil,or_false]at hc
  rcases hc with rfl | rfl | rfl | rfl | rfl
  ·exact⟨_,hz,λv z=>by
    have z':Data.fields _=Data.cell v:=z
    cases z'⟩
  ·exact⟨_,hTI,λv z=>by
    have z':Data.seq _=Data.cell v:=z
    cases z'⟩
  ·exact⟨_,hTO,λv z=>by
    have z':Data.seq _=Data.cell v:=z
    cases z'⟩
  ·exact⟨o1,e1,λv z=>by rw [d1]at z;cases z⟩
  ·exact⟨o2,e2,λv z=>by rw [d2]at z;cases z⟩
 keep:=λi h h' st k=>by
  obtain⟨hz,hTI,⟨u,v,hTO⟩,h1,h2⟩:=st
  exact⟨k z (by simp) _ hz,k TI (by simp) _ hTI,⟨u,v,k TO (by simp) _ hTO⟩,h1.at λo q=>k i1 (by simp) o q,h2.at λo q=>k i2 (by simp) o q⟩
 item:=by
  intro X hP hw hK hc i pins s σ H E I hf st hg
  subst hP hw hK
  obtain⟨hz,hTI,⟨u0,v0,hTO⟩,hi1,hi2⟩:=st
  obtain⟨xs,ys,x,y,hq,hq',hx,hy⟩:=hg
  obtain⟨its,rv,p,hz1⟩:=I.list hq
  obtain⟨its',rv',p',hz2⟩:=I.list hq'
  obtain⟨u,hu,ru⟩:=rv.get hx
  obtain⟨v,hv,rv2⟩:=rv'.get hy
  refine wpAny_pyNext_zip_item D hz hTI hTO hi1 hi2 p.isList p'.isList (x:=u) (y:=v) (by simpa using hu) (by simpa using hv) λh1 hz1 hTO1 hi11 hi21 ht1 hsz1 hk1=>?_
  refine⟨_,rfl,wpAny_letOwnedTupleGo_zip hz1 λh2 hz2 hs2=>?_⟩
  have hs2:Heap.SameBut z h1 h2:=hs2
  have el:z < s.heap.objs.size:=Heap.lt_size hz
  have ht2:h2.get? s.heap.objs.size=some { cls:=.type "tuple", data:=.seq #[u,v] }:=(hs2.2 _ (Nat.ne_of_gt el)).trans ht1
  have nt:H s.heap.objs.size=none:=I.hok.fresh (Nat.le_refl _)
  have I1:Inv X pins σ (upd H s.heap.objs.size (.tup [x,y])) { s with heap:=s.heap.push { cls:=.type "tuple", data:=.seq #[u,v] },toks:=s.toks }:=
   I.laid (a:=s.heap.objs.size) (o:=.tup [x,y]) (λ_ _ q=>Heap.get?_push_of_some _ q) (Nat.le_refl _) ⟨by show 2<=sizeLine;decide,[u,v],.cons ru (.cons rv2 .nil),_,Heap.get?_push_size _ rfl,rfl,0,rfl⟩
  have lt:∀c∈[z,TI,TO,i1,i2],c < s.heap.objs.size:=λc hc=>by
   simp only [List.mem_cons,List.not_mem_nil,or_false]at hc
   rcases hc with rfl | rfl | rfl | rfl | rfl
   ·exact el
   ·exact Heap.lt_size hTI
   ·exact Heap.lt_size hTO
   ·obtain⟨_,e,_⟩:=hi1;exact Heap.lt_size e
   ·obtain⟨_,e,_⟩:=hi2;exact Heap.lt_size e
  have fp1:∀c∈[z,TI,TO,i1,i2],gy X pins (upd H s.heap.objs.size (.tup [x,y])) c:=λc hc=>by
   obtain⟨f0,f1,f2,f3,f4,f5⟩:=hf c hc
   refine⟨?_,f1,f2,f3,f4,f5⟩
   rw [ag (Nat.ne_of_lt (lt c hc))]
   exact f0
  have I2:Inv X pins σ (upd H s.heap.objs.size (.tup [x,y])) { s with heap:=h2,toks:=s.toks }:=I1.turnedL (h':=h2) (t':=s.toks) (λc o hc ho=>by
   have c1:c≠z:=λe=>hc (by rw [e];simp)
   have c2:c≠TO:=λe=>hc (by rw [e];simp)
   have c3:c≠i1:=λe=>hc (by rw [e];simp)
   have c4:c≠i2:=λe=>hc (by rw [e];simp)
   by_cases bs:c=s.heap.objs.size
   ·rw [bs]at ho ⊢
    have ho:(s.heap.push { cls:=.type "tuple", data:=.seq #[u,v] }).get? s.heap.objs.size=some o:=ho
    rw [Heap.get?_push_size _ rfl]at ho
    cases ho
    exact ht2
   ·have ho2:s.heap.get? c=some o:=(Heap.get?_push_ne _ c _ bs).symm.trans ho
    exact(hs2.2 c c1).trans (hk1 c o c1 c2 c3 c4 ho2)) fp1
  refine⟨.ref s.heap.objs.size,_,I2,rfl,⟨s.heap.objs.size,x,y,rfl,nt,rfl,(λys hy=>by rw [I.list_inj hy hq];exact hx),λzs hy'=>by rw [I.list_inj hy' hq'];exact hy⟩,⟨hz2,?_,⟨u,v,?_⟩,hi11.extBut hs2.extBut D.i1z,hi21.extBut hs2.extBut D.i2z⟩,λc hc=>(fp1 c hc).1⟩
  ·exact(hs2.2 _ D.TIz).trans (hk1 _ _ D.TIz D.TITO D.TIi1 D.TIi2 hTI)
  ·exact(hs2.2 _ D.TOz).trans hTO1
 done:=by
  intro X hP hw hK hc i pins s σ H E I hf st hg
  subst hP hw hK
  obtain⟨hz,hTI,⟨u0,v0,hTO⟩,hi1,hi2⟩:=st
  obtain⟨xs,ys,hq,hq',hx⟩:=hg
  obtain⟨its,rv,p,hz1⟩:=I.list hq
  obtain⟨its',rv',p',hz2⟩:=I.list hq'
  have hl:=rv.length
  have hl':=rv'.length
  refine wpAny_pyNext_zip_end (I.ok.hd hc) D hz hTI hTO hi1 hi2 p.isList p'.isList ?_ λh' hk=>⟨rfl,I.turnedL (t':=s.toks) (λc o hc ho=>?_) hf⟩
  ·rcases hx with h | h
   ·exact .inl (by simp;omega)
   ·exact .inr (by simp;omega)
  ·exact hk c o (λe=>hc (by rw [e];simp)) (λe=>hc (by rw [e];simp)) (λe=>hc (by rw [e];simp)) (λe=>hc (by rw [e];simp)) ho
 self:=λ_ _ _ _ _ st h=>wpAny_pyIter_zip st.1 h
noncomputable def zq (K:PySem.W.Frag) (ta:TA):TI:=λσ H R=>ta σ H λvs H1=>∃a b,vs=[.ref a,.ref b]/\(∃xs,SqL K H1 a xs)/\(∃ys,SqL K H1 b ys)/\R (Itz K a b) H1
theorem xH {X:Cx}{elts:List Expr}{kk:Nat}{pt:Pos}{a b:Expr}{ta:TA}{p pos:Pos} (hg:Gl X "zip") (hm:X.mg "zip" = none) (ha:PA X [a,b] ta) (hs:starEach [a,b] X.env=[(false,eval a X.env),(false,eval b X.env)]:=by rfl) (hs2:starEach [b] X.env=[(false,eval b X.env)]:=by rfl) :
  PI X (.Tuple elts kk pt) (.Call (.Name "zip" p) [a,b] [] pos) (zq X.K ta):=by
 intro pins s σ H R I h
 refine Call_ (im I hg hm (PyProof.Rows.Boot.«zip») (PyProof.Rows.callWith_type1 (thn (ha pos pins s σ H _ I h) λus s1 ⟨vs,H1,I1,r1,q1⟩=>?_) (by rw [hs,hs2]) (by rw [hs2];rfl)))
 obtain⟨c,d,e,⟨xs,hq⟩,⟨ys,hq'⟩,q⟩:=q1
 subst e
 cases r1 with
 | cons r rr=>
  cases rr with
  | cons r' rr=>
   cases rr
   cases r
   cases r'
   obtain⟨its,rv,pp,hz⟩:=I1.list hq
   obtain⟨its',rv',pp',hz'⟩:=I1.list hq'
   refine call_zip_2 pp.isList pp'.isList λh' hZ hTI hTO hi1 hi2 hsz hk=>?_
   have a1:c < s1.heap.objs.size:=by obtain⟨_,e,_⟩:=pp.isList;exact Heap.lt_size e
   have a2:d < s1.heap.objs.size:=by obtain⟨_,e,_⟩:=pp'.isList;exact Heap.lt_size e
   refine wpAny_pyIter_zip hZ ?_
   refine⟨s1.heap.objs.size+4,[s1.heap.objs.size+4,s1.heap.objs.size+2,s1.heap.objs.size+3,s1.heap.objs.size,s1.heap.objs.size+1],_,_,H1,rfl,I1.kept (t':=s1.toks) hk,tq c d _ _ _ _ _ (zipApart_new a1 a2),⟨hZ,hTI,⟨_,_,hTO⟩,hi1,hi2⟩,λx hx=>?_,q⟩
   have up:∀k,gy X pins H1 (s1.heap.objs.size+k):=λk=>I1.fpOk (Nat.le_add_right _ k) (I1.hok.fresh (Nat.le_add_right _ k))
   simp only [List.mem_cons,List.not_mem_nil,or_false]at hx
   rcases hx with rfl | rfl | rfl | rfl | rfl
   ·exact up 4
   ·exact up 2
   ·exact up 3
   ·exact up 0
   ·exact up 1
theorem wG {K:PySem.W.Frag}{a b:Addr}{xs ys:List V}{g:TG}{tb:TS}{D:Ends}{σ:St}{H:Hp} (Pv:Nat->St->Hp->Prop) (h0:Pv 0 σ H) (hl:∀i σ H,Pv i σ H->SqL K H a xs/\SqL K H b ys)
  (hs:∀i x y σ H t,xs[i]?=some x->ys[i]?=some y->Pv i σ H->H t=none->g (.ref t) σ (upd H t (.tup [x,y])) λσ2 H2=>tb { D with nx:=Pv (i+1),ct:=Pv (i+1),bk:=D.nx } σ2 H2) (hd:∀i σ H,Pv i σ H->D.nx σ H) :
  ∃W:Nat->Nat->St->Hp->Prop,(∃m,W 0 m σ H)/\∀i m σ H,W i m σ H->
   ((Itz K a b).stop i H/\D.nx σ H)\/((Itz K a b).go i H/\∃N:St->Hp->Prop,(∀σ' H',N σ' H'->∃m',m' < m/\W (i+1) m' σ' H')/\∀x H',(Itz K a b).yld i H x H'->g x σ H' λσ2 H2=>tb { D with nx:=N,ct:=N,bk:=D.nx } σ2 H2):=by
 refine⟨λi m σ H=>m=xs.length - i/\Pv i σ H,⟨xs.length,by simp,h0⟩,?_⟩
 rintro i m σ H ⟨rfl,p⟩
 obtain⟨q,q'⟩:=hl i σ H p
 by_cases hlt:i < xs.length/\i < ys.length
 ·refine .inr ⟨⟨xs,ys,xs[i],ys[i],q,q',by simp [hlt.1],by simp [hlt.2]⟩,Pv (i+1),λσ' H' p'=>⟨xs.length - (i+1),by omega,rfl,p'⟩,λx H' y=>?_⟩
  obtain⟨t,y1,y2,e1,nt,e2,y,y'⟩:=y
  subst e1 e2
  exact hs i y1 y2 σ _ t (y xs q) (y' ys q') p nt
 ·exact .inl ⟨⟨xs,ys,q,q',by omega⟩,hd i σ H p⟩
noncomputable def iK (n:Int) (xs:List V):List V:=(sliceRange 0 xs.length n).filterMap (xs[·]?)
theorem rK {n:Int}{xs:List V}{x:V} (h:x∈iK n xs):x∈xs:=by
 obtain⟨i,_,e⟩:=List.mem_filterMap.mp h
 exact List.mem_of_getElem? e
theorem iT {xs:List V}{us:List Value} (r:aR xs us):∀js:List Nat,aR (js.filterMap (xs[·]?)) (js.filterMap (us[·]?))
 | []=>.nil
 | j::js=>by
  rw [List.filterMap_cons,List.filterMap_cons]
  cases e:xs[j]? with
  | none=>
   have:us[j]?=none:=by
    rw [List.getElem?_eq_none_iff]at e ⊢
    have:=r.length
    omega
   rw [this]
   exact iT r js
  | some x=>
   obtain⟨u,eu,ru⟩:=r.get e
   rw [eu]
   exact .cons ru (iT r js)
theorem rL {n:Int} (h:0 < n) (xs:List V):(iK n xs).length<=xs.length:=by
 refine Nat.le_trans (List.length_filterMap_le _ _) ?_
 unfold sliceRange
 rw [List.length_map,List.length_range]
 simp only [gt_iff_lt,h,if_true]
 by_cases z:(0:Int) < (xs.length:Int)
 ·rw [if_pos z]
  have:(((xs.length:Int) - 0+n - 1) / n)<=xs.length:=by
   refine Int.ediv_le_of_le_mul h ?_
   have h1:(xs.length:Int) * n=(xs.length:Int) * (n - 1)+xs.length:=by rw [Int.mul_sub];omega
   have h2:(n - 1)<=(xs.length:Int) * (n - 1):=by
    have:1 * (n - 1)<=(xs.length:Int) * (n - 1):=Int.mul_le_mul_of_nonneg_right (by omega) (by omega)
    omega
   omega
  omega
 ·rw [if_neg z];exact Nat.zero_le _
noncomputable def yl (K:PySem.W.Frag) (n:Int) (te:TE):TE:=λσ H Q=>te σ H λx H1=>∃a xs,x=.ref a/\SqL K H1 a xs/\∀p,H1 p=none->Q (.ref p) (upd H1 p (.lst (iK n xs)))
theorem vR {X:Cx}{e es:Expr}{te:TE}{pos p2:Pos}{n:Int} (h0:0 < n) (he:PE X e te) (hs:PE X es (tC (.int n))):PE X (.Subscript e (.Slice none none (some es) p2) pos) (yl X.K n te):=by
 intro pins s σ H Q I h
 refine Subscript_ (thn (he pins s σ H _ I h) λv s1 ⟨x,H1,I1,r1,q1⟩=>?_)
 refine wpAny_Slice ?_
 rw [evalPart_none]
 refine wpAny_pure (wpAny_pure ?_)
 rw [evalPart_some]
 refine thn (hs pins s1 σ H1 (λx' H'=>x'=.int n/\H'=H1) I1 ⟨rfl,rfl⟩) λvn s3 ⟨y,H3,I3,r3,e3,e4⟩=>?_
 subst e3 e4
 obtain⟨t,rfl⟩:=r3
 have I4:Inv X pins σ H3 { s3 with heap:=s3.heap.push { cls:=.type "slice", data:=.fields #[.none,.none,.int n t] } }:=I3.kept (t':=s3.toks) λb ob q=>Heap.get?_push_of_some _ q
 obtain⟨a,xs,rfl,hx,q⟩:=q1
 cases r1
 obtain⟨its,r,ht,hz⟩:=I4.list hx
 have hlen:=r.length
 have ht2:({ s3 with heap:=s3.heap.push { cls:=.type "slice", data:=.fields #[.none,.none,.int n t] } }:Shared).heap.IsList a its.toArray:=ht.isList
 show wpAny (model X.prog X.w) X.A (subscriptTail e (.Slice none none (some es) p2) (.ref a) (.ref s3.heap.objs.size)) (EP X pins σ Q) X.xe { s3 with heap:=s3.heap.push { cls:=.type "slice", data:=.fields #[.none,.none,.int n t] } }
 refine tail_any (ops:=[.ref a,.ref s3.heap.objs.size]) ht2.typeIs slot_list_getitem.lookup ?_ (by with_unfolding_all rfl)
 refine wpAny_getItem_list_slice ht2 (Heap.IsSliceOf.new ..) .none .none (.int n t) (by intro z;cases z;omega) ?_ (by rw [List.size_toArray] <;> omega)
 have ep:slicePick its.toArray none none (some n)=((sliceRange 0 xs.length n).filterMap (its[·]?)).toArray:=by
  unfold slicePick sliceBounds
  simp only [Option.getD_some,gt_iff_lt,h0,if_true,List.size_toArray,<- hlen]
  congr 2
  funext i
  simp
 rw [ep]
 refine⟨.ref _,_,I4.laid (t':=s3.toks) (o:=.lst (iK n xs)) (λb ob q=>Heap.get?_push_of_some _ q) (Nat.le_refl _) ?_,rfl,q _ (I4.hok.fresh (Nat.le_refl _))⟩
 exact⟨Nat.le_trans (rL h0 xs) hz,_,0,iT r _,Heap.get?_push_size _ rfl⟩
end L2
namespace L2
open PySem PySem.Spec PyProof.Rows
section
variable {X:Cx}
theorem rO {elt tg iter:Expr}{xn:List Str}{g:TG}{pos:Pos}{ifs:List Expr}{scope:Scope}{wi:TI}{tt:TT}{te:TE}
  (hc:X.calm=true) (hi:PI X tg iter wi) (hclos:closureFor scope X.env=pure []) (hkind:scope.kind=.function)
  (hall:∀y∈scope.names,y.2=.local) (hnames:∀y∈scope.names,y.2=.local->scope.names.lookup y.1=some .local)
  (hg:∀C fp s H,PG (bR X scope [] xn C fp s H) tg g)
  (ht:∀C fp s H,PTs (bR X scope [] xn C fp s H) ifs tt) (he:∀C fp s H,PE (bR X scope [] xn C fp s H) elt te)
  (hs:∀x,foldedSetIterable iter X.env x=pure x:=by intro _;rfl):PE X (.ListComp elt [⟨tg,iter,ifs,0⟩] scope pos) (tF g xn.length wi [] tt te):=by
 refine kQ ?_
 have e0:xn++([]:List Str)=xn:=List.append_nil xn
 refine jj (xn:=xn) (CB:=vh g xn.length [] tt te) (cl:=[]) (fv:=[]) hc hi hclos (λy hy z=>by rw [hall y hy]at z;cases z) hkind hnames rfl (λj i y e=>by cases e) (λy hy=>nomatch hy) (λy c e=>by cases e) (λy hy=>nomatch hy) (λy hy=>?_) (by rw [e0];exact hg) (by rw [e0];exact ht) (by rw [e0];exact he) (λσ Q J H1 h=>h) hs
 have e:(compEnvC scope [] 0 X.env).kindOf y=scope.names.lookup y:=by
  show (scope.names.map _).lookup y=_
  rw [fZ hall]
 rw [e]at hy
 rcases hy with z | z <;> exact absurd (hJ hall z) (by decide)
theorem ud {elt iter:Expr}{x1 x2 x3 x4 x5:Str}{p1 p2 p3 p4 p5 pt pos:Pos}{kk:Nat}{ifs:List Expr}{scope:Scope}{wi:TI}{tt:TT}{te:TE}
  (hc:X.calm=true) (hi:PI X (.Tuple [.Name x1 p1,.Name x2 p2,.Name x3 p3,.Name x4 p4,.Name x5 p5] kk pt) iter wi) (hclos:closureFor scope X.env=pure []) (hkind:scope.kind=.function)
  (hall:∀y∈scope.names,y.2=.local) (hnames:∀y∈scope.names,y.2=.local->scope.names.lookup y.1=some .local) (hnd:([x1,x2,x3,x4,x5]:List Str).Nodup) (h1:scope.names.lookup x1=some .local) (h2:scope.names.lookup x2=some .local) (h3:scope.names.lookup x3=some .local) (h4:scope.names.lookup x4=some .local) (h5:scope.names.lookup x5=some .local)
  (ht:∀C fp s H,PTs (bR X scope [] [x1,x2,x3,x4,x5] C fp s H) ifs tt) (he:∀C fp s H,PE (bR X scope [] [x1,x2,x3,x4,x5] C fp s H) elt te)
  (hs:∀x,foldedSetIterable iter X.env x=pure x:=by intro _;rfl):PE X (.ListComp elt [⟨.Tuple [.Name x1 p1,.Name x2 p2,.Name x3 p3,.Name x4 p4,.Name x5 p5] kk pt,iter,ifs,0⟩] scope pos) (tF (wE X.K 5 (ff (aO 0) (ff (aO 1) (ff (aO 2) (ff (aO 3) (ff (aO 4) wF)))))) 5 wi [] tt te):=
 rO (xn:=[x1,x2,x3,x4,x5]) hc hi hclos hkind hall hnames (λC fp s H=>cD rfl (aq (ay (i:=0) hnd rfl (.inl (lookup_relabel_local h1)) (.inr (lookup_relabel_local h1))) (aq (ay (i:=1) hnd rfl (.inl (lookup_relabel_local h2)) (.inr (lookup_relabel_local h2))) (aq (ay (i:=2) hnd rfl (.inl (lookup_relabel_local h3)) (.inr (lookup_relabel_local h3))) (aq (ay (i:=3) hnd rfl (.inl (lookup_relabel_local h4)) (.inr (lookup_relabel_local h4))) (aq (ay (i:=4) hnd rfl (.inl (lookup_relabel_local h5)) (.inr (lookup_relabel_local h5))) bS)))))) ht he hs
end
theorem qe {K:PySem.W.Frag}{a D:Addr}{xs:List V}{σ:St}{n:Nat}{g:TG}{sub:List Nat}{tt:TT}{te:TE}{Q:VK}{H:Hp} (Pv:Nat->List V->Hp->Prop) (h0:Pv 0 [] (upd H D (.lst []))) (hl:∀i ys H,i<=xs.length->Pv i ys H->SqL K H a xs)
  (hs:∀i x ys H3,xs[i]?=some x->Pv i ys H3->∀τ:List (Option V),τ.length=n->g x (τ++bN sub σ) H3 λσ' H'=>(∃τ':List (Option V),τ'.length=n/\σ'=τ'++bN sub σ)/\tt σ' H' λc H4=>if c=true then te σ' H4 λy H5=>H5 D=some (.lst ys)/\ys.length < sizeLine/\Pv (i+1) (ys++[y]) (upd H5 D (.lst (ys++[y]))) else Pv (i+1) ys H4)
  (hd:∀ys H2,Pv xs.length ys H2->Q (.ref D) H2) :
  ∃W:Nat->Nat->List V->Hp->Prop,(∃m,W 0 m [] (upd H D (.lst [])))/\∀i m ys H2,W i m ys H2->
   ((Itl K a).stop i H2/\Q (.ref D) H2)\/((Itl K a).go i H2/\∃N:List V->Hp->Prop,(∀ys' H',N ys' H'->∃m',m' < m/\W (i+1) m' ys' H')/\∀v H3,(Itl K a).yld i H2 v H3->∀τ:List (Option V),τ.length=n->g v (τ++bN sub σ) H3 λσ' H'=>(∃τ':List (Option V),τ'.length=n/\σ'=τ'++bN sub σ)/\tt σ' H' λc H4=>if c=true then te σ' H4 λy H5=>H5 D=some (.lst ys)/\ys.length < sizeLine/\N (ys++[y]) (upd H5 D (.lst (ys++[y]))) else N ys H4):=by
 refine⟨λi m ys H2=>m=xs.length - i/\i<=xs.length/\Pv i ys H2,⟨xs.length,by simp,Nat.zero_le _,h0⟩,?_⟩
 rintro i m ys H2 ⟨rfl,hi,p⟩
 have q:=hl i ys H2 hi p
 by_cases hlt:i < xs.length
 ·refine .inr ⟨⟨xs,xs[i],q,by simp [hlt]⟩,Pv (i+1),λys' H' p'=>⟨xs.length - (i+1),by omega,rfl,hlt,p'⟩,λv H3 y=>?_⟩
  obtain⟨e,y⟩:=y
  subst e
  exact hs i v ys _ (y xs q) p
 ·have e:i=xs.length:=by omega
  subst e
  exact .inl ⟨⟨xs,q,Nat.le_refl _⟩,hd ys H2 p⟩
end L2
namespace Mine
open PySem L2
variable {P:Program}{w:World}{K:PySem.W.Frag}{mg:Str->Option Value}{base:Heap}
noncomputable abbrev me:Stmt:=top 55
noncomputable abbrev jh:Stmt:=top 54
noncomputable def kF (L:Addr):Sp:=λvs H Q _=>∃(a:Addr) (bs:List aE),vs=[.ref a]/\Lm L H/\cx H a bs/\bs.length < 9000000/\∀(d:Addr) (H':Hp),H d=none->Gm L H H'->cx H' d (bs.map swB)->Q (.ref d) H'
noncomputable def jT:Sp:=λvs H Q _=>∃(a:Addr) (bs:List aE),vs=[.ref a]/\cx H a bs/\ApL bs/\∀H',aA H H'->Q (.bl true) H'
theorem zv (xs:List V):cutV xs (some 1) none=xs.drop 1:=by
 unfold cutV
 rw [HT.sIx_none,show HT.sIx xs.length 0 (some 1)=min 1 xs.length from HT.sIx_nat xs.length 0 1]
 rcases xs with _ | ⟨x,xs⟩
 ·rfl
 ·rw [List.length_cons,Nat.min_eq_left (by omega)]
  simp
theorem xz:FnScope ["_law_boxes"] ["_law_boxes"] (ah me):=⟨rfl,rfl,rfl,by decide +kernel,rfl,by decide +kernel,by decide +kernel⟩
theorem wl {f L:Addr}{fd:FuncData} (F:Fun K "_law_exchanged" "_law_exchanged" me f fd)  : FnOk P w K mg base CX0 1 f fd ["_law_boxes"] (kF L):=by
 refine F.ok (k:=0) xz (λvs H Q E h=>?_) (λcdv A outer s H vs Q E hr h=>?_)
 ·obtain⟨a,bs,rfl,_⟩:=h
  rfl
 ·obtain⟨a,bs,rfl,LL,⟨ps,ha,hp⟩,hln,q⟩:=h
  have hu:=bu hr
  refine⟨_,(al (aB (ud rfl (bD (pv 0)) rfl rfl (by decide) (by decide) (by show ([Str.ofString "_law_key", Str.ofString "_law_first", Str.ofString "_law_last", Str.ofString "_law_one", Str.ofString "_law_other"]:List Str).Nodup;decide) rfl rfl rfl rfl rfl (λC fp s H=>eG) (λC fp s H=>(bC (aa (pv 0) (aa (pv 1) (aa (pv 2) (aa (pv 4) (aa (pv 3) ae)))))))))),?_⟩
  have hlp:=cF hp
  refine bT ⟨_,rfl,a,rfl,⟨_,SqL.of ha⟩,λD nD=>qe (K:=K) (a:=a) (n:=5) (g:=wE K 5 (ff (aO 0) (ff (aO 1) (ff (aO 2) (ff (aO 3) (ff (aO 4) wF)))))) (sub:=[]) (tt:=λ_ H Q=>Q true H) (te:=vo (cK (dN 0) (cK (dN 1) (cK (dN 2) (cK (dN 4) (cK (dN 3) cn)))))) (xs:=ps.map V.ref) (Q:=Q) (λi ys H2=>∃as:List Addr,ys=as.map V.ref/\H2 D=some (.lst (as.map V.ref))/\gz H2 as ((bs.take i).map swB)/\Gm L H H2)
   ⟨[],rfl,ad,.nil,Go.new LL nD⟩ (λi ys H2 _ hh=>?_) ?_ ?_⟩
  ·obtain⟨_,_,_,_,g⟩:=hh
   exact SqL.of (g.lst LL ha)
  ·rintro i x ys H2 hi ⟨as,rfl,hD,hR,g⟩ τ hτ
   match τ,hτ with
   | [t0,t1,t2,t3,t4],_=>
    rw [List.getElem?_map]at hi
    cases ep:ps[i]? with
    | none=>rw [ep]at hi;cases hi
    | some x'=>
     rw [ep]at hi
     cases hi
     obtain⟨r,er,ht0,mr⟩:=dA hp ep
     have hx:=g.tup LL ht0
     have et:(bs.take (i+1)).map swB=(bs.take i).map swB++[swB r]:=by rw [List.take_add_one,er,List.map_append];rfl
     refine⟨x',_,rfl,SqT.of hx,rfl,_,_,rfl,_,_,rfl,_,_,rfl,_,_,rfl,_,_,rfl,rfl,⟨[some (.str r.1),some (.int r.2.1),some (.int r.2.2.1),some r.2.2.2.1,some r.2.2.2.2],rfl,rfl⟩,?_⟩
     show (if true=true then _ else _)
     rw [if_pos rfl]
     refine⟨_,rfl,_,rfl,_,rfl,_,rfl,_,rfl,by show 5<=sizeLine;decide,λq' nq=>?_⟩
     obtain⟨y1,y2⟩:=oy (r:=swB r) hD hR nq ⟨mr.1,mr.2.2,mr.2.1⟩
     have hil:i < bs.length:=(List.getElem?_eq_some_iff.mp er).1
     refine⟨by rw [ag (af hD nq)];exact hD,by rw [List.length_map,cF hR,List.length_map,List.length_take];exact Nat.lt_of_lt_of_le (show min i bs.length < 9000000 by omega) (by decide),?_⟩
     obtain⟨as',ea,hR'⟩:=y1
     have ea2:(as':List Addr).map V.ref=as.map V.ref++[V.ref q']:=by
      have z:some (HO.lst (as.map V.ref++[V.ref q']))=some (HO.lst (as'.map V.ref)):=ad.symm.trans ea
      injection z with z
      injection z with z
      exact z.symm
     exact⟨as',ea2.symm,ea,et ▸ hR',⟨λc o n e=>y2 c o (af e nD) (g.same c o n e),g.lam.row hD nq⟩⟩
  ·rintro ys Hc ⟨as,rfl,hD,hR,gc⟩
   rw [List.length_map,hlp,List.take_length]at hR
   exact q D Hc nD gc ⟨as,hD,hR⟩
theorem nj:FnScope ["_law_boxes", "_law_one", "_law_other"] ["_law_boxes"] (ah jh):=⟨rfl,rfl,rfl,by decide +kernel,rfl,by decide +kernel,by decide +kernel⟩
theorem uy {f:Addr}{fd:FuncData} (F:Fun K "_law_apart" "_law_apart" jh f fd) (hZip:mg "zip" = none):FnOk P w K mg base CX0 1 f fd ["_law_boxes"] jT:=by
 refine F.ok (k:=0) nj (λvs H Q E h=>?_) (λcdv A outer s H vs Q E hr h=>?_)
 ·obtain⟨a,bs,rfl,_⟩:=h
  rfl
 ·obtain⟨a,bs,rfl,⟨ps,ha,hp⟩,ap,q⟩:=h
  have hu:=bu hr
  refine⟨_,(aj (bU PassesOwn.never rfl (xH rfl hZip (aa (pv 0) (aa (bV ni (pv 0) (bY ai) cT) ae))) (cD rfl (aq (ay (i:=1) nj.nd rfl (Or.inl rfl)) (aq (ay (i:=2) nj.nd rfl (Or.inl rfl)) bS)))
   (aj (bp (PW.pt (eO (aQ dF (aM aY (pv 1) ai (λ_ _=>rfl)) (aM aY (pv 2) ai (λ_ _=>rfl)) (aN _)) (dG (aQ eK (aM aY (pv 2) ai (λ_ _=>rfl)) (aM aY (pv 1) ai (λ_ _=>rfl)) (aN _))))) (al (aB eJ)) aG)
   (al (bp (PW.pt (eO (aQ dF (aM aY (pv 1) ai (λ_ _=>rfl)) (aM aY (pv 2) ai (λ_ _=>rfl)) (aN _)) (eO (aQ dF (aM aY (pv 2) ai (λ_ _=>rfl)) (aF bJ (aM aY (pv 1) ai (λ_ _=>rfl)) ai) (aN _)) (dG (aQ (gt hr.units) (bV hW (pv 1) (bY ai) cT) (bV hW (pv 2) (bY ai) cT) (aN _)))))) (al (aB eJ)) aG))))
   (al (aB eJ))),?_⟩
  have hlp:=cF hp
  refine aP ?_
  refine⟨_,rfl,_,rfl,1,rfl,a,_,rfl,SqL.of ha,λp1 n1=>?_⟩
  rw [zv]
  have g1:aA H (upd H p1 (.lst ((ps.map V.ref).drop 1))):=aA.new n1
  have e1:upd H p1 (.lst ((ps.map V.ref).drop 1)) p1=some (.lst ((ps.map V.ref).drop 1)):=ad
  generalize upd H p1 (.lst ((ps.map V.ref).drop 1))=H1 at g1 e1
  refine⟨a,p1,rfl,⟨_,SqL.of (g1 _ _ ha)⟩,⟨_,SqL.of e1⟩,wG (K:=K) (a:=a) (b:=p1) (xs:=ps.map V.ref) (ys:=(ps.map V.ref).drop 1) (λi σ H2=>∃(v1 v2:Option V),σ=[some (.ref a),v1,v2]/\aA H1 H2)
   ⟨none,none,rfl,aA.refl⟩ (λi σ H2 hh=>?_) ?_ ?_⟩
  ·obtain⟨_,_,_,g⟩:=hh
   exact⟨SqL.of (g _ _ (g1 _ _ ha)),SqL.of (g _ _ e1)⟩
  ·rintro i x y σ H2 t hx hy ⟨v1,v2,rfl,g2⟩ nt
   rw [List.getElem?_drop,List.getElem?_map]at hy
   rw [List.getElem?_map]at hx
   cases ex:ps[i]? with
   | none=>rw [ex]at hx;cases hx
   | some x'=>
    rw [ex]at hx
    cases hx
    cases ey:ps[1+i]? with
    | none=>rw [ey]at hy;cases hy
    | some y'=>
     rw [ey]at hy
     cases hy
     rw [Nat.add_comm]at ey
     obtain⟨l,el,hl0,ml⟩:=dA hp ex
     obtain⟨b,eb,hb0,mb⟩:=dA hp ey
     have g3:aA H2 (upd H2 t (.tup [V.ref x',V.ref y'])):=aA.new nt
     have e3:upd H2 t (.tup [V.ref x',V.ref y']) t=some (.tup [V.ref x',V.ref y']):=ad
     generalize upd H2 t (.tup [V.ref x',V.ref y'])=H3 at g3 e3
     have g13:=g2.trans g3
     have g03:=g1.trans g13
     have hl:=g03 _ _ hl0
     have hb:=g03 _ _ hb0
     refine⟨t,_,rfl,SqT.of e3,rfl,_,_,rfl,_,_,rfl,rfl,?_⟩
     dsimp only
     refine aP (dq ?_)
     refine⟨_,rfl,x',_,0,V.str l.1,rfl,rfl,SqT.of hl,rfl,_,rfl,y',_,0,V.str b.1,rfl,rfl,SqT.of hb,rfl,rfl,_,rfl,?_⟩
     by_cases c1:l.1=b.1
     ·have lt:l.2.2.1 < b.2.1:=by
       obtain⟨h1,f1⟩:=List.getElem?_eq_some_iff.mp el
       obtain⟨h2,f2⟩:=List.getElem?_eq_some_iff.mp eb
       have:=List.pairwise_iff_getElem.mp ap.lt i (i+1) h1 h2 (by omega)
       rw [f1,f2]at this
       exact this c1
      rw [decide_eq_true (show V.str l.1=V.str b.1 by rw [c1])]
      refine cg ⟨_,rfl,y',_,1,V.int b.2.1,rfl,rfl,SqT.of hb,rfl,_,rfl,x',_,2,V.int l.2.2.1,rfl,rfl,SqT.of hl,rfl,_,_,rfl,rfl,_,rfl,?_⟩
      rw [decide_eq_false (show ¬b.2.1<=l.2.2.1 by omega)]
      refine br (bz ?_)
      dsimp only
      refine dq ?_
      refine⟨_,rfl,x',_,0,V.str l.1,rfl,rfl,SqT.of hl,rfl,_,rfl,y',_,0,V.str b.1,rfl,rfl,SqT.of hb,rfl,rfl,_,rfl,?_⟩
      rw [decide_eq_true (show V.str l.1=V.str b.1 by rw [c1])]
      refine cg ⟨_,rfl,y',_,1,V.int b.2.1,rfl,rfl,SqT.of hb,rfl,_,rfl,x',_,2,V.int l.2.2.1,rfl,rfl,SqT.of hl,rfl,_,_,rfl,rfl,rfl,_,rfl,?_⟩
      by_cases c2:b.2.1=l.2.2.1+1
      ·rw [decide_eq_true (show V.int b.2.1=V.int (l.2.2.1+1) by rw [c2])]
       refine cg ?_
       refine⟨_,rfl,3,rfl,x',_,rfl,SqT.of hl,(by show ¬(HT.sIx 5 0 (some 3)=0/\HT.sIx 5 5 none=5);decide),λq1 n1'=>?_⟩
       have g4:aA H3 (upd H3 q1 (.tup (cutV (ck l) (some 3) none))):=aA.new n1'
       have e4:upd H3 q1 (.tup (cutV (ck l) (some 3) none)) q1=some (.tup [l.2.2.2.1,l.2.2.2.2]):=ad
       generalize upd H3 q1 (.tup (cutV (ck l) (some 3) none))=H4 at g4 e4
       refine⟨_,rfl,3,rfl,y',_,rfl,SqT.of (g4 _ _ hb),(by show ¬(HT.sIx 5 0 (some 3)=0/\HT.sIx 5 5 none=5);decide),λq2 n2=>?_⟩
       have g5:aA H4 (upd H4 q2 (.tup (cutV (ck b) (some 3) none))):=aA.new n2
       have e5:upd H4 q2 (.tup (cutV (ck b) (some 3) none)) q2=some (.tup [b.2.2.2.1,b.2.2.2.2]):=ad
       generalize upd H4 q2 (.tup (cutV (ck b) (some 3) none))=H5 at g5 e5
       refine⟨_,_,gF (g5 _ _ e4) ml.2.1 ml.2.2,gF e5 mb.2.1 mb.2.2,iU ml.2.1 ml.2.2,iU mb.2.1 mb.2.2,false,⟨(λz=>by cases z),λz=>?_⟩,?_⟩
       ·exact absurd ⟨c1,c2.symm,mI ml.2.1 ml.2.2 mb.2.1 mb.2.2 z⟩ (ap.no i l b el eb)
       ·exact⟨_,rfl,br (bz ⟨_,_,rfl,g13.trans (g4.trans g5)⟩)⟩
      ·rw [decide_eq_false (λz=>c2 (V.int.inj z))]
       exact br (br (bz ⟨_,_,rfl,g13⟩))
     ·rw [decide_eq_false (λz=>c1 (V.str.inj z))]
      refine br (br (bz ?_))
      dsimp only
      refine dq ?_
      refine⟨_,rfl,x',_,0,V.str l.1,rfl,rfl,SqT.of hl,rfl,_,rfl,y',_,0,V.str b.1,rfl,rfl,SqT.of hb,rfl,rfl,_,rfl,?_⟩
      rw [decide_eq_false (λz=>c1 (V.str.inj z))]
      exact br (br (bz ⟨_,_,rfl,g13⟩))
  ·rintro i σ H2 ⟨v1,v2,rfl,g2⟩
   dsimp only
   exact bT (q H2 (g1.trans g2))
noncomputable abbrev ja:Stmt:=top 58
theorem sZ (B:Bk) (bs:List aE):(valsB B bs).length<=bs.length:=by
 refine iE (p:=λbs=>(valsB B bs).length<=bs.length) (Nat.le_refl _) (λbs b ih=>?_) bs
 rw [dM,List.length_append]
 have:=ow (valsB B bs) (cR B b)
 show _<=bs.length+1
 split <;> omega
theorem uZ {K:PySem.W.Frag}{H:Hp}{a:Addr}{ps:List Addr}{bs:List aE}{k:Str}{σ:St}{sub:List Nat}{tt:TT}{te:TE}{Q:VK} (ha:H a=some (.lst (ps.map V.ref))) (hp:gz H ps bs) (hln:bs.length < 9000000)
  (htt:∀(x:Addr) (b:aE) (H2:Hp) (R:Bool->Hp->Prop),H2 x=some (.tup (ck b))->R (decide (b.1=k)) H2->tt (some (.ref x)::bN sub σ) H2 R) (hte:∀(x:V) (H2:Hp) (R:VK),R x H2->te (some x::bN sub σ) H2 R)
  (hq:∀(D:Addr) (as:List Addr),H D=none->gz H as (bs.filter λc=>decide (c.1=k))->Q (.ref D) (upd H D (.lst (as.map V.ref)))):oV (Itl K a) sub tt te σ Q H:=by
 intro D nD
 have hlp:=cF hp
 refine jq (K:=K) (a:=a) (sub:=sub) (tt:=tt) (te:=te) (σ:=σ) (xs:=ps.map V.ref) (Q:=Q) (λi ys H2=>∃as:List Addr,ys=as.map V.ref/\H2=upd H D (.lst (as.map V.ref))/\gz H as ((bs.take i).filter λc=>decide (c.1=k)))
  ⟨[],rfl,rfl,.nil⟩ (λi ys H2 _ hh=>?_) ?_ ?_
 ·obtain⟨_,_,rfl,_⟩:=hh
  exact SqL.of (by rw [ag (af ha nD)];exact ha)
 ·rintro i x ys H2 hi ⟨as,rfl,rfl,hR⟩
  rw [List.getElem?_map]at hi
  cases ep:ps[i]? with
  | none=>rw [ep]at hi;cases hi
  | some x'=>
   rw [ep]at hi
   cases hi
   obtain⟨r,er,ht0,mr⟩:=dA hp ep
   refine htt x' r _ _ (by rw [ag (af ht0 nD)];exact ht0) ?_
   have et:(bs.take (i+1)).filter (λc=>decide (c.1=k))=(bs.take i).filter (λc=>decide (c.1=k))++if decide (r.1=k)=true then [r] else []:=by
    rw [Strip.take_snoc er,List.filter_append]
    congr 1
    rw [List.filter_cons]
    rfl
   cases hd:decide (r.1=k) with
   | true=>
    refine cg (hte _ _ _ ⟨ad,?_,as++[x'],?_,?_,?_⟩)
    ·rw [List.length_map,cF hR]
     have:=List.length_filter_le (λc:aE=>decide (c.1=k)) (bs.take i)
     rw [List.length_take]at this
     exact Nat.lt_of_lt_of_le (show _ < 9000000 by omega) (by decide)
    ·rw [List.map_append];rfl
    ·rw [gE,List.map_append];rfl
    ·rw [et,hd,if_pos rfl]
     exact fh ht0 mr hR
   | false=>
    refine br ⟨as,rfl,rfl,?_⟩
    rw [et,hd,if_neg (by decide),List.append_nil]
    exact hR
 ·rintro ys Hc ⟨as,rfl,rfl,hR⟩
  rw [List.length_map,hlp,List.take_length]at hR
  exact hq D as nD hR
theorem nJ {C p:Addr}{a:BA}{F:Addr->Prop}{B:Bk}{k:Str}{v:V}{t:Nat}{H:Hp}{Q:VK}{E:XK} (h:BkT C H p a F B) (hk:k∈B.ks) (ht:t<=B.ds.length) (hv:(v=.non/\t=B.ds.length)\/v=.int (t:Int)) (q:∀(l:Addr) (ps:List Addr) (rs:List aH),H l=none->bM H ps rs->Strip.Tidy rs->bQ rs->(∀x,Strip.dayOf rs x=(B.spk k t x).map V.int)->Q (.ref l) (upd H l (.lst (ps.map V.ref)))):eE C [.ref p,.str k,v] H Q E:=⟨p,a,F,B,k,v,t,rfl,h,hk,ht,hv,q⟩
theorem pX {C L p:Addr}{a:BA}{F:Addr->Prop}{B:Bk}{v1 v2:V}{t u:Nat}{H:Hp}{Q:VK}{E:XK} (l:Lm L H) (h:BkAt C H p a F B) (hF:∀b,F b->b≠L) (T1:Turn B v1 t) (T2:Turn B v2 u) (q:∀(d:Addr) (bs:List aE) (H':Hp),H d=none->Gm L H H'->cx H' d bs->Boxes B t u B.ks bs->bs.length<=6000000->Q (.ref d) H'):dO C L [.ref p,v1,v2] H Q E:=⟨p,a,F,B,v1,v2,t,u,rfl,l,h,hF,T1,T2,q⟩
theorem pW {C L p:Addr}{a:BA}{F:Addr->Prop}{B:Bk}{v1 v2:V}{t u:Nat}{H:Hp}{Q:VK}{E:XK} (l:Lm L H) (h:BkAt C H p a F B) (hF:∀b,F b->b≠L) (T1:Turn B v1 t) (T2:Turn B v2 u) (q:∀(d:Addr) (bs:List aE) (H':Hp),H d=none->Gm L H H'->cx H' d (valsB B bs)->Boxes B t u B.ks bs->Q (.ref d) H'):iW C L [.ref p,v1,v2] H Q E:=⟨p,a,F,B,v1,v2,t,u,rfl,l,h,hF,T1,T2,q⟩
theorem pY {L a:Addr}{bs:List aE}{H:Hp}{Q:VK}{E:XK} (l:Lm L H) (h:cx H a bs) (hl:bs.length < 9000000) (q:∀(d:Addr) (H':Hp),H d=none->Gm L H H'->cx H' d (bs.map swB)->Q (.ref d) H'):kF L [.ref a] H Q E:=⟨a,bs,rfl,l,h,hl,q⟩
theorem xb {T a b:Addr}{rs:List aH}{bs:List aE}{H:Hp}{Q:VK}{E:XK} (l:Lm T H) (h1:aS H a rs) (h2:cx H b bs) (td:Strip.Tidy rs) (i:bQ rs) (ok:∀x∈bs,oW x) (q:∀(d:Addr) (acc:List aH) (H':Hp),H d=none->Gm T H H'->aS H' d acc->Strip.Tidy acc->(∀n,Strip.dayOf acc n=Strip.boxG rs bs n)->acc.length<=400->Q (.ref d) H'):kC T [.ref a,.ref b] H Q E:=⟨a,b,rs,bs,rfl,l,h1,h2,td.up.disj,i,fY td.up i,ok,q⟩
theorem uK {C p x y ta:Addr}{a:BA}{F:Addr->Prop}{B:Bk}{bs:List aE}{k:Str}{d:Int}{t u:Nat}{H:Hp}{Q:VK}{E:XK} (h:BkAt C H p a F B) (hx:cx H x bs) (hy:cx H y (valsB B bs)) (e:H ta=some (.tup [.int (t:Int),.int (u:Int)])) (hk:k∈B.ks) (d0:0<=d) (d1:d < 400) (ht:t<=B.ds.length) (hu:u<=B.ds.length) (hB:Boxes B t u B.ks bs) (q:∀H',aA H H'->Q (.bl true) H'):kG C [.ref p,.ref x,.ref y,.str k,.int d,.ref ta] H Q E:=
 ⟨p,a,F,B,x,y,ta,bs,valsB B bs,k,d,t,u,rfl,h,hx,hy,e,hk,d0,d1,ht,hu,sV hB h.ok.nd hk d0 d1,t7 hB h.ok.nd hk d0 d1,q⟩
noncomputable def jO (C L:Addr):Sp:=λvs H Q _=>∃(p:Addr) (a:BA) (F:Addr->Prop) (s:SA) (B:Bk) (t u:Nat) (c:Int),vs=[.ref p,.ref s.d,.int (t:Int),.int (u:Int),.int c]/\Lm L H/\BkAt C H p a F B/\(∀b,F b->b≠L)/\StAt H s B/\t<=B.ds.length/\u<=B.ds.length/\∀H',Gm L H H'->Q (.bl true) H'
theorem cq:FnScope ["_law_book", "_law_state_here", "_law_one", "_law_other", "_law_cell_here", "_law_boxes", "_law_values", "_law_key", "_law_some", "_law_k", "_law_day", "_law_first", "_law_last", "_law_number", "_law_more"] ["_law_book", "_law_state_here", "_law_one", "_law_other", "_law_cell_here"] (ah ja):=⟨rfl,rfl,rfl,by decide +kernel,rfl,by decide +kernel,by decide +kernel⟩
theorem uo {f f1 f2 f3 f4 f5 f6 f7 f8 C L:Addr}{fd:FuncData} (F:Fun K "_law_right" "_law_right" ja f fd) (N:Free mg){fd1:FuncData} (CU:Cal P w K mg base "unlike" 7 ["book", "one", "other"] (dO C L) f1 fd1){fd2:FuncData} (CV:Cal P w K mg base "unlike_values" 8 ["book", "one", "other"] (iW C L) f2 fd2){fd3:FuncData} (CW:Cal P w K mg base "read_with" 4 ["strip", "boxes"] (kC L) f3 fd3){fd4:FuncData} (CX:Cal P w K mg base "_law_exchanged" 1 ["_law_boxes"] (kF L) f4 fd4){fd5:FuncData} (CA:Cal P w K mg base "_law_apart" 1 ["_law_boxes"] jT f5 fd5){fd6:FuncData} (CD:Cal P w K mg base "_law_draw" 2 ["_law_cell_here", "_law_k", "_law_many"] fj f6 fd6){fd7:FuncData} (CY:Cal P w K mg base "_law_day_right" 5 ["_law_book", "_law_boxes", "_law_values", "_law_key", "_law_day", "_law_turns"] (kG C) f7 fd7){fd8:FuncData} (T2:MC P w K mg base C "table" 3 ["self", "key", "turn"] [] [] (eE C) f8 fd8):FnOk P w K mg base CX0 9 f fd ["_law_book", "_law_state_here", "_law_one", "_law_other", "_law_cell_here"] (jO C L):=by
 refine F.ok (k:=8) cq (λvs H Q E h=>?_) (λcdv A outer s H vs Q E hr h=>?_)
 ·obtain⟨p,a,F,s,B,t,u,c,rfl,_⟩:=h
  rfl
 ·obtain⟨p,a,F,s,B,t,u,c,rfl,LL,h,hF,hs,ht,hu',q⟩:=h
  have hu:=bu hr
  refine⟨_,(aj (aI (i:=5) cq.nd rfl (Or.inl rfl) (am CU.ok (hr.mono (by decide)) rfl CU.nm CU.kp CU.bd .nil ao (aa (pv 0) (aa (pv 2) (aa (pv 3) ae)))))
   (aj (aI (i:=6) cq.nd rfl (Or.inl rfl) (am CV.ok (hr.mono (by decide)) rfl CV.nm CV.kp CV.bd .nil ao (aa (pv 0) (aa (pv 2) (aa (pv 3) ae)))))
   (aj (bp (PW.pt (u7 (cI (cC (am CA.ok (hr.mono (by decide)) rfl CA.nm CA.kp CA.bd .nil ao (aa (pv 5) ae)))) (u7 (cI (cC (am CA.ok (hr.mono (by decide)) rfl CA.nm CA.kp CA.bd .nil ao (aa (pv 6) ae)))) (u6 (aQ (iL hr.units) (am CU.ok (hr.mono (by decide)) rfl CU.nm CU.kp CU.bd .nil ao (aa (pv 0) (aa (pv 3) (aa (pv 2) ae)))) (am CX.ok (hr.mono (by decide)) rfl CX.nm CX.kp CX.bd .nil ao (aa (pv 5) ae)) (aN _)))))) (al (aB eJ)) aG)
   (aj (bp (aQ (iL hr.units) (am CV.ok (hr.mono (by decide)) rfl CV.nm CV.kp CV.bd .nil ao (aa (pv 0) (aa (pv 3) (aa (pv 2) ae)))) (am CX.ok (hr.mono (by decide)) rfl CX.nm CX.kp CX.bd .nil ao (aa (pv 6) ae)) (aN _)) (al (aB eJ)) aG)
   (aj (bU PassesOwn.never rfl (bD (bZ hu (pv 1) bL (λ_ _=>rfl))) (ay (i:=7) cq.nd rfl (Or.inr rfl))
   (aj (nA (i:=8) cq.nd rfl (Or.inl rfl) (da rfl (bD (pv 5)) rfl rfl (by show ∀p∈_,jI [Str.ofString "_law_key"] p;decide) (by decide) rfl (by show ([Str.ofString "_law_box", Str.ofString "_law_key"]:List Str).Nodup;decide) (.cons (i:=7) rfl (.inr (.inl rfl)) (by show (some NameKind.cell)≠some NameKind.local;decide) (.inl rfl) rfl .nil) (λC fp s H=>(qD (aQ dF (aM (r:=yH K) aY (pv 0) ai (λ_ _=>rfl)) (pv 1) (aN _)))) (λC fp s H=>(pv 0))))
   (aj (bp (aQ (mx hr.units) (am CW.ok (hr.mono (by decide)) rfl CW.nm CW.kp CW.bd .nil ao (aa (bi (pv 0) T2.cl T2.mt T2.ok (hr.mono (by decide)) T2.bd T2.dv ao (aa (pv 7) (aa (pv 2) ae))) (aa (pv 8) ae))) (bi (pv 0) T2.cl T2.mt T2.ok (hr.mono (by decide)) T2.bd T2.dv ao (aa (pv 7) (aa (pv 3) ae))) (aN _)) (al (aB eJ)) aG)
   (aj (bp (aQ (mx hr.units) (am CW.ok (hr.mono (by decide)) rfl CW.nm CW.kp CW.bd .nil ao (aa (bi (pv 0) T2.cl T2.mt T2.ok (hr.mono (by decide)) T2.bd T2.dv ao (aa (pv 7) (aa (pv 3) ae))) (aa (am CX.ok (hr.mono (by decide)) rfl CX.nm CX.kp CX.bd .nil ao (aa (pv 8) ae)) ae))) (bi (pv 0) T2.cl T2.mt T2.ok (hr.mono (by decide)) T2.bd T2.dv ao (aa (pv 7) (aa (pv 2) ae))) (aN _)) (al (aB eJ)) aG)
   (al (bU PassesOwn.never rfl (fb rfl N.range (aa ai ae)) (ay (i:=9) cq.nd rfl (Or.inl rfl))
   (aj (aI (i:=10) cq.nd rfl (Or.inl rfl) (am CD.ok (hr.mono (by decide)) rfl CD.nm CD.kp CD.bd .nil ao (aa (pv 4) (aa (aF bJ ai (pv 9)) (aa (aM bA (bx (aa ai (aa ai ae))) (aF dC (pv 9) ai) (λ_ _=>rfl)) ae)))))
   (al (bp (cI (cC (am CY.ok (hr.mono (by decide)) rfl CY.nm CY.kp CY.bd .nil ao (aa (pv 0) (aa (pv 5) (aa (pv 6) (aa (pv 7) (aa (pv 10) (aa (bC (aa (pv 2) (aa (pv 3) ae))) ae))))))))) (al (aB eJ)) aG)))))))))
   (aj (bU PassesOwn.never rfl (bD (vR (by decide) (pv 5) ai)) (cD rfl (aq (ay (i:=7) cq.nd rfl (Or.inr rfl)) (aq (ay (i:=11) cq.nd rfl (Or.inl rfl)) (aq (ay (i:=12) cq.nd rfl (Or.inl rfl)) (aq (ay (i:=13) cq.nd rfl (Or.inl rfl)) (aq (ay (i:=14) cq.nd rfl (Or.inl rfl)) bS))))))
   (al (bU PassesOwn.never rfl (bD (bx (aa (pv 11) (aa (pv 12) (aa (aJ (jr rfl) (by rfl) N.max PyProof.Rows.Boot.«max» (aa ai (aa (aF jk (pv 11) ai) ae))) (aa (aJ (gX rfl) (by rfl) N.min PyProof.Rows.Boot.«min» (aa ai (aa (aF bJ (pv 12) ai) ae))) ae)))))) (ay (i:=10) cq.nd rfl (Or.inl rfl))
   (al (bp (cI (cC (am CY.ok (hr.mono (by decide)) rfl CY.nm CY.kp CY.bd .nil ao (aa (pv 0) (aa (pv 5) (aa (pv 6) (aa (pv 7) (aa (pv 10) (aa (bC (aa (pv 2) (aa (pv 3) ae))) ae))))))))) (al (aB eJ)) aG)))))
   (al (aB eJ)))))))),?_⟩
  obtain⟨pL,hL⟩:=LL.tbl
  obtain⟨dx,ho⟩:=h.ob
  have O:=h.ok
  have bkG:∀{H2:Hp},Gm L H H2->BkAt C H2 p a F B:=λg=>h.keep ⟨λb o f e=>g.same b o (hF b f) e,λb xs e=>g.tup LL e,λb c dx fs e=>g.same b _ (aD e hL (by intro z;cases z)) e⟩
  have hoG:∀{H2:Hp},Gm L H H2->H2 p=some (.ins C dx (cW a)):=λg=>g.same p _ (aD ho hL (by intro z;cases z)) ho
  have stG:∀{H2:Hp},Gm L H H2->StAt H2 s B:=λg=>hs.keep (λb o sa e=>g.same b o (by
   rcases hs.kind sa with⟨ys,z⟩ | ⟨ys,z⟩
   ·exact aD z hL (by intro z;cases z)
   ·exact aD z hL (by intro z;cases z)) e) λb xs e=>g.tup LL e
  have gG:∀{H1 H2 H3:Hp},Gm L H1 H2->aA H2 H3->Gm L H1 H3:=λg w=>⟨λb o n e=>w _ _ (g.same b o n e),bP g.lam λb o e _ _=>w _ _ e⟩
  have T1:Turn B (.int (t:Int)) t:=⟨ht,.inr rfl⟩
  have T2':Turn B (.int (u:Int)) u:=⟨hu',.inr rfl⟩
  refine cr λZ1 hZ1=>(bh ⟨_,rfl,_,rfl,_,rfl,?_⟩)
  try dsimp only [cn,List.cons_append,List.nil_append,List.append_nil]
  refine pX LL h hF T1 T2' λdb bs H1 ndb g1 hbs hB hl6=>?_
  dsimp only [aO]
  refine hZ1 _ _ ?_
  refine cr λZ2 hZ2=>(bh ⟨_,rfl,_,rfl,_,rfl,?_⟩)
  try dsimp only [cn,List.cons_append,List.nil_append,List.append_nil]
  refine pW g1.lam (bkG g1) hF T1 T2' λdv bs' H2 ndv g2 hvs hB'=>?_
  obtain rfl:=lz hB hB'
  have g02:=g1.trans g2
  have hbs2:=g2.boxL g1.lam hbs
  dsimp only [aO]
  refine hZ2 _ _ ?_
  have nd:=O.nd
  have Ap:=yS (gx hB nd)
  have Vi:=o6 B bs (λb hb=>(fg hB b hb).2.1) ((gx hB nd).imp λx=>x.1)
  have hvl:=sZ B bs
  have boG:∀{H2 H3:Hp}{z:Addr}{cs:List aE},cx H2 z cs->aA H2 H3->cx H3 z cs:=λhz g=>fi hz (λxs e=>g _ _ e) λc xs e=>g _ _ e
  refine cr λZ3 hZ3=>(dq ?_)
  refine⟨_,rfl,db,bs,rfl,hbs2,Ap,λH3 g3=>⟨_,rfl,br ?_⟩⟩
  refine⟨_,rfl,dv,valsB B bs,rfl,boG hvs g3,Vi.ap,λH4 g4=>⟨_,rfl,br ?_⟩⟩
  have g04:=gG g02 (g3.trans g4)
  have hbs4:=boG hbs2 (g3.trans g4)
  have hvs4:=boG hvs (g3.trans g4)
  refine⟨_,rfl,_,rfl,_,rfl,?_⟩
  try dsimp only [cn,List.cons_append,List.nil_append,List.append_nil]
  refine pX g04.lam (bkG g04) hF T2' T1 λd5 bs5 H5 nd5 g5 h5 hB5 hl5=>?_
  obtain rfl:bs5=bs.map swB:=lz hB5 (fD hB)
  have g05:=g04.trans g5
  have hbs5:=g5.boxL g04.lam hbs4
  have hvs5:=g5.boxL g04.lam hvs4
  refine⟨_,rfl,?_⟩
  try dsimp only [cn,List.cons_append,List.nil_append,List.append_nil]
  refine pY g05.lam hbs5 (by omega) λd6 H6 nd6 g6 h6=>?_
  have h56:=g6.boxL g05.lam h5
  have g06:=g05.trans g6
  have hbs6:=g6.boxL g05.lam hbs5
  have hvs6:=g6.boxL g05.lam hvs5
  refine⟨_,_,(cc h56).1,(cc h6).1,(cc h56).2,(cc h6).2,true,⟨λ_=>rfl,λ_=>rfl⟩,_,rfl,br (bz ?_)⟩
  dsimp only
  refine hZ3 _ _ ?_
  refine cr λZ4 hZ4=>(dq ?_)
  refine⟨_,rfl,_,rfl,_,rfl,?_⟩
  try dsimp only [cn,List.cons_append,List.nil_append,List.append_nil]
  refine pW g06.lam (bkG g06) hF T2' T1 λd7 bs7 H7 nd7 g7 h7 hB7=>?_
  obtain rfl:bs7=bs.map swB:=lz hB7 (fD hB)
  rw [qX]at h7
  have g07:=g06.trans g7
  have hbs7:=g7.boxL g06.lam hbs6
  have hvs7:=g7.boxL g06.lam hvs6
  refine⟨_,rfl,?_⟩
  try dsimp only [cn,List.cons_append,List.nil_append,List.append_nil]
  refine pY g07.lam hvs7 (by omega) λd8 H8 nd8 g8 h8=>?_
  have h78:=g8.boxL g07.lam h7
  have g08:=g07.trans g8
  have hbs8:=g8.boxL g07.lam hbs7
  have hvs8:=g8.boxL g07.lam hvs7
  refine⟨_,_,(cc h78).1,(cc h8).1,(cc h78).2,(cc h8).2,true,⟨λ_=>rfl,λ_=>rfl⟩,_,rfl,br (bz ?_)⟩
  dsimp only
  refine hZ4 _ _ ?_
  clear g1 g2 g3 g4 g5 g6 g7 g8 hbs hvs hbs2 hbs4 hvs4 hbs5 hvs5 hbs6 hvs6 hbs7 hvs7 h5 h56 h6 h7 h78 h8 g02 g04 g05 g06 g07 hB' hB5 hB7 hl5 ndb ndv nd5 nd6 nd7 nd8
  have hk8:=(stG g08).hk
  refine cr λZ5 hZ5=>?_
  refine⟨_,rfl,s.d,_,rfl,(stG g08).d_k,s.k,rfl,⟨_,SqL.of hk8⟩,bF (K:=K) (a:=s.k) (xs:=B.ks.map V.str) (λi σ H9=>∃v7 v8 v9 v10 v11 v12 v13 v14:Option V,σ=[some (.ref p),some (.ref s.d),some (.int (t:Int)),some (.int (u:Int)),some (.int c),some (.ref db),some (.ref dv),v7,v8,v9,v10,v11,v12,v13,v14]/\Gm L H8 H9)
   ⟨none,none,none,none,none,none,none,none,rfl,Go.refl g08.lam⟩ (λi σ H9 _ hh=>?_) ?_ ?_⟩
  ·obtain⟨_,_,_,_,_,_,_,_,_,g⟩:=hh
   exact SqL.of (g.lst g08.lam hk8)
  ·rintro i y σ H9 hi ⟨v7,v8,v9,v10,v11,v12,v13,v14,rfl,g9⟩
   rw [List.getElem?_map]at hi
   cases ekk:B.ks[i]? with
   | none=>rw [ekk]at hi;cases hi
   | some k=>
    rw [ekk]at hi
    cases hi
    have hkm:=List.mem_of_getElem? ekk
    have g09:=g08.trans g9
    have hbs9:=g9.boxL g08.lam hbs8
    have hvs9:=g9.boxL g08.lam hvs8
    obtain⟨ps,edb,hps⟩:=id hbs9
    dsimp only [aO]
    refine cr λZ6 hZ6=>(bh (iF ?_))
    refine⟨_,rfl,db,rfl,⟨_,SqL.of edb⟩,uZ (k:=k) edb hps (by omega) (λx b H2 R hx hR=>⟨_,rfl,x,_,0,V.str b.1,rfl,rfl,SqT.of hx,rfl,_,rfl,rfl,?_⟩) (λx H2 R hR=>⟨_,rfl,hR⟩) λds as nds has=>?_⟩
    ·have e:decide (V.str b.1=V.str k)=decide (b.1=k):=by
      by_cases z:b.1=k
      ·rw [decide_eq_true z,decide_eq_true (show V.str b.1=V.str k by rw [z])]
      ·rw [decide_eq_false z,decide_eq_false λe=>z (V.str.inj e)]
     rw [e]
     exact⟨_,rfl,hR⟩
    ·have hmem:∀x∈bs.filter (λc=>decide (c.1=k)),oW x:=λx hx=>fg hB x (List.mem_filter.mp hx).1
     have ga:Gm L H9 (upd H9 ds (.lst (as.map V.ref))):=Go.new g9.lam nds
     have hsm:cx (upd H9 ds (.lst (as.map V.ref))) ds (bs.filter λc=>decide (c.1=k)):=⟨as,ad,de has λc xs e=>ga.tup g9.lam e⟩
     have hfl:=List.length_filter_le (λc:aE=>decide (c.1=k)) bs
     generalize upd H9 ds (.lst (as.map V.ref))=Ha at ga hsm
     have g0a:=g09.trans ga
     dsimp only [aO]
     refine hZ6 _ _ ?_
     refine cr λZ7 hZ7=>(dq ?_)
     refine⟨_,rfl,p,dx,_,rfl,hoG g0a,bK a (by decide +kernel) (by decide +kernel) (by decide +kernel) (by decide +kernel) (by decide +kernel),_,rfl,_,rfl,?_⟩
     try dsimp only [cn,List.cons_append,List.nil_append,List.append_nil]
     refine nJ (bkG g0a).toT hkm ht (.inr rfl) λl1 ps1 rs1 nl1 hp1 td1 i41 dy1=>?_
     have gb:Gm L Ha (upd Ha l1 (.lst (ps1.map V.ref))):=Go.new g0a.lam nl1
     have r1:aS (upd Ha l1 (.lst (ps1.map V.ref))) l1 rs1:=⟨ps1,ad,bv hp1 λ_ _ e=>gb.tup g0a.lam e⟩
     generalize upd Ha l1 (.lst (ps1.map V.ref))=Hb at gb r1
     have g0b:=g0a.trans gb
     have hsmb:=gb.boxL g0a.lam hsm
     refine⟨_,rfl,?_⟩
     try dsimp only [cn,List.cons_append,List.nil_append,List.append_nil]
     refine xb g0b.lam r1 hsmb td1 i41 hmem λdc acc Hc ndc gc hacc tdc dyc hlc=>?_
     have g0c:=g0b.trans gc
     refine⟨_,rfl,p,dx,_,rfl,hoG g0c,bK a (by decide +kernel) (by decide +kernel) (by decide +kernel) (by decide +kernel) (by decide +kernel),_,rfl,_,rfl,?_⟩
     try dsimp only [cn,List.cons_append,List.nil_append,List.append_nil]
     refine nJ (bkG g0c).toT hkm hu' (.inr rfl) λl2 ps2 rs2 nl2 hp2 td2 i42 dy2=>?_
     have gd:Gm L Hc (upd Hc l2 (.lst (ps2.map V.ref))):=Go.new g0c.lam nl2
     have r2:aS (upd Hc l2 (.lst (ps2.map V.ref))) l2 rs2:=⟨ps2,ad,bv hp2 λ_ _ e=>gd.tup g0c.lam e⟩
     generalize upd Hc l2 (.lst (ps2.map V.ref))=Hd at gd r2
     have g0d:=g0c.trans gd
     obtain rfl:acc=rs2:=Strip.tidy_unique tdc td2 λn=>by rw [dyc,kL hB nd hkm i41 i42 dy1 dy2]
     refine⟨dc,l2,acc,acc,rfl,rfl,gd.rows g0c.lam hacc,r2,true,⟨λ_=>rfl,λ_=>rfl⟩,_,rfl,br (bz ?_)⟩
     have gad:=(gb.trans gc).trans gd
     have hsmd:=gad.boxL g0a.lam hsm
     dsimp only
     refine hZ7 _ _ ?_
     refine cr λZ8 hZ8=>(dq ?_)
     refine⟨_,rfl,p,dx,_,rfl,hoG g0d,bK a (by decide +kernel) (by decide +kernel) (by decide +kernel) (by decide +kernel) (by decide +kernel),_,rfl,_,rfl,?_⟩
     try dsimp only [cn,List.cons_append,List.nil_append,List.append_nil]
     refine nJ (bkG g0d).toT hkm hu' (.inr rfl) λl3 ps3 rs3 nl3 hp3 td3 i43 dy3=>?_
     have ge:Gm L Hd (upd Hd l3 (.lst (ps3.map V.ref))):=Go.new g0d.lam nl3
     have r3:aS (upd Hd l3 (.lst (ps3.map V.ref))) l3 rs3:=⟨ps3,ad,bv hp3 λ_ _ e=>ge.tup g0d.lam e⟩
     generalize upd Hd l3 (.lst (ps3.map V.ref))=He at ge r3
     have g0e:=g0d.trans ge
     refine⟨_,rfl,?_⟩
     try dsimp only [cn,List.cons_append,List.nil_append,List.append_nil]
     refine pY g0e.lam (ge.boxL g0d.lam hsmd) (by omega) λd4 Hf nd4 gf h4=>?_
     have g0f:=g0e.trans gf
     have efs:(bs.filter λc=>decide (c.1=k)).map swB=(bs.map swB).filter λc=>decide (c.1=k):=by
      rw [List.filter_map];rfl
     rw [efs]at h4
     try dsimp only [cn,List.cons_append,List.nil_append,List.append_nil]
     refine xb g0f.lam (gf.rows g0e.lam r3) h4 td3 i43 (λx hx=>fg (fD hB) x (List.mem_filter.mp hx).1) λdg acc2 Hg ndg gg hacc2 tdg dyg hlg=>?_
     have g0g:=g0f.trans gg
     refine⟨_,rfl,p,dx,_,rfl,hoG g0g,bK a (by decide +kernel) (by decide +kernel) (by decide +kernel) (by decide +kernel) (by decide +kernel),_,rfl,_,rfl,?_⟩
     try dsimp only [cn,List.cons_append,List.nil_append,List.append_nil]
     refine nJ (bkG g0g).toT hkm ht (.inr rfl) λl5 ps5 rs5 nl5 hp5 td5 i45 dy5=>?_
     have gh:Gm L Hg (upd Hg l5 (.lst (ps5.map V.ref))):=Go.new g0g.lam nl5
     have r5:aS (upd Hg l5 (.lst (ps5.map V.ref))) l5 rs5:=⟨ps5,ad,bv hp5 λ_ _ e=>gh.tup g0g.lam e⟩
     generalize upd Hg l5 (.lst (ps5.map V.ref))=Hh at gh r5
     have g0h:=g0g.trans gh
     obtain rfl:acc2=rs5:=Strip.tidy_unique tdg td5 λn=>by rw [dyg,kL (fD hB) nd hkm i43 i45 dy3 dy5]
     refine⟨dg,l5,acc2,acc2,rfl,rfl,gh.rows g0g.lam hacc2,r5,true,⟨λ_=>rfl,λ_=>rfl⟩,_,rfl,br (bz ?_)⟩
     have g9h:Gm L H8 Hh:=(g9.trans ga).trans ((gad.trans ge).trans ((gf.trans gg).trans gh))
     have hbsh:=g9h.boxL g08.lam hbs8
     have hvsh:=g9h.boxL g08.lam hvs8
     dsimp only
     refine hZ8 _ _ ?_
     clear gb gc gd ge gf gg gh r1 r2 r3 r5 hacc hacc2 h4 hsm hsmb hsmd dyc dyg dy1 dy2 dy3 dy5 td2 td5 td3 td1
     refine⟨_,rfl,by decide,by decide,?_⟩
     refine sF (lo:=0) (n:=4) (λj σ Hi=>∃v9 v10:Option V,σ=[some (.ref p),some (.ref s.d),some (.int (t:Int)),some (.int (u:Int)),some (.int c),some (.ref db),some (.ref dv),some (.str k),some (.ref ds),v9,v10,v11,v12,v13,v14]/\aA Hh Hi) ⟨_,_,rfl,aA.refl⟩ ?_ ?_
     ·rintro j σ Hi hj ⟨v9,v10,rfl,gi⟩
      dsimp only [aO]
      refine cr λZ9 hZ9=>(bh ?_)
      refine⟨_,rfl,_,rfl,_,_,rfl,rfl,by show 2<=sizeLine;decide,λlm nlm=>?_⟩
      have gj:aA Hi (upd Hi lm (.lst [.int 40,.int 400])):=aA.new nlm
      have elm:upd Hi lm (.lst [.int 40,.int 400]) lm=some (.lst [.int 40,.int 400]):=ad
      generalize upd Hi lm (.lst [.int 40,.int 400])=Hj at gj elm
      obtain⟨m,em,hm⟩:∃m:Int,atI [V.int 40,.int 400] ((0+(j:Int)) % 2)=some (.int m)/\0 < m/\m<=400:=by
       rcases Int.emod_two_eq (0+(j:Int)) with e | e
       ·rw [e];exact⟨40,rfl,by decide,by decide⟩
       ·rw [e];exact⟨400,rfl,by decide,by decide⟩
      refine⟨_,rfl,_,_,rfl,rfl,(by show (0:Int) < 2;decide),lm,_,_,.int m,rfl,rfl,SqL.of elm,em,?_⟩
      refine⟨c,_,m,rfl,by omega,by omega,hm.1,λd d0 d1=>?_⟩
      dsimp only [aO]
      refine hZ9 _ _ ?_
      have gij:=gi.trans gj
      refine dq ?_
      refine⟨_,rfl,_,rfl,_,rfl,_,rfl,_,rfl,_,rfl,_,rfl,by show 2<=sizeLine;decide,λta nta=>?_⟩
      have gk:aA Hj (upd Hj ta (.tup [.int (t:Int),.int (u:Int)])):=aA.new nta
      have eta:upd Hj ta (.tup [.int (t:Int),.int (u:Int)]) ta=some (.tup [.int (t:Int),.int (u:Int)]):=ad
      generalize upd Hj ta (.tup [.int (t:Int),.int (u:Int)])=Hk at gk eta
      have gik:=gij.trans gk
      try dsimp only [cn,List.cons_append,List.nil_append,List.append_nil]
      exact uK (bkG (gG g0h gik)) (boG hbsh gik) (boG hvsh gik) eta hkm d0 (by omega) ht hu' hB λHl gl=>⟨_,rfl,br (bz ⟨_,_,rfl,gik.trans gl⟩)⟩
     ·rintro σ Hi ⟨v9,v10,rfl,gi⟩
      exact⟨_,_,_,_,_,_,_,_,rfl,gG g9h gi⟩
  ·rintro σ H9 ⟨v7,v8,v9,v10,v11,v12,v13,v14,rfl,g9⟩
   have g09:=g08.trans g9
   have hbs9:=g9.boxL g08.lam hbs8
   have hvs9:=g9.boxL g08.lam hvs8
   obtain⟨ps,edb,hps⟩:=id hbs9
   dsimp only
   refine hZ5 _ _ ?_
   refine cr λZ10 hZ10=>?_
   refine⟨_,rfl,db,_,rfl,SqL.of edb,λp4 n4=>?_⟩
   have ga:aA H9 (upd H9 p4 (.lst (iK 4 (ps.map V.ref)))):=aA.new n4
   have e4:upd H9 p4 (.lst (iK 4 (ps.map V.ref))) p4=some (.lst (iK 4 (ps.map V.ref))):=ad
   generalize upd H9 p4 (.lst (iK 4 (ps.map V.ref)))=Ha at ga e4
   refine⟨p4,rfl,⟨_,SqL.of e4⟩,bF (K:=K) (a:=p4) (xs:=iK 4 (ps.map V.ref)) (λi σ Hb=>∃v7 v8 v9 v10 v11 v12 v13 v14:Option V,σ=[some (.ref p),some (.ref s.d),some (.int (t:Int)),some (.int (u:Int)),some (.int c),some (.ref db),some (.ref dv),v7,v8,v9,v10,v11,v12,v13,v14]/\aA Ha Hb)
    ⟨_,_,_,_,_,_,_,_,rfl,aA.refl⟩ (λi σ Hb _ hh=>?_) ?_ ?_⟩
   ·obtain⟨_,_,_,_,_,_,_,_,_,g⟩:=hh
    exact SqL.of (g _ _ e4)
   ·rintro i y σ Hb hi ⟨v7,v8,v9,v10,v11,v12,v13,v14,rfl,gb⟩
    obtain⟨x,hx,rfl⟩:=List.mem_map.mp (rK (List.mem_of_getElem? hi))
    obtain⟨jx,ejx⟩:=List.getElem?_of_mem hx
    obtain⟨b,eb,hxb,mb⟩:=dA hps ejx
    have hbm:=List.mem_of_getElem? eb
    have gab:=ga.trans gb
    have hxc:=gab _ _ hxb
    have hkm:=ip hB b hbm
    obtain⟨k0,k1,k2⟩:=fg hB b hbm
    refine⟨x,_,rfl,SqT.of hxc,rfl,_,_,rfl,_,_,rfl,_,_,rfl,_,_,rfl,_,_,rfl,rfl,?_⟩
    dsimp only
    refine⟨_,rfl,_,rfl,_,rfl,_,_,rfl,rfl,_,_,rfl,_,rfl,_,_,rfl,rfl,_,_,rfl,by show 4<=sizeLine;decide,λld nld=>?_⟩
    have hall:∀y∈([.int b.2.1,.int b.2.2.1,.int (if b.2.1 - 1 > 0 then b.2.1 - 1 else 0),.int (if b.2.2.1+1 < 399 then b.2.2.1+1 else 399)]:List V),∃d:Int,y=.int d/\0<=d/\d < 400:=λy hy=>by
     simp only [List.mem_cons,List.not_mem_nil,or_false]at hy
     rcases hy with rfl | rfl | rfl | rfl
     ·exact⟨_,rfl,by omega,by omega⟩
     ·exact⟨_,rfl,by omega,by omega⟩
     ·exact⟨_,rfl,by split <;> omega,by split <;> omega⟩
     ·exact⟨_,rfl,by split <;> omega,by split <;> omega⟩
    generalize ([.int b.2.1,.int b.2.2.1,.int (if b.2.1 - 1 > 0 then b.2.1 - 1 else 0),.int (if b.2.2.1+1 < 399 then b.2.2.1+1 else 399)]:List V)=xs at hall
    have gc:aA Hb (upd Hb ld (.lst xs)):=aA.new nld
    have eld:upd Hb ld (.lst xs) ld=some (.lst xs):=ad
    generalize upd Hb ld (.lst xs)=Hc at gc eld
    refine⟨ld,rfl,⟨_,SqL.of eld⟩,bF (K:=K) (a:=ld) (xs:=xs) (λi σ Hd=>∃v10:Option V,σ=[some (.ref p),some (.ref s.d),some (.int (t:Int)),some (.int (u:Int)),some (.int c),some (.ref db),some (.ref dv),some (.str b.1),v8,v9,v10,some (.int b.2.1),some (.int b.2.2.1),some b.2.2.2.1,some b.2.2.2.2]/\aA Hc Hd)
     ⟨_,rfl,aA.refl⟩ (λi σ Hd _ hh=>?_) ?_ ?_⟩
    ·obtain⟨_,_,g⟩:=hh
     exact SqL.of (g _ _ eld)
    ·rintro i' y σ Hd hi' ⟨v10,rfl,gd⟩
     obtain⟨d,rfl,d0,d1⟩:=hall y (List.mem_of_getElem? hi')
     dsimp only [aO]
     refine dq ?_
     refine⟨_,rfl,_,rfl,_,rfl,_,rfl,_,rfl,_,rfl,_,rfl,by show 2<=sizeLine;decide,λta nta=>?_⟩
     have gk:aA Hd (upd Hd ta (.tup [.int (t:Int),.int (u:Int)])):=aA.new nta
     have eta:upd Hd ta (.tup [.int (t:Int),.int (u:Int)]) ta=some (.tup [.int (t:Int),.int (u:Int)]):=ad
     generalize upd Hd ta (.tup [.int (t:Int),.int (u:Int)])=Hk at gk eta
     have gik:=gab.trans (gc.trans (gd.trans gk))
     try dsimp only [cn,List.cons_append,List.nil_append,List.append_nil]
     exact uK (bkG (gG g09 gik)) (boG hbs9 gik) (boG hvs9 gik) eta hkm d0 (d1) ht hu' hB λHl gl=>⟨_,rfl,br (bz ⟨_,rfl,gd.trans (gk.trans gl)⟩)⟩
    ·rintro σ Hd ⟨v10,rfl,gd⟩
     exact⟨_,_,_,_,_,_,_,_,rfl,gb.trans (gc.trans gd)⟩
   ·rintro σ Hb ⟨v7,v8,v9,v10,v11,v12,v13,v14,rfl,gb⟩
    dsimp only
    refine hZ10 _ _ ?_
    exact bT (q Hb (gG g09 (ga.trans gb)))
noncomputable abbrev ma:Stmt:=ca (top 41) 0
theorem jZ {C:Addr}{H:Hp}{x n dx:Addr}{o:HO}{fs fs':List (Str × V)} (hx:H x=some (.ins C dx fs)) (nn:H n=none) :
  upd H n o x=some (.ins C dx fs)/\upd (upd H n o) x (.ins C dx fs') x=some (.ins C dx fs')/\upd (upd H n o) x (.ins C dx fs') n=some o/\∀b u,H b=some u->b≠x->upd (upd H n o) x (.ins C dx fs') b=some u:=by
 have nx:x≠n:=af hx nn
 refine⟨by rw [ag nx];exact hx,ad,by rw [ag (Ne.symm nx),ad],λb u e h=>?_⟩
 rw [ag h,ag (af e nn)]
 exact e
theorem o9 {K:PySem.W.Frag}{σ:St}{H:Hp}{Q:VK}{a:Addr}{ks:List Str} (e0:σ[1]?=some (some (.ref a))) (ha:H a=some (.lst (ks.map V.str))) (hl:ks.length<=8)
  (hq:∀(D:Addr) (H':Hp) (ps:List Addr) (kvs:List (Key × V)),H D=none->aA H H'->H' D=some (.lst (ps.map V.ref))->Paired (λp (kv:Key × V)=>H' p=some (.tup [kV kv.1,kv.2])) ps kvs->kvs.map (·.1)=ks.map Sum.inr->(∀kv∈kvs,∃l,kv.2=.ref l/\H' l=some (.lst [])/\H l=none/\l≠D)->Q (.ref D) H') :
  kr (uL K (dN 1)) [] (λ_ H Q=>Q true H) (vo (cK (dN 0) (cK (tE cn) cn))) σ H Q:=by
 refine⟨_,e0,a,rfl,⟨_,SqL.of ha⟩,λD nD=>jq (K:=K) (a:=a) (xs:=ks.map V.str) (sub:=[]) (tt:=λ_ H Q=>Q true H) (te:=vo (cK (dN 0) (cK (tE cn) cn))) (Q:=Q) (σ:=σ)
  (λi ys H2=>∃(ps:List Addr) (kvs:List (Key × V)),ys=ps.map V.ref/\aA H H2/\H2 D=some (.lst ys)/\Paired (λp (kv:Key × V)=>H2 p=some (.tup [kV kv.1,kv.2])) ps kvs/\kvs.map (·.1)=(ks.take i).map Sum.inr/\(∀kv∈kvs,∃l,kv.2=.ref l/\H2 l=some (.lst [])/\H l=none/\l≠D))
  ⟨[],[],rfl,aA.new nD,ad,.nil,rfl,(λ_ h=>nomatch h)⟩ (λi ys H2 _ hh=>?_) (λi x ys H2 hi hh=>?_) λys H2 hh=>?_⟩
 ·obtain⟨_,_,_,g,_⟩:=hh
  exact SqL.of (g _ _ ha)
 ·obtain⟨ps,kvs,rfl,g,hD,pk,km,kl⟩:=hh
  rw [List.getElem?_map]at hi
  cases ek:ks[i]? with
  | none=>rw [ek]at hi;cases hi
  | some k=>
   rw [ek]at hi
   cases hi
   have hil:=(List.getElem?_eq_some_iff.mp ek).1
   refine cg ⟨_,rfl,Nat.zero_le _,λl nl=>⟨by show 2<=sizeLine;decide,λt nt=>?_⟩⟩
   have lD:l≠D:=λz=>by rw [z,hD]at nl;cases nl
   have tl:t≠l:=λz=>by rw [z,ad]at nt;cases nt
   have nt2:H2 t=none:=by rw [ag tl]at nt;exact nt
   have tD:t≠D:=λz=>by rw [z,hD]at nt2;cases nt2
   have st:∀b o,H2 b=some o->b≠D->upd (upd (upd H2 l (.lst [])) t (.tup [.str k,.ref l])) D (.lst (ps.map V.ref++[V.ref t])) b=some o:=λb o e n=>by
    rw [ag n,ag (af e nt2),ag (af e nl)];exact e
   have hps:ps.length<=8:=by
    have h1:ps.length=kvs.length:=Paired.length pk
    have h2:=congrArg List.length km
    rw [List.length_map,List.length_map,List.length_take]at h2
    omega
   refine⟨by rw [ag (Ne.symm tD),ag (Ne.symm lD)];exact hD,by rw [List.length_map];exact bB (by omega),ps++[t],kvs++[(Sum.inr k,.ref l)],by rw [List.map_append];rfl,λb o e=>st b o (g _ _ e) (af e nD),by rw [ad],?_,?_,λkv hkv=>?_⟩
   ·refine cm (Paired.mapP pk λp kv e=>st p _ e (aD e hD (by intro z;cases z))) ?_
    rw [ag tD,ad];rfl
   ·rw [List.map_append,km,List.take_add_one,ek,List.map_append];rfl
   ·rcases List.mem_append.mp hkv with hkv | hkv
    ·obtain⟨l',e1,e2,e3,e4⟩:=kl kv hkv
     exact⟨l',e1,st _ _ e2 e4,e3,e4⟩
    ·rw [List.mem_singleton.mp hkv]
     refine⟨l,rfl,by rw [ag lD,ag (Ne.symm tl),ad],?_,lD⟩
     cases eh:H l with
     | none=>rfl
     | some o=>rw [g _ _ eh]at nl;cases nl
 ·obtain⟨ps,kvs,rfl,g,hD,pk,km,kl⟩:=hh
  rw [List.length_map,List.take_length]at km
  exact hq D H2 ps kvs nD g hD pk km kl
noncomputable def ph (C:Addr):Sp:=λvs H Q _=>∃(x dx kl:Addr) (ks:List Str),vs=[.ref x,.ref kl]/\H x=some (.ins C dx [])/\H kl=some (.lst (ks.map V.str))/\1<=ks.length/\ks.length<=8/\ks.Nodup/\(∀k∈ks,jG k ii 8=true/\k.length < sizeLine/\Nm k)/\
 ∀(a:BA) (F:Addr->Prop) (H':Hp),(∀b,F b->H b=none)->(∀b o,H b=some o->b≠x->H' b=some o)->BkAt C H' x a F (Bk.new ks)->Q .non H'
theorem vm {kvs:List (Key × V)}{ks:List Str} (km:kvs.map (·.1)=ks.map Sum.inr){k:Str} (hk:k∈ks) (P:V->Prop) (h:∀kv∈kvs,P kv.2):∃v,valV kvs (Sum.inr k)=some v/\P v:=by
 have:(Sum.inr k:Key)∈kvs.map (·.1):=by rw [km];exact List.mem_map.mpr ⟨k,hk,rfl⟩
 obtain⟨kv,hkv,e⟩:=List.mem_map.mp this
 cases ev:valV kvs (Sum.inr k) with
 | none=>
  have h1:=fM (Sum.inr k:Key) kvs
  rw [ev]at h1
  have:(kvs.any λkv=>decide (kv.1=(Sum.inr k:Key)))=true:=List.any_eq_true.mpr ⟨kv,hkv,decide_eq_true e⟩
  rw [this]at h1;cases h1
 | some v=>
  refine⟨v,rfl,?_⟩
  unfold valV at ev
  obtain⟨p,ep,e2⟩:=Option.map_eq_some_iff.mp ev
  rw [<- e2]
  exact h p (List.mem_of_find?_eq_some ep)
theorem xx:FnScope ["self", "keys"] ["self", "keys"] (ah ma):=⟨rfl,rfl,rfl,by decide +kernel,rfl,by decide +kernel,by decide +kernel⟩
theorem wj {f C f1:Addr}{fd:FuncData} (F:Fun K "__init__" "Book.__init__" ma f fd) (N:Free mg) (T:BkC K C){fd1:FuncData} (CK:Cal P w K mg base "are_keys" 3 ["thing"] gJ f1 fd1):FnOk P w K mg base CX0 4 f fd ["self", "keys"] (ph C):=by
 refine F.ok (k:=3) xx (λvs H Q E h=>?_) (λcdv A outer s H vs Q E hr h=>?_)
 ·obtain⟨x,dx,kl,ks,rfl,_⟩:=h
  rfl
 ·obtain⟨x,dx,kl,ks,rfl,hx,hkl,k1,k8,nd,hk,q⟩:=h
  have hu:=bu hr
  refine⟨_,(aj (bp (cI (cC (am CK.ok (hr.mono (by decide)) rfl CK.nm CK.kp CK.bd .nil ao (aa (pv 1) ae)))) (al cE) aG)
   (aj (kO (pv 0) (ce cV (by rfl) N.list PyProof.Rows.Boot.«list» (aa (pv 1) ae)) rfl)
   (aj (kO (pv 0) (bx ae) rfl)
   (aj (kO (pv 0) oC rfl)
   (aj (kO (pv 0) (bx ae) rfl)
   (al (kO (pv 0) (bx (aa (ce (qg rfl) (by rfl) N.dict PyProof.Rows.Boot.«dict» (aa (kQ (da rfl (bD (pv 1)) rfl rfl (by show ∀p∈_,jI [] p;decide) (by decide) rfl (by show ([Str.ofString "key"]:List Str).Nodup;decide) .nil (λC fp s H=>eG) (λC fp s H=>(bC (aa (pv 0) (aa (bx ae) ae)))))) ae)) ae)) rfl))))))),?_⟩
  refine⟨_,rfl,kl,ks,rfl,hkl,k1,k8,nd,λk h=>⟨(hk k h).1,(hk k h).2.1⟩,λH0 g0=>⟨_,rfl,br ?_⟩⟩
  have hx0:=g0 _ _ hx
  have hk0:=g0 _ _ hkl
  have kx:kl≠x:=aD hkl hx (by intro z;cases z)
  refine⟨_,rfl,kl,_,rfl,.inl (SqL.of hk0),λn nn=>?_⟩
  obtain⟨a0,a1,a2,a3⟩:=jZ (fs':=aW "names" (.ref n) []) (o:=.lst (ks.map V.str)) hx0 nn
  refine⟨_,rfl,x,C,dx,_,rfl,a0,T.cl,T.n1,(by show 0 < 1000;decide),?_⟩
  have knx:n≠x:=λz=>by rw [z,hx0]at nn;cases nn
  have k1':=a3 _ _ hk0 kx
  generalize upd (upd H0 n (.lst (ks.map V.str))) x (.ins C dx (aW "names" (.ref n) []))=H1 at a1 a2 a3 k1' ⊢
  refine⟨Nat.zero_le _,λf nf=>?_⟩
  obtain⟨b0,b1,b2,b3⟩:=jZ (fs':=aW "findings" (.ref f) (aW "names" (.ref n) [])) (o:=.lst []) a1 nf
  refine⟨_,rfl,x,C,dx,_,rfl,b0,T.cl,T.n2,(by show 1 < 1000;decide),?_⟩
  have kfx:f≠x:=λz=>by rw [z,a1]at nf;cases nf
  have k2':=b3 _ _ k1' kx
  have n2':=b3 _ _ a2 knx
  generalize upd (upd H1 f (.lst [])) x (.ins C dx (aW "findings" (.ref f) (aW "names" (.ref n) [])))=H2 at b1 b2 b3 k2' n2' ⊢
  intro w nw
  obtain⟨c0,c1,c2,c3⟩:=jZ (fs':=aW "withdrawals" (.ref w) (aW "findings" (.ref f) (aW "names" (.ref n) []))) (o:=.dK []) b1 nw
  refine⟨_,rfl,x,C,dx,_,rfl,c0,T.cl,T.n3,?_,?_⟩
  ·have h1:=bE "findings" (V.ref f) (aW "names" (V.ref n) []);have h2:=bE "names" (V.ref n) [];simp only [List.length_nil]at h2;omega
  have kwx:w≠x:=λz=>by rw [z,b1]at nw;cases nw
  have k3':=c3 _ _ k2' kx
  have n3':=c3 _ _ n2' knx
  have f3':=c3 _ _ b2 kfx
  generalize upd (upd H2 w (.dK [])) x (.ins C dx (aW "withdrawals" (.ref w) (aW "findings" (.ref f) (aW "names" (.ref n) []))))=H3 at c1 c2 c3 k3' n3' f3' ⊢
  refine⟨Nat.zero_le _,λd nd'=>?_⟩
  obtain⟨d0,d1,d2,d3⟩:=jZ (fs':=aW "deeds" (.ref d) (aW "withdrawals" (.ref w) (aW "findings" (.ref f) (aW "names" (.ref n) [])))) (o:=.lst []) c1 nd'
  refine⟨_,rfl,x,C,dx,_,rfl,d0,T.cl,T.n4,?_,?_⟩
  ·have h0:=bE "withdrawals" (V.ref w) (aW "findings" (V.ref f) (aW "names" (V.ref n) []));have h1:=bE "findings" (V.ref f) (aW "names" (V.ref n) []);have h2:=bE "names" (V.ref n) [];simp only [List.length_nil]at h2;omega
  have kdx:d≠x:=λz=>by rw [z,c1]at nd';cases nd'
  have k4':=d3 _ _ k3' kx
  have n4':=d3 _ _ n3' knx
  have f4':=d3 _ _ f3' kfx
  have w4':=d3 _ _ c2 kwx
  have fr4:∀b o,H b=some o->b≠x->upd (upd H3 d (.lst [])) x (.ins C dx (aW "deeds" (.ref d) (aW "withdrawals" (.ref w) (aW "findings" (.ref f) (aW "names" (.ref n) []))))) b=some o:=λb o e h=>d3 _ _ (c3 _ _ (b3 _ _ (a3 _ _ (g0 _ _ e) h) h) h) h
  generalize upd (upd H3 d (.lst [])) x (.ins C dx (aW "deeds" (.ref d) (aW "withdrawals" (.ref w) (aW "findings" (.ref f) (aW "names" (.ref n) [])))))=H4 at d1 d2 d3 k4' n4' f4' w4' fr4 ⊢
  have fr4n:∀b,H4 b=none->b≠x->H b=none:=λb e h=>by
   cases eh:H b with
   | none=>rfl
   | some o=>rw [fr4 b o eh h]at e;cases e
  dsimp only
  refine xF (xE (jV (wY (jV ?_))))
  refine o9 rfl k4' k8 ?_
  intro D H5 ps kvs nD g5 hD pk km kl'
  refine⟨D,ps,kvs,rfl,hD,pk,?_,?_,λt0 nt0=>?_⟩
  ·rw [km];exact List.Pairwise.map Sum.inr (λa b h z=>h (Sum.inr.inj z)) nd
  ·have:=congrArg List.length km
   rw [List.length_map,List.length_map]at this
   omega
  refine⟨by show 1<=sizeLine;decide,λt nt=>?_⟩
  have x5:=g5 _ _ d1
  have xt0:x≠t0:=af x5 nt0
  have tt0:t≠t0:=λz=>by rw [z,ad]at nt;cases nt
  have nt5:H5 t=none:=by rw [ag tt0]at nt;exact nt
  have xt:x≠t:=af x5 nt5
  refine⟨_,rfl,x,C,dx,_,rfl,by rw [ag xt,ag xt0];exact x5,T.cl,T.n5,?_,?_⟩
  ·have h00:=bE "deeds" (V.ref d) (aW "withdrawals" (V.ref w) (aW "findings" (V.ref f) (aW "names" (V.ref n) [])));have h0:=bE "withdrawals" (V.ref w) (aW "findings" (V.ref f) (aW "names" (V.ref n) []));have h1:=bE "findings" (V.ref f) (aW "names" (V.ref n) []);have h2:=bE "names" (V.ref n) [];simp only [List.length_nil]at h2;omega
  have st6:∀b o,H5 b=some o->b≠x->upd (upd (upd H5 t0 (.dK kvs)) t (.lst [V.ref t0])) x (.ins C dx (aW "tables" (.ref t) (aW "deeds" (.ref d) (aW "withdrawals" (.ref w) (aW "findings" (.ref f) (aW "names" (.ref n) [])))))) b=some o:=λb o e h=>by
   rw [ag h,ag (af e nt5),ag (af e nt0)];exact e
  have f5:=g5 _ _ f4'
  have n5:=g5 _ _ n4'
  have w5:=g5 _ _ w4'
  have d5:=g5 _ _ d2
  have bn:∀{b o},H5 b=some o->b≠t:=λe=>af e nt5
  have none4:∀b,H4 b=none->H b=none:=λb e=>fr4n b e λz=>by rw [z,d1]at e;cases e
  have none5:∀b,H5 b=none->H b=none:=λb e=>none4 b (by
   cases e4:H4 b with
   | none=>rfl
   | some o=>rw [g5 b o e4]at e;cases e)
  have newn:H n=none:=by
   cases e:H n with
   | none=>rfl
   | some o=>rw [g0 n o e]at nn;cases nn
  have newf:H f=none:=by
   cases e:H f with
   | none=>rfl
   | some o=>rw [a3 f o (g0 f o e) kfx]at nf;cases nf
  have neww:H w=none:=by
   cases e:H w with
   | none=>rfl
   | some o=>rw [b3 w o (a3 w o (g0 w o e) kwx) kwx]at nw;cases nw
  have newd:H d=none:=by
   cases e:H d with
   | none=>rfl
   | some o=>rw [c3 d o (b3 d o (a3 d o (g0 d o e) kdx) kdx) kdx]at nd';cases nd'
  have fn:n≠f:=af a2 nf
  have dn:n≠d:=af n3' nd'
  have df:f≠d:=af f3' nd'
  have e6:aW "tables" (V.ref t) (aW "deeds" (.ref d) (aW "withdrawals" (.ref w) (aW "findings" (.ref f) (aW "names" (.ref n) []))))=cW ⟨n,f,w,d,t⟩:=yc ⟨n,f,w,d,t⟩
  have t06:upd (upd (upd H5 t0 (.dK kvs)) t (.lst [V.ref t0])) x (.ins C dx (aW "tables" (.ref t) (aW "deeds" (.ref d) (aW "withdrawals" (.ref w) (aW "findings" (.ref f) (aW "names" (.ref n) [])))))) t0=some (.dK kvs):=by rw [ag (Ne.symm xt0),ag (Ne.symm tt0),ad]
  refine q ⟨n,f,w,d,t⟩ (λb=>H b=none) _ (λb z=>z) (λb o e h=>st6 b o (g5 _ _ (fr4 b o e h)) h) ⟨⟨dx,by rw [ad,e6]⟩,st6 _ _ n5 knx,⟨[],st6 _ _ f5 kfx,.nil⟩,st6 _ _ w5 kwx,⟨[],st6 _ _ d5 kdx,.nil⟩,⟨[t0],?_,rfl,λi y hy=>?_⟩,⟨newn,newf,neww,newd,none5 t nt5⟩,λz=>?_,df,bn f5,bn d5,Bk.new_ok nd k1 k8 λk h=>(hk k h).2.2⟩
  ·show upd _ x _ t=_
   rw [ag (Ne.symm xt),ad];rfl
  ·have hi:i=0:=by
    have:=(List.getElem?_eq_some_iff.mp hy).1
    simp at this
    exact this
   subst hi
   cases (show some t0=some y from hy)
   refine⟨none5 t0 nt0,λz=>?_,kvs,t06,?_,λk hkk=>?_⟩
   ·rcases z with z | z | z | z
    ·exact(af f5 nt0) z.symm
    ·exact(af w5 nt0) z.symm
    ·exact(af d5 nt0) z.symm
    ·exact tt0 z.symm
   ·have:=congrArg List.length km
    rw [List.length_map,List.length_map]at this
    omega
   ·obtain⟨v,ev,l,rfl,e7,e8,e9⟩:=vm km hkk (λv=>∃l,v=.ref l/\H5 l=some (.lst [])/\H4 l=none/\l≠D) kl'
    have lx:l≠x:=aD e7 x5 (by intro z;cases z)
    refine⟨l,[],ev,none4 l e8,λz=>?_,dL (st6 _ _ e7 lx),Strip.tidy_nil,(λ_ h=>nomatch h),λd'=>rfl⟩
    rcases z with z | z | z | z
    ·exact(af f4' e8) z.symm
    ·exact(af w4' e8) z.symm
    ·exact(af d2 e8) z.symm
    ·exact(bn e7) z
  ·rcases z with z | z | z | z
   ·exact fn z
   ·exact(aD n5 w5 (by intro z;cases z)) z
   ·exact dn z
   ·exact(bn n5) z
end Mine
namespace L2
open PySem PySem.Spec PyProof.Rows
structure PR where
 p:Addr
 a:BA
 F:Addr->Prop
 s:SA
 B:Bk
noncomputable def PR.In (r:PR) (b:Addr):Prop:=r.F b\/r.s.At b
structure Duo (C L:Addr) (O:Addr->Prop) (Hk:Hp) (n:Nat) (R:Nat->PR) (H:Hp):Prop where
 pr:∀i,i < n->Pair C L H (R i).p (R i).a (R i).F (R i).s (R i).B
 di:∀i j,i < n->j < n->i≠j->∀b,(R i).In b->¬(R j).In b
 nw:∀i,i < n->∀b,(R i).In b->¬O b
 ok:∀b o,O b->Hk b=some o->H b=some o
 od:∀b,O b->Hk b≠none/\b≠L
theorem BkAt.kinds {C:Addr}{H:Hp}{p:Addr}{a:BA}{F:Addr->Prop}{B:Bk} (h:BkAt C H p a F B){b:Addr} (m:a.M b):(∃xs,H b=some (.lst xs))\/∃xs,H b=some (.dK xs):=by
 obtain⟨ps,e1,_⟩:=h.hf
 obtain⟨qs,e2,_⟩:=h.hd
 obtain⟨ts,e3,_,_⟩:=h.ht
 rcases m with m | m | m | m
 ·exact .inl ⟨_,by rw [m];exact e1⟩
 ·exact .inr ⟨_,by rw [m];exact h.hw⟩
 ·exact .inl ⟨_,by rw [m];exact e2⟩
 ·exact .inl ⟨_,by rw [m];exact e3⟩
theorem Pair.there {C L:Addr}{H:Hp}{r:PR} (h:Pair C L H r.p r.a r.F r.s r.B){b:Addr} (i:r.In b):H b≠none:=by
 rcases i with i | i
 ·exact(h.fd b i).1
 ·rcases h.st.kind i with⟨xs,e⟩ | ⟨xs,e⟩ <;> rw [e] <;> intro z <;> cases z
theorem Duo.grow {C L:Addr}{O:Addr->Prop}{Hk H H':Hp}{n:Nat}{R:Nat->PR} (D:Duo C L O Hk n R H) (g:∀b o,H b=some o->H' b=some o):Duo C L O Hk n R H':=
 ⟨λi hi=>(D.pr i hi).grow g,D.di,D.nw,λb o ob e=>g b o (D.ok b o ob e),D.od⟩
noncomputable def upR (R:Nat->PR) (w:Nat) (F':Addr->Prop) (B':Bk) (i:Nat):PR:=if i=w then ⟨(R w).p,(R w).a,F',(R w).s,B'⟩ else R i
theorem kj {R:Nat->PR}{w:Nat}{F':Addr->Prop}{B':Bk}:upR R w F' B' w=⟨(R w).p,(R w).a,F',(R w).s,B'⟩:=if_pos rfl
theorem mU {R:Nat->PR}{w i:Nat}{F':Addr->Prop}{B':Bk} (h:i≠w):upR R w F' B' i=R i:=if_neg h
theorem Duo.done {C L:Addr}{O:Addr->Prop}{Hk H H':Hp}{n w:Nat}{R:Nat->PR}{ps:Array Value}{F':Addr->Prop}{B':Bk} (D:Duo C L O Hk n R H) (hL:H L=some (.tbl ps)) (hw:w < n)
  (P':Pair C L H' (R w).p (R w).a F' (R w).s B') (f1:∀b,F' b->(R w).F b\/H b=none) (g:∀b o,H b=some o->b≠L->¬(R w).a.M b->¬(R w).s.At b->H' b=some o):Duo C L O Hk n (upR R w F' B') H':=by
 have hP:=D.pr w hw
 have old:∀i b,i < n->(upR R w F' B' i).In b->(R i).In b\/H b=none:=λi b hi h=>by
  by_cases hiw:i=w
  ·subst hiw
   rw [kj]at h
   rcases h with h | h
   ·rcases f1 b h with q | q
    ·exact .inl (.inl q)
    ·exact .inr q
   ·exact .inl (.inr h)
  ·rw [mU hiw]at h;exact .inl h
 have inn:∀i b,i < n->(upR R w F' B' i).In b->H b=none\/(R i).In b:=λi b hi h=>(old i b hi h).symm
 refine⟨λi hi=>?_,λi j hi hj hij b h1 h2=>?_,λi hi b hb ob=>?_,λb o ob e=>?_,D.od⟩
 ·by_cases hiw:i=w
  ·subst hiw;rw [kj];exact P'
  ·rw [mU hiw]
   refine(D.pr i hi).other (G:=(R w).a.M) (r:=(R w).s) hL (λb f=>⟨λm=>D.di i w hi hw hiw b (.inl f) (.inl (hP.bk.M_F m)),λm=>D.di i w hi hw hiw b (.inl f) (.inr m)⟩)
    (λb f=>⟨λm=>D.di i w hi hw hiw b (.inr f) (.inl (hP.bk.M_F m)),λm=>D.di i w hi hw hiw b (.inr f) (.inr m)⟩) (λb o m e=>?_) (λb m=>?_) g
   ·rcases hP.st.kind m with⟨xs,q⟩ | ⟨xs,q⟩
    ·rw [e]at q;exact .inl ⟨xs,Option.some.inj q⟩
    ·rw [e]at q;exact .inr ⟨xs,Option.some.inj q⟩
   ·rcases hP.bk.kinds m with⟨xs,q⟩ | ⟨xs,q⟩
    ·exact⟨λys z=>(by rw [q]at z;cases z),λc dx fs z=>(by rw [q]at z;cases z)⟩
    ·exact⟨λys z=>(by rw [q]at z;cases z),λc dx fs z=>(by rw [q]at z;cases z)⟩
 ·rcases old i b hi h1 with q | q
  ·rcases old j b hj h2 with q2 | q2
   ·exact D.di i j hi hj hij b q q2
   ·exact(D.pr i hi).there q q2
  ·by_cases hiw:i=w
   ·subst hiw
    rw [mU (λz=>hij z.symm)]at h2
    exact(D.pr j hj).there h2 q
   ·rw [mU hiw]at h1
    exact(D.pr i hi).there h1 q
 ·rcases old i b hi hb with q | q
  ·exact D.nw i hi b q ob
  ·have:=(D.od b ob).1
   cases e:Hk b with
   | none=>exact this e
   | some o=>rw [D.ok b o ob e]at q;cases q
 ·exact g b o (D.ok b o ob e) (D.od b ob).2 (λm=>D.nw w hw b (.inl (hP.bk.M_F m)) ob) λm=>D.nw w hw b (.inr m) ob
noncomputable def moR (R:Nat->PR) (n:Nat) (r:PR) (i:Nat):PR:=if i=n then r else R i
theorem Duo.more {C L:Addr}{O:Addr->Prop}{Hk H:Hp}{n:Nat}{R:Nat->PR} (D:Duo C L O Hk n R H){r:PR} (h:Pair C L H r.p r.a r.F r.s r.B) (hn:∀b,r.In b->¬O b/\∀i,i < n->¬(R i).In b):Duo C L O Hk (n+1) (moR R n r) H:=by
 have e1:moR R n r n=r:=if_pos rfl
 have e2:∀i,i < n+1->i≠n->moR R n r i=R i/\i < n:=λi hi h=>⟨if_neg h,by omega⟩
 refine⟨λi hi=>?_,λi j hi hj hij b h1 h2=>?_,λi hi b hb ob=>?_,D.ok,D.od⟩
 ·by_cases z:i=n
  ·rw [z,e1];exact h
  ·rw [(e2 i hi z).1];exact D.pr i (e2 i hi z).2
 ·by_cases z:i=n
  ·rw [z,e1]at h1
   have zj:j≠n:=λw=>hij (by rw [z,w])
   rw [(e2 j hj zj).1]at h2
   exact(hn b h1).2 j (e2 j hj zj).2 h2
  ·rw [(e2 i hi z).1]at h1
   by_cases zj:j=n
   ·rw [zj,e1]at h2
    exact(hn b h2).2 i (e2 i hi z).2 h1
   ·rw [(e2 j hj zj).1]at h2
    exact D.di i j (e2 i hi z).2 (e2 j hj zj).2 hij b h1 h2
 ·by_cases z:i=n
  ·rw [z,e1]at hb;exact(hn b hb).1 ob
  ·rw [(e2 i hi z).1]at hb;exact D.nw i (e2 i hi z).2 b hb ob
noncomputable abbrev Gw (H H':Hp):Prop:=∀b o,H b=some o->H' b=some o
theorem Duo.re {C L:Addr}{O O':Addr->Prop}{Hk H:Hp}{n:Nat}{R:Nat->PR} (D:Duo C L O Hk n R H) (h1:∀i,i < n->∀b,(R i).In b->¬O' b) (h2:∀b,O' b->H b≠none/\b≠L):Duo C L O' H n R H:=
 ⟨D.pr,D.di,h1,λ_ _ _ e=>e,h2⟩
end L2
namespace Mine
open PySem L2
variable {P:Program}{w:World}{K:PySem.W.Frag}{mg:Str->Option Value}{base:Heap}
noncomputable abbrev nu:Stmt:=top 59
theorem iu {K:PySem.W.Frag}{H H':Hp}{a L:Addr}{xs:List V}{pL:Array Value} (h:SqL K H a xs) (hL:H L=some (.tbl pL)) (g:∀b o,H b=some o->b≠L->H' b=some o):SqL K H' a xs:=by
 rcases h with(h | ⟨o,h⟩) | h
 ·exact .inl (.inl (g _ _ h (aD h hL (by intro z;cases z))))
 ·exact .inl (.inr ⟨o,g _ _ h (aD h hL (by intro z;cases z))⟩)
 ·exact .inr h
theorem vy {i:Int} (h0:0<=i) (h1:i < 4):∃s:Int,(s=40\/s=400)/\atI [V.int 40,V.int 40,V.int 40,V.int 400] i=some (V.int s):=by
 rcases (show i=0\/i=1\/i=2\/i=3 by omega) with rfl | rfl | rfl | rfl
 ·exact⟨40,.inl rfl,rfl⟩
 ·exact⟨40,.inl rfl,rfl⟩
 ·exact⟨40,.inl rfl,rfl⟩
 ·exact⟨400,.inr rfl,rfl⟩
theorem wK {xs:List V}:(cutV xs (some 2) (some 34)).length<=32:=by
 unfold cutV
 rw [List.length_take]
 refine Nat.le_trans (Nat.min_le_left _ _) ?_
 show min 34 xs.length - min 2 xs.length<=32
 generalize xs.length=n
 rcases Nat.le_total 2 n with h | h
 ·rw [Nat.min_eq_left h]
  exact Nat.sub_le_sub_right (Nat.min_le_left 34 n) 2
 ·rw [Nat.min_eq_right h,Nat.min_eq_right (Nat.le_trans h (by decide)),Nat.sub_self]
  exact Nat.zero_le _
theorem qR {ns:List Int}{lo hi:Option Int}{z:V} (h:z∈cutV (ns.map V.int) lo hi):∃c:Int,z=.int c:=by
 unfold cutV at h
 obtain⟨c,_,rfl⟩:=List.mem_map.mp (List.mem_of_mem_drop (List.mem_of_mem_take h))
 exact⟨c,rfl⟩
theorem vf {C L:Addr}{H4 H5 H8:Hp}{x:Addr}{a:BA}{F:Addr->Prop}{s:SA}{ks:List Str}{pL:Array Value} (fF:∀b,F b->H4 b=none) (g5:Gw H4 H5) (bk:BkAt C H5 x a F (Bk.new ks)) (e4k:H4 s.k≠none)
  (g8:Gw H5 H8) (st:StAt H8 s (Bk.new ks)) (nS:∀b,s.At b->b≠s.k->H5 b=none) (hL:H4 L=some (.tbl pL)):Pair C L H8 x a (λb=>F b/\H5 b≠none) s (Bk.new ks):=by
 refine⟨bk.dom.keep ⟨λb o _ e=>g8 b o e,λb xs e=>g8 b _ e,λb c dx fs e=>g8 b _ e⟩,st,λb f=>⟨tK g8 f.2,λz=>?_⟩,λb sa f=>?_⟩
 ·have:=fF b f.1
  rw [z,hL]at this
  cases this
 ·by_cases z:b=s.k
  ·exact e4k (by rw [<- z];exact fF b f.1)
  ·exact f.2 (nS b sa z)
theorem nU {K:PySem.W.Frag}{sub:List Nat}{te:TE}{σ:St}{H:Hp}{Q:VK}{sa:Addr}{xs:List V}{n:Nat} (P:V->Prop) (hS:SqL K H sa xs) (hn:n<=1000) (hte:∀(i:Nat) (H2:Hp) (R:VK),i < n->SqL K H2 sa xs->(∀y,P y->R y H2)->te (some (.int (0+(i:Int)))::bN sub σ) H2 R)
  (hq:∀(D:Addr) (ys:List V),H D=none->ys.length=n->(∀(i:Nat) (y:V),ys[i]?=some y->P y)->Q (.ref D) (upd H D (.lst ys))):oV (Itr 0 n) sub (λ_ H Q=>Q true H) te σ Q H:=by
 intro D nD
 have hS':∀ys,SqL K (upd H D (.lst ys)) sa xs:=λys=>by
  rcases hS with(h | ⟨o,h⟩) | h
  ·exact .inl (.inl (by rw [ag (af h nD)];exact h))
  ·exact .inl (.inr ⟨o,by rw [ag (af h nD)];exact h⟩)
  ·exact .inr h
 refine io (lo:=0) (n:=n) (sub:=sub) (tt:=λ_ H Q=>Q true H) (te:=te) (Q:=Q) (σ:=σ) (λi ys H2=>ys.length=i/\(∀(j:Nat) (y:V),ys[j]?=some y->P y)/\H2=upd H D (.lst ys)) ⟨rfl,(λj y e=>by simp at e),rfl⟩ (λi ys H2 hi hh=>?_) λys H2 hh=>?_
 ·obtain⟨e1,e2,rfl⟩:=hh
  refine cg (hte i _ _ hi (hS' ys) λy hy=>⟨ad,bB (by omega),by rw [List.length_append,e1];rfl,λj z ez=>?_,gE⟩)
  rcases List.mem_append.mp (List.mem_of_getElem? ez) with h | h
  ·obtain⟨k,hk⟩:=List.getElem?_of_mem h
   exact e2 k z hk
  ·rw [List.mem_singleton.mp h];exact hy
 ·obtain⟨e1,e2,rfl⟩:=hh
  exact hq D ys nD e1 e2
theorem lA {B:Bk}{t:Nat}{ks:List Str}{bs:List aE} (h:Boxes B t t ks bs):bs=[]:=by
 induction h with
 | nil=>rfl
 | @snoc ks k bs acc _ FU ih=>
  have e:acc.filter neW=[]:=List.filter_eq_nil_iff.mpr λr hr hn=>by
   obtain⟨_,_,hg⟩:=FU.row hr
   have:=hg r.1 ⟨Int.le_refl _,FU.tidy.up.le r hr⟩
   unfold neW at hn
   rw [<- this,decide_eq_true (show (fG B k t t r.1).1=(fG B k t t r.1).2 from rfl)]at hn
   cases hn
  rw [ih,e];rfl
noncomputable def qt (K:PySem.W.Frag) (C L:Addr):Sp:=λvs H Q _=>∃(a:Addr) (ns:List Int),vs=[.ref a]/\Lm L H/\SqL K H a (ns.map V.int)/\ns.length<=63/\∀H',Q (.bl true) H'
theorem fT:FnScope ["_law_script", "_law_keys_here", "_law_book", "_law_state_here", "_law_span", "_law_cell_here", "_law_now", "_law_some", "_law_one", "_law_other"] ["_law_script"] (ah nu):=⟨rfl,rfl,rfl,by decide +kernel,rfl,by decide +kernel,by decide +kernel⟩
theorem xP {f f1 f2 f3 f4 f5 f6 f7 f8 f9 f10 C L:Addr}{fd:FuncData} (F:Fun K "law" "law" nu f fd) (N:Free mg){fd1:FuncData} (CE:Cal P w K mg base "_law_cell" 1 ["_law_script", "_law_k"] (n8 K) f1 fd1){fd2:FuncData} (CK:Cal P w K mg base "_law_keys" 3 ["_law_cell_here"] mY f2 fd2){fd3:FuncData} (CA:Cal P w K mg base "_law_state" 1 ["_law_keys_here"] jM f3 fd3){fd4:FuncData} (CD:Cal P w K mg base "_law_draw" 2 ["_law_cell_here", "_law_k", "_law_many"] fj f4 fd4){fd5:FuncData} (CO:Cal P w K mg base "_law_done" 7 ["_law_book", "_law_state_here", "_law_cell_here", "_law_span"] (n6 C L) f5 fd5){fd6:FuncData} (CR:Cal P w K mg base "_law_right" 9 ["_law_book", "_law_state_here", "_law_one", "_law_other", "_law_cell_here"] (jO C L) f6 fd6){fd7:FuncData} (CM:Cal P w K mg base "_law_mix" 1 ["_law_cell_here", "_law_k"] lP f7 fd7){fd8:FuncData} (CU:Cal P w K mg base "unlike" 7 ["book", "one", "other"] (dO C L) f8 fd8){fd9:FuncData} (CV:Cal P w K mg base "unlike_values" 8 ["book", "one", "other"] (iW C L) f9 fd9) (MK:Mk K C f10){fd10:FuncData} (GI:FnOk P w K mg base CX0 4 f10 fd10 ["self", "keys"] (ph C)) (bI:eN K fd10 ["self", "keys"] []) (mC:mg "Book" = some (.ref C)):FnOk P w K mg base CX0 10 f fd ["_law_script"] (qt K C L):=by
 refine F.ok (k:=9) fT (λvs H Q E h=>?_) (λcdv A outer s H vs Q E hr h=>?_)
 ·obtain⟨sa,ns,rfl,_⟩:=h
  rfl
 ·obtain⟨sa,ns,rfl,LL,hS,h63,q⟩:=h
  have hu:=bu hr
  refine⟨_,(aj (aI (i:=1) fT.nd rfl (Or.inl rfl) (am CK.ok (hr.mono (by decide)) rfl CK.nm CK.kp CK.bd .nil ao (aa (am CE.ok (hr.mono (by decide)) rfl CE.nm CE.kp CE.bd .nil ao (aa (pv 0) (aa ai ae))) ae)))
   (aj (aI (i:=2) fT.nd rfl (Or.inl rfl) (vT MK GI (hr.mono (by decide)) rfl mC bI .nil ao (aa (ce cV (by rfl) N.list PyProof.Rows.Boot.«list» (aa (pv 1) ae)) ae)))
   (aj (aI (i:=3) fT.nd rfl (Or.inl rfl) (am CA.ok (hr.mono (by decide)) rfl CA.nm CA.kp CA.bd .nil ao (aa (pv 1) ae)))
   (aj (aI (i:=4) fT.nd rfl (Or.inl rfl) (aM bA (bx (aa ai (aa ai (aa ai (aa ai ae))))) (aF dC (aF vX (am CE.ok (hr.mono (by decide)) rfl CE.nm CE.kp CE.bd .nil ao (aa (pv 0) (aa ai ae))) ai) ai) (λ_ _=>rfl)))
   (aj (bU PassesOwn.never rfl (bD (aF pH (bV ni (pv 0) (bY ai) (bY ai)) (bx (aa ai (aa ai (aa ai ae)))))) (ay (i:=5) fT.nd rfl (Or.inl rfl))
   (al (bp (cI (cC (am CO.ok (hr.mono (by decide)) rfl CO.nm CO.kp CO.bd .nil ao (aa (pv 2) (aa (pv 3) (aa (pv 5) (aa (pv 4) ae))))))) (al (aB eJ)) aG)))
   (aj (aI (i:=6) fT.nd rfl (Or.inl rfl) (aJ aZ (by rfl) N.len PySem.boot_len (aa (bZ hu (pv 3) bL (λ_ _=>rfl)) ae)))
   (aj (nA (i:=7) fT.nd rfl (Or.inl rfl) (da rfl (fb rfl N.range (aa ai ae)) rfl rfl (by show ∀p∈_,jI [Str.ofString "_law_script"] p;decide) (by decide) rfl (by show ([Str.ofString "_law_k", Str.ofString "_law_script"]:List Str).Nodup;decide) (.cons (i:=0) rfl (.inr (.inl rfl)) (by show (some NameKind.cell)≠some NameKind.local;decide) (.inl rfl) rfl .nil) (λC fp s H=>eG) (λC fp s H=>(am CM.ok (hr.mono (by decide)) rfl CM.nm CM.kp CM.bd .nil ao (aa (am CE.ok (hr.mono (by decide)) rfl CE.nm CE.kp CE.bd .nil ao (aa (pv 1) (aa ai ae))) (aa (aF bJ ai (pv 0)) ae))))))
   (aj (bU PassesOwn.never rfl (bD (aF pH (bV ni (pv 0) (bY ai) (bY ai)) (pv 7))) (ay (i:=5) fT.nd rfl (Or.inl rfl))
   (aj (aI (i:=8) fT.nd rfl (Or.inl rfl) (am CD.ok (hr.mono (by decide)) rfl CD.nm CD.kp CD.bd .nil ao (aa (pv 5) (aa ai (aa (aF bJ (pv 6) ai) ae)))))
   (aj (aI (i:=9) fT.nd rfl (Or.inl rfl) (am CD.ok (hr.mono (by decide)) rfl CD.nm CD.kp CD.bd .nil ao (aa (pv 5) (aa ai (aa (aF bJ (pv 6) ai) ae)))))
   (al (bp (cI (cC (am CR.ok (hr.mono (by decide)) rfl CR.nm CR.kp CR.bd .nil ao (aa (pv 2) (aa (pv 3) (aa (pv 8) (aa (pv 9) (aa (pv 5) ae)))))))) (al (aB eJ)) aG)))))
   (al (aB (dW (cu (gt hr.units) (am CU.ok (hr.mono (by decide)) rfl CU.nm CU.kp CU.bd .nil ao (aa (pv 2) (aa (pv 6) (aa (pv 6) ae)))) (bx ae) (aN _)) (fu (cu (gt hr.units) (am CV.ok (hr.mono (by decide)) rfl CV.nm CV.kp CV.bd .nil ao (aa (pv 2) (aa ai (aa ai ae)))) (bx ae) (aN _)))))))))))))),?_⟩
  obtain⟨pL,hL⟩:=LL.tbl
  refine aP (bh ⟨_,rfl,sa,ns,_,rfl,hS,by decide,λn=>⟨n,rfl,λkl ks H3 nk g3 ek k1 k8 nd hok=>?_⟩⟩)
  dsimp only [aO]
  refine aP (bh ?_)
  refine⟨_,rfl,kl,_,rfl,.inl (SqL.of ek),λhd nh=>?_⟩
  have g4:aA H3 (upd H3 hd (.lst (ks.map V.str))):=aA.new nh
  have eh:upd H3 hd (.lst (ks.map V.str)) hd=some (.lst (ks.map V.str)):=ad
  generalize upd H3 hd (.lst (ks.map V.str))=H4 at g4 eh
  have g04:=g3.trans g4
  refine λx dx nx ndx hne=>?_
  refine⟨x,dx,hd,ks,rfl,ad,(by rw [ag (af eh nx),ag (af eh ndx)];exact eh),k1,k8,nd,(λk hk=>⟨(hok k hk).has,(hok k hk).len,(hok k hk).nm⟩),λa F H5 fF gg bk=>⟨rfl,?_⟩⟩
  have g5:aA H4 H5:=λb o e=>gg b o (by rw [ag (af e nx),ag (af e ndx)];exact e) (af e nx)
  have fF':∀b,F b->H4 b=none:=λb f=>(bX (bX (fF b f)).2).2
  have g05:=g04.trans g5
  dsimp only [aO]
  have e5k:=g5 _ _ (g4 _ _ ek)
  refine aP (bh ⟨_,rfl,kl,ks,rfl,e5k,λs H8 es g8 nS st=>?_⟩)
  subst es
  have g08:=g05.trans g8
  have P8:=vf (C:=C) (L:=L) fF' g5 bk (by rw [g4 _ _ ek];intro z;cases z) g8 st nS (g04 _ _ hL)
  have newr:∀b,((F b/\H5 b≠none)\/s.At b)->H b=none:=λb hb=>by
   rcases hb with hb | hb
   ·exact g04.free (fF' b hb.1)
   ·by_cases z:b=s.k
    ·rw [z];exact nk
    ·exact g05.free (nS b hb z)
  have L8:Lm L H8:=bP LL λb o e _ _=>g08 b o e
  have D0:Duo C L (λb=>H b≠none/\b≠L) H 0 (λ_=>⟨x,a,F,s,Bk.new ks⟩) H8:=⟨(λi hi=>nomatch hi),(λi j hi=>nomatch hi),(λi hi=>nomatch hi),λb o ob e=>g08 b o e,λb ob=>ob⟩
  have D8:=D0.more (r:=⟨x,a,λb=>F b/\H5 b≠none,s,Bk.new ks⟩) P8 λb hb=>⟨λz=>z.1 (newr b hb),λi hi=>nomatch hi⟩
  have hR8:(moR (λ_=>(⟨x,a,F,s,Bk.new ks⟩:PR)) 0 ⟨x,a,λb=>F b/\H5 b≠none,s,Bk.new ks⟩ 0)=⟨x,a,λb=>F b/\H5 b≠none,s,Bk.new ks⟩:=rfl
  generalize moR (λ_=>(⟨x,a,F,s,Bk.new ks⟩:PR)) 0 ⟨x,a,λb=>F b/\H5 b≠none,s,Bk.new ks⟩=R8 at D8 hR8
  have hp8:(R8 0).p=x/\(R8 0).s=s/\(R8 0).B.ds=[]/\(R8 0).B.ks=ks:=by rw [hR8];exact⟨rfl,rfl,rfl,rfl⟩
  clear hR8
  dsimp only [aO]
  have hS8:=iu hS hL λb o e _=>g08 b o e
  refine aP (bh ⟨by show 4<=sizeLine;decide,λl3 n3=>?_⟩)
  have g9:aA H8 (upd H8 l3 (.lst [.int 40,.int 40,.int 40,.int 400])):=aA.new n3
  have hS9:=iu hS hL λb o e _=>(g08.trans g9) b o e
  refine⟨_,rfl,sa,ns,0,rfl,hS9,by decide,λn=>⟨_,_,rfl,rfl,?_,_,_,rfl,rfl,(by show (0:Int) < 4;decide),?_⟩⟩
  ·exact⟨by decide,by omega⟩
  obtain⟨sp,hsp,esp⟩:=vy (Int.emod_nonneg (n / 4) (show (4:Int)≠0 by decide)) (Int.emod_lt_of_pos (n / 4) (show (0:Int) < 4 by decide))
  refine⟨l3,_,_,V.int sp,rfl,rfl,SqL.of ad,esp,?_⟩
  have s0:0 < sp:=by omega
  have s1:sp<=400:=by omega
  dsimp only [aO]
  generalize upd H8 l3 (.lst [.int 40,.int 40,.int 40,.int 400])=H9 at g9 hS9
  refine aP ?_
  refine⟨_,rfl,2,rfl,34,rfl,sa,_,rfl,hS9,λu0 nu0=>⟨by show 3<=sizeLine;decide,λu1 nu1=>?_⟩⟩
  have hcl:=wK (xs:=ns.map V.int)
  have hcm:∀z,z∈cutV (ns.map V.int) (some 2) (some 34)->∃c:Int,z=.int c:=λz hz=>qR hz
  generalize cutV (ns.map V.int) (some 2) (some 34)=cs at hcl hcm nu1
  have ga:aA H9 (upd H9 u0 (.lst cs)):=aA.new nu0
  have gb:aA (upd H9 u0 (.lst cs)) (upd (upd H9 u0 (.lst cs)) u1 (.lst [.int 1,.int 2,.int 3])):=aA.new nu1
  refine⟨u0,u1,cs,_,rfl,rfl,gb _ _ ad,ad,Nat.le_trans (show cs.length+3<=1000 by omega) (by decide),λu2 nu2=>?_⟩
  have gc:aA (upd (upd H9 u0 (.lst cs)) u1 (.lst [.int 1,.int 2,.int 3])) (upd (upd (upd H9 u0 (.lst cs)) u1 (.lst [.int 1,.int 2,.int 3])) u2 (.lst (cs++[.int 1,.int 2,.int 3]))):=aA.new nu2
  have eu:upd (upd (upd H9 u0 (.lst cs)) u1 (.lst [.int 1,.int 2,.int 3])) u2 (.lst (cs++[.int 1,.int 2,.int 3])) u2=some (.lst (cs++[.int 1,.int 2,.int 3])):=ad
  have g8c:=(g9.trans ga).trans (gb.trans gc)
  have nu2':H8 u2=none:=(g9.trans (ga.trans gb)).free nu2
  generalize upd (upd (upd H9 u0 (.lst cs)) u1 (.lst [.int 1,.int 2,.int 3])) u2 (.lst (cs++[.int 1,.int 2,.int 3]))=Hc at g8c eu
  have hlen:(cs++[V.int 1,V.int 2,V.int 3]).length<=35:=by rw [List.length_append];show cs.length+3<=35;omega
  have hcm2:∀z∈cs++[V.int 1,V.int 2,V.int 3],∃c:Int,z=.int c:=λz hz=>by
   rcases List.mem_append.mp hz with hz | hz
   ·exact hcm z hz
   rcases List.mem_cons.mp hz with hz | hz
   ·exact⟨_,hz⟩
   rcases List.mem_cons.mp hz with hz | hz
   ·exact⟨_,hz⟩
   ·exact⟨_,List.mem_singleton.mp hz⟩
  generalize cs++[V.int 1,V.int 2,V.int 3]=xs at eu hlen hcm2
  have g0c:=g08.trans g8c
  have hLc:=g0c _ _ hL
  have Lc:Lm L Hc:=bP L8 λb o e _ _=>g8c b o e
  have Dc:Duo C L (λb=>(H b≠none/\b≠L)\/b=u2) Hc 1 R8 Hc:=by
   refine(D8.grow g8c).re (λi hi b ib ob=>?_) λb ob=>?_
   ·rcases ob with ob | rfl
    ·exact D8.nw i hi b ib ob
    ·exact(D8.pr i hi).there ib nu2'
   ·rcases ob with ob | rfl
    ·exact⟨tK g0c ob.1,ob.2⟩
    ·exact⟨(by rw [eu];intro z;cases z),aD eu hLc (by intro z;cases z)⟩
  refine⟨u2,rfl,⟨_,SqL.of eu⟩,bF (K:=K) (a:=u2) (xs:=xs) (λi σ H7=>∃(R':Nat->PR) (v5:Option V),σ=[some (.ref sa),some (.ref s.k),some (.ref x),some (.ref s.d),some (.int sp),v5,none,none,none,none]/\Lm L H7/\Duo C L (λb=>(H b≠none/\b≠L)\/b=u2) Hc 1 R' H7/\(R' 0).p=x/\(R' 0).s=s/\(R' 0).B.ds.length=i)
   ⟨R8,none,rfl,Lc,Dc,hp8.1,hp8.2.1,by rw [hp8.2.2.1];rfl⟩ (λi σ H7 _ hh=>?_) ?_ ?_⟩
  ·obtain⟨_,_,_,_,D,_⟩:=hh
   exact SqL.of (D.ok u2 _ (.inr rfl) eu)
  ·rintro i y σ H7 hi ⟨R',v5,rfl,L7,D7,hp,hs',hB7⟩
   obtain⟨c,rfl⟩:=hcm2 y (List.mem_of_getElem? hi)
   have hi60:=(List.getElem?_eq_some_iff.mp hi).1
   obtain⟨pL7,hL7⟩:=L7.tbl
   dsimp only [aO]
   refine dq ?_
   refine⟨_,rfl,_,rfl,_,rfl,_,rfl,(R' 0).p,(R' 0).a,(R' 0).F,(R' 0).s,(R' 0).B,c,sp,(by rw [hp,hs'];rfl),L7,D7.pr 0 (by decide),s0,s1,by omega,λHa F9 B9 L9 P9 hl9 hf9 hd9 f9 g9'=>⟨_,rfl,br (bz ?_)⟩⟩
   have D9:=D7.done hL7 (show 0 < 1 by decide) P9 f9 g9'
   have E9:upR R' 0 F9 B9 0=⟨(R' 0).p,(R' 0).a,F9,(R' 0).s,B9⟩:=kj
   refine⟨upR R' 0 F9 B9,_,rfl,L9,D9,?_,?_,?_⟩
   ·rw [E9];exact hp
   ·rw [E9];exact hs'
   ·rw [E9];show B9.ds.length=i+1;omega
  ·rintro σ H7 ⟨R',v5,rfl,L7,D7,hp,hs',hB7⟩
   dsimp only
   have P7:=D7.pr 0 (by decide)
   rw [hp,hs']at P7
   obtain⟨pL7,hL7⟩:=L7.tbl
   generalize (R' 0).B=B at P7 hB7
   generalize (R' 0).F=F7 at P7
   generalize (R' 0).a=a7 at P7
   have hS7:=iu hS hL λb o e nb=>D7.ok b o (.inl ⟨λz=>(by rw [e]at z;cases z),nb⟩) (g0c b o e)
   clear D7 hB7 hp hs'
   obtain⟨qs,q2,r2⟩:=id P7.st.he
   have lqs:qs.length=B.ds.length:=Paired.length r2
   refine aP (bh ⟨_,rfl,s.d,_,rfl,P7.st.d_e,s.e,_,rfl,.inl (SqL.of q2),?_⟩)
   rw [List.length_map,lqs]
   dsimp only [aO]
   refine aP (bh (iF ?_))
   refine⟨_,rfl,by decide,by decide,?_⟩
   refine nU (sa:=sa) (xs:=ns.map V.int) (n:=2) (λy=>∃c:Int,y=V.int c) hS7 (by decide) (λi H2 R hi hS2 hR=>?_) λDd ys nD hl hy=>?_
   ·refine⟨_,rfl,sa,ns,_,rfl,hS2,by decide,λm=>⟨_,rfl,_,_,rfl,rfl,m,_,rfl,by omega,by omega,λy _ _=>hR _ ⟨y,rfl⟩⟩⟩
   have ge:aA H7 (upd H7 Dd (.lst ys)):=aA.new nD
   have ee:upd H7 Dd (.lst ys) Dd=some (.lst ys):=ad
   generalize upd H7 Dd (.lst ys)=He at ge ee
   have hSe:=iu hS7 hL7 λb o e _=>ge b o e
   dsimp only [aO]
   refine aP ?_
   refine⟨_,rfl,34,rfl,38,rfl,sa,_,rfl,hSe,λu3 nu3=>?_⟩
   have hcm3:∀z,z∈cutV (ns.map V.int) (some 34) (some 38)->∃c:Int,z=.int c:=λz hz=>qR hz
   have hcl3:=gw (ns.map V.int) (some 34) (some 38)
   rw [List.length_map]at hcl3
   generalize cutV (ns.map V.int) (some 34) (some 38)=cs at hcm3 hcl3
   have gf:aA He (upd He u3 (.lst cs)):=aA.new nu3
   refine⟨_,rfl,u3,Dd,cs,ys,rfl,rfl,ad,gf _ _ ee,Nat.le_trans (show cs.length+ys.length<=1000 by omega) (by decide),λu4 nu4=>?_⟩
   have gg2:aA (upd He u3 (.lst cs)) (upd (upd He u3 (.lst cs)) u4 (.lst (cs++ys))):=aA.new nu4
   have e4:upd (upd He u3 (.lst cs)) u4 (.lst (cs++ys)) u4=some (.lst (cs++ys)):=ad
   have g7f:=(ge.trans gf).trans gg2
   generalize upd (upd He u3 (.lst cs)) u4 (.lst (cs++ys))=Hf at g7f e4
   have hcm4:∀z∈cs++ys,∃c:Int,z=.int c:=λz hz=>by
    rcases List.mem_append.mp hz with hz | hz
    ·exact hcm3 z hz
    ·obtain⟨j,hj⟩:=List.getElem?_of_mem hz
     exact hy j z hj
   generalize cs++ys=xs4 at e4 hcm4
   have Pf:=P7.grow g7f
   have Lf:Lm L Hf:=bP L7 λb o e _ _=>g7f b o e
   obtain⟨pLf,hLf⟩:=Lf.tbl
   have fdG:∀{Hg:Hp},Gm L Hf Hg->∀b,F7 b->Hg b≠none/\b≠L:=λ{Hg} g b f=>by
    refine⟨λz=>?_,(Pf.fd b f).2⟩
    have hn:=(Pf.fd b f).1
    cases e:Hf b with
    | none=>exact hn e
    | some o=>rw [g.same b o (Pf.fd b f).2 e]at z;cases z
   have PG':∀{Hg:Hp},Gm L Hf Hg->Pair C L Hg x a7 F7 s B:=λg=>⟨Pf.bk.keep ⟨λb o f e=>g.same b o (Pf.fd b f).2 e,λb xs e=>g.tup Lf e,λb c dx fs e=>g.same b _ (aD e hLf (by intro z;cases z)) e⟩,
    Pf.st.keep (λb o sa e=>g.same b o (by
     rcases Pf.st.kind sa with⟨ys,z⟩ | ⟨ys,z⟩
     ·exact aD z hLf (by intro z;cases z)
     ·exact aD z hLf (by intro z;cases z)) e) (λb xs e=>g.tup Lf e),
    fdG g,Pf.sf⟩
   refine⟨u4,rfl,⟨_,SqL.of e4⟩,bF (K:=K) (a:=u4) (xs:=xs4) (λi σ Hg=>∃(v5 v8 v9:Option V),σ=[some (.ref sa),some (.ref s.k),some (.ref x),some (.ref s.d),some (.int sp),v5,some (.int (B.ds.length:Int)),some (.ref Dd),v8,v9]/\Gm L Hf Hg) ⟨_,none,none,rfl,Go.refl Lf⟩ (λi σ Hg _ hh=>?_) ?_ ?_⟩
   ·obtain⟨_,_,_,_,g⟩:=hh
    exact SqL.of (g.lst Lf e4)
   ·rintro i y σ Hg hi ⟨v5',v8,v9,rfl,gg3⟩
    obtain⟨c,rfl⟩:=hcm4 y (List.mem_of_getElem? hi)
    have Pg:=PG' gg3
    dsimp only [aO]
    refine aP (bh ?_)
    refine⟨_,rfl,_,rfl,_,_,rfl,rfl,c,10,_,rfl,by decide,by decide,by omega,λtv t0 t1=>?_⟩
    obtain⟨tn,rfl⟩:∃j:Nat,tv=(j:Int):=⟨tv.toNat,by omega⟩
    dsimp only [aO]
    refine aP (bh ?_)
    refine⟨_,rfl,_,rfl,_,_,rfl,rfl,c,12,_,rfl,by decide,by decide,by omega,λuv u0 u1=>?_⟩
    obtain⟨un,rfl⟩:∃j:Nat,uv=(j:Int):=⟨uv.toNat,by omega⟩
    dsimp only [aO]
    refine dq ?_
    exact⟨_,rfl,_,rfl,_,rfl,_,rfl,_,rfl,x,a7,F7,s,B,tn,un,c,rfl,gg3.lam,Pg.bk,(λb f=>(Pg.fd b f).2),Pg.st,by omega,by omega,λHi gi=>⟨_,rfl,br (bz ⟨_,_,_,rfl,gg3.trans gi⟩)⟩⟩
   ·rintro σ Hg ⟨v5',v8,v9,rfl,gg3⟩
    dsimp only
    have Pg:=PG' gg3
    refine bT (iG ?_)
    refine⟨_,rfl,_,rfl,_,rfl,?_⟩
    try dsimp only [cn,List.cons_append,List.nil_append,List.append_nil]
    refine pX gg3.lam Pg.bk (λb f=>(Pg.fd b f).2) ⟨Nat.le_refl _,.inr rfl⟩ ⟨Nat.le_refl _,.inr rfl⟩ λd1 bs1 Hi nd1 gi h1 hB1 _=>?_
    obtain rfl:=lA hB1
    have g0i:=gg3.trans gi
    refine⟨Nat.zero_le _,λd2 nd2=>?_⟩
    have gj:Gm L Hi (upd Hi d2 (.lst [])):=Go.new g0i.lam nd2
    have hb1:=cc (gj.boxL g0i.lam h1)
    have hb2:=cc (bs:=[]) (H:=upd Hi d2 (.lst [])) (a:=d2) ⟨[],ad,.nil⟩
    generalize upd Hi d2 (.lst [])=Hj at gj hb1 hb2
    refine⟨_,_,hb1.1,hb2.1,hb1.2,hb2.2,true,⟨λ_=>rfl,λ_=>rfl⟩,_,rfl,cg ?_⟩
    have g0j:=g0i.trans gj
    have Pj:=PG' g0j
    refine⟨_,rfl,?_⟩
    try dsimp only [cn,cK,tC,List.cons_append,List.nil_append,List.append_nil]
    refine pW (t:=0) (u:=0) g0j.lam Pj.bk (λb f=>(Pj.fd b f).2) ⟨Nat.zero_le _,.inr rfl⟩ ⟨Nat.zero_le _,.inr rfl⟩ λd3 bs3 Hk nd3 gk h3 hB3=>?_
    obtain rfl:=lA hB3
    have g0k:=g0j.trans gk
    refine⟨Nat.zero_le _,λd4 nd4=>?_⟩
    have gl:Gm L Hk (upd Hk d4 (.lst [])):=Go.new g0k.lam nd4
    have hb3:=cc (gl.boxL g0k.lam h3)
    have hb4:=cc (bs:=[]) (H:=upd Hk d4 (.lst [])) (a:=d4) ⟨[],ad,.nil⟩
    exact⟨_,_,hb3.1,hb4.1,hb3.2,hb4.2,true,⟨λ_=>rfl,λ_=>rfl⟩,q _⟩
theorem ar1 {P:List Value->Prop} (h:∀a,P [a]):∀us:List Value,us.length=1->P us:=λus e=>by
 obtain⟨a,rfl⟩:=List.length_eq_one_iff.mp e
 exact h a
theorem ar2 {P:List Value->Prop} (h:∀x1 x2,P [x1,x2]) (us:List Value) (e:us.length=2):P us:=by
 cases us with
 | nil=>cases e
 | cons a t=>exact ar1 (P:=λt=>P (a::t)) (λx1=>h a x1) t (Nat.succ.inj e)
theorem ar3 {P:List Value->Prop} (h:∀x1 x2 x3,P [x1,x2,x3]) (us:List Value) (e:us.length=3):P us:=by
 cases us with
 | nil=>cases e
 | cons a t=>exact ar2 (P:=λt=>P (a::t)) (λx1 x2=>h a x1 x2) t (Nat.succ.inj e)
theorem ar4 {P:List Value->Prop} (h:∀x1 x2 x3 x4,P [x1,x2,x3,x4]) (us:List Value) (e:us.length=4):P us:=by
 cases us with
 | nil=>cases e
 | cons a t=>exact ar3 (P:=λt=>P (a::t)) (λx1 x2 x3=>h a x1 x2 x3) t (Nat.succ.inj e)
theorem ar5 {P:List Value->Prop} (h:∀x1 x2 x3 x4 x5,P [x1,x2,x3,x4,x5]) (us:List Value) (e:us.length=5):P us:=by
 cases us with
 | nil=>cases e
 | cons a t=>exact ar4 (P:=λt=>P (a::t)) (λx1 x2 x3 x4=>h a x1 x2 x3 x4) t (Nat.succ.inj e)
theorem ar6 {P:List Value->Prop} (h:∀x1 x2 x3 x4 x5 x6,P [x1,x2,x3,x4,x5,x6]) (us:List Value) (e:us.length=6):P us:=by
 cases us with
 | nil=>cases e
 | cons a t=>exact ar5 (P:=λt=>P (a::t)) (λx1 x2 x3 x4 x5=>h a x1 x2 x3 x4 x5) t (Nat.succ.inj e)
theorem all_mk {l:PySem.W.OpenLaw}{w:World}{K:PySem.W.Frag}{h:Heap}{mg:Str->Option Value}{fa c L C f0 f1 f2 f3 f4 f5 f6 f7 f8 f9 f10 f11 f12 f13 f14 f15 f16 f17 f18 f19 f20 f21 f22 f23 f24 f25 f26 f27 f28 f29 f30 f31 f32 f33 f34 f35 f36 f37 f38 f39 f40 f41 f42 f43 f44 f45 f46 f47 f48 f49:Addr} (X:K.In h) (G:h.Ns mainGlobals mg) (hfa:mg "law" = some (.ref fa))
  {od0 an0:Option Addr}{sl0:Array (Option Value)}{oc0 kV0 dc0 pm0 ct0:Value}{od1 an1:Option Addr}{sl1:Array (Option Value)}{oc1 kV1 dc1 pm1 cd1 ct1:Value}{od2 an2:Option Addr}{sl2:Array (Option Value)}{oc2 kV2 dc2 pm2 cd2 ct2:Value}{od3 an3:Option Addr}{sl3:Array (Option Value)}{oc3 kV3 dc3 pm3 cd3 ct3:Value}{od4 an4:Option Addr}{sl4:Array (Option Value)}{oc4 kV4 dc4 pm4 cd4 ct4:Value}{od5 an5:Option Addr}{sl5:Array (Option Value)}{oc5 kV5 dc5 pm5 cd5 ct5:Value}{od6 an6:Option Addr}{sl6:Array (Option Value)}{oc6 kV6 dc6 pm6 cd6 ct6:Value}{od7 an7:Option Addr}{sl7:Array (Option Value)}{oc7 kV7 dc7 pm7 cd7 ct7:Value}{od8 an8:Option Addr}{sl8:Array (Option Value)}{oc8 kV8 dc8 pm8 cd8 ct8:Value}{od9 an9:Option Addr}{sl9:Array (Option Value)}{oc9 kV9 dc9 pm9 cd9 ct9:Value}{od10 an10:Option Addr}{sl10:Array (Option Value)}{oc10 kV10 dc10 pm10 cd10 ct10:Value}{od11 an11:Option Addr}{sl11:Array (Option Value)}{oc11 kV11 dc11 pm11 cd11 ct11:Value}{od12 an12:Option Addr}{sl12:Array (Option Value)}{oc12 kV12 dc12 pm12 cd12 ct12:Value}{od13 an13:Option Addr}{sl13:Array (Option Value)}{oc13 kV13 dc13 pm13 cd13 ct13:Value}{od14 an14:Option Addr}{sl14:Array (Option Value)}{oc14 kV14 dc14 pm14 cd14 ct14:Value}{od15 an15:Option Addr}{sl15:Array (Option Value)}{oc15 kV15 dc15 pm15 cd15 ct15:Value}{od16 an16:Option Addr}{sl16:Array (Option Value)}{oc16 kV16 dc16 pm16 cd16 ct16:Value}{od17 an17:Option Addr}{sl17:Array (Option Value)}{oc17 kV17 dc17 pm17 cd17 ct17:Value}{dT17:Addr}{odD17:Option Addr}{ocD17:Value}{slD17:Array (Option Value)}{nD17:Nat}{od18 an18:Option Addr}{sl18:Array (Option Value)}{oc18 kV18 dc18 pm18 cd18 ct18:Value}{od19 an19:Option Addr}{sl19:Array (Option Value)}{oc19 kV19 dc19 pm19 cd19 ct19:Value}{od20 an20:Option Addr}{sl20:Array (Option Value)}{oc20 kV20 dc20 pm20 cd20 ct20:Value}{od21 an21:Option Addr}{sl21:Array (Option Value)}{oc21 kV21 dc21 pm21 cd21 ct21:Value}{od22 an22:Option Addr}{sl22:Array (Option Value)}{oc22 kV22 dc22 pm22 cd22 ct22:Value}{od23 an23:Option Addr}{sl23:Array (Option Value)}{oc23 kV23 dc23 pm23 cd23 ct23:Value}{od24 an24:Option Addr}{sl24:Array (Option Value)}{oc24 kV24 dc24 pm24 cd24 ct24:Value}{od25 an25:Option Addr}{sl25:Array (Option Value)}{oc25 kV25 dc25 pm25 cd25 ct25:Value}{od26 an26:Option Addr}{sl26:Array (Option Value)}{oc26 kV26 dc26 pm26 cd26 ct26:Value}{od27 an27:Option Addr}{sl27:Array (Option Value)}{oc27 kV27 dc27 pm27 cd27 ct27:Value}{od28 an28:Option Addr}{sl28:Array (Option Value)}{oc28 kV28 dc28 pm28 cd28 ct28:Value}{od29 an29:Option Addr}{sl29:Array (Option Value)}{oc29 kV29 dc29 pm29 cd29 ct29:Value}{od30 an30:Option Addr}{sl30:Array (Option Value)}{oc30 kV30 dc30 pm30 cd30 ct30:Value}{od31 an31:Option Addr}{sl31:Array (Option Value)}{oc31 kV31 dc31 pm31 cd31 ct31:Value}{od32 an32:Option Addr}{sl32:Array (Option Value)}{oc32 kV32 dc32 pm32 cd32 ct32:Value}{od33 an33:Option Addr}{sl33:Array (Option Value)}{oc33 kV33 dc33 pm33 cd33 ct33:Value}{od34 an34:Option Addr}{sl34:Array (Option Value)}{oc34 kV34 dc34 pm34 cd34 ct34:Value}{od35 an35:Option Addr}{sl35:Array (Option Value)}{oc35 kV35 dc35 pm35 cd35 ct35:Value}{od36 an36:Option Addr}{sl36:Array (Option Value)}{oc36 kV36 dc36 pm36 cd36 ct36:Value}{od37 an37:Option Addr}{sl37:Array (Option Value)}{oc37 kV37 dc37 pm37 cd37 ct37:Value}{od38 an38:Option Addr}{sl38:Array (Option Value)}{oc38 kV38 dc38 pm38 cd38 ct38:Value}{od39 an39:Option Addr}{sl39:Array (Option Value)}{oc39 kV39 dc39 pm39 cd39 ct39:Value}{od40 an40:Option Addr}{sl40:Array (Option Value)}{oc40 kV40 dc40 pm40 cd40 ct40:Value}{od41 an41:Option Addr}{sl41:Array (Option Value)}{oc41 kV41 dc41 pm41 cd41 ct41:Value}{dT41:Addr}{odD41:Option Addr}{ocD41:Value}{slD41:Array (Option Value)}{nD41:Nat}{od42 an42:Option Addr}{sl42:Array (Option Value)}{oc42 kV42 dc42 pm42 cd42 ct42:Value}{dT42:Addr}{odD42:Option Addr}{ocD42:Value}{slD42:Array (Option Value)}{nD42:Nat}{od43 an43:Option Addr}{sl43:Array (Option Value)}{oc43 kV43 dc43 pm43 cd43 ct43:Value}{od44 an44:Option Addr}{sl44:Array (Option Value)}{oc44 kV44 dc44 pm44 cd44 ct44:Value}{od45 an45:Option Addr}{sl45:Array (Option Value)}{oc45 kV45 dc45 pm45 cd45 ct45:Value}{od46 an46:Option Addr}{sl46:Array (Option Value)}{oc46 kV46 dc46 pm46 cd46 ct46:Value}{od47 an47:Option Addr}{sl47:Array (Option Value)}{oc47 kV47 dc47 pm47 cd47 ct47:Value}{od48 an48:Option Addr}{sl48:Array (Option Value)}{oc48 kV48 dc48 pm48 cd48 ct48:Value}{od49 an49:Option Addr}{sl49:Array (Option Value)}{oc49 kV49 dc49 pm49 cd49 ct49:Value}
  (aC:PySem.W.nsIn K mainGlobals "Book" = some (some (.ref C)))
  (a0:PySem.W.nsIn K mainGlobals "joined" = some (some (.ref f0))) (l0:K.lookup f0=some ⟨oc0,od0,.func (PySem.W.fnOf "joined" "joined" (az cS) (au cS) (ah cS) .none kV0 dc0 pm0 an0 (.ref c) ct0),sl0⟩) (c0:PySem.W.codeIn K (.ref c) "joined" = true) (k0:PySem.W.keepIn K (.ref f0)=true)
  (a1:PySem.W.nsIn K mainGlobals "_law_cell" = some (some (.ref f1))) (l1:K.lookup f1=some ⟨oc1,od1,.func (PySem.W.fnOf "_law_cell" "_law_cell" (az mj) (au mj) (ah mj) .none kV1 dc1 pm1 an1 cd1 ct1),sl1⟩) (c1:PySem.W.codeIn K cd1 "_law_cell" = true) (k1:PySem.W.keepIn K (.ref f1)=true)
  (a2:PySem.W.nsIn K mainGlobals "_law_mix" = some (some (.ref f2))) (l2:K.lookup f2=some ⟨oc2,od2,.func (PySem.W.fnOf "_law_mix" "_law_mix" (az rB) (au rB) (ah rB) .none kV2 dc2 pm2 an2 cd2 ct2),sl2⟩) (c2:PySem.W.codeIn K cd2 "_law_mix" = true) (k2:PySem.W.keepIn K (.ref f2)=true)
  (a3:PySem.W.nsIn K mainGlobals "_law_draw" = some (some (.ref f3))) (l3:K.lookup f3=some ⟨oc3,od3,.func (PySem.W.fnOf "_law_draw" "_law_draw" (az mf) (au mf) (ah mf) .none kV3 dc3 pm3 an3 cd3 ct3),sl3⟩) (c3:PySem.W.codeIn K cd3 "_law_draw" = true) (k3:PySem.W.keepIn K (.ref f3)=true)
  (a4:PySem.W.nsIn K mainGlobals "_law_keys" = some (some (.ref f4))) (l4:K.lookup f4=some ⟨oc4,od4,.func (PySem.W.fnOf "_law_keys" "_law_keys" (az lZ) (au lZ) (ah lZ) .none kV4 dc4 pm4 an4 cd4 ct4),sl4⟩) (c4:PySem.W.codeIn K cd4 "_law_keys" = true) (k4:PySem.W.keepIn K (.ref f4)=true)
  (a5:PySem.W.nsIn K mainGlobals "_law_state" = some (some (.ref f5))) (l5:K.lookup f5=some ⟨oc5,od5,.func (PySem.W.fnOf "_law_state" "_law_state" (az j8) (au j8) (ah j8) .none kV5 dc5 pm5 an5 cd5 ct5),sl5⟩) (c5:PySem.W.codeIn K cd5 "_law_state" = true) (k5:PySem.W.keepIn K (.ref f5)=true)
  (a6:PySem.W.nsIn K mainGlobals "_law_standing" = some (some (.ref f6))) (l6:K.lookup f6=some ⟨oc6,od6,.func (PySem.W.fnOf "_law_standing" "_law_standing" (az j9) (au j9) (ah j9) .none kV6 dc6 pm6 an6 cd6 ct6),sl6⟩) (c6:PySem.W.codeIn K cd6 "_law_standing" = true) (k6:PySem.W.keepIn K (.ref f6)=true)
  (a7:PySem.W.nsIn K mainGlobals "_law_stretch" = some (some (.ref f7))) (l7:K.lookup f7=some ⟨oc7,od7,.func (PySem.W.fnOf "_law_stretch" "_law_stretch" (az eU) (au eU) (ah eU) .none kV7 dc7 pm7 an7 cd7 ct7),sl7⟩) (c7:PySem.W.codeIn K cd7 "_law_stretch" = true) (k7:PySem.W.keepIn K (.ref f7)=true)
  (a8:PySem.W.nsIn K mainGlobals "_law_whole" = some (some (.ref f8))) (l8:K.lookup f8=some ⟨oc8,od8,.func (PySem.W.fnOf "_law_whole" "_law_whole" (az j4) (au j4) (ah j4) .none kV8 dc8 pm8 an8 cd8 ct8),sl8⟩) (c8:PySem.W.codeIn K cd8 "_law_whole" = true) (k8:PySem.W.keepIn K (.ref f8)=true)
  (a9:PySem.W.findIn K (.ref C) "check_key" = some (some (.ref f9))) (i9:PySem.W.isFn K (.ref f9)=true) (l9:K.lookup f9=some ⟨oc9,od9,.func (PySem.W.fnOf "check_key" "Book.check_key" (az gR) (au gR) (ah gR) .none kV9 dc9 pm9 an9 cd9 ct9),sl9⟩) (c9:PySem.W.codeIn K cd9 "Book.check_key" = true) (k9:PySem.W.keepIn K (.ref f9)=true)
  (a10:PySem.W.nsIn K mainGlobals "is_whole" = some (some (.ref f10))) (l10:K.lookup f10=some ⟨oc10,od10,.func (PySem.W.fnOf "is_whole" "is_whole" (az eV) (au eV) (ah eV) .none kV10 dc10 pm10 an10 cd10 ct10),sl10⟩) (c10:PySem.W.codeIn K cd10 "is_whole" = true) (k10:PySem.W.keepIn K (.ref f10)=true)
  (a11:PySem.W.nsIn K mainGlobals "is_day" = some (some (.ref f11))) (l11:K.lookup f11=some ⟨oc11,od11,.func (PySem.W.fnOf "is_day" "is_day" (az jd) (au jd) (ah jd) .none kV11 dc11 pm11 an11 cd11 ct11),sl11⟩) (c11:PySem.W.codeIn K cd11 "is_day" = true) (k11:PySem.W.keepIn K (.ref f11)=true)
  (a12:PySem.W.nsIn K mainGlobals "check_stretch" = some (some (.ref f12))) (l12:K.lookup f12=some ⟨oc12,od12,.func (PySem.W.fnOf "check_stretch" "check_stretch" (az jg) (au jg) (ah jg) .none kV12 dc12 pm12 an12 cd12 ct12),sl12⟩) (c12:PySem.W.codeIn K cd12 "check_stretch" = true) (k12:PySem.W.keepIn K (.ref f12)=true)
  (a13:PySem.W.findIn K (.ref C) "now" = some (some (.ref f13))) (i13:PySem.W.isFn K (.ref f13)=true) (l13:K.lookup f13=some ⟨oc13,od13,.func (PySem.W.fnOf "now" "Book.now" (az rA) (au rA) (ah rA) .none kV13 dc13 pm13 an13 cd13 ct13),sl13⟩) (c13:PySem.W.codeIn K cd13 "Book.now" = true) (k13:PySem.W.keepIn K (.ref f13)=true)
  (a14:PySem.W.findIn K (.ref C) "check_room" = some (some (.ref f14))) (i14:PySem.W.isFn K (.ref f14)=true) (l14:K.lookup f14=some ⟨oc14,od14,.func (PySem.W.fnOf "check_room" "Book.check_room" (az eW) (au eW) (ah eW) .none kV14 dc14 pm14 an14 cd14 ct14),sl14⟩) (c14:PySem.W.codeIn K cd14 "Book.check_room" = true) (k14:PySem.W.keepIn K (.ref f14)=true)
  (a15:PySem.W.findIn K (.ref C) "take_deed" = some (some (.ref f15))) (i15:PySem.W.isFn K (.ref f15)=true) (l15:K.lookup f15=some ⟨oc15,od15,.func (PySem.W.fnOf "take_deed" "Book.take_deed" (az lT) (au lT) (ah lT) .none kV15 dc15 pm15 an15 cd15 ct15),sl15⟩) (c15:PySem.W.codeIn K cd15 "Book.take_deed" = true) (k15:PySem.W.keepIn K (.ref f15)=true)
  (a16:PySem.W.findIn K (.ref C) "turn_meant" = some (some (.ref f16))) (i16:PySem.W.isFn K (.ref f16)=true) (l16:K.lookup f16=some ⟨oc16,od16,.func (PySem.W.fnOf "turn_meant" "Book.turn_meant" (az jb) (au jb) (ah jb) .none kV16 dc16 pm16 an16 cd16 ct16),sl16⟩) (c16:PySem.W.codeIn K cd16 "Book.turn_meant" = true) (k16:PySem.W.keepIn K (.ref f16)=true)
  (a17:PySem.W.findIn K (.ref C) "table" = some (some (.ref f17))) (i17:PySem.W.isFn K (.ref f17)=true) (l17:K.lookup f17=some ⟨oc17,od17,.func (PySem.W.fnOf "table" "Book.table" (az j7) (au j7) (ah j7) (.ref dT17) kV17 dc17 pm17 an17 cd17 ct17),sl17⟩) (c17:PySem.W.codeIn K cd17 "Book.table" = true) (k17:PySem.W.keepIn K (.ref f17)=true) (e17:K.lookup dT17=some ⟨ocD17,odD17,.seq #[Value.none] nD17,slD17⟩)
  (a18:PySem.W.nsIn K mainGlobals "goes_on_strips" = some (some (.ref f18))) (l18:K.lookup f18=some ⟨oc18,od18,.func (PySem.W.fnOf "goes_on" "goes_on" (az gO) (au gO) (ah gO) .none kV18 dc18 pm18 an18 cd18 ct18),sl18⟩) (c18:PySem.W.codeIn K cd18 "goes_on" = true) (k18:PySem.W.keepIn K (.ref f18)=true)
  (a19:PySem.W.nsIn K mainGlobals "around" = some (some (.ref f19))) (l19:K.lookup f19=some ⟨oc19,od19,.func (PySem.W.fnOf "around" "around" (az gS) (au gS) (ah gS) .none kV19 dc19 pm19 an19 cd19 ct19),sl19⟩) (c19:PySem.W.codeIn K cd19 "around" = true) (k19:PySem.W.keepIn K (.ref f19)=true)
  (a20:PySem.W.nsIn K mainGlobals "laid" = some (some (.ref f20))) (l20:K.lookup f20=some ⟨oc20,od20,.func (PySem.W.fnOf "laid" "laid" (az lY) (au lY) (ah lY) .none kV20 dc20 pm20 an20 cd20 ct20),sl20⟩) (c20:PySem.W.codeIn K cd20 "laid" = true) (k20:PySem.W.keepIn K (.ref f20)=true)
  (a21:PySem.W.findIn K (.ref C) "find" = some (some (.ref f21))) (i21:PySem.W.isFn K (.ref f21)=true) (l21:K.lookup f21=some ⟨oc21,od21,.func (PySem.W.fnOf "find" "Book.find" (az md) (au md) (ah md) .none kV21 dc21 pm21 an21 cd21 ct21),sl21⟩) (c21:PySem.W.codeIn K cd21 "Book.find" = true) (k21:PySem.W.keepIn K (.ref f21)=true)
  (a22:PySem.W.findIn K (.ref C) "check_number" = some (some (.ref f22))) (i22:PySem.W.isFn K (.ref f22)=true) (l22:K.lookup f22=some ⟨oc22,od22,.func (PySem.W.fnOf "check_number" "Book.check_number" (az gQ) (au gQ) (ah gQ) .none kV22 dc22 pm22 an22 cd22 ct22),sl22⟩) (c22:PySem.W.codeIn K cd22 "Book.check_number" = true) (k22:PySem.W.keepIn K (.ref f22)=true)
  (a23:PySem.W.findIn K (.ref C) "table_of_known" = some (some (.ref f23))) (i23:PySem.W.isFn K (.ref f23)=true) (l23:K.lookup f23=some ⟨oc23,od23,.func (PySem.W.fnOf "table_of_known" "Book.table_of_known" (az jc) (au jc) (ah jc) .none kV23 dc23 pm23 an23 cd23 ct23),sl23⟩) (c23:PySem.W.codeIn K cd23 "Book.table_of_known" = true) (k23:PySem.W.keepIn K (.ref f23)=true)
  (a24:PySem.W.findIn K (.ref C) "withdraw" = some (some (.ref f24))) (i24:PySem.W.isFn K (.ref f24)=true) (l24:K.lookup f24=some ⟨oc24,od24,.func (PySem.W.fnOf "withdraw" "Book.withdraw" (az iZ) (au iZ) (ah iZ) .none kV24 dc24 pm24 an24 cd24 ct24),sl24⟩) (c24:PySem.W.codeIn K cd24 "Book.withdraw" = true) (k24:PySem.W.keepIn K (.ref f24)=true)
  (a25:PySem.W.nsIn K mainGlobals "_law_done" = some (some (.ref f25))) (l25:K.lookup f25=some ⟨oc25,od25,.func (PySem.W.fnOf "_law_done" "_law_done" (az mh) (au mh) (ah mh) .none kV25 dc25 pm25 an25 cd25 ct25),sl25⟩) (c25:PySem.W.codeIn K cd25 "_law_done" = true) (k25:PySem.W.keepIn K (.ref f25)=true)
  (a26:PySem.W.findIn K (.ref C) "all_keys" = some (some (.ref f26))) (i26:PySem.W.isFn K (.ref f26)=true) (l26:K.lookup f26=some ⟨oc26,od26,.func (PySem.W.fnOf "all_keys" "Book.all_keys" (az rE) (au rE) (ah rE) .none kV26 dc26 pm26 an26 cd26 ct26),sl26⟩) (c26:PySem.W.codeIn K cd26 "Book.all_keys" = true) (k26:PySem.W.keepIn K (.ref f26)=true)
  (a27:PySem.W.nsIn K mainGlobals "cut" = some (some (.ref f27))) (l27:K.lookup f27=some ⟨oc27,od27,.func (PySem.W.fnOf "cut" "cut" (az rD) (au rD) (ah rD) .none kV27 dc27 pm27 an27 cd27 ct27),sl27⟩) (c27:PySem.W.codeIn K cd27 "cut" = true) (k27:PySem.W.keepIn K (.ref f27)=true)
  (a28:PySem.W.nsIn K mainGlobals "filled" = some (some (.ref f28))) (l28:K.lookup f28=some ⟨oc28,od28,.func (PySem.W.fnOf "filled" "filled" (az gP) (au gP) (ah gP) .none kV28 dc28 pm28 an28 cd28 ct28),sl28⟩) (c28:PySem.W.codeIn K cd28 "filled" = true) (k28:PySem.W.keepIn K (.ref f28)=true)
  (a29:PySem.W.nsIn K mainGlobals "side_by_side" = some (some (.ref f29))) (l29:K.lookup f29=some ⟨oc29,od29,.func (PySem.W.fnOf "side_by_side" "side_by_side" (az lU) (au lU) (ah lU) .none kV29 dc29 pm29 an29 cd29 ct29),sl29⟩) (c29:PySem.W.codeIn K cd29 "side_by_side" = true) (k29:PySem.W.keepIn K (.ref f29)=true)
  (a30:PySem.W.nsIn K mainGlobals "unlike" = some (some (.ref f30))) (l30:K.lookup f30=some ⟨oc30,od30,.func (PySem.W.fnOf "unlike" "unlike" (az gK) (au gK) (ah gK) .none kV30 dc30 pm30 an30 cd30 ct30),sl30⟩) (c30:PySem.W.codeIn K cd30 "unlike" = true) (k30:PySem.W.keepIn K (.ref f30)=true)
  (a31:PySem.W.findIn K (.ref C) "found" = some (some (.ref f31))) (i31:PySem.W.isFn K (.ref f31)=true) (l31:K.lookup f31=some ⟨oc31,od31,.func (PySem.W.fnOf "found" "Book.found" (az jf) (au jf) (ah jf) .none kV31 dc31 pm31 an31 cd31 ct31),sl31⟩) (c31:PySem.W.codeIn K cd31 "Book.found" = true) (k31:PySem.W.keepIn K (.ref f31)=true)
  (a32:PySem.W.nsIn K mainGlobals "value_of" = some (some (.ref f32))) (l32:K.lookup f32=some ⟨oc32,od32,.func (PySem.W.fnOf "value_of" "value_of" (az j6) (au j6) (ah j6) .none kV32 dc32 pm32 an32 cd32 ct32),sl32⟩) (c32:PySem.W.codeIn K cd32 "value_of" = true) (k32:PySem.W.keepIn K (.ref f32)=true)
  (a33:PySem.W.nsIn K mainGlobals "goes_on_turns" = some (some (.ref f33))) (l33:K.lookup f33=some ⟨oc33,od33,.func (PySem.W.fnOf "goes_on" "goes_on" (az je) (au je) (ah je) .none kV33 dc33 pm33 an33 cd33 ct33),sl33⟩) (c33:PySem.W.codeIn K cd33 "goes_on" = true) (k33:PySem.W.keepIn K (.ref f33)=true)
  (a34:PySem.W.nsIn K mainGlobals "put_behind" = some (some (.ref f34))) (l34:K.lookup f34=some ⟨oc34,od34,.func (PySem.W.fnOf "put_behind" "put_behind" (az lW) (au lW) (ah lW) .none kV34 dc34 pm34 an34 cd34 ct34),sl34⟩) (c34:PySem.W.codeIn K cd34 "put_behind" = true) (k34:PySem.W.keepIn K (.ref f34)=true)
  (a35:PySem.W.nsIn K mainGlobals "unlike_values" = some (some (.ref f35))) (l35:K.lookup f35=some ⟨oc35,od35,.func (PySem.W.fnOf "unlike_values" "unlike_values" (az lR) (au lR) (ah lR) .none kV35 dc35 pm35 an35 cd35 ct35),sl35⟩) (c35:PySem.W.codeIn K cd35 "unlike_values" = true) (k35:PySem.W.keepIn K (.ref f35)=true)
  (a36:PySem.W.nsIn K mainGlobals "read_with" = some (some (.ref f36))) (l36:K.lookup f36=some ⟨oc36,od36,.func (PySem.W.fnOf "read_with" "read_with" (az lV) (au lV) (ah lV) .none kV36 dc36 pm36 an36 cd36 ct36),sl36⟩) (c36:PySem.W.codeIn K cd36 "read_with" = true) (k36:PySem.W.keepIn K (.ref f36)=true)
  (a37:PySem.W.nsIn K mainGlobals "_law_exchanged" = some (some (.ref f37))) (l37:K.lookup f37=some ⟨oc37,od37,.func (PySem.W.fnOf "_law_exchanged" "_law_exchanged" (az me) (au me) (ah me) .none kV37 dc37 pm37 an37 cd37 ct37),sl37⟩) (c37:PySem.W.codeIn K cd37 "_law_exchanged" = true) (k37:PySem.W.keepIn K (.ref f37)=true)
  (a38:PySem.W.nsIn K mainGlobals "_law_apart" = some (some (.ref f38))) (l38:K.lookup f38=some ⟨oc38,od38,.func (PySem.W.fnOf "_law_apart" "_law_apart" (az jh) (au jh) (ah jh) .none kV38 dc38 pm38 an38 cd38 ct38),sl38⟩) (c38:PySem.W.codeIn K cd38 "_law_apart" = true) (k38:PySem.W.keepIn K (.ref f38)=true)
  (a39:PySem.W.nsIn K mainGlobals "_law_pair_on" = some (some (.ref f39))) (l39:K.lookup f39=some ⟨oc39,od39,.func (PySem.W.fnOf "_law_pair_on" "_law_pair_on" (az gM) (au gM) (ah gM) .none kV39 dc39 pm39 an39 cd39 ct39),sl39⟩) (c39:PySem.W.codeIn K cd39 "_law_pair_on" = true) (k39:PySem.W.keepIn K (.ref f39)=true)
  (a40:PySem.W.nsIn K mainGlobals "mark_on" = some (some (.ref f40))) (l40:K.lookup f40=some ⟨oc40,od40,.func (PySem.W.fnOf "mark_on" "mark_on" (az gN) (au gN) (ah gN) .none kV40 dc40 pm40 an40 cd40 ct40),sl40⟩) (c40:PySem.W.codeIn K cd40 "mark_on" = true) (k40:PySem.W.keepIn K (.ref f40)=true)
  (a41:PySem.W.findIn K (.ref C) "speaks" = some (some (.ref f41))) (i41:PySem.W.isFn K (.ref f41)=true) (l41:K.lookup f41=some ⟨oc41,od41,.func (PySem.W.fnOf "speaks" "Book.speaks" (az gL) (au gL) (ah gL) (.ref dT41) kV41 dc41 pm41 an41 cd41 ct41),sl41⟩) (c41:PySem.W.codeIn K cd41 "Book.speaks" = true) (k41:PySem.W.keepIn K (.ref f41)=true) (e41:K.lookup dT41=some ⟨ocD41,odD41,.seq #[Value.none] nD41,slD41⟩)
  (a42:PySem.W.findIn K (.ref C) "value" = some (some (.ref f42))) (i42:PySem.W.isFn K (.ref f42)=true) (l42:K.lookup f42=some ⟨oc42,od42,.func (PySem.W.fnOf "value" "Book.value" (az j5) (au j5) (ah j5) (.ref dT42) kV42 dc42 pm42 an42 cd42 ct42),sl42⟩) (c42:PySem.W.codeIn K cd42 "Book.value" = true) (k42:PySem.W.keepIn K (.ref f42)=true) (e42:K.lookup dT42=some ⟨ocD42,odD42,.seq #[Value.none] nD42,slD42⟩)
  (a43:PySem.W.nsIn K mainGlobals "_law_day_right" = some (some (.ref f43))) (l43:K.lookup f43=some ⟨oc43,od43,.func (PySem.W.fnOf "_law_day_right" "_law_day_right" (az mi) (au mi) (ah mi) .none kV43 dc43 pm43 an43 cd43 ct43),sl43⟩) (c43:PySem.W.codeIn K cd43 "_law_day_right" = true) (k43:PySem.W.keepIn K (.ref f43)=true)
  (a44:PySem.W.nsIn K mainGlobals "_law_right" = some (some (.ref f44))) (l44:K.lookup f44=some ⟨oc44,od44,.func (PySem.W.fnOf "_law_right" "_law_right" (az ja) (au ja) (ah ja) .none kV44 dc44 pm44 an44 cd44 ct44),sl44⟩) (c44:PySem.W.codeIn K cd44 "_law_right" = true) (k44:PySem.W.keepIn K (.ref f44)=true)
  (a45:PySem.W.nsIn K mainGlobals "has_only" = some (some (.ref f45))) (l45:K.lookup f45=some ⟨oc45,od45,.func (PySem.W.fnOf "has_only" "has_only" (az rC) (au rC) (ah rC) .none kV45 dc45 pm45 an45 cd45 ct45),sl45⟩) (c45:PySem.W.codeIn K cd45 "has_only" = true) (k45:PySem.W.keepIn K (.ref f45)=true)
  (a46:PySem.W.nsIn K mainGlobals "is_name" = some (some (.ref f46))) (l46:K.lookup f46=some ⟨oc46,od46,.func (PySem.W.fnOf "is_name" "is_name" (az lX) (au lX) (ah lX) .none kV46 dc46 pm46 an46 cd46 ct46),sl46⟩) (c46:PySem.W.codeIn K cd46 "is_name" = true) (k46:PySem.W.keepIn K (.ref f46)=true)
  (a47:PySem.W.nsIn K mainGlobals "are_keys" = some (some (.ref f47))) (l47:K.lookup f47=some ⟨oc47,od47,.func (PySem.W.fnOf "are_keys" "are_keys" (az eX) (au eX) (ah eX) .none kV47 dc47 pm47 an47 cd47 ct47),sl47⟩) (c47:PySem.W.codeIn K cd47 "are_keys" = true) (k47:PySem.W.keepIn K (.ref f47)=true)
  (a48:PySem.W.findIn K (.ref C) "__init__" = some (some (.ref f48))) (i48:PySem.W.isFn K (.ref f48)=true) (l48:K.lookup f48=some ⟨oc48,od48,.func (PySem.W.fnOf "__init__" "Book.__init__" (az ma) (au ma) (ah ma) .none kV48 dc48 pm48 an48 cd48 ct48),sl48⟩) (c48:PySem.W.codeIn K cd48 "Book.__init__" = true) (k48:PySem.W.keepIn K (.ref f48)=true)
  (a49:PySem.W.nsIn K mainGlobals "law" = some (some (.ref f49))) (l49:K.lookup f49=some ⟨oc49,od49,.func (PySem.W.fnOf "law" "law" (az nu) (au nu) (ah nu) .none kV49 dc49 pm49 an49 cd49 ct49),sl49⟩) (c49:PySem.W.codeIn K cd49 "law" = true) (k49:PySem.W.keepIn K (.ref f49)=true)
  (pg:PySem.W.plainGet K C Str.empty=true) (hd:PySem.W.hasDictIn K C=true) (po:PySem.W.plainOver K C=true) (sa:PySem.W.findIn K (.ref C) "__setattr__" = some (some (.builtin "object.__setattr__"))) (mk:PySem.W.makesIn K C=true) (kc:PySem.W.keepIn K (.ref C)=true)
  (n1:PySem.W.findIn K (.ref C) "names" = some none) (n2:PySem.W.findIn K (.ref C) "findings" = some none) (n3:PySem.W.findIn K (.ref C) "withdrawals" = some none) (n4:PySem.W.findIn K (.ref C) "deeds" = some none) (n5:PySem.W.findIn K (.ref C) "tables" = some none)
  {t1 t2 t3 t4 t5 t6:Tok} (q1:PySem.W.nsIn K mainGlobals "LETTERS" = some (some (.str ii t1))) (q2:PySem.W.nsIn K mainGlobals "MOST_LETTERS" = some (some (.int 8 t2))) (q3:PySem.W.nsIn K mainGlobals "LAST_DAY" = some (some (.int 399 t3))) (q4:PySem.W.nsIn K mainGlobals "MOST_KEYS" = some (some (.int 8 t4))) (q5:PySem.W.nsIn K mainGlobals "MOST_DEEDS" = some (some (.int 60 t5))) (q6:PySem.W.nsIn K mainGlobals "MOST_VALUE" = some (some (.int 1000000000 t6)))
  (z1:PySem.W.nsIn K mainGlobals "len" = some none) (z2:PySem.W.nsIn K mainGlobals "range" = some none) (z3:PySem.W.nsIn K mainGlobals "sorted" = some none) (z4:PySem.W.nsIn K mainGlobals "isinstance" = some none) (z5:PySem.W.nsIn K mainGlobals "int" = some none) (z6:PySem.W.nsIn K mainGlobals "bool" = some none) (z7:PySem.W.nsIn K mainGlobals "str" = some none) (z8:PySem.W.nsIn K mainGlobals "list" = some none) (z9:PySem.W.nsIn K mainGlobals "tuple" = some none) (z10:PySem.W.nsIn K mainGlobals "dict" = some none) (z11:PySem.W.nsIn K mainGlobals "set" = some none) (z12:PySem.W.nsIn K mainGlobals "max" = some none) (z13:PySem.W.nsIn K mainGlobals "min" = some none) (z14:PySem.W.nsIn K mainGlobals "all" = some none) (z15:PySem.W.nsIn K mainGlobals "enumerate" = some none) (z16:PySem.W.nsIn K mainGlobals "zip" = some none) :
  ∃fd:FuncData,(∀(s:Shared) (v:Value),BindsTo s fd ⟨[v],[]⟩ [("_law_script", v)])/\∀base:Heap,K.In base->base.Ns mainGlobals mg->PySem.W.CodeHd base c L->base.BuiltinsAt mg L->FnOk l.prog w K mg base CX0 10 fa fd ["_law_script"] (qt K C L):=by
 have e:=hfa.symm.trans (PySem.W.mg_of X G a49)
 cases e
 have N:Free mg:=⟨PySem.W.mg_none_of X G z1,PySem.W.mg_none_of X G z2,PySem.W.mg_none_of X G z3,PySem.W.mg_none_of X G z4,PySem.W.mg_none_of X G z5,PySem.W.mg_none_of X G z6,PySem.W.mg_none_of X G z7,PySem.W.mg_none_of X G z8,PySem.W.mg_none_of X G z9,PySem.W.mg_none_of X G z10,PySem.W.mg_none_of X G z11,PySem.W.mg_none_of X G z12,PySem.W.mg_none_of X G z13,PySem.W.mg_none_of X G z14,PySem.W.mg_none_of X G z15⟩
 have Z:Con mg:=⟨⟨_,PySem.W.mg_of X G q1⟩,⟨_,PySem.W.mg_of X G q2⟩,⟨_,PySem.W.mg_of X G q3⟩,⟨_,PySem.W.mg_of X G q4⟩,⟨_,PySem.W.mg_of X G q5⟩,⟨_,PySem.W.mg_of X G q6⟩⟩
 have TB:BkC K C:=⟨⟨pg,hd,po,sa⟩,n1,n2,n3,n4,n5⟩
 have mC:=PySem.W.mg_of X G aC
 have F1:=aK (st:=mj) l1 c1 k1
 have b1:=F1.binds (ps:=["_law_script", "_law_k"]) λ_ _ _ _ _ _=>ar2 λ_ _=>rfl
 have m1:=PySem.W.mg_of X G a1
 have F2:=aK (st:=rB) l2 c2 k2
 have b2:=F2.binds (ps:=["_law_cell_here", "_law_k"]) λ_ _ _ _ _ _=>ar2 λ_ _=>rfl
 have m2:=PySem.W.mg_of X G a2
 have F3:=aK (st:=mf) l3 c3 k3
 have b3:=F3.binds (ps:=["_law_cell_here", "_law_k", "_law_many"]) λ_ _ _ _ _ _=>ar3 λ_ _ _=>rfl
 have m3:=PySem.W.mg_of X G a3
 have F4:=aK (st:=lZ) l4 c4 k4
 have b4:=F4.binds (ps:=["_law_cell_here"]) λ_ _ _ _ _ _=>ar1 λ_=>rfl
 have m4:=PySem.W.mg_of X G a4
 have F5:=aK (st:=j8) l5 c5 k5
 have b5:=F5.binds (ps:=["_law_keys_here"]) λ_ _ _ _ _ _=>ar1 λ_=>rfl
 have m5:=PySem.W.mg_of X G a5
 have F6:=aK (st:=j9) l6 c6 k6
 have b6:=F6.binds (ps:=["_law_state_here"]) λ_ _ _ _ _ _=>ar1 λ_=>rfl
 have m6:=PySem.W.mg_of X G a6
 have F7:=aK (st:=eU) l7 c7 k7
 have b7:=F7.binds (ps:=["_law_cell_here", "_law_k", "_law_span"]) λ_ _ _ _ _ _=>ar3 λ_ _ _=>rfl
 have m7:=PySem.W.mg_of X G a7
 have F8:=aK (st:=j4) l8 c8 k8
 have b8:=F8.binds (ps:=["_law_found"]) λ_ _ _ _ _ _=>ar1 λ_=>rfl
 have m8:=PySem.W.mg_of X G a8
 have F9:=aK (st:=gR) l9 c9 k9
 have b9:=F9.binds (ps:=["self", "key"]) λ_ _ _ _ _ _=>ar2 λ_ _=>rfl
 have F10:=aK (st:=eV) l10 c10 k10
 have b10:=F10.binds (ps:=["thing", "low", "high"]) λ_ _ _ _ _ _=>ar3 λ_ _ _=>rfl
 have m10:=PySem.W.mg_of X G a10
 have F11:=aK (st:=jd) l11 c11 k11
 have b11:=F11.binds (ps:=["thing"]) λ_ _ _ _ _ _=>ar1 λ_=>rfl
 have m11:=PySem.W.mg_of X G a11
 have F12:=aK (st:=jg) l12 c12 k12
 have b12:=F12.binds (ps:=["first", "last"]) λ_ _ _ _ _ _=>ar2 λ_ _=>rfl
 have m12:=PySem.W.mg_of X G a12
 have F13:=aK (st:=rA) l13 c13 k13
 have b13:=F13.binds (ps:=["self"]) λ_ _ _ _ _ _=>ar1 λ_=>rfl
 have F14:=aK (st:=eW) l14 c14 k14
 have b14:=F14.binds (ps:=["self"]) λ_ _ _ _ _ _=>ar1 λ_=>rfl
 have F15:=aK (st:=lT) l15 c15 k15
 have b15:=F15.binds (ps:=["self", "word", "number", "strip"]) λ_ _ _ _ _ _=>ar4 λ_ _ _ _=>rfl
 have F16:=aK (st:=jb) l16 c16 k16
 have b16:=F16.binds (ps:=["self", "turn"]) λ_ _ _ _ _ _=>ar2 λ_ _=>rfl
 have F17:=FunD.mk' (st:=j7) l17 c17 k17
 have b17:=F17.binds (us0:=[]) (ps:=["self", "key", "turn"]) (ds:=[Value.none]) e17 rfl λ_ _ _ _ _ _ us hl=>by
  have hl':us.length=2:=by simpa using hl
  clear hl
  revert us
  exact ar2 λ_ _=>⟨_,rfl,rfl⟩
 have bf17:=F17.binds (us0:=[]) (ps:=["self", "key", "turn"]) (ds:=[]) e17 rfl λ_ _ _ _ _ _ us hl=>by
  have hl':us.length=3:=by simpa using hl
  clear hl
  revert us
  exact ar3 λ_ _ _=>⟨_,rfl,rfl⟩
 have F18:=aK (st:=gO) l18 c18 k18
 have b18:=F18.binds (ps:=["row", "first", "mark"]) λ_ _ _ _ _ _=>ar3 λ_ _ _=>rfl
 have m18:=PySem.W.mg_of X G a18
 have F19:=aK (st:=gS) l19 c19 k19
 have b19:=F19.binds (ps:=["rows", "first", "last"]) λ_ _ _ _ _ _=>ar3 λ_ _ _=>rfl
 have m19:=PySem.W.mg_of X G a19
 have F20:=aK (st:=lY) l20 c20 k20
 have b20:=F20.binds (ps:=["strip", "first", "last", "mark"]) λ_ _ _ _ _ _=>ar4 λ_ _ _ _=>rfl
 have m20:=PySem.W.mg_of X G a20
 have F21:=aK (st:=md) l21 c21 k21
 have b21:=F21.binds (ps:=["self", "key", "first", "last", "value"]) λ_ _ _ _ _ _=>ar5 λ_ _ _ _ _=>rfl
 have F22:=aK (st:=gQ) l22 c22 k22
 have b22:=F22.binds (ps:=["self", "number"]) λ_ _ _ _ _ _=>ar2 λ_ _=>rfl
 have F23:=aK (st:=jc) l23 c23 k23
 have b23:=F23.binds (ps:=["self", "key"]) λ_ _ _ _ _ _=>ar2 λ_ _=>rfl
 have F24:=aK (st:=iZ) l24 c24 k24
 have b24:=F24.binds (ps:=["self", "number"]) λ_ _ _ _ _ _=>ar2 λ_ _=>rfl
 have F25:=aK (st:=mh) l25 c25 k25
 have b25:=F25.binds (ps:=["_law_book", "_law_state_here", "_law_cell_here", "_law_span"]) λ_ _ _ _ _ _=>ar4 λ_ _ _ _=>rfl
 have m25:=PySem.W.mg_of X G a25
 have F26:=aK (st:=rE) l26 c26 k26
 have b26:=F26.binds (ps:=["self"]) λ_ _ _ _ _ _=>ar1 λ_=>rfl
 have F27:=aK (st:=rD) l27 c27 k27
 have b27:=F27.binds (ps:=["strip", "first", "last"]) λ_ _ _ _ _ _=>ar3 λ_ _ _=>rfl
 have m27:=PySem.W.mg_of X G a27
 have F28:=aK (st:=gP) l28 c28 k28
 have b28:=F28.binds (ps:=["strip", "first", "last"]) λ_ _ _ _ _ _=>ar3 λ_ _ _=>rfl
 have m28:=PySem.W.mg_of X G a28
 have F29:=aK (st:=lU) l29 c29 k29
 have b29:=F29.binds (ps:=["one", "other", "first", "last"]) λ_ _ _ _ _ _=>ar4 λ_ _ _ _=>rfl
 have m29:=PySem.W.mg_of X G a29
 have F30:=aK (st:=gK) l30 c30 k30
 have b30:=F30.binds (ps:=["book", "one", "other"]) λ_ _ _ _ _ _=>ar3 λ_ _ _=>rfl
 have m30:=PySem.W.mg_of X G a30
 have F31:=aK (st:=jf) l31 c31 k31
 have b31:=F31.binds (ps:=["self", "number"]) λ_ _ _ _ _ _=>ar2 λ_ _=>rfl
 have F32:=aK (st:=j6) l32 c32 k32
 have b32:=F32.binds (ps:=["book", "number"]) λ_ _ _ _ _ _=>ar2 λ_ _=>rfl
 have m32:=PySem.W.mg_of X G a32
 have F33:=aK (st:=je) l33 c33 k33
 have b33:=F33.binds (ps:=["box", "behind"]) λ_ _ _ _ _ _=>ar2 λ_ _=>rfl
 have m33:=PySem.W.mg_of X G a33
 have F34:=aK (st:=lW) l34 c34 k34
 have b34:=F34.binds (ps:=["boxes", "box"]) λ_ _ _ _ _ _=>ar2 λ_ _=>rfl
 have m34:=PySem.W.mg_of X G a34
 have F35:=aK (st:=lR) l35 c35 k35
 have b35:=F35.binds (ps:=["book", "one", "other"]) λ_ _ _ _ _ _=>ar3 λ_ _ _=>rfl
 have m35:=PySem.W.mg_of X G a35
 have F36:=aK (st:=lV) l36 c36 k36
 have b36:=F36.binds (ps:=["strip", "boxes"]) λ_ _ _ _ _ _=>ar2 λ_ _=>rfl
 have m36:=PySem.W.mg_of X G a36
 have F37:=aK (st:=me) l37 c37 k37
 have b37:=F37.binds (ps:=["_law_boxes"]) λ_ _ _ _ _ _=>ar1 λ_=>rfl
 have m37:=PySem.W.mg_of X G a37
 have F38:=aK (st:=jh) l38 c38 k38
 have b38:=F38.binds (ps:=["_law_boxes"]) λ_ _ _ _ _ _=>ar1 λ_=>rfl
 have m38:=PySem.W.mg_of X G a38
 have F39:=aK (st:=gM) l39 c39 k39
 have b39:=F39.binds (ps:=["_law_boxes", "_law_key", "_law_day"]) λ_ _ _ _ _ _=>ar3 λ_ _ _=>rfl
 have m39:=PySem.W.mg_of X G a39
 have F40:=aK (st:=gN) l40 c40 k40
 have b40:=F40.binds (ps:=["strip", "day"]) λ_ _ _ _ _ _=>ar2 λ_ _=>rfl
 have m40:=PySem.W.mg_of X G a40
 have F41:=FunD.mk' (st:=gL) l41 c41 k41
 have b41:=F41.binds (us0:=[]) (ps:=["self", "key", "day", "turn"]) (ds:=[Value.none]) e41 rfl λ_ _ _ _ _ _ us hl=>by
  have hl':us.length=3:=by simpa using hl
  clear hl
  revert us
  exact ar3 λ_ _ _=>⟨_,rfl,rfl⟩
 have bf41:=F41.binds (us0:=[]) (ps:=["self", "key", "day", "turn"]) (ds:=[]) e41 rfl λ_ _ _ _ _ _ us hl=>by
  have hl':us.length=4:=by simpa using hl
  clear hl
  revert us
  exact ar4 λ_ _ _ _=>⟨_,rfl,rfl⟩
 have F42:=FunD.mk' (st:=j5) l42 c42 k42
 have b42:=F42.binds (us0:=[]) (ps:=["self", "key", "day", "turn"]) (ds:=[Value.none]) e42 rfl λ_ _ _ _ _ _ us hl=>by
  have hl':us.length=3:=by simpa using hl
  clear hl
  revert us
  exact ar3 λ_ _ _=>⟨_,rfl,rfl⟩
 have bf42:=F42.binds (us0:=[]) (ps:=["self", "key", "day", "turn"]) (ds:=[]) e42 rfl λ_ _ _ _ _ _ us hl=>by
  have hl':us.length=4:=by simpa using hl
  clear hl
  revert us
  exact ar4 λ_ _ _ _=>⟨_,rfl,rfl⟩
 have F43:=aK (st:=mi) l43 c43 k43
 have b43:=F43.binds (ps:=["_law_book", "_law_boxes", "_law_values", "_law_key", "_law_day", "_law_turns"]) λ_ _ _ _ _ _=>ar6 λ_ _ _ _ _ _=>rfl
 have m43:=PySem.W.mg_of X G a43
 have F44:=aK (st:=ja) l44 c44 k44
 have b44:=F44.binds (ps:=["_law_book", "_law_state_here", "_law_one", "_law_other", "_law_cell_here"]) λ_ _ _ _ _ _=>ar5 λ_ _ _ _ _=>rfl
 have m44:=PySem.W.mg_of X G a44
 have F45:=aK (st:=rC) l45 c45 k45
 have b45:=F45.binds (ps:=["text", "signs", "most"]) λ_ _ _ _ _ _=>ar3 λ_ _ _=>rfl
 have m45:=PySem.W.mg_of X G a45
 have F46:=aK (st:=lX) l46 c46 k46
 have b46:=F46.binds (ps:=["thing"]) λ_ _ _ _ _ _=>ar1 λ_=>rfl
 have m46:=PySem.W.mg_of X G a46
 have F47:=aK (st:=eX) l47 c47 k47
 have b47:=F47.binds (ps:=["thing"]) λ_ _ _ _ _ _=>ar1 λ_=>rfl
 have m47:=PySem.W.mg_of X G a47
 have F48:=aK (st:=ma) l48 c48 k48
 have b48:=F48.binds (ps:=["self", "keys"]) λ_ _ _ _ _ _=>ar2 λ_ _=>rfl
 have F49:=aK (st:=nu) l49 c49 k49
 have b49:=F49.binds (ps:=["_law_script"]) λ_ _ _ _ _ _=>ar1 λ_=>rfl
 have m49:=PySem.W.mg_of X G a49
 have F0:=aK (st:=cS) l0 c0 k0
 have b0:=F0.binds (ps:=["rows"]) λ_ _ _ _ _ _=>ar1 λ_=>rfl
 have m0:=PySem.W.mg_of X G a0
 refine⟨PySem.W.fnOf "law" "law" (az nu) (au nu) (ah nu) .none kV49 dc49 pm49 an49 cd49 ct49,λs v=>.of_eq rfl,λbase hK hN hC hB=>?_⟩
 have G1:FnOk l.prog w K mg base CX0 1 f1 _ ["_law_script", "_law_k"] (n8 K):=wq F1 N
 have C1:Cal l.prog w K mg base "_law_cell" 1 ["_law_script", "_law_k"] (n8 K) f1 _:=⟨G1,m1,k1,b1⟩
 have G2:FnOk l.prog w K mg base CX0 1 f2 _ ["_law_cell_here", "_law_k"] lP:=xO F2
 have C2:Cal l.prog w K mg base "_law_mix" 1 ["_law_cell_here", "_law_k"] lP f2 _:=⟨G2,m2,k2,b2⟩
 have G3:FnOk l.prog w K mg base CX0 2 f3 _ ["_law_cell_here", "_law_k", "_law_many"] fj:=wm F3 C2
 have C3:Cal l.prog w K mg base "_law_draw" 2 ["_law_cell_here", "_law_k", "_law_many"] fj f3 _:=⟨G3,m3,k3,b3⟩
 have G4:FnOk l.prog w K mg base CX0 3 f4 _ ["_law_cell_here"] mY:=wg F4 N C3 C2
 have C4:Cal l.prog w K mg base "_law_keys" 3 ["_law_cell_here"] mY f4 _:=⟨G4,m4,k4,b4⟩
 have G5:FnOk l.prog w K mg base CX0 1 f5 _ ["_law_keys_here"] jM:=ul F5 N
 have C5:Cal l.prog w K mg base "_law_state" 1 ["_law_keys_here"] jM f5 _:=⟨G5,m5,k5,b5⟩
 have G6:FnOk l.prog w K mg base CX0 1 f6 _ ["_law_state_here"] jN:=um F6 N
 have C6:Cal l.prog w K mg base "_law_standing" 1 ["_law_state_here"] jN f6 _:=⟨G6,m6,k6,b6⟩
 have G7:FnOk l.prog w K mg base CX0 3 f7 _ ["_law_cell_here", "_law_k", "_law_span"] gI:=pI F7 N C3
 have C7:Cal l.prog w K mg base "_law_stretch" 3 ["_law_cell_here", "_law_k", "_law_span"] gI f7 _:=⟨G7,m7,k7,b7⟩
 have G8:FnOk l.prog w K mg base CX0 1 f8 _ ["_law_found"] jK:=uh F8 N
 have C8:Cal l.prog w K mg base "_law_whole" 1 ["_law_found"] jK f8 _:=⟨G8,m8,k8,b8⟩
 have G9:FnOk l.prog w K mg base CX0 1 f9 _ ["self", "key"] (eT C):=rZ F9 TB
 have M9:MC l.prog w K mg base C "check_key" 1 ["self", "key"] [] [] (eT C) f9 _:=⟨TB.cl,⟨a9,i9,k9⟩,G9,b9,.nil⟩
 have G10:FnOk l.prog w K mg base CX0 1 f10 _ ["thing", "low", "high"] cL:=pJ F10 N
 have C10:Cal l.prog w K mg base "is_whole" 1 ["thing", "low", "high"] cL f10 _:=⟨G10,m10,k10,b10⟩
 have G11:FnOk l.prog w K mg base CX0 2 f11 _ ["thing"] iz:=ut F11 Z C10
 have C11:Cal l.prog w K mg base "is_day" 2 ["thing"] iz f11 _:=⟨G11,m11,k11,b11⟩
 have G12:FnOk l.prog w K mg base CX0 3 f12 _ ["first", "last"] jS:=ux F12 Z C10 C11
 have C12:Cal l.prog w K mg base "check_stretch" 3 ["first", "last"] jS f12 _:=⟨G12,m12,k12,b12⟩
 have G13:FnOk l.prog w K mg base CX0 1 f13 _ ["self"] (kD C):=xN F13 N TB
 have M13:MC l.prog w K mg base C "now" 1 ["self"] [] [] (kD C) f13 _:=⟨TB.cl,⟨a13,i13,k13⟩,G13,b13,.nil⟩
 have G14:FnOk l.prog w K mg base CX0 2 f14 _ ["self"] (eS C):=pK F14 Z TB M13
 have M14:MC l.prog w K mg base C "check_room" 2 ["self"] [] [] (eS C) f14 _:=⟨TB.cl,⟨a14,i14,k14⟩,G14,b14,.nil⟩
 have G15:FnOk l.prog w K mg base CX0 1 f15 _ ["self", "word", "number", "strip"] (kB C):=w6 F15 N TB
 have M15:MC l.prog w K mg base C "take_deed" 1 ["self", "word", "number", "strip"] [] [] (kB C) f15 _:=⟨TB.cl,⟨a15,i15,k15⟩,G15,b15,.nil⟩
 have G16:FnOk l.prog w K mg base CX0 2 f16 _ ["self", "turn"] (ix C):=uq F16 TB M13 C10
 have M16:MC l.prog w K mg base C "turn_meant" 2 ["self", "turn"] [] [] (ix C) f16 _:=⟨TB.cl,⟨a16,i16,k16⟩,G16,b16,.nil⟩
 have G17:FnOk l.prog w K mg base CX0 3 f17 _ ["self", "key", "turn"] (eE C):=uk F17 N TB M9 M16
 have M17:MC l.prog w K mg base C "table" 3 ["self", "key", "turn"] [Value.none] [V.non] (eE C) f17 _:=⟨TB.cl,⟨a17,i17,k17⟩,G17,b17,.cons rfl .nil⟩
 have Mf17:MC l.prog w K mg base C "table" 3 ["self", "key", "turn"] [] [] (eE C) f17 _:=⟨TB.cl,⟨a17,i17,k17⟩,G17,bf17,.nil⟩
 have G18:FnOk l.prog w K mg base CX0 1 f18 _ ["row", "first", "mark"] iA:=rW F18
 have C18:Cal l.prog w K mg base "goes_on_strips" 1 ["row", "first", "mark"] iA f18 _:=⟨G18,m18,k18,b18⟩
 have C0:Cal l.prog w K mg base "joined" 3 ["rows"] (dQ L) f0 _:=⟨rV l0 c0 hC hB N.sorted G18 m18 k18 b18,m0,k0,b0⟩
 have G19:FnOk l.prog w K mg base CX0 3 f19 _ ["rows", "first", "last"] (fQ L):=sd F19 N.min N.max
 have C19:Cal l.prog w K mg base "around" 3 ["rows", "first", "last"] (fQ L) f19 _:=⟨G19,m19,k19,b19⟩
 have G20:FnOk l.prog w K mg base CX0 4 f20 _ ["strip", "first", "last", "mark"] (kE L):=we F20 C0 C19
 have C20:Cal l.prog w K mg base "laid" 4 ["strip", "first", "last", "mark"] (kE L) f20 _:=⟨G20,m20,k20,b20⟩
 have G21:FnOk l.prog w K mg base CX0 5 f21 _ ["self", "key", "first", "last", "value"] (mZ C L):=wk F21 N Z TB M9 C12 C10 M14 M13 M15 M17 C20
 have M21:MC l.prog w K mg base C "find" 5 ["self", "key", "first", "last", "value"] [] [] (mZ C L) f21 _:=⟨TB.cl,⟨a21,i21,k21⟩,G21,b21,.nil⟩
 have G22:FnOk l.prog w K mg base CX0 2 f22 _ ["self", "number"] (fO C):=rY F22 N TB C10
 have M22:MC l.prog w K mg base C "check_number" 2 ["self", "number"] [] [] (fO C) f22 _:=⟨TB.cl,⟨a22,i22,k22⟩,G22,b22,.nil⟩
 have G23:FnOk l.prog w K mg base CX0 5 f23 _ ["self", "key"] (jP C L):=ur F23 N TB C20
 have M23:MC l.prog w K mg base C "table_of_known" 5 ["self", "key"] [] [] (jP C L) f23 _:=⟨TB.cl,⟨a23,i23,k23⟩,G23,b23,.nil⟩
 have G24:FnOk l.prog w K mg base CX0 6 f24 _ ["self", "number"] (jJ C L):=ug F24 TB M22 M14 M13 M15 M23
 have M24:MC l.prog w K mg base C "withdraw" 6 ["self", "number"] [] [] (jJ C L) f24 _:=⟨TB.cl,⟨a24,i24,k24⟩,G24,b24,.nil⟩
 have G25:FnOk l.prog w K mg base CX0 7 f25 _ ["_law_book", "_law_state_here", "_law_cell_here", "_law_span"] (n6 C L):=wn F25 N C3 C6 C7 C8 M21 M24
 have C25:Cal l.prog w K mg base "_law_done" 7 ["_law_book", "_law_state_here", "_law_cell_here", "_law_span"] (n6 C L) f25 _:=⟨G25,m25,k25,b25⟩
 have G26:FnOk l.prog w K mg base CX0 1 f26 _ ["self"] (qw C):=xS F26 N TB
 have M26:MC l.prog w K mg base C "all_keys" 1 ["self"] [] [] (qw C) f26 _:=⟨TB.cl,⟨a26,i26,k26⟩,G26,b26,.nil⟩
 have G27:FnOk l.prog w K mg base CX0 4 f27 _ ["strip", "first", "last"] (qv L):=xR F27 N C0
 have C27:Cal l.prog w K mg base "cut" 4 ["strip", "first", "last"] (qv L) f27 _:=⟨G27,m27,k27,b27⟩
 have G28:FnOk l.prog w K mg base CX0 5 f28 _ ["strip", "first", "last"] (iB L):=rX F28 C0 C27
 have C28:Cal l.prog w K mg base "filled" 5 ["strip", "first", "last"] (iB L) f28 _:=⟨G28,m28,k28,b28⟩
 have G29:FnOk l.prog w K mg base CX0 6 f29 _ ["one", "other", "first", "last"] (mW L):=w8 F29 C28
 have C29:Cal l.prog w K mg base "side_by_side" 6 ["one", "other", "first", "last"] (mW L) f29 _:=⟨G29,m29,k29,b29⟩
 have G30:FnOk l.prog w K mg base CX0 7 f30 _ ["book", "one", "other"] (dO C L):=rQ F30 Z M26 Mf17 C29
 have C30:Cal l.prog w K mg base "unlike" 7 ["book", "one", "other"] (dO C L) f30 _:=⟨G30,m30,k30,b30⟩
 have G31:FnOk l.prog w K mg base CX0 3 f31 _ ["self", "number"] (jR C):=uw F31 TB M22
 have M31:MC l.prog w K mg base C "found" 3 ["self", "number"] [] [] (jR C) f31 _:=⟨TB.cl,⟨a31,i31,k31⟩,G31,b31,.nil⟩
 have G32:FnOk l.prog w K mg base CX0 4 f32 _ ["book", "number"] (jL C):=uj F32 M31
 have C32:Cal l.prog w K mg base "value_of" 4 ["book", "number"] (jL C) f32 _:=⟨G32,m32,k32,b32⟩
 have G33:FnOk l.prog w K mg base CX0 1 f33 _ ["box", "behind"] jQ:=uu F33
 have C33:Cal l.prog w K mg base "goes_on_turns" 1 ["box", "behind"] jQ f33 _:=⟨G33,m33,k33,b33⟩
 have G34:FnOk l.prog w K mg base CX0 2 f34 _ ["boxes", "box"] mX:=wb F34 C33
 have C34:Cal l.prog w K mg base "put_behind" 2 ["boxes", "box"] mX f34 _:=⟨G34,m34,k34,b34⟩
 have G35:FnOk l.prog w K mg base CX0 8 f35 _ ["book", "one", "other"] (iW C L):=vZ F35 C30 C32 C34
 have C35:Cal l.prog w K mg base "unlike_values" 8 ["book", "one", "other"] (iW C L) f35 _:=⟨G35,m35,k35,b35⟩
 have G36:FnOk l.prog w K mg base CX0 4 f36 _ ["strip", "boxes"] (kC L):=wa F36 N C19 C0
 have C36:Cal l.prog w K mg base "read_with" 4 ["strip", "boxes"] (kC L) f36 _:=⟨G36,m36,k36,b36⟩
 have G37:FnOk l.prog w K mg base CX0 1 f37 _ ["_law_boxes"] (kF L):=wl F37
 have C37:Cal l.prog w K mg base "_law_exchanged" 1 ["_law_boxes"] (kF L) f37 _:=⟨G37,m37,k37,b37⟩
 have G38:FnOk l.prog w K mg base CX0 1 f38 _ ["_law_boxes"] jT:=uy F38 (PySem.W.mg_none_of X G z16)
 have C38:Cal l.prog w K mg base "_law_apart" 1 ["_law_boxes"] jT f38 _:=⟨G38,m38,k38,b38⟩
 have G39:FnOk l.prog w K mg base CX0 1 f39 _ ["_law_boxes", "_law_key", "_law_day"] iw:=rS F39
 have C39:Cal l.prog w K mg base "_law_pair_on" 1 ["_law_boxes", "_law_key", "_law_day"] iw f39 _:=⟨G39,m39,k39,b39⟩
 have G40:FnOk l.prog w K mg base CX0 1 f40 _ ["strip", "day"] iy:=rT F40
 have C40:Cal l.prog w K mg base "mark_on" 1 ["strip", "day"] iy f40 _:=⟨G40,m40,k40,b40⟩
 have G41:FnOk l.prog w K mg base CX0 3 f41 _ ["self", "key", "day", "turn"] (dP C):=rR F41 N TB M9 M16 C40 C11
 have M41:MC l.prog w K mg base C "speaks" 3 ["self", "key", "day", "turn"] [Value.none] [V.non] (dP C) f41 _:=⟨TB.cl,⟨a41,i41,k41⟩,G41,b41,.cons rfl .nil⟩
 have Mf41:MC l.prog w K mg base C "speaks" 3 ["self", "key", "day", "turn"] [] [] (dP C) f41 _:=⟨TB.cl,⟨a41,i41,k41⟩,G41,bf41,.nil⟩
 have G42:FnOk l.prog w K mg base CX0 4 f42 _ ["self", "key", "day", "turn"] (gH C):=ui F42 TB Mf41
 have M42:MC l.prog w K mg base C "value" 4 ["self", "key", "day", "turn"] [Value.none] [V.non] (gH C) f42 _:=⟨TB.cl,⟨a42,i42,k42⟩,G42,b42,.cons rfl .nil⟩
 have Mf42:MC l.prog w K mg base C "value" 4 ["self", "key", "day", "turn"] [] [] (gH C) f42 _:=⟨TB.cl,⟨a42,i42,k42⟩,G42,bf42,.nil⟩
 have G43:FnOk l.prog w K mg base CX0 5 f43 _ ["_law_book", "_law_boxes", "_law_values", "_law_key", "_law_day", "_law_turns"] (kG C):=wo F43 N C39 Mf41 Mf42
 have C43:Cal l.prog w K mg base "_law_day_right" 5 ["_law_book", "_law_boxes", "_law_values", "_law_key", "_law_day", "_law_turns"] (kG C) f43 _:=⟨G43,m43,k43,b43⟩
 have G44:FnOk l.prog w K mg base CX0 9 f44 _ ["_law_book", "_law_state_here", "_law_one", "_law_other", "_law_cell_here"] (jO C L):=uo F44 N C30 C35 C36 C37 C38 C3 C43 Mf17
 have C44:Cal l.prog w K mg base "_law_right" 9 ["_law_book", "_law_state_here", "_law_one", "_law_other", "_law_cell_here"] (jO C L) f44 _:=⟨G44,m44,k44,b44⟩
 have G45:FnOk l.prog w K mg base CX0 1 f45 _ ["text", "signs", "most"] qu:=xQ F45 N
 have C45:Cal l.prog w K mg base "has_only" 1 ["text", "signs", "most"] qu f45 _:=⟨G45,m45,k45,b45⟩
 have G46:FnOk l.prog w K mg base CX0 2 f46 _ ["thing"] iX:=wc F46 N Z C45
 have C46:Cal l.prog w K mg base "is_name" 2 ["thing"] iX f46 _:=⟨G46,m46,k46,b46⟩
 have G47:FnOk l.prog w K mg base CX0 3 f47 _ ["thing"] gJ:=pM F47 N Z C46
 have C47:Cal l.prog w K mg base "are_keys" 3 ["thing"] gJ f47 _:=⟨G47,m47,k47,b47⟩
 have G48:FnOk l.prog w K mg base CX0 4 f48 _ ["self", "keys"] (ph C):=wj F48 N TB C47
 exact xP F49 N C1 C4 C5 C3 C25 C44 C2 C30 C35 ⟨mk,a48,i48,kc⟩ G48 b48 mC
theorem walk {l:PySem.W.OpenLaw}{q:Program}{loose:List Str}{XP:(Str->Option Value)->Heap->Prop}{YP:World->Heap->Prop}{d dj:DefRec}{K:Params->PySem.W.Frag}{c L C:Addr} (hn:l.most=some 63) (hdf:d.params.defaults=[])
  (hY:∀(w:World) (h:Heap),YP w h->(K w.params).In h)
  (hrj:(PyProof.Rows.recsOf q).find? (λe=>e.name == ("joined" : Str))=some dj) (htab:∀(w:World) (h:Heap),(K w.params).In h->PySem.W.tabIn (K w.params) "joined" = some (c,L)) (hnt:∀(w:World) (h:Heap),(K w.params).In h->PySem.W.noTabs (K w.params)=true)
  (F:∀(w:World) (mg:Str->Option Value) (fa:Addr) (h:Heap),(K w.params).In h->h.Ns mainGlobals mg->mg d.name=some (.ref fa)->
   ∃fd:FuncData,(∀(s:Shared) (u:Value),BindsTo s fd ⟨[u],[]⟩ [("_law_script", u)])/\
    ∀base:Heap,(K w.params).In base->base.Ns mainGlobals mg->PySem.W.CodeHd base c L->base.BuiltinsAt mg L->FnOk l.prog w (K w.params) mg base CX0 10 fa fd ["_law_script"] (qt (K w.params) C L)) :
  PySem.W.WalkO q loose XP YP l.row.toRowW d [] (λf vs=>PySem.call f vs):=
 sY (n:=63) (k:=10) (x:="_law_script") (xj:="joined") (sp:=λw=>qt (K w.params) C L) hn (by decide) hdf ⟨rfl,by decide,by decide⟩ hY hrj htab hnt F λw H a ns hl hO hS=>⟨a,ns,rfl,.inl hO.1,hS,hl,λ_=>rfl⟩
end Mine
open PySem PySem.W PyProof.Rows
namespace PySem.W.Fast
theorem tw18122783924328531993:True:=⟨⟩
theorem tw4072545732827652737:True:=⟨⟩
theorem tw16140426041111502237:True:=⟨⟩
theorem tw7240366257859047252:True:=⟨⟩
theorem tw396358171168112054:True:=⟨⟩
theorem tw12621210808306941353:True:=⟨⟩
theorem tw5444679866686028810:True:=⟨⟩
theorem tw15075083660803309887:True:=⟨⟩
theorem tw4921764430859257959:True:=⟨⟩
theorem tw15101484728797912600:True:=⟨⟩
theorem tw1526835386676052945:True:=⟨⟩
theorem tw14823193885367349258:True:=⟨⟩
theorem tw11906914558284678754:True:=⟨⟩
theorem tw14849993267099801989:True:=⟨⟩
theorem tw2756319518698673791:True:=⟨⟩
theorem tw3994170224491217884:True:=⟨⟩
theorem tw3039098562354356213:True:=⟨⟩
theorem tw16689167924611995801:True:=⟨⟩
theorem tw17821629058499983022:True:=⟨⟩
theorem tw15107140194790826783:True:=⟨⟩
theorem tw18403219383476774480:True:=⟨⟩
theorem tw2316469106709931477:True:=⟨⟩
theorem tw5208898963167661849:True:=⟨⟩
theorem tw1620566174528362734:True:=⟨⟩
theorem tw7345972362786422520:True:=⟨⟩
theorem tw10352956713774424154:True:=⟨⟩
theorem tw11225572080157295619:True:=⟨⟩
theorem tw7246865382652326958:True:=⟨⟩
theorem tw1064059540742653738:True:=⟨⟩
theorem tw1301113020424186406:True:=⟨⟩
theorem tw11720390243349615827:True:=⟨⟩
theorem tw17743936995597234751:True:=⟨⟩
theorem tw7700730267207629310:True:=⟨⟩
theorem tw7887898239569126303:True:=⟨⟩
theorem tw17513066150565467186:True:=⟨⟩
theorem tw15713275847621252740:True:=⟨⟩
theorem tw2229461419345049722:True:=⟨⟩
theorem tw8653559401259070262:True:=⟨⟩
theorem tw12774153223291043367:True:=⟨⟩
theorem tw6055199973335790169:True:=⟨⟩
theorem tw15255024476102957847:True:=⟨⟩
theorem tw11647890061942712004:True:=⟨⟩
theorem tw11508195647625639878:True:=⟨⟩
theorem tw1718677017125605632:True:=⟨⟩
theorem tw3585272980057239873:True:=⟨⟩
theorem tw2867110380148087674:True:=⟨⟩
theorem tw17408570861810000736:True:=⟨⟩
theorem tw15059225983715451103:True:=⟨⟩
theorem tw17949304204646129183:True:=⟨⟩
theorem tw14370177632723809186:True:=⟨⟩
theorem tw8335155648624075799:True:=⟨⟩
theorem tw3153414515307315569:True:=⟨⟩
theorem tw10599188202089034308:True:=⟨⟩
theorem tw4668015507125449468:True:=⟨⟩
theorem tw5585087682296682239:True:=⟨⟩
theorem tw652176543896143718:True:=⟨⟩
theorem tw15204671534157503496:True:=⟨⟩
theorem tw2010508424259829663:True:=⟨⟩
theorem tw10078623210246466477:True:=⟨⟩
theorem tw12627226187786211002:True:=⟨⟩
theorem tw18426423514123363117:True:=⟨⟩
theorem tw1018536858894785690:True:=⟨⟩
theorem tw9333011208059264894:True:=⟨⟩
theorem tw1537266270395627000:True:=⟨⟩
theorem tw8790816554713434296:True:=⟨⟩
theorem tw1112089143479422785:True:=⟨⟩
theorem tw6273666808177421211:True:=⟨⟩
theorem tw5449509796824194412:True:=⟨⟩
theorem tw15313941153931742486:True:=⟨⟩
theorem tw7277832805480056976:True:=⟨⟩
theorem tw3755159916879656851:True:=⟨⟩
theorem tw953473323296478846:True:=⟨⟩
theorem tw4670874824979108872:True:=⟨⟩
theorem tw18350457096757368978:True:=⟨⟩
theorem tw11239533153797173445:True:=⟨⟩
theorem tw10292949148646424880:True:=⟨⟩
theorem tw2591959593459999077:True:=⟨⟩
theorem tw3012847831423317630:True:=⟨⟩
theorem tw60060927086816913:True:=⟨⟩
theorem tw3594553489643163154:True:=⟨⟩
theorem tw17025900740563844292:True:=⟨⟩
theorem tw5714918233571614294:True:=⟨⟩
theorem tw12850170351044893042:True:=⟨⟩
theorem tw17892453621061669326:True:=⟨⟩
theorem tw15149578245294203536:True:=⟨⟩
theorem tw2055072581560142668:True:=⟨⟩
theorem tw18337316094358115784:True:=⟨⟩
theorem tw4971713597250312585:True:=⟨⟩
theorem tw291560016603349891:True:=⟨⟩
theorem tw12909635591662643419:True:=⟨⟩
theorem tw7458355788298935912:True:=⟨⟩
theorem tw9236620760618852491:True:=⟨⟩
theorem tw10326188274158405060:True:=⟨⟩
theorem tw11485962391870488832:True:=⟨⟩
theorem tw3846461264219583813:True:=⟨⟩
theorem tw7759384726049045310:True:=⟨⟩
theorem tw16005613724924022661:True:=⟨⟩
theorem tw5974265378761008786:True:=⟨⟩
theorem tw17445891883961273080:True:=⟨⟩
theorem tw10771238852617587869:True:=⟨⟩
theorem tw15178690609962502707:True:=⟨⟩
theorem tw7242852837025454943:True:=⟨⟩
theorem tw6170962516194308684:True:=⟨⟩
theorem tw11794123120374554204:True:=⟨⟩
theorem tw3059496197694627487:True:=⟨⟩
theorem tw2872399568449279674:True:=⟨⟩
theorem tw11211782697810420572:True:=⟨⟩
theorem tw2173480465734770632:True:=⟨⟩
theorem tw15920515677972878376:True:=⟨⟩
theorem tw5174796073639045912:True:=⟨⟩
theorem tw6133238734155928770:True:=⟨⟩
theorem tw15020539648001918971:True:=⟨⟩
theorem tw18200378604752445705:True:=⟨⟩
theorem tw3084507873376806078:True:=⟨⟩
theorem tw3694408596845735146:True:=⟨⟩
theorem tw7970885186933936969:True:=⟨⟩
theorem tw13611106469824106003:True:=⟨⟩
theorem tw10780679596129868147:True:=⟨⟩
theorem tw8611425190105800839:True:=⟨⟩
theorem tw11880081851459984369:True:=⟨⟩
theorem tw14940761473889838425:True:=⟨⟩
theorem tw4878882660265207703:True:=⟨⟩
theorem tw5928097486024598312:True:=⟨⟩
theorem tw9143129857883990:True:=⟨⟩
theorem tw11477886401258967987:True:=⟨⟩
theorem tw15985497651860439780:True:=⟨⟩
theorem tw8868015540954203978:True:=⟨⟩
theorem tw6353859992981438380:True:=⟨⟩
theorem tw1975736104198853776:True:=⟨⟩
theorem tw4153856066964778764:True:=⟨⟩
theorem tw9896584205901179577:True:=⟨⟩
theorem tw17580337991777122919:True:=⟨⟩
theorem tw16271287800946685238:True:=⟨⟩
theorem tw7183553631101087927:True:=⟨⟩
theorem tw13173391272897787955:True:=⟨⟩
theorem tw10526863850257166797:True:=⟨⟩
theorem tw11080290231116576471:True:=⟨⟩
theorem tw17200097621585398149:True:=⟨⟩
theorem tw12655542629605368570:True:=⟨⟩
theorem tw15872396357007137567:True:=⟨⟩
theorem tw1293401208478233707:True:=⟨⟩
theorem tw4211956109298721085:True:=⟨⟩
theorem tw16645836581185226899:True:=⟨⟩
theorem tw3609844994322072863:True:=⟨⟩
theorem tw10414215196455809116:True:=⟨⟩
theorem tw11563639651569388076:True:=⟨⟩
theorem tw7025928548296455876:True:=⟨⟩
theorem tw1220007450036057254:True:=⟨⟩
theorem tw8140500875687319629:True:=⟨⟩
theorem tw14277166109370297026:True:=⟨⟩
theorem tw17970226592898421035:True:=⟨⟩
theorem tw2670543192845204596:True:=⟨⟩
theorem tw7231607679813687316:True:=⟨⟩
theorem tw3286358959128228466:True:=⟨⟩
theorem tw6069786796984143931:True:=⟨⟩
theorem tw929876844249393012:True:=⟨⟩
theorem tw13188686237901618104:True:=⟨⟩
theorem tw6969830585859390831:True:=⟨⟩
theorem tw2222015455850882368:True:=⟨⟩
theorem tw7194081815805003007:True:=⟨⟩
theorem tw7930306457043195091:True:=⟨⟩
theorem tw17912752391933008030:True:=⟨⟩
theorem tw6655614122358604328:True:=⟨⟩
theorem tw5518941826290699481:True:=⟨⟩
theorem tw10008154163980213061:True:=⟨⟩
theorem tw13081725569367252323:True:=⟨⟩
theorem tw5898375625845907978:True:=⟨⟩
theorem tw8981410336943688003:True:=⟨⟩
theorem tw4886743983585155115:True:=⟨⟩
theorem tw5416738101470682936:True:=⟨⟩
theorem tw2075199893773721971:True:=⟨⟩
theorem tw4758897789820711591:True:=⟨⟩
theorem tw9130026882260788904:True:=⟨⟩
theorem tw14536657723360207460:True:=⟨⟩
theorem tw176470287278893512:True:=⟨⟩
theorem tw12917490991714099411:True:=⟨⟩
theorem tw11124573041737228442:True:=⟨⟩
theorem tw9805280481274432805:True:=⟨⟩
theorem tw15605645593258565439:True:=⟨⟩
theorem tw16148263725669053463:True:=⟨⟩
theorem tw14020867123154068458:True:=⟨⟩
theorem tw15645798451370857146:True:=⟨⟩
theorem tw17793323857929367340:True:=⟨⟩
theorem tw17682532460818090619:True:=⟨⟩
theorem tw3686095846118799946:True:=⟨⟩
theorem tw6271770642987238081:True:=⟨⟩
theorem tw4311704446515590321:True:=⟨⟩
theorem tw11078127511176674292:True:=⟨⟩
theorem tw17094428386059868596:True:=⟨⟩
theorem tw8513507379744765645:True:=⟨⟩
theorem tw13868467054758284650:True:=⟨⟩
theorem tw14373547941215805273:True:=⟨⟩
theorem tw7623218122659557744:True:=⟨⟩
theorem tw7528095521641105656:True:=⟨⟩
theorem tw3571772309408274717:True:=⟨⟩
theorem tw17780431585745627200:True:=⟨⟩
theorem tw2802601038349680365:True:=⟨⟩
theorem tw16400832172569833584:True:=⟨⟩
theorem tw10954703644463820630:True:=⟨⟩
theorem tw12910067460700069328:True:=⟨⟩
theorem tw6074033809669911178:True:=⟨⟩
theorem tw17840392633447579422:True:=⟨⟩
theorem tw13634879007988460959:True:=⟨⟩
theorem tw7996744538490989781:True:=⟨⟩
theorem tw15870450653402137963:True:=⟨⟩
theorem tw8138327814692974637:True:=⟨⟩
theorem tw14447125227768737265:True:=⟨⟩
theorem tw15093280257573049801:True:=⟨⟩
theorem tw14867506964983360314:True:=⟨⟩
theorem tw8662727390506483719:True:=⟨⟩
theorem tw14104691181283675447:True:=⟨⟩
theorem tw12190328934734639141:True:=⟨⟩
theorem tw7505714264326909414:True:=⟨⟩
theorem tw7703880751752409508:True:=⟨⟩
theorem tw17287346706355895888:True:=⟨⟩
theorem tw16764636908656493477:True:=⟨⟩
theorem tw3257925042975469167:True:=⟨⟩
theorem tw16215647870574738358:True:=⟨⟩
theorem tw4518447382961658481:True:=⟨⟩
theorem tw5904044217186593582:True:=⟨⟩
theorem tw18314773032302236030:True:=⟨⟩
theorem tw11910706505569600959:True:=⟨⟩
theorem tw5241854254434999453:True:=⟨⟩
theorem tw3991852997806075539:True:=⟨⟩
theorem tw12370099553019173138:True:=⟨⟩
theorem tw9111944918084553026:True:=⟨⟩
theorem tw15348984655422109850:True:=⟨⟩
theorem tw16287764734000358761:True:=⟨⟩
theorem tw15508744943615173098:True:=⟨⟩
theorem tw521066280224557281:True:=⟨⟩
theorem tw17202436539077811362:True:=⟨⟩
theorem tw11696870319596839713:True:=⟨⟩
theorem tw2797719705226432346:True:=⟨⟩
theorem tw6590107242763763223:True:=⟨⟩
theorem tw5010649562802183046:True:=⟨⟩
theorem tw17090392932956292140:True:=⟨⟩
theorem tw3928904883073235436:True:=⟨⟩
theorem tw9133608644908556892:True:=⟨⟩
theorem tw2424502877157767828:True:=⟨⟩
theorem tw17725781641353361416:True:=⟨⟩
theorem tw2620421071029952933:True:=⟨⟩
theorem tw17603553768784996457:True:=⟨⟩
theorem tw3548035894937377233:True:=⟨⟩
theorem tw10884274067627651849:True:=⟨⟩
theorem tw13066975722642734170:True:=⟨⟩
theorem tw1288254761776907265:True:=⟨⟩
theorem tw1862890012037204094:True:=⟨⟩
theorem tw16208379406386111426:True:=⟨⟩
theorem tw11798670926381830184:True:=⟨⟩
theorem tw6114429964093761460:True:=⟨⟩
theorem tw17483675641046612180:True:=⟨⟩
theorem tw12181290739742068937:True:=⟨⟩
theorem tw8839087041453675479:True:=⟨⟩
theorem tw17478932602981531044:True:=⟨⟩
theorem tw13320790572993965572:True:=⟨⟩
theorem tw6550329791928631579:True:=⟨⟩
theorem tw5085094897971982482:True:=⟨⟩
theorem tw4498232716253675358:True:=⟨⟩
theorem tw3499113945809059223:True:=⟨⟩
theorem tw831484359151415738:True:=⟨⟩
theorem tw16819336492708446240:True:=⟨⟩
theorem tw558280708633649958:True:=⟨⟩
theorem tw11780880359278498230:True:=⟨⟩
theorem tw15451409899370034782:True:=⟨⟩
theorem tw951182996934033305:True:=⟨⟩
theorem tw4303934618090461446:True:=⟨⟩
theorem tw8052247379693971910:True:=⟨⟩
theorem tw6395062535780395471:True:=⟨⟩
theorem tw6673818746569490104:True:=⟨⟩
theorem tw14358211092166674066:True:=⟨⟩
theorem tw3922530781697841577:True:=⟨⟩
theorem tw17687183772032014064:True:=⟨⟩
theorem tw7833543780812518768:True:=⟨⟩
theorem tw15235424487011718922:True:=⟨⟩
theorem tw4358150718756303673:True:=⟨⟩
theorem tw15936638001866836143:True:=⟨⟩
theorem tw2878521684112125554:True:=⟨⟩
theorem tw15861258276148562439:True:=⟨⟩
theorem tw7107143903072703251:True:=⟨⟩
theorem tw5632482055503559009:True:=⟨⟩
theorem tw11728540915016220094:True:=⟨⟩
theorem tw1166877921237668904:True:=⟨⟩
theorem tw14743763808159126716:True:=⟨⟩
theorem tw16452571370060756458:True:=⟨⟩
theorem tw428010230462224799:True:=⟨⟩
theorem tw2992220645134615540:True:=⟨⟩
theorem tw1104048697830795049:True:=⟨⟩
theorem tw7835179615867127747:True:=⟨⟩
theorem tw3072792063244284586:True:=⟨⟩
theorem tw3249605847973610238:True:=⟨⟩
theorem tw3192637333852621621:True:=⟨⟩
theorem tw16081622223214644574:True:=⟨⟩
theorem tw9885795251429733000:True:=⟨⟩
theorem tw12366841590256643636:True:=⟨⟩
theorem tw6029759436972766205:True:=⟨⟩
theorem tw683937959020390356:True:=⟨⟩
theorem tw10214908017135711908:True:=⟨⟩
theorem tw15720357636546865075:True:=⟨⟩
theorem tw9250509086812078820:True:=⟨⟩
theorem tw10324954442087166403:True:=⟨⟩
theorem tw7215213361521863946:True:=⟨⟩
theorem tw10748337066513904519:True:=⟨⟩
theorem tw10807082288066197332:True:=⟨⟩
theorem tw7226874439489884085:True:=⟨⟩
theorem tw14627493599043140797:True:=⟨⟩
theorem tw15394075532009628434:True:=⟨⟩
theorem tw3030979810550639978:True:=⟨⟩
theorem tw2428999690660491637:True:=⟨⟩
theorem tw16127222467976679352:True:=⟨⟩
theorem tw11281766745858981807:True:=⟨⟩
theorem tw3963798733264162157:True:=⟨⟩
theorem tw7144158930898995373:True:=⟨⟩
theorem tw15225595434176142797:True:=⟨⟩
theorem tw14900991927473740767:True:=⟨⟩
theorem tw4939731083150060465:True:=⟨⟩
theorem tw1951170399041242219:True:=⟨⟩
theorem tw9392140883360630335:True:=⟨⟩
theorem tw4433056195856187675:True:=⟨⟩
theorem tw17327052413809828637:True:=⟨⟩
theorem tw11173970371956010792:True:=⟨⟩
theorem tw8429436885603957954:True:=⟨⟩
theorem tw5973386912312224784:True:=⟨⟩
theorem tw9800333674283552996:True:=⟨⟩
theorem tw2239370153224871821:True:=⟨⟩
theorem tw356971194936530682:True:=⟨⟩
theorem tw12874673779077557387:True:=⟨⟩
theorem tw6781714799873907707:True:=⟨⟩
theorem tw679695623356042537:True:=⟨⟩
theorem tw9738776347410663480:True:=⟨⟩
theorem tw11428587897569013470:True:=⟨⟩
theorem tw6196161626167120330:True:=⟨⟩
theorem tw12418477859497056531:True:=⟨⟩
theorem tw16254994139636486201:True:=⟨⟩
theorem tw2084430818803529136:True:=⟨⟩
theorem tw6224775559054990347:True:=⟨⟩
theorem tw17189302583954868006:True:=⟨⟩
theorem tw10782797804014306578:True:=⟨⟩
theorem tw16819439867896921819:True:=⟨⟩
theorem tw8755282527834288585:True:=⟨⟩
theorem tw14624185635419010793:True:=⟨⟩
theorem tw6231534135886145924:True:=⟨⟩
theorem tw15631771431500701053:True:=⟨⟩
theorem tw10219208463591454477:True:=⟨⟩
theorem tw12581230579251787960:True:=⟨⟩
theorem tw12656680785750635178:True:=⟨⟩
theorem tw10281385201618808205:True:=⟨⟩
theorem tw2884600677404662087:True:=⟨⟩
theorem tw16417838174635668834:True:=⟨⟩
theorem tw3536300280845224435:True:=⟨⟩
theorem tw5097836047164892476:True:=⟨⟩
theorem tw17688271631263693399:True:=⟨⟩
theorem tw6678993957696695584:True:=⟨⟩
theorem tw5746558784800787498:True:=⟨⟩
theorem tw18314868024243450796:True:=⟨⟩
theorem tw3573833635333508041:True:=⟨⟩
theorem tw12963456932724730590:True:=⟨⟩
theorem tw15737054137203962861:True:=⟨⟩
theorem tw9712878330956415449:True:=⟨⟩
theorem tw18354344735876075072:True:=⟨⟩
theorem tw10217117921778796013:True:=⟨⟩
theorem tw13677392552988258090:True:=⟨⟩
theorem tw16048044927699364109:True:=⟨⟩
theorem tw10106110206481008546:True:=⟨⟩
theorem tw10797129247957851204:True:=⟨⟩
theorem tw7081955582726494991:True:=⟨⟩
theorem tw4558209922557023103:True:=⟨⟩
theorem tw8083493118348605071:True:=⟨⟩
theorem tw1647517059859486358:True:=⟨⟩
theorem tw17336241063895612501:True:=⟨⟩
theorem tw4888949782478169783:True:=⟨⟩
theorem tw4135957853351488539:True:=⟨⟩
theorem tw7432088734067055167:True:=⟨⟩
theorem tw4493518770859629417:True:=⟨⟩
theorem tw3414925567177226678:True:=⟨⟩
theorem tw12340882416911823510:True:=⟨⟩
theorem tw10905248734535012362:True:=⟨⟩
theorem tw15045086006198576812:True:=⟨⟩
theorem tw14175213576145455751:True:=⟨⟩
theorem tw6029004451548641448:True:=⟨⟩
theorem tw18414672181117754599:True:=⟨⟩
theorem tw16821647236117261134:True:=⟨⟩
theorem tw16056818287848489581:True:=⟨⟩
theorem tw8553361488724414451:True:=⟨⟩
theorem tw7391660754688024853:True:=⟨⟩
theorem tw6160871236358590120:True:=⟨⟩
theorem tw12371894288952291879:True:=⟨⟩
theorem tw10916501645970495931:True:=⟨⟩
theorem tw12262391742651648218:True:=⟨⟩
theorem tw1009764288213060875:True:=⟨⟩
theorem tw10513365319844149782:True:=⟨⟩
theorem tw16158425802340439653:True:=⟨⟩
theorem tw14657691277407676196:True:=⟨⟩
theorem tw17421698087845342406:True:=⟨⟩
theorem tw12971963671588454158:True:=⟨⟩
theorem tw3077893524498551236:True:=⟨⟩
theorem tw5962975180971360342:True:=⟨⟩
theorem tw14049751081042052820:True:=⟨⟩
theorem tw16893069507101230918:True:=⟨⟩
theorem tw8825266739474531661:True:=⟨⟩
theorem tw18133401660645598896:True:=⟨⟩
theorem tw201035546715593636:True:=⟨⟩
theorem tw9180491603517052137:True:=⟨⟩
theorem tw278693470463976046:True:=⟨⟩
theorem tw7288745482673084586:True:=⟨⟩
theorem tw583338091056235072:True:=⟨⟩
theorem tw5265634536202679472:True:=⟨⟩
theorem tw11986970007346919405:True:=⟨⟩
theorem tw17349030820496979248:True:=⟨⟩
theorem tw14773794022152872318:True:=⟨⟩
theorem tw8441080038890964926:True:=⟨⟩
theorem tw10122253720237650608:True:=⟨⟩
theorem tw5732116921170487256:True:=⟨⟩
theorem tw9655591856537334958:True:=⟨⟩
theorem tw9774849156959414374:True:=⟨⟩
theorem tw13551855506747683711:True:=⟨⟩
theorem tw3237526460445997229:True:=⟨⟩
theorem tw10866722830136248668:True:=⟨⟩
theorem tw10900159487342760136:True:=⟨⟩
theorem tw5665998738604267443:True:=⟨⟩
theorem tw12982437394832174390:True:=⟨⟩
theorem tw5903881622800296935:True:=⟨⟩
theorem tw1692836011641111968:True:=⟨⟩
theorem tw4941606661782519607:True:=⟨⟩
theorem tw2033578830924084030:True:=⟨⟩
theorem tw15907537075394831758:True:=⟨⟩
theorem tw4772116752344596801:True:=⟨⟩
theorem tw8034688755080267990:True:=⟨⟩
theorem tw10808831721961982403:True:=⟨⟩
theorem tw13429196512505781260:True:=⟨⟩
theorem tw7278755421638715787:True:=⟨⟩
theorem tw5882875391638453858:True:=⟨⟩
theorem tw12298675401289979988:True:=⟨⟩
theorem tw7036255838360525995:True:=⟨⟩
theorem tw12382363715903741221:True:=⟨⟩
theorem tw15598847138998121372:True:=⟨⟩
theorem tw1653593291575915715:True:=⟨⟩
theorem tw1004465177719626984:True:=⟨⟩
theorem tw12530830300694993361:True:=⟨⟩
theorem tw518855893213728161:True:=⟨⟩
theorem tw11771474733678553318:True:=⟨⟩
theorem tw3595365209004474417:True:=⟨⟩
theorem tw9381177976451230187:True:=⟨⟩
theorem tw16845684328031110337:True:=⟨⟩
theorem tw9411676477092282136:True:=⟨⟩
theorem tw12047790584564610133:True:=⟨⟩
theorem tw363497098456622993:True:=⟨⟩
theorem tw17074617127174286631:True:=⟨⟩
theorem tw12442607074792982827:True:=⟨⟩
theorem tw12424484570426914817:True:=⟨⟩
theorem tw10263806372629506083:True:=⟨⟩
theorem tw8469817486502083265:True:=⟨⟩
theorem tw12569786507071489887:True:=⟨⟩
theorem tw4294373318985496838:True:=⟨⟩
theorem tw5354690107496359662:True:=⟨⟩
theorem tw13216822595129819721:True:=⟨⟩
theorem tw8070108943261932093:True:=⟨⟩
theorem tw16733030140769106592:True:=⟨⟩
theorem tw9022967437072633385:True:=⟨⟩
theorem tw12903716694307178566:True:=⟨⟩
theorem tw6908588717955669746:True:=⟨⟩
theorem tw13299299511188384707:True:=⟨⟩
theorem tw17365956517678359065:True:=⟨⟩
theorem tw6299485499337637427:True:=⟨⟩
theorem tw8016298590872523750:True:=⟨⟩
theorem tw1104852976729158548:True:=⟨⟩
theorem tw17290327072851355906:True:=⟨⟩
theorem tw12338781270698102169:True:=⟨⟩
theorem tw17923065732247090316:True:=⟨⟩
theorem tw16798413818035309134:True:=⟨⟩
theorem tw878976026367824477:True:=⟨⟩
theorem tw9062645667654425741:True:=⟨⟩
theorem tw6475846242000063551:True:=⟨⟩
theorem tw11764109376623810259:True:=⟨⟩
theorem tw18347317088415455283:True:=⟨⟩
theorem tw13598702561558682246:True:=⟨⟩
theorem tw2219819558619735959:True:=⟨⟩
theorem tw17889269637602757575:True:=⟨⟩
theorem tw17190358062759099545:True:=⟨⟩
theorem tw13740727870480659514:True:=⟨⟩
theorem tw16912735644229234891:True:=⟨⟩
theorem tw587557562034173099:True:=⟨⟩
theorem tw3615303159846783058:True:=⟨⟩
theorem tw11302850266156004278:True:=⟨⟩
theorem tw2478347952542545063:True:=⟨⟩
theorem tw6591091690360551539:True:=⟨⟩
theorem tw5495477724079092153:True:=⟨⟩
theorem tw8034039297513386792:True:=⟨⟩
theorem tw7207304852665667849:True:=⟨⟩
theorem tw15006930534553796266:True:=⟨⟩
theorem tw6775973352940809539:True:=⟨⟩
theorem tw4876833767081306057:True:=⟨⟩
theorem tw16425129880491480202:True:=⟨⟩
theorem tw7757878636654095260:True:=⟨⟩
theorem tw12154915628011483734:True:=⟨⟩
theorem tw6459675754065401594:True:=⟨⟩
theorem tw2031167645586831847:True:=⟨⟩
theorem tw17533889768060950137:True:=⟨⟩
theorem tw6246300037601347943:True:=⟨⟩
theorem tw4358190422794416802:True:=⟨⟩
theorem tw17531688730875175038:True:=⟨⟩
theorem tw7133897783042709021:True:=⟨⟩
theorem tw4081293373985202492:True:=⟨⟩
theorem tw9839847938125154255:True:=⟨⟩
theorem tw11218660921053286555:True:=⟨⟩
theorem tw1114338144626985968:True:=⟨⟩
theorem tw13131381225185198794:True:=⟨⟩
theorem tw1119035844426185078:True:=⟨⟩
theorem tw15567945221579821074:True:=⟨⟩
theorem tw11891483407171113566:True:=⟨⟩
theorem tw15480123968865933855:True:=⟨⟩
theorem tw15254633522165207490:True:=⟨⟩
theorem tw6788037062863313201:True:=⟨⟩
theorem tw2172686614245442808:True:=⟨⟩
theorem tw13719695918154636843:True:=⟨⟩
theorem tw16055011897858927809:True:=⟨⟩
theorem tw460792940032692123:True:=⟨⟩
theorem tw8016356845190049882:True:=⟨⟩
theorem tw14546713074919201066:True:=⟨⟩
theorem tw3162194048764900716:True:=⟨⟩
theorem tw17474585445261357244:True:=⟨⟩
theorem tw4377437168648494476:True:=⟨⟩
theorem tw7021926039540827529:True:=⟨⟩
theorem tw12347743298715089922:True:=⟨⟩
theorem tw1845121083675919833:True:=⟨⟩
theorem tw7832650133538621236:True:=⟨⟩
theorem tw12173483173482678135:True:=⟨⟩
theorem tw14907843730481341934:True:=⟨⟩
theorem tw9536705004878259783:True:=⟨⟩
theorem tw5949734760619932276:True:=⟨⟩
theorem tw11654901825513516474:True:=⟨⟩
theorem tw4098855583171609606:True:=⟨⟩
theorem tw12745738434640355107:True:=⟨⟩
theorem tw4894397222275378137:True:=⟨⟩
theorem tw1542750544511647027:True:=⟨⟩
theorem tw17760617641201820942:True:=⟨⟩
theorem tw6375458752773056650:True:=⟨⟩
theorem tw15470493540095204113:True:=⟨⟩
theorem tw1674198913709974886:True:=⟨⟩
theorem tw7775080861521464271:True:=⟨⟩
theorem tw2873064820984541594:True:=⟨⟩
theorem tw4500453895130082113:True:=⟨⟩
theorem tw4650714362244453939:True:=⟨⟩
theorem tw15358184205761118889:True:=⟨⟩
theorem tw17877382903918437520:True:=⟨⟩
theorem tw16722849136160009249:True:=⟨⟩
theorem tw6482654000700912941:True:=⟨⟩
theorem tw13307583758573729538:True:=⟨⟩
theorem tw2914430280799101793:True:=⟨⟩
theorem tw5663507219737916762:True:=⟨⟩
theorem tw5087038746996919813:True:=⟨⟩
theorem tw15998489538859928923:True:=⟨⟩
theorem tw4010279089675234530:True:=⟨⟩
theorem tw3045176627171840694:True:=⟨⟩
theorem tw7790109830479937012:True:=⟨⟩
theorem tw8690869114720266753:True:=⟨⟩
theorem tw5556434486866621669:True:=⟨⟩
theorem tw4099113080264562736:True:=⟨⟩
theorem tw9345529057218032180:True:=⟨⟩
theorem tw4740845909518158733:True:=⟨⟩
theorem tw13029476689387780783:True:=⟨⟩
theorem tw7455593610698276892:True:=⟨⟩
theorem tw11051889207200452794:True:=⟨⟩
theorem tw5747779051381573583:True:=⟨⟩
theorem tw15428546967280228248:True:=⟨⟩
theorem tw8108330767037150359:True:=⟨⟩
theorem tw17429890804390915240:True:=⟨⟩
theorem tw13405802148110696922:True:=⟨⟩
theorem tw6414231961045305551:True:=⟨⟩
theorem tw15738663640322434365:True:=⟨⟩
theorem tw16244266480431882670:True:=⟨⟩
theorem tw10149840716250117849:True:=⟨⟩
theorem tw13062669922974507428:True:=⟨⟩
theorem tw15154052731271090826:True:=⟨⟩
theorem tw17254916131421538926:True:=⟨⟩
theorem tw8398999366806137136:True:=⟨⟩
theorem tw12673109688995442303:True:=⟨⟩
theorem tw11079367727341328815:True:=⟨⟩
theorem tw3921163531367595250:True:=⟨⟩
theorem tw11065364723477082103:True:=⟨⟩
end PySem.W.Fast
set_option maxRecDepth 100000 in
set_option maxHeartbeats 0 in
theorem PySem.Challenge.cw_unsaybook_k24_whole_turns_read_together_holds : PySem.Challenge.rw_unsaybook_k24_whole_turns_read_together.Holds := by
 w_on;o_law;k_head;(case hw=>w_witness2)
 k_fill
 refine' Mine.walk (l:=PySem.Challenge.rw_unsaybook_k24_whole_turns_read_together) (L:=23) rfl rfl (λw h Y=>PySem.W.km_in_of Y) ?hrj ?htab ?hnt ?F
 case hrj=>exact rfl
 case F=>
  intro w mg fa h KX G hmg
  refine' Mine.all_mk KX G hmg ?aC ?a0 ?l0 ?c0 ?k0 ?a1 ?l1 ?c1 ?k1 ?a2 ?l2 ?c2 ?k2 ?a3 ?l3 ?c3 ?k3 ?a4 ?l4 ?c4 ?k4 ?a5 ?l5 ?c5 ?k5 ?a6 ?l6 ?c6 ?k6 ?a7 ?l7 ?c7 ?k7 ?a8 ?l8 ?c8 ?k8 ?a9 ?i9 ?l9 ?c9 ?k9 ?a10 ?l10 ?c10 ?k10 ?a11 ?l11 ?c11 ?k11 ?a12 ?l12 ?c12 ?k12 ?a13 ?i13 ?l13 ?c13 ?k13 ?a14 ?i14 ?l14 ?c14 ?k14 ?a15 ?i15 ?l15 ?c15 ?k15 ?a16 ?i16 ?l16 ?c16 ?k16 ?a17 ?i17 ?l17 ?c17 ?k17 ?e17 ?a18 ?l18 ?c18 ?k18 ?a19 ?l19 ?c19 ?k19 ?a20 ?l20 ?c20 ?k20 ?a21 ?i21 ?l21 ?c21 ?k21 ?a22 ?i22 ?l22 ?c22 ?k22 ?a23 ?i23 ?l23 ?c23 ?k23 ?a24 ?i24 ?l24 ?c24 ?k24 ?a25 ?l25 ?c25 ?k25 ?a26 ?i26 ?l26 ?c26 ?k26 ?a27 ?l27 ?c27 ?k27 ?a28 ?l28 ?c28 ?k28 ?a29 ?l29 ?c29 ?k29 ?a30 ?l30 ?c30 ?k30 ?a31 ?i31 ?l31 ?c31 ?k31 ?a32 ?l32 ?c32 ?k32 ?a33 ?l33 ?c33 ?k33 ?a34 ?l34 ?c34 ?k34 ?a35 ?l35 ?c35 ?k35 ?a36 ?l36 ?c36 ?k36 ?a37 ?l37 ?c37 ?k37 ?a38 ?l38 ?c38 ?k38 ?a39 ?l39 ?c39 ?k39 ?a40 ?l40 ?c40 ?k40 ?a41 ?i41 ?l41 ?c41 ?k41 ?e41 ?a42 ?i42 ?l42 ?c42 ?k42 ?e42 ?a43 ?l43 ?c43 ?k43 ?a44 ?l44 ?c44 ?k44 ?a45 ?l45 ?c45 ?k45 ?a46 ?l46 ?c46 ?k46 ?a47 ?l47 ?c47 ?k47 ?a48 ?i48 ?l48 ?c48 ?k48 ?a49 ?l49 ?c49 ?k49 ?pg ?hd ?po ?sa ?mk ?kc ?n1 ?n2 ?n3 ?n4 ?n5 ?q1 ?q2 ?q3 ?q4 ?q5 ?q6 ?z1 ?z2 ?z3 ?z4 ?z5 ?z6 ?z7 ?z8 ?z9 ?z10 ?z11 ?z12 ?z13 ?z14 ?z15 ?z16
  (case aC=>k_is)
  (case a0=>k_is)
  (case l0=>k_is)
  (case c0=>k_is)
  (case k0=>k_is)
  (case a1=>k_is)
  (case l1=>k_is)
  (case c1=>k_is)
  (case k1=>k_is)
  (case a2=>k_is)
  (case l2=>k_is)
  (case c2=>k_is)
  (case k2=>k_is)
  (case a3=>k_is)
  (case l3=>k_is)
  (case c3=>k_is)
  (case k3=>k_is)
  (case a4=>k_is)
  (case l4=>k_is)
  (case c4=>k_is)
  (case k4=>k_is)
  (case a5=>k_is)
  (case l5=>k_is)
  (case c5=>k_is)
  (case k5=>k_is)
  (case a6=>k_is)
  (case l6=>k_is)
  (case c6=>k_is)
  (case k6=>k_is)
  (case a7=>k_is)
  (case l7=>k_is)
  (case c7=>k_is)
  (case k7=>k_is)
  (case a8=>k_is)
  (case l8=>k_is)
  (case c8=>k_is)
  (case k8=>k_is)
  (case a9=>k_is)
  (case i9=>k_is)
  (case l9=>k_is)
  (case c9=>k_is)
  (case k9=>k_is)
  (case a10=>k_is)
  (case l10=>k_is)
  (case c10=>k_is)
  (case k10=>k_is)
  (case a11=>k_is)
  (case l11=>k_is)
  (case c11=>k_is)
  (case k11=>k_is)
  (case a12=>k_is)
  (case l12=>k_is)
  (case c12=>k_is)
  (case k12=>k_is)
  (case a13=>k_is)
  (case i13=>k_is)
  (case l13=>k_is)
  (case c13=>k_is)
  (case k13=>k_is)
  (case a14=>k_is)
  (case i14=>k_is)
  (case l14=>k_is)
  (case c14=>k_is)
  (case k14=>k_is)
  (case a15=>k_is)
  (case i15=>k_is)
  (case l15=>k_is)
  (case c15=>k_is)
  (case k15=>k_is)
  (case a16=>k_is)
  (case i16=>k_is)
  (case l16=>k_is)
  (case c16=>k_is)
  (case k16=>k_is)
  (case a17=>k_is)
  (case i17=>k_is)
  (case l17=>k_is)
  (case c17=>k_is)
  (case k17=>k_is)
  (case e17=>k_is)
  (case a18=>k_is)
  (case l18=>k_is)
  (case c18=>k_is)
  (case k18=>k_is)
  (case a19=>k_is)
  (case l19=>k_is)
  (case c19=>k_is)
  (case k19=>k_is)
  (case a20=>k_is)
  (case l20=>k_is)
  (case c20=>k_is)
  (case k20=>k_is)
  (case a21=>k_is)
  (case i21=>k_is)
  (case l21=>k_is)
  (case c21=>k_is)
  (case k21=>k_is)
  (case a22=>k_is)
  (case i22=>k_is)
  (case l22=>k_is)
  (case c22=>k_is)
  (case k22=>k_is)
  (case a23=>k_is)
  (case i23=>k_is)
  (case l23=>k_is)
  (case c23=>k_is)
  (case k23=>k_is)
  (case a24=>k_is)
  (case i24=>k_is)
  (case l24=>k_is)
  (case c24=>k_is)
  (case k24=>k_is)
  (case a25=>k_is)
  (case l25=>k_is)
  (case c25=>k_is)
  (case k25=>k_is)
  (case a26=>k_is)
  (case i26=>k_is)
  (case l26=>k_is)
  (case c26=>k_is)
  (case k26=>k_is)
  (case a27=>k_is)
  (case l27=>k_is)
  (case c27=>k_is)
  (case k27=>k_is)
  (case a28=>k_is)
  (case l28=>k_is)
  (case c28=>k_is)
  (case k28=>k_is)
  (case a29=>k_is)
  (case l29=>k_is)
  (case c29=>k_is)
  (case k29=>k_is)
  (case a30=>k_is)
  (case l30=>k_is)
  (case c30=>k_is)
  (case k30=>k_is)
  (case a31=>k_is)
  (case i31=>k_is)
  (case l31=>k_is)
  (case c31=>k_is)
  (case k31=>k_is)
  (case a32=>k_is)
  (case l32=>k_is)
  (case c32=>k_is)
  (case k32=>k_is)
  (case a33=>k_is)
  (case l33=>k_is)
  (case c33=>k_is)
  (case k33=>k_is)
  (case a34=>k_is)
  (case l34=>k_is)
  (case c34=>k_is)
  (case k34=>k_is)
  (case a35=>k_is)
  (case l35=>k_is)
  (case c35=>k_is)
  (case k35=>k_is)
  (case a36=>k_is)
  (case l36=>k_is)
  (case c36=>k_is)
  (case k36=>k_is)
  (case a37=>k_is)
  (case l37=>k_is)
  (case c37=>k_is)
  (case k37=>k_is)
  (case a38=>k_is)
  (case l38=>k_is)
  (case c38=>k_is)
  (case k38=>k_is)
  (case a39=>k_is)
  (case l39=>k_is)
  (case c39=>k_is)
  (case k39=>k_is)
  (case a40=>k_is)
  (case l40=>k_is)
  (case c40=>k_is)
  (case k40=>k_is)
  (case a41=>k_is)
  (case i41=>k_is)
  (case l41=>k_is)
  (case c41=>k_is)
  (case k41=>k_is)
  (case e41=>k_is)
  (case a42=>k_is)
  (case i42=>k_is)
  (case l42=>k_is)
  (case c42=>k_is)
  (case k42=>k_is)
  (case e42=>k_is)
  (case a43=>k_is)
  (case l43=>k_is)
  (case c43=>k_is)
  (case k43=>k_is)
  (case a44=>k_is)
  (case l44=>k_is)
  (case c44=>k_is)
  (case k44=>k_is)
  (case a45=>k_is)
  (case l45=>k_is)
  (case c45=>k_is)
  (case k45=>k_is)
  (case a46=>k_is)
  (case l46=>k_is)
  (case c46=>k_is)
  (case k46=>k_is)
  (case a47=>k_is)
  (case l47=>k_is)
  (case c47=>k_is)
  (case k47=>k_is)
  (case a48=>k_is)
  (case i48=>k_is)
  (case l48=>k_is)
  (case c48=>k_is)
  (case k48=>k_is)
  (case a49=>k_is)
  (case l49=>k_is)
  (case c49=>k_is)
  (case k49=>k_is)
  (case pg=>k_is)
  (case hd=>k_is)
  (case po=>k_is)
  (case sa=>k_is)
  (case mk=>k_is)
  (case kc=>k_is)
  (case n1=>k_is)
  (case n2=>k_is)
  (case n3=>k_is)
  (case n4=>k_is)
  (case n5=>k_is)
  (case q1=>k_is)
  (case q2=>k_is)
  (case q3=>k_is)
  (case q4=>k_is)
  (case q5=>k_is)
  (case q6=>k_is)
  (case z1=>k_is)
  (case z2=>k_is)
  (case z3=>k_is)
  (case z4=>k_is)
  (case z5=>k_is)
  (case z6=>k_is)
  (case z7=>k_is)
  (case z8=>k_is)
  (case z9=>k_is)
  (case z10=>k_is)
  (case z11=>k_is)
  (case z12=>k_is)
  (case z13=>k_is)
  (case z14=>k_is)
  (case z15=>k_is)
  (case z16=>k_is)
 case htab=>intro w h KX;kernel_rfl
 case hnt=>intro w h KX;kernel_rfl
