import PyProof.Rows.All
import Wide.All
import OpenK.AllK
import Wide.FinOn
import Lean
import PyProof.EqAt
import PyProof.EqKinds
import PyProof.TupleCall
import KE.IntTextText
import PyProof.SeqI3
import KE.KSortTup
import KE.KMinKey
import PySem.Challenge.RW_unsaybook_k36_whole_by_what_was_read_alo
set_option Elab.async false
set_option linter.all false
set_option maxRecDepth 100000
local macro_rules|`(‹0›)=>`(by decide +kernel)
local macro_rules|`(‹1›)=>`(by omega)
local macro_rules|`(‹$s:str›)=>`(PySem.Str.ofString $s)
local macro_rules|`(‹2›)=>`(⟨rfl,rfl,rfl,by decide +kernel,rfl,by decide +kernel,by decide +kernel⟩)
local macro_rules|`(‹($k,$f,$s:str)›)=>`(PySem.W.nsIn $k PySem.mainGlobals $s = some (some (PySem.Value.ref $f)))
local macro_rules|`(‹($k,$c,$f,$s:str)›)=>`(PySem.W.findIn $k (PySem.Value.ref $c) $s = some (some (PySem.Value.ref $f)))
local macro_rules|`(‹[$k,$f]›)=>`(PySem.W.isFn $k (PySem.Value.ref $f) = true)
open PySem PySem.Spec PyProof.Rows in abbrev zB0:=@wpAny_bind
open PySem PySem.Spec PyProof.Rows in abbrev zP0:=@wpAny_pure
open PySem PySem.Spec PyProof.Rows in abbrev zH0:=@Heap.get?_push_of_some
namespace L2
open PySem PySem.Spec PyProof.Rows
noncomputable abbrev Key:=Sum Int Str
noncomputable def kX:Key->Value->Bool
 | .inl k,v=>Value.isInt k v
 | .inr x,v=>Value.isStrOf x v
noncomputable def CJ (w:World):Key->Int
 | .inl k=>hashInt k
 | .inr x=>hashStr w x
theorem keyIs_shape:∀{k:Key}{v:Value},kX k v=true->(∃i t,k=Sum.inl i/\v=Value.int i t)\/(∃x t,k=Sum.inr x/\v=Value.str x t)
 | .inl i,v,h=>by
  obtain⟨t,e⟩:=Value.isInt_shape (k:=i) (v:=v) h
  exact .inl ⟨i,t,rfl,e⟩
 | .inr x,v,h=>by
  obtain⟨t,e⟩:=Value.isStrOf_shape (x:=x) (v:=v) h
  exact .inr ⟨x,t,rfl,e⟩
theorem sN (i:Int) (t:Tok):kX (.inl i) (.int i t)=true:=by simp [kX,Value.isInt]
theorem sM (x:Str) (t:Tok):kX (.inr x) (.str x t)=true:=by simp [kX,Value.isStrOf]
theorem B1 (a b:Int):decide ((Sum.inl a:Key)=Sum.inl b)=(a == b):=by
 by_cases e:a=b
 ·subst e;simp
 ·have h:¬(Sum.inl a:Key)=Sum.inl b:=λq=>e (Sum.inl.inj q)
  rw [decide_eq_false h]
  exact(beq_eq_false_iff_ne.mpr e).symm
theorem AY (a b:Str):decide ((Sum.inr a:Key)=Sum.inr b)=decide (a=b):=by
 by_cases e:a=b
 ·subst e;simp
 ·have h:¬(Sum.inr a:Key)=Sum.inr b:=λq=>e (Sum.inr.inj q)
  rw [decide_eq_false h,decide_eq_false e]
theorem B0 (a:Int) (b:Str):decide ((Sum.inl a:Key)=Sum.inr b)=false:=decide_eq_false (λq=>nomatch q)
theorem AZ (a:Str) (b:Int):decide ((Sum.inr a:Key)=Sum.inl b)=false:=decide_eq_false (λq=>nomatch q)
noncomputable def aJ (prog:Program) (w:World):PySem.KeyKind prog w Key where
 is:=kX
 hash:=CJ w
 inj:=λv a b ha hb=>by
  rcases keyIs_shape ha with⟨i,t,rfl,rfl⟩ | ⟨x,t,rfl,rfl⟩
  ·rcases keyIs_shape hb with⟨j,u,rfl,e⟩ | ⟨y,u,rfl,e⟩
   ·injection e with e1 _;rw [e1]
   ·exact nomatch e
  ·rcases keyIs_shape hb with⟨j,u,rfl,e⟩ | ⟨y,u,rfl,e⟩
   ·exact nomatch e
   ·injection e with e1 _;rw [e1]
 byValue:=λk v h=>by
  rcases keyIs_shape h with⟨i,t,rfl,rfl⟩ | ⟨x,t,rfl,rfl⟩ <;> rfl
 pyHash:=λhv h=>by
  rcases keyIs_shape hv with⟨i,t,rfl,rfl⟩ | ⟨x,t,rfl,rfl⟩
  ·exact wpAny_pyHash_int h
  ·exact wpAny_pyHash_str h
 eqBool:=λhu hv h=>by
  rcases keyIs_shape hu with⟨i,t,rfl,rfl⟩ | ⟨x,t,rfl,rfl⟩
  ·rcases keyIs_shape hv with⟨j,u,rfl,rfl⟩ | ⟨y,u,rfl,rfl⟩
   ·rw [B1]at h;exact wpAny_eqBool_int h
   ·rw [B0]at h;exact SeqAt.EqAt.int_str i t y u _ _ _ _ h
  ·rcases keyIs_shape hv with⟨j,u,rfl,rfl⟩ | ⟨y,u,rfl,rfl⟩
   ·rw [AZ]at h;exact SeqAt.EqAt.str_int x t j u _ _ _ _ h
   ·rw [AY]at h;exact wpAny_eqBool_str h
 «strs»:=λk x t v h=>by
  rcases keyIs_shape h with⟨i,u,rfl,e⟩ | ⟨y,u,rfl,e⟩
  ·exact nomatch e
  ·injection e with e1 _
   subst e1
   cases v <;> rfl
theorem nZ (prog:Program) (w:World) (i:Int) (t:Tok):(aJ prog w).is (.inl i) (.int i t)=true:=sN i t
theorem nY (prog:Program) (w:World) (x:Str) (t:Tok):(aJ prog w).is (.inr x) (.str x t)=true:=sM x t
inductive V where
 | non | bl (b:Bool) | int (i:Int) | str (x:Str) | byt (b:Array UInt8) | flt (b:UInt64) | ref (a:Addr) | ty (n:String)
 deriving DecidableEq
noncomputable def b8:V->Value->Prop
 | .non,u=>u=Value.none
 | .bl b,u=>u=Value.bool b
 | .int i,u=>∃t,u=Value.int i t
 | .str x,u=>∃t,u=Value.str x t
 | .byt b,u=>∃t,u=Value.bytes b t
 | .flt b,u=>∃t,u=Value.float b t
 | .ref a,u=>u=Value.ref a
 | .ty n,u=>u=Value.type n
noncomputable abbrev aW:List V->List Value->Prop:=Paired b8
theorem aW.length {xs:List V}{us:List Value} (r:aW xs us):xs.length=us.length:=Paired.length r
theorem aW.get:∀{xs:List V}{us:List Value}{i:Nat}{x:V},aW xs us->xs[i]?=some x->∃u,us[i]?=some u/\b8 x u
 | _,_,_,_,.nil,e=>by simp at e
 | _,_,0,_,.cons r _,e=>by simp at e;subst e;exact⟨_,rfl,r⟩
 | _,_,i+1,x,.cons _ t,e=>by
  obtain⟨u,h1,h2⟩:=aW.get (i:=i) (x:=x) t (by simpa using e)
  exact⟨u,by simpa using h1,h2⟩
theorem aW.set {x:V}{u:Value} (r:b8 x u):∀{xs:List V}{us:List Value} (i:Nat),aW xs us->aW (xs.set i x) (us.set i u)
 | _,_,_,.nil=>.nil
 | _,_,0,.cons _ t=>.cons r t
 | _,_,i+1,.cons q t=>.cons q (aW.set r i t)
theorem aW.append:∀{xs ys:List V}{us ws:List Value},aW xs us->aW ys ws->aW (xs++ys) (us++ws)
 | _,_,_,_,.nil,s=>s
 | _,_,_,_,.cons r t,s=>.cons r (aW.append t s)
theorem aW.take:∀{xs:List V}{us:List Value} (n:Nat),aW xs us->aW (xs.take n) (us.take n)
 | _,_,0,_=>.nil
 | _,_,_+1,.nil=>.nil
 | _,_,n+1,.cons r t=>.cons r (aW.take n t)
theorem aW.drop:∀{xs:List V}{us:List Value} (n:Nat),aW xs us->aW (xs.drop n) (us.drop n)
 | _,_,0,r=>r
 | _,_,_+1,.nil=>.nil
 | _,_,n+1,.cons _ t=>aW.drop n t
noncomputable def gy:Option V->Option Value->Prop
 | some v,some u=>b8 v u
 | none,none=>True
 | _,_=>False
noncomputable def KV {κ:Type}:List (κ × V)->List (κ × Value)->Prop:=Paired λ(p:κ × V) (q:κ × Value)=>p.1=q.1/\b8 p.2 q.2
noncomputable def kV:Key->V
 | .inl i=>.int i
 | .inr x=>.str x
inductive HO where
 /-- a list -/
 | lst (xs:List V)
 /-- a tuple (never changes) -/
 | tup (xs:List V)
 /-- a dict whose keys are ints and texts;one whose keys are tuples of ints and texts (the empty one is both) -/
 | dK (kvs:List (Key × V)) | dT (kvs:List (List Key × V))
 /-- a set of ints: its members,its size -/
 | set (S:Int->Bool) (n:Nat)
 /-- an instance of the class at C,its dict at dx,its attributes -/
 | ins (C dx:Addr) (fs:List (Str × V))
 /-- the dict of the instance at x -/
 | own (x:Addr)
 /-- the dict of an exception -/
 | xd (fs:List (Str × V))
 /-- a bound method,f of x -/
 | met (f x:Addr)
 /-- a range object lo,lo+1,.. below hi -/
 | rng (lo hi:Int)
 /-- a thing that is known to the object (the script;a dict while a loop walks it): read,never written while it is so -/
 | frz (o:Obj) (u:HO)
 /-- a code object's table -/
 | tbl (ps:Array Value)
 /-- any other thing,by what is true of its one object (a def of one's own: SetO a S n:=HO.ext λh=>..) -/
 | ext (φ:Heap->Prop)
noncomputable abbrev Hp:=Addr->Option HO
noncomputable def upd (H:Hp) (a:Addr) (o:HO):Hp:=λb=>if b=a then some o else H b
theorem ar {H:Hp}{a:Addr}{o:HO}:upd H a o a=some o:=by unfold upd;rw [if_pos rfl]
theorem ai {H:Hp}{a b:Addr}{o:HO} (h:b≠a):upd H a o b=H b:=by unfold upd;rw [if_neg h]
theorem bv {H:Hp}{a:Addr}{o u:HO}:upd (upd H a o) a u=upd H a u:=by
 funext b;unfold upd;split <;> rfl
theorem dw {H:Hp}{a b:Addr}{o u:HO} (h:H a=some o) (h':H b=some u) (d:o≠u):a≠b:=by
 intro e;subst e;rw [h]at h';exact d (Option.some.inj h')
theorem ao {H:Hp}{a b:Addr}{o:HO} (h:H a=some o) (h':H b=none):a≠b:=by
 intro e;subst e;rw [h]at h';cases h'
section
variable (P:Program) (w:World)
noncomputable def bC (H:Hp) (h:Heap) (a:Addr):HO->Prop
 | .lst xs=>xs.length<=sizeLine/\∃(its:List Value) (n:Nat),aW xs its/\h.get? a=some { cls:=.type "list", data:=.seq its.toArray n }
 | .tup xs=>xs.length<=sizeLine/\∃its:List Value,aW xs its/\IsTup h a its.toArray
 | .dK kvs=>kvs.length<=sizeLine/\(a == sysModules)=false/\∃vs,KV kvs vs/\h.DictOf (aJ P w) a vs
 | .dT kvs=>kvs.length<=sizeLine/\(a == sysModules)=false/\∃xs:List (List Key × Addr × Value),
   Paired (λ(p:List Key × V) (q:List Key × Addr × Value)=>p.1=q.1/\H q.2.1=some (.tup (p.1.map kV))/\b8 p.2 q.2.2) kvs xs/\
   ∃o es ep,h.get? a=some o/\o.ExactDict/\o.data=.dict es ep/\es.toList=xs.map (entryOfKey (tupleKind (aJ P w)))/\(xs.map (·.1)).Nodup
 | .set S n=>h.SetOf (intKind P w) a S n
 | .ins C dx fs=>H dx=some (.own a)/\fs.length<=1000/\dx≠a/\h.get? a=some (PySem.W.instObj C dx)/\
   ∃mA,h.Ns1 dx mA/\(∀f,gy (fs.lookup f) (mA f))/\PySem.Within mA (fs.map (·.1))
 | .own _=>∃o,h.get? a=some o
 | .xd fs=>∃mA,h.Ns1 a mA/\∀f,gy (fs.lookup f) (mA f)
 | .rng lo hi=>∃t u v,h.get? a=some { cls:=.type "range", data:=.fields #[.int lo t,.int hi u,.int 1 v] }
 | .frz o u=>h.get? a=some o/\bC H h a u
 | .tbl ps=>h.get? a=some { cls:=.none,data:=.fields ps }
 | .met f x=>h.get? a=some (PySem.W.methodObj (.ref f) (.ref x))
 | .ext φ=>φ h/\(∃o,h.get? a=some o)/\∀h1 h2:Heap,φ h1->(∀o,h1.get? a=some o->h2.get? a=some o)->φ h2
def HOk (H:Hp) (h:Heap):Prop:=∀a o,H a=some o->bC P w H h a o
end
section
variable {P:Program}{w:World}{H H':Hp}{h h':Heap}{a:Addr}{o:HO}
theorem bC.lt (x:bC P w H h a o):a < h.objs.size:=by
 cases o with
 | lst xs=>obtain⟨_,_,_,_,e⟩:=x;exact Heap.lt_size e
 | tup xs=>obtain⟨_,_,_,p⟩:=x;exact p.lt
 | dK kvs=>obtain⟨_,_,_,_,o,_,_,e,_⟩:=x;exact Heap.lt_size e
 | dT kvs=>obtain⟨_,_,_,_,o,_,_,e,_⟩:=x;exact Heap.lt_size e
 | set S n=>obtain⟨o,_,_,_,e,_⟩:=x;exact Heap.lt_size e
 | ins C dx fs=>obtain⟨_,_,_,e,_⟩:=x;exact Heap.lt_size e
 | own y=>obtain⟨_,e⟩:=x;exact Heap.lt_size e
 | xd fs=>obtain⟨_,⟨_,_,_,e,_⟩,_⟩:=x;exact Heap.lt_size e
 | rng lo hi=>obtain⟨_,_,_,e⟩:=x;exact Heap.lt_size e
 | frz ob u=>obtain⟨e,_⟩:=x;exact Heap.lt_size e
 | tbl ps=>exact Heap.lt_size (show h.get? a=some _ from x)
 | met f y=>exact Heap.lt_size (show h.get? a=some _ from x)
 | ext φ=>obtain⟨_,⟨_,e⟩,_⟩:=x;exact Heap.lt_size e
theorem Paired.mapP {α β:Type}{F G:α->β->Prop}:∀{l₁:List α}{l₂:List β},Paired F l₁ l₂->(∀a b,F a b->G a b)->Paired G l₁ l₂
 | _,_,.nil,_=>.nil
 | _,_,.cons r t,f=>.cons (f _ _ r) (Paired.mapP t f)
theorem bC.stay (x:bC P w H h a o) (k:∀b u,(b=a\/H b=some (.own a))->h.get? b=some u->h'.get? b=some u)
  (ho:∀b,H b=some (.own a)->H' b=some (.own a)) (ht:∀b xs,H b=some (.tup xs)->H' b=some (.tup xs)):bC P w H' h' a o:=by
 induction o with
 | lst xs=>obtain⟨z,its,n,r,e⟩:=x;exact⟨z,its,n,r,k _ _ (.inl rfl) e⟩
 | tup xs=>obtain⟨z,its,r,ob,e,c⟩:=x;exact⟨z,its,r,ob,k _ _ (.inl rfl) e,c⟩
 | dK kvs=>obtain⟨z,y,vs,r,ob,es,ep,e,c⟩:=x;exact⟨z,y,vs,r,ob,es,ep,k _ _ (.inl rfl) e,c⟩
 | dT kvs=>
  obtain⟨z,y,xs,r,ob,es,ep,e,c⟩:=x
  exact⟨z,y,xs,Paired.mapP r λp q z=>⟨z.1,ht _ _ z.2.1,z.2.2⟩,ob,es,ep,k _ _ (.inl rfl) e,c⟩
 | set S n=>obtain⟨ob,es,ep,t,e,c⟩:=x;exact⟨ob,es,ep,t,k _ _ (.inl rfl) e,c⟩
 | ins C dx fs=>
  obtain⟨d,z,ne,e,mA,⟨od,es,ep,e2,c⟩,r⟩:=x
  exact⟨ho _ d,z,ne,k _ _ (.inl rfl) e,mA,⟨od,es,ep,k _ _ (.inr d) e2,c⟩,r⟩
 | own y=>obtain⟨ob,e⟩:=x;exact⟨ob,k _ _ (.inl rfl) e⟩
 | xd fs=>obtain⟨mA,⟨od,es,ep,e,c⟩,r⟩:=x;exact⟨mA,⟨od,es,ep,k _ _ (.inl rfl) e,c⟩,r⟩
 | rng lo hi=>obtain⟨t,u,v,e⟩:=x;exact⟨t,u,v,k _ _ (.inl rfl) e⟩
 | frz ob u ih=>obtain⟨e,q⟩:=x;exact⟨k _ _ (.inl rfl) e,ih q⟩
 | tbl ps=>
  have e:h.get? a=some { cls:=.none,data:=.fields ps }:=x
  show h'.get? a=some { cls:=.none,data:=.fields ps }
  exact k a _ (.inl rfl) e
 | met f y=>
  have e:h.get? a=some (PySem.W.methodObj (.ref f) (.ref y)):=x
  show h'.get? a=some (PySem.W.methodObj (.ref f) (.ref y))
  exact k a _ (.inl rfl) e
 | ext φ=>obtain⟨p,⟨o,e⟩,st⟩:=x;exact⟨st _ _ p λo q=>k _ _ (.inl rfl) q,⟨o,k _ _ (.inl rfl) e⟩,st⟩
theorem HOk.lt (x:HOk P w H h) (e:H a=some o):a < h.objs.size:=(x a o e).lt
theorem HOk.fresh (x:HOk P w H h) (e:h.objs.size<=a):H a=none:=by
 cases q:H a with
 | none=>rfl
 | some u=>exact absurd (Nat.lt_of_lt_of_le (x.lt q) e) (Nat.lt_irrefl _)
theorem HOk.kept (x:HOk P w H h) (k:∀b u,h.get? b=some u->h'.get? b=some u):HOk P w H h':=λa o e=>
 (x a o e).stay (λb u _ q=>k b u q) (λ_ q=>q) λ_ _ q=>q
theorem HOk.laid (x:HOk P w H h) (k:∀b u,h.get? b=some u->h'.get? b=some u) (hp:h.objs.size<=a) (new:bC P w (upd H a o) h' a o):HOk P w (upd H a o) h':=λb u e=>by
 have hn:=x.fresh hp
 by_cases hb:b=a
 ·subst hb;rw [ar]at e;cases e;exact new
 ·rw [ai hb]at e
  exact(x b u e).stay (λc v _ q=>k c v q) (λc q=>by rw [ai (ao q hn)];exact q) λc xs q=>by rw [ai (ao q hn)];exact q
end
def Rd (H:Hp) (a:Addr) (u:HO):Prop:=H a=some u\/∃o,H a=some (.frz o u)
theorem Rd.of {H:Hp}{a:Addr}{u:HO} (h:H a=some u):Rd H a u:=.inl h
theorem Rd.ok {P:Program}{w:World}{H:Hp}{h:Heap}{a:Addr}{u:HO} (r:Rd H a u) (x:HOk P w H h):bC P w H h a u:=by
 rcases r with r | ⟨o,r⟩
 ·exact x a u r
 ·obtain⟨_,q⟩:=x a _ r
  exact q
noncomputable def Mut:Option HO->Prop
 | some (.lst _)=>True
 | some (.dK _)=>True
 | some (.dT _)=>True
 | some (.set _ _)=>True
 | some (.ins _ _ _)=>True
 | some (.ext _)=>True
 | _=>False
section
variable {P:Program}{w:World}{H:Hp}{h h':Heap}{x e:Addr}{o':HO}
theorem HOk.write (ok:HOk P w H h) (mu:Mut (H x)) (he:e=x\/H e=some (.own x)) (k:∀b u,b≠e->h.get? b=some u->h'.get? b=some u) (heo:∃u,h'.get? e=some u)
  (new:bC P w (upd H x o') h' x o'):HOk P w (upd H x o') h':=λb u q=>by
 have nown:∀c y,H c=some (.own y)->c≠x:=λc y r z=>by subst z;rw [r]at mu;exact mu
 have ntup:∀c xs,H c=some (.tup xs)->c≠x:=λc xs r z=>by subst z;rw [r]at mu;exact mu
 by_cases hb:b=x
 ·subst hb;rw [ar]at q;cases q;exact new
 ·rw [ai hb]at q
  by_cases hbe:b=e
  ·have q':H b=some (.own x):=by
    rcases he with z | z
    ·exact absurd (hbe.trans z) hb
    ·rw [hbe];exact z
   rw [q]at q';cases q'
   obtain⟨v,hv⟩:=heo
   exact⟨v,by rw [hbe];exact hv⟩
  ·refine(ok b u q).stay (λc v hc r=>k c v ?_ r) (λc r=>by rw [ai (nown c b r)];exact r) λc xs r=>by rw [ai (ntup c xs r)];exact r
   rcases hc with rfl | hc
   ·exact hbe
   ·rintro rfl
    rcases he with z | z
    ·exact nown c b hc z
    ·rw [hc]at z;cases z;exact hb rfl
end
structure Un (fs ex:List Addr) (H H':Hp) (h h':Heap):Prop where
 keep:∀b o,h.get? b=some o->H b=none->b∉fs->b∉ex->h'.get? b=some o
 slot:∀b o,h.get? b=some o->H b=none->b∈fs->b∉ex->∃sl,h'.get? b=some { o with slots:=sl }
 free:∀b o,h.get? b=some o->H b=none->b∉ex->H' b=none
 there:∀b o,h.get? b=some o->b∉ex->∃o',h'.get? b=some o'
 tups:∀b xs,H b=some (.tup xs)->H' b=some (.tup xs)
 frzs:∀b o u,H b=some (.frz o u)->H' b=some (.frz o u)
 tbls:∀b ps,H b=some (.tbl ps)->∃more,H' b=some (.tbl (ps++more))
section
variable {fs fs' ex ex':List Addr}{H H1 H2:Hp}{h h1 h2 h':Heap}{a x e:Addr}{o:HO}
theorem Un.any (u:Un fs ex H H1 h h1){b:Addr}{ob:Obj} (q:h.get? b=some ob) (n:H b=none) (hx:b∉ex):∃sl,h1.get? b=some { ob with slots:=sl }:=by
 by_cases hb:b∈fs
 ·exact u.slot b ob q n hb hx
 ·exact⟨ob.slots,u.keep b ob q n hb hx⟩
theorem Un.kept (k:∀b u,h.get? b=some u->h'.get? b=some u):Un fs ex H H h h':=
 ⟨λb ob q _ _ _=>k b ob q,λb ob q _ _ _=>⟨ob.slots,k b ob q⟩,λ_ _ _ n _=>n,λb ob q _=>⟨ob,k b ob q⟩,λ_ _ q=>q,λ_ _ _ q=>q,λ_ ps q=>⟨#[],by rw [q];simp⟩⟩
theorem Un.refl:Un fs ex H H h h:=Un.kept λ_ _ q=>q
theorem Un.laid (k:∀b u,h.get? b=some u->h'.get? b=some u) (hp:h.objs.size<=a) (hn:H a=none):Un fs ex H (upd H a o) h h' where
 keep:=λb u q _ _ _=>k b u q
 slot:=λb u q _ _ _=>⟨u.slots,k b u q⟩
 free:=λb u q n _=>by rw [ai (Nat.ne_of_lt (Nat.lt_of_lt_of_le (Heap.lt_size q) hp))];exact n
 there:=λb u q _=>⟨u,k b u q⟩
 tups:=λb xs q=>by rw [ai (ao q hn)];exact q
 frzs:=λb u xs q=>by rw [ai (ao q hn)];exact q
 tbls:=λb ps q=>⟨#[],by rw [ai (ao q hn),q];simp⟩
theorem Un.write (mu:Mut (H x)) (he:e=x\/H e=some (.own x)) (k:∀b u,b≠e->h.get? b=some u->h'.get? b=some u) (heo:∃u,h'.get? e=some u):Un fs ex H (upd H x o) h h':=by
 have hx:∀b,H b=none->b≠x:=λb n z=>by subst z;rw [n]at mu;exact mu
 have hb:∀b,H b=none->b≠e:=λb n z=>by
  subst z
  rcases he with r | r
  ·exact hx b n r
  ·rw [n]at r;cases r
 have hm:∀b u,H b=some u->¬Mut (some u)->b≠x:=λb u q nm z=>by subst z;rw [q]at mu;exact nm mu
 refine⟨λb u q n _ _=>k b u (hb b n) q,λb u q n _ _=>⟨u.slots,k b u (hb b n) q⟩,λb u q n _=>by rw [ai (hx b n)];exact n,λb u q _=>?_,
  λb xs q=>by rw [ai (hm b _ q λz=>z)];exact q,λb u xs q=>by rw [ai (hm b _ q λz=>z)];exact q,λb ps q=>⟨#[],by rw [ai (hm b _ q λz=>z),q];simp⟩⟩
 by_cases hbe:b=e
 ·subst hbe;exact heo
 ·exact⟨u,k b u hbe q⟩
end
noncomputable def trk (h:Heap) (H:Hp):List Addr:=(List.range h.objs.size).filter λa=>(H a).isSome
noncomputable def jK (h:Heap) (H:Hp):Heap:=PySem.W.hideAll h (trk h H)
theorem sP (h:Heap) (H:Hp):(jK h H).objs.size=h.objs.size:=PySem.W.hideAll_size _ _
theorem wt {h:Heap}{H:Hp}{b:Addr}{o:Obj} (e:h.get? b=some o) (n:H b=none):(jK h H).get? b=some o:=
 PySem.W.hideAll_get _ e λhm=>by
  have q:(H b).isSome=true:=(List.mem_filter.mp hm).2
  rw [n]at q;simp at q
theorem yn {h:Heap}{H:Hp}{b:Addr}{o:Obj} (e:(jK h H).get? b=some o):h.get? b=some o/\H b=none:=by
 have e':h.get? b=some o:=PySem.W.of_hideAll (trk h H) e
 refine⟨e',?_⟩
 cases q:H b with
 | none=>rfl
 | some x=>
  have hm:b∈trk h H:=List.mem_filter.mpr ⟨List.mem_range.mpr (Heap.lt_size e'),by simp [q]⟩
  have z:(jK h H).get? b=none:=PySem.W.hideAll_none (trk h H) hm
  rw [z]at e;cases e
structure Mod (K:PySem.W.Frag) (mg:Str->Option Value) (base:Heap):Prop where
 kin:K.In base
 glob:base.Ns mainGlobals mg
 blt:∃mb,base.Ns builtinsNs mb/\∀x:Str,x≠"__name__"->mb x=bootBuiltins x
 nolimit:base.NoLimit
structure Cx where
 prog:Program
 w:World
 K:PySem.W.Frag
 mg:Str->Option Value
 base:Heap
 A:Around
 N:List Str
 s₀:Shared
 H₀:Hp
 env:Env
 outer:List Env
 stack:List Env
 ex:List Addr
 fn:Str->Bool
 calm:Bool
 pn:List (Addr × Obj)
 xe:Value->Shared->Prop
noncomputable def frs (l:List Env):List Addr:=l.filterMap (·.frame)
noncomputable abbrev Cx.fs (X:Cx):List Addr:=frs X.outer
def Vis (sc:Scope) (x:Str):Prop:=sc.names.lookup x=some .local\/sc.names.lookup x=some .cell\/sc.names.lookup x=some .free
def Loc (sc:Scope) (x:Str):Prop:=sc.names.lookup x=some .local\/sc.names.lookup x=some .cell
def D6 (env:Env) (h:Heap) (m:Str->Option Value) (x:Str) (u:Value):Prop:=
 (env.kindOf x=some .local/\m x=some u)\/((env.kindOf x=some .cell\/env.kindOf x=some .free)/\∃c,env.cells.lookup x=some c/\h.IsCell c (some u))
structure Cx.Ok (X:Cx):Prop where
 mod:Mod X.K X.mg X.base
 kind:X.env.scope.kind=.function
 glob:X.env.globals=mainGlobals
 blt:X.env.builtins=builtinsNs
 above:X.s₀.heap.objs.size<=X.env.locals
 inj:∀x y c,X.env.cells.lookup x=some c->X.env.cells.lookup y=some c->x=y
 has:∀x,(X.env.kindOf x=some .cell\/X.env.kindOf x=some .free)->∃c,X.env.cells.lookup x=some c
 cab:∀x c,X.fn x=true->X.env.cells.lookup x=some c->X.s₀.heap.objs.size<=c
 hd:X.calm=true->X.A.handled=none
 frames:X.A.frames=some X.stack
 stk:X.stack=X.outer\/(X.stack=X.env::X.outer/\X.env.frame=some X.env.locals)
 exf:∀b∈X.ex,b≠X.env.locals/\∀x c,X.env.cells.lookup x=some c->c≠b
 bs:∀b o,X.base.get? b=some o->X.s₀.heap.get? b=some o/\X.H₀ b=none
 bsz:X.base.objs.size<=X.s₀.heap.objs.size
 noex:∀b o,X.base.get? b=some o->b∉X.ex
 exfs:∀b∈X.ex,b∉X.fs
 funs:X.s₀.heap.FunFrames X.base X.outer
 frf:∀b∈X.fs,X.H₀ b=none
structure Inv (X:Cx) (pins:List (Addr × Obj)) (σ:List (Option V)) (H:Hp) (s:Shared):Prop where
 ok:X.Ok
 os:s.os=X.s₀.os
 bare:AllBare s.gens
 base:Un X.fs X.ex X.H₀ H X.s₀.heap s.heap
 loc:∃m,s.heap.Ns X.env.locals m/\∀(i:Nat) (x:Str) (v:V),X.N[i]?=some x->σ[i]?=some (some v)->Vis X.env.scope x->∃u,b8 v u/\D6 X.env s.heap m x u
 cell:∀x c,X.env.cells.lookup x=some c->∃v,s.heap.IsCell c v
 free:H X.env.locals=none
 freeC:∀x c,X.env.cells.lookup x=some c->H c=none
 pin:∀p∈X.pn++pins,s.heap.get? p.1=some p.2/\H p.1=none/\p.1≠X.env.locals/\p.1∉X.fs/\∀v,p.2.data≠.cell v
 hok:HOk X.prog X.w H s.heap
 len:σ.length=X.N.length
section
variable {X:Cx}{pins:List (Addr × Obj)}{σ:List (Option V)}{H H':Hp}{s:Shared}{h':Heap}
theorem Cx.Ok.nofr (ok:X.Ok){b:Addr}{o:Obj} (e:X.base.get? b=some o):b∉X.fs:=λhb=>by
 have:=(ok.funs.mem hb).1
 rw [e]at this;cases this
theorem Inv.bs (I:Inv X pins σ H s):∀b o,X.base.get? b=some o->s.heap.get? b=some o/\H b=none:=λb o e=>
 ⟨I.base.keep b o (I.ok.bs b o e).1 (I.ok.bs b o e).2 (I.ok.nofr e) (I.ok.noex b o e),I.base.free b o (I.ok.bs b o e).1 (I.ok.bs b o e).2 (I.ok.noex b o e)⟩
theorem Inv.bk (I:Inv X pins σ H s):∀b o,X.base.get? b=some o->s.heap.get? b=some o:=λb o e=>(I.bs b o e).1
theorem Inv.mod (I:Inv X pins σ H s):Mod X.K X.mg X.base:=I.ok.mod
theorem Inv.kIn (I:Inv X pins σ H s):X.K.In s.heap:=I.ok.mod.kin.keeps I.bk
theorem Inv.lt (I:Inv X pins σ H s):X.env.locals < s.heap.objs.size:=let ⟨_,hn,_⟩:=I.loc;hn.lt
theorem Inv.sz (I:Inv X pins σ H s):X.s₀.heap.objs.size<=s.heap.objs.size:=Nat.le_trans I.ok.above (Nat.le_of_lt I.lt)
theorem Inv.nofs (I:Inv X pins σ H s){a:Addr} (h:s.heap.objs.size<=a):a∉X.fs:=λhb=>by
 obtain⟨_,o,ho,_⟩:=I.ok.funs.mem hb
 exact absurd (Nat.lt_of_lt_of_le (Heap.lt_size ho) (Nat.le_trans I.sz h)) (Nat.lt_irrefl _)
theorem Inv.cne (I:Inv X pins σ H s):∀x c,X.env.cells.lookup x=some c->c≠X.env.locals:=λx c e z=>by
 obtain⟨v,o,ho,hd⟩:=I.cell x c e
 obtain⟨m,⟨o',es,ep,ho',hd',_⟩,_⟩:=I.loc
 rw [z,ho']at ho;cases ho;rw [hd']at hd;cases hd
theorem Inv.funs (I:Inv X pins σ H s):s.heap.FunFrames X.base X.outer:=by
 have all:∀(l:List Env),(∀b∈frs l,b∈X.fs)->X.s₀.heap.FunFrames X.base l->s.heap.FunFrames X.base l:=by
  intro l
  induction l with
  | nil=>intro _ _;trivial
  | cons env r ih=>
   intro hs hl
   obtain⟨hk,⟨L,o,hf,hn,ho,hd⟩,hr⟩:=hl
   have hL:L∈X.fs:=hs L (by unfold frs;rw [List.filterMap_cons,hf];exact List.mem_cons_self)
   obtain⟨sl,e⟩:=I.base.slot L o ho (I.ok.frf L hL) hL λz=>I.ok.exfs L z hL
   exact⟨hk,⟨L,_,hf,hn,e,hd⟩,ih (λb hb=>hs b (by unfold frs;rw [List.filterMap_cons,hf];exact List.mem_cons_of_mem _ hb)) hr⟩
 exact all X.outer (λ_ hb=>hb) I.ok.funs
theorem Inv.stack (I:Inv X pins σ H s):s.heap.FunFrames X.base X.stack:=by
 rcases I.ok.stk with e | ⟨e,hf⟩
 ·rw [e];exact I.funs
 ·rw [e]
  obtain⟨m,hn,_⟩:=I.loc
  refine .cons (by rw [I.ok.kind];decide) hf hn ?_ I.funs
  exact Heap.get?_none_of_le (Nat.le_trans I.ok.bsz I.ok.above)
theorem Inv.stkSub (I:Inv X pins σ H s):∀b∈frs X.stack,b∈X.env.locals::X.fs:=λb hb=>by
 rcases I.ok.stk with e | ⟨e,hf⟩
 ·rw [e]at hb;exact List.mem_cons_of_mem _ hb
 ·rw [e]at hb
  unfold frs at hb
  rw [List.filterMap_cons,hf]at hb
  exact hb
theorem Inv.stkFree (I:Inv X pins σ H s):∀b∈frs X.stack,H b=none:=λb hb=>by
 rcases List.mem_cons.mp (I.stkSub b hb) with e | hb
 ·rw [e];exact I.free
 ·obtain⟨_,o,ho,_⟩:=I.ok.funs.mem hb
  exact I.base.free b o ho (I.ok.frf b hb) λz=>I.ok.exfs b z hb
theorem Inv.step {g':Array GenState}{t':Nat}{d':Drawn}{ch:List Addr} (I:Inv X pins σ H s)
  (hch:∀b∈ch,(b∈X.ex\/X.s₀.heap.objs.size<=b)/\b≠X.env.locals/\(∀x c,X.env.cells.lookup x=some c->c≠b)/\∀p∈X.pn++pins,p.1≠b)
  (keep:∀b o,b≠X.env.locals->b∉X.fs->b∉ch->s.heap.get? b=some o->H b=none->h'.get? b=some o)
  (slot:∀b o,b≠X.env.locals->b∈X.fs->b∉ch->s.heap.get? b=some o->H b=none->∃sl,h'.get? b=some { o with slots:=sl }) (free:∀b o,b∉ch->s.heap.get? b=some o->H b=none->H' b=none)
  (there:∀b o,b∉ch->s.heap.get? b=some o->∃o',h'.get? b=some o')
  (tups:∀b xs,H b=some (.tup xs)->H' b=some (.tup xs)) (frzs:∀b o u,H b=some (.frz o u)->H' b=some (.frz o u)) (tbls:∀b ps,H b=some (.tbl ps)->∃more,H' b=some (.tbl (ps++more)))
  (ns:∀m,s.heap.Ns X.env.locals m->h'.Ns X.env.locals m) (hok:HOk X.prog X.w H' h') (hg:AllBare g') :
  Inv X pins σ H' { s with heap:=h',gens:=g',drawn:=d',toks:=t' }:=by
 have neL:∀b o,X.s₀.heap.get? b=some o->b≠X.env.locals:=λb o e=>Nat.ne_of_lt (Nat.lt_of_lt_of_le (Heap.lt_size e) I.ok.above)
 have neC:∀b o,X.s₀.heap.get? b=some o->b∉X.ex->b∉ch:=λb o e hx hb=>by
  rcases (hch b hb).1 with z | z
  ·exact hx z
  ·exact absurd (Nat.lt_of_lt_of_le (Heap.lt_size e) z) (Nat.lt_irrefl _)
 have cellK:∀x c,X.env.cells.lookup x=some c->∀v,s.heap.IsCell c v->h'.IsCell c v:=λx c e v ⟨o,ho,hd⟩=>by
  have nch:c∉ch:=λz=>(hch c z).2.2.1 x c e rfl
  by_cases hc:c∈X.fs
  ·obtain⟨sl,q⟩:=slot c o (I.cne x c e) hc nch ho (I.freeC x c e)
   exact⟨_,q,hd⟩
  ·exact⟨o,keep c o (I.cne x c e) hc nch ho (I.freeC x c e),hd⟩
 refine⟨I.ok,I.os,hg,⟨λb o e n hb hx=>?_,λb o e n hb hx=>?_,λb o e n hx=>?_,λb o e hx=>?_,λb xs e=>tups b xs (I.base.tups b xs e),λb o xs e=>frzs b o xs (I.base.frzs b o xs e),λb ps e=>?_⟩,?_,λx c e=>?_,?_,λx c e=>?_,λp hp=>?_,hok,I.len⟩
 ·exact keep b o (neL b o e) hb (neC b o e hx) (I.base.keep b o e n hb hx) (I.base.free b o e n hx)
 ·obtain⟨sl,e1⟩:=I.base.slot b o e n hb hx
  obtain⟨sl',e2⟩:=slot b _ (neL b o e) hb (neC b o e hx) e1 (I.base.free b o e n hx)
  exact⟨sl',e2⟩
 ·obtain⟨o',e1⟩:=I.base.there b o e hx
  exact free b o' (neC b o e hx) e1 (I.base.free b o e n hx)
 ·obtain⟨o',e1⟩:=I.base.there b o e hx
  exact there b o' (neC b o e hx) e1
 ·obtain⟨m1,e1⟩:=I.base.tbls b ps e
  obtain⟨m2,e2⟩:=tbls b _ e1
  exact⟨m1++m2,by rw [e2,Array.append_assoc]⟩
 ·obtain⟨m,hn,hl⟩:=I.loc
  refine⟨m,ns m hn,λi x v e1 e2 e3=>?_⟩
  obtain⟨u,r,l⟩:=hl i x v e1 e2 e3
  refine⟨u,r,?_⟩
  rcases l with l | ⟨k,c,e,z⟩
  ·exact .inl l
  ·exact .inr ⟨k,c,e,cellK x c e _ z⟩
 ·obtain⟨v,z⟩:=I.cell x c e
  exact⟨v,cellK x c e v z⟩
 ·obtain⟨m,⟨o,_,_,ho,_⟩,_⟩:=I.loc
  exact free _ o (λz=>(hch _ z).2.1 rfl) ho I.free
 ·obtain⟨v,o,ho,hd⟩:=I.cell x c e
  exact free c o (λz=>(hch c z).2.2.1 x c e rfl) ho (I.freeC x c e)
 ·obtain⟨e,n,ne,nf,d⟩:=I.pin p hp
  have nch:p.1∉ch:=λz=>(hch p.1 z).2.2.2 p hp rfl
  exact⟨keep p.1 p.2 ne nf nch e n,free p.1 p.2 nch e n,ne,nf,d⟩
theorem Inv.un {t':Nat} (I:Inv X pins σ H s) (u:Un X.fs [] H H' s.heap h') (hok:HOk X.prog X.w H' h'):Inv X pins σ H' { s with heap:=h',toks:=t' }:=by
 obtain⟨m,⟨o,es,ep,ho,r⟩,_⟩:=id I.loc
 obtain⟨sl,hL⟩:=u.any ho I.free (by simp)
 exact I.step (g':=s.gens) (d':=s.drawn) (ch:=[]) (λ_ z=>nomatch z) (λb o _ hb _ e n=>u.keep b o e n hb (by simp)) (λb o _ hb _ e n=>u.slot b o e n hb (by simp)) (λb o _ e n=>u.free b o e n (by simp)) (λb o _ e=>u.there b o e (by simp)) u.tups u.frzs u.tbls (λm' hm=>by
  obtain⟨o',es',ep',ho',r'⟩:=hm
  rw [ho]at ho';cases ho'
  exact⟨_,es',ep',hL,r'⟩) hok I.bare
theorem Inv.call {g':Array GenState}{t':Nat}{d':Drawn}{ch:List Addr} (I:Inv X pins σ H s) (u:Un (frs X.stack) ch H H' s.heap h') (hok:HOk X.prog X.w H' h') (hg:AllBare g')
  (hch:∀b∈ch,(b∈X.ex\/X.s₀.heap.objs.size<=b)/\b≠X.env.locals/\(∀x c,X.env.cells.lookup x=some c->c≠b)/\∀p∈X.pn++pins,p.1≠b) :
  Inv X pins σ H' { s with heap:=h',gens:=g',drawn:=d',toks:=t' }:=by
 obtain⟨m,⟨o,es,ep,ho,r⟩,_⟩:=id I.loc
 obtain⟨sl,hL⟩:=u.any ho I.free λz=>(hch _ z).2.1 rfl
 exact I.step (ch:=ch) hch (λb o hL hb hc e n=>u.keep b o e n (λz=>(List.mem_cons.mp (I.stkSub b z)).elim hL hb) hc) (λb o _ _ hc e n=>u.any e n hc) (λb o hc e n=>u.free b o e n hc) (λb o hc e=>u.there b o e hc) u.tups u.frzs u.tbls (λm' hm=>by
  obtain⟨o',es',ep',ho',r'⟩:=hm
  rw [ho]at ho';cases ho'
  exact⟨_,es',ep',hL,r'⟩) hok hg
theorem Inv.turned {t':Nat}{it:Addr} (I:Inv X pins σ H s) (k:∀b o,b≠it->s.heap.get? b=some o->h'.get? b=some o) (hn:H it=none) (hL:it≠X.env.locals)
  (h1:it∈X.ex\/X.s₀.heap.objs.size<=it) (h2:∀x c,X.env.cells.lookup x=some c->c≠it) (h3:∀p∈X.pn++pins,p.1≠it):Inv X pins σ H { s with heap:=h',toks:=t' }:=by
 have nit:∀b u,H b=some u->b≠it:=λb u e z=>by rw [z,hn]at e;cases e
 refine I.step (g':=s.gens) (d':=s.drawn) (ch:=[it]) (λb hb=>?_) (λb o _ _ hc e _=>k b o (λz=>hc (by simp [z])) e) (λb o _ _ hc e _=>⟨o.slots,k b o (λz=>hc (by simp [z])) e⟩) (λ_ _ _ _ n=>n)
  (λb o hc e=>⟨o,k b o (λz=>hc (by simp [z])) e⟩) (λ_ _ e=>e) (λ_ _ _ e=>e) (λb ps e=>⟨#[],by rw [e];simp⟩) (λm hm=>?_) (λb u e=>?_) I.bare
 ·have e:b=it:=by simpa using hb
  subst e
  exact⟨h1,hL,h2,h3⟩
 ·obtain⟨o,es,ep,ho,r⟩:=hm
  exact⟨o,es,ep,k _ o (Ne.symm hL) ho,r⟩
 ·refine(I.hok b u e).stay (λc v hc q=>k c v ?_ q) (λ_ q=>q) λ_ _ q=>q
  rcases hc with z | z
  ·rw [z];exact nit b u e
  ·exact nit c _ z
theorem Inv.tok (I:Inv X pins σ H s) (t:Nat):Inv X pins σ H { s with toks:=t }:=I.un (h':=s.heap) (t':=t) Un.refl I.hok
theorem Inv.kept {t':Nat} (I:Inv X pins σ H s) (k:∀b u,s.heap.get? b=some u->h'.get? b=some u):Inv X pins σ H { s with heap:=h',toks:=t' }:=I.un (Un.kept k) (I.hok.kept k)
theorem Inv.laid {a:Addr}{o:HO}{t':Nat} (I:Inv X pins σ H s) (k:∀b u,s.heap.get? b=some u->h'.get? b=some u) (hp:s.heap.objs.size<=a) (new:bC X.prog X.w (upd H a o) h' a o) :
  Inv X pins σ (upd H a o) { s with heap:=h',toks:=t' }:=I.un (Un.laid k hp (I.hok.fresh hp)) (I.hok.laid k hp new)
theorem Inv.write {x e:Addr}{o:HO}{t':Nat} (I:Inv X pins σ H s) (mu:Mut (H x)) (he:e=x\/H e=some (.own x)) (k:∀b u,b≠e->s.heap.get? b=some u->h'.get? b=some u) (heo:∃u,h'.get? e=some u)
  (new:bC X.prog X.w (upd H x o) h' x o):Inv X pins σ (upd H x o) { s with heap:=h',toks:=t' }:=I.un (Un.write mu he k heo) (I.hok.write mu he k heo new)
theorem Inv.pins_of {pins':List (Addr × Obj)} (I:Inv X pins σ H s) (h:∀p∈pins',s.heap.get? p.1=some p.2/\H p.1=none/\p.1≠X.env.locals/\p.1∉X.fs/\∀v,p.2.data≠.cell v):Inv X pins' σ H s:=
 ⟨I.ok,I.os,I.bare,I.base,I.loc,I.cell,I.free,I.freeC,λp hp=>(List.mem_append.mp hp).elim (λz=>I.pin p (List.mem_append_left _ z)) (h p),I.hok,I.len⟩
theorem nV {N:List Str} (hN:N.Nodup){i j:Nat}{x:Str} (a:N[i]?=some x) (b:N[j]?=some x):i=j:=by
 obtain⟨h1,e1⟩:=List.getElem?_eq_some_iff.mp a
 obtain⟨h2,e2⟩:=List.getElem?_eq_some_iff.mp b
 exact(List.getElem_inj hN).mp (e1.trans e2.symm)
theorem kJ {M:Model}{A:Around}{E:Value->Shared->Prop}{i:Nat}{x:Str}{v:V}{u:Value}{Q:Unit->Shared->Prop} (I:Inv X pins σ H s) (hN:X.N.Nodup) (hi:X.N[i]?=some x) (hx:Loc X.env.scope x) (r:b8 v u)
  (h:∀s',Inv X pins (σ.set i (some v)) H s'->(∃a,Heap.SameBut a s.heap s'.heap/\(a=X.env.locals\/X.env.cells.lookup x=some a))->Q () s') (hf:X.fn x=true\/X.env.scope.names.lookup x=some .local:=by first | exact .inl rfl | exact .inr rfl | assumption):wpAny M A (storeName X.env x u) Q E s:=by
 obtain⟨m,hn,hl⟩:=id I.loc
 have hcls:(X.env.scope.kind == .class || (X.env.scope.kind == .module && X.env.locals != X.env.globals))=false:=by rw [I.ok.kind];rfl
 have hiσ:i < σ.length:=by rw [I.len];exact(List.getElem?_eq_some_iff.mp hi).1
 have cne:=I.cne
 have tracked:∀{a:Addr}{h':Heap},(∃o,s.heap.get? a=some o/\H a=none)->Heap.SameBut a s.heap h'->HOk X.prog X.w H h':=λ{a h'} ha hs b ob e=>by
  obtain⟨_,_,hfree⟩:=ha
  refine(I.hok b ob e).stay (λc w' hc q=>(hs.2 c ?_).trans q) (λ_ q=>q) λ_ _ q=>q
  rintro rfl
  rcases hc with rfl | hc
  ·rw [hfree]at e;cases e
  ·rw [hfree]at hc;cases hc
 rcases hx with hk | hk
 ·refine wpAny_storeName_local hk hn (λh' hn' hs=>?_) hcls
  obtain⟨oL,_,_,hoL,_⟩:=id hn
  refine h _ ⟨I.ok,I.os,I.bare,⟨λb o e n hb hx=>?_,λb o e n hb hx=>?_,I.base.free,λb o e hx=>?_,I.base.tups,I.base.frzs,I.base.tbls⟩,⟨_,hn',λj y v' e1 e2 e3=>?_⟩,λy c e=>?_,I.free,I.freeC,λp hp=>?_,tracked ⟨oL,hoL,I.free⟩ hs,by simpa using I.len⟩ ⟨_,hs,.inl rfl⟩
  ·exact(hs.2 b (Nat.ne_of_lt (Nat.lt_of_lt_of_le (Heap.lt_size e) I.ok.above))).trans (I.base.keep b o e n hb hx)
  ·obtain⟨sl,e1⟩:=I.base.slot b o e n hb hx
   exact⟨sl,(hs.2 b (Nat.ne_of_lt (Nat.lt_of_lt_of_le (Heap.lt_size e) I.ok.above))).trans e1⟩
  ·obtain⟨o',e1⟩:=I.base.there b o e hx
   exact⟨o',(hs.2 b (Nat.ne_of_lt (Nat.lt_of_lt_of_le (Heap.lt_size e) I.ok.above))).trans e1⟩
  ·by_cases hj:j=i
   ·subst hj
    rw [hi]at e1;cases e1
    rw [List.getElem?_set_self hiσ]at e2
    cases e2
    exact⟨u,r,.inl ⟨hk,by simp⟩⟩
   ·rw [List.getElem?_set_ne (Ne.symm hj)]at e2
    obtain⟨u',r',q⟩:=hl j y v' e1 e2 e3
    refine⟨u',r',?_⟩
    rcases q with⟨k,e⟩ | ⟨k,c,e,z⟩
    ·refine .inl ⟨k,?_⟩
     have:y≠x:=λe=>hj (nV hN e1 (e ▸ hi))
     simp [this,e]
    ·exact .inr ⟨k,c,e,z.sameBut hs (cne y c e)⟩
  ·obtain⟨w',z⟩:=I.cell y c e
   exact⟨w',z.sameBut hs (cne y c e)⟩
  ·obtain⟨e,n,ne,nf,d⟩:=I.pin p hp
   exact⟨(hs.2 p.1 ne).trans e,n,ne,nf,d⟩
 ·have hfn:X.fn x=true:=by
   rcases hf with z | z
   ·exact z
   ·rw [z]at hk;cases hk
  obtain⟨c,hc⟩:=I.ok.has x (.inl hk)
  obtain⟨w',z⟩:=I.cell x c hc
  refine wpAny_storeName_cell I.ok.kind hk hc z (λh' hc' hs=>?_)
  obtain⟨oc,hoc,hocd⟩:=id z
  refine h { s with heap:=h' } ⟨I.ok,I.os,I.bare,⟨λb o e n hb hx=>?_,λb o e n hb hx=>?_,I.base.free,λb o e hx=>?_,I.base.tups,I.base.frzs,I.base.tbls⟩,⟨m,hn.sameBut hs (Ne.symm (cne x c hc)),λj y v' e1 e2 e3=>?_⟩,λy c' e=>?_,I.free,I.freeC,λp hp=>?_,tracked ⟨oc,hoc,I.freeC x c hc⟩ hs,by simpa using I.len⟩ ⟨c,hs,.inr hc⟩
  ·exact(hs.2 b (Nat.ne_of_lt (Nat.lt_of_lt_of_le (Heap.lt_size e) (I.ok.cab x c hfn hc)))).trans (I.base.keep b o e n hb hx)
  ·obtain⟨sl,e1⟩:=I.base.slot b o e n hb hx
   exact⟨sl,(hs.2 b (Nat.ne_of_lt (Nat.lt_of_lt_of_le (Heap.lt_size e) (I.ok.cab x c hfn hc)))).trans e1⟩
  ·obtain⟨o',e1⟩:=I.base.there b o e hx
   exact⟨o',(hs.2 b (Nat.ne_of_lt (Nat.lt_of_lt_of_le (Heap.lt_size e) (I.ok.cab x c hfn hc)))).trans e1⟩
  ·by_cases hj:j=i
   ·subst hj
    rw [hi]at e1;cases e1
    rw [List.getElem?_set_self hiσ]at e2
    cases e2
    exact⟨u,r,.inr ⟨.inl hk,c,hc,hc'⟩⟩
   ·rw [List.getElem?_set_ne (Ne.symm hj)]at e2
    obtain⟨u',r',q⟩:=hl j y v' e1 e2 e3
    refine⟨u',r',?_⟩
    rcases q with q | ⟨k,c',e,z'⟩
    ·exact .inl q
    ·refine .inr ⟨k,c',e,z'.sameBut hs ?_⟩
     rintro rfl
     exact hj (nV hN e1 (I.ok.inj _ _ _ e hc ▸ hi))
  ·by_cases hcc:c'=c
   ·subst hcc;exact⟨_,hc'⟩
   ·obtain⟨w2,z2⟩:=I.cell y c' e
    exact⟨w2,z2.sameBut hs hcc⟩
  ·obtain⟨e,n,ne,nf,d⟩:=I.pin p hp
   refine⟨(hs.2 p.1 ?_).trans e,n,ne,nf,d⟩
   intro q
   rw [q,hoc]at e
   have q':oc=p.2:=Option.some.inj e
   exact d w' (by rw [<- q'];exact hocd)
theorem fM {M:Model}{A:Around}{E:Value->Shared->Prop}{i:Nat}{x:Str}{v:V}{u:Value}{Q:Unit->Shared->Prop} (I:Inv X pins σ H s) (hN:X.N.Nodup) (hi:X.N[i]?=some x) (hx:Loc X.env.scope x) (r:b8 v u)
  (h:∀s',Inv X pins (σ.set i (some v)) H s'->Q () s') (hf:X.fn x=true\/X.env.scope.names.lookup x=some .local:=by first | exact .inl rfl | exact .inr rfl | assumption):wpAny M A (storeName X.env x u) Q E s:=
 kJ I hN hi hx r (λs' I' _=>h s' I') hf
theorem Inv.call' {s':Shared}{ch:List Addr} (I:Inv X pins σ H s) (ho:s'.os=s.os) (u:Un (frs X.stack) ch H H' s.heap s'.heap) (hok:HOk X.prog X.w H' s'.heap) (hg:AllBare s'.gens)
  (hch:∀b∈ch,(b∈X.ex\/X.s₀.heap.objs.size<=b)/\b≠X.env.locals/\(∀x c,X.env.cells.lookup x=some c->c≠b)/\∀p∈X.pn++pins,p.1≠b):Inv X pins σ H' s':=by
 obtain⟨h',g',d',t',o'⟩:=s'
 have e:o'=s.os:=ho
 subst e
 exact I.call (g':=g') (t':=t') (d':=d') u hok hg hch
end
noncomputable abbrev XK:=Value->Option Addr->Hp->Prop
noncomputable abbrev St:=List (Option V)
noncomputable abbrev VK:=V->Hp->Prop
noncomputable abbrev TE:=St->Hp->VK->Prop
noncomputable abbrev TT:=St->Hp->(Bool->Hp->Prop)->Prop
noncomputable abbrev TA:=St->Hp->(List V->Hp->Prop)->Prop
structure Ends where
 nx:St->Hp->Prop
 rt:VK
 bk:St->Hp->Prop:=λ_ _=>False
 ct:St->Hp->Prop:=λ_ _=>False
noncomputable abbrev TS:=Ends->St->Hp->Prop
inductive EP (X:Cx) (pins:List (Addr × Obj)) (σ:St) (Q:VK) (u:Value) (s':Shared):Prop
 | mk (v H') (h1:Inv X pins σ H' s') (h2:b8 v u) (h3:Q v H')
def TP (X:Cx) (pins:List (Addr × Obj)) (σ:St) (Q:Bool->Hp->Prop) (b:Bool) (s':Shared):Prop:=∃H',Inv X pins σ H' s'/\Q b H'
inductive AP (X:Cx) (pins:List (Addr × Obj)) (σ:St) (Q:List V->Hp->Prop) (us:List Value) (s':Shared):Prop
 | mk (vs H') (h1:Inv X pins σ H' s') (h2:aW vs us) (h3:Q vs H')
def SP (X:Cx) (pins:List (Addr × Obj)) (D:Ends) (f:Flow) (s':Shared):Prop:=
 match f with
 | .next=>∃σ' H',Inv X pins σ' H' s'/\D.nx σ' H'
 | .brk=>∃σ' H',Inv X pins σ' H' s'/\D.bk σ' H'
 | .cont=>∃σ' H',Inv X pins σ' H' s'/\D.ct σ' H'
 | .ret u=>∃v σ' H',Inv X pins σ' H' s'/\b8 v u/\D.rt v H'
def PE (X:Cx) (e:Expr) (t:TE):Prop:=
 ∀(pins:List (Addr × Obj)) (s:Shared) (σ:St) (H:Hp) (Q:VK),Inv X pins σ H s->t σ H Q->wpAny (model X.prog X.w) X.A (eval e X.env) (EP X pins σ Q) X.xe s
def PT (X:Cx) (e:Expr) (t:TT):Prop:=
 ∀(pins:List (Addr × Obj)) (s:Shared) (σ:St) (H:Hp) (Q:Bool->Hp->Prop),Inv X pins σ H s->t σ H Q->wpAny (model X.prog X.w) X.A (isTrue e X.env (eval e X.env)) (TP X pins σ Q) X.xe s
def PW (X:Cx) (e:Expr) (t:TT):Prop:=
 ∀(whole:Sem Value) (pins:List (Addr × Obj)) (s:Shared) (σ:St) (H:Hp) (Q:Bool->Hp->Prop),Inv X pins σ H s->t σ H Q->wpAny (model X.prog X.w) X.A (isTrue e X.env whole) (TP X pins σ Q) X.xe s
theorem PW.pt {X:Cx}{e:Expr}{t:TT} (h:PW X e t):PT X e t:=h _
def PA (X:Cx) (es:List Expr) (t:TA):Prop:=
 ∀(pos:Pos) (pins:List (Addr × Obj)) (s:Shared) (σ:St) (H:Hp) (Q:List V->Hp->Prop),Inv X pins σ H s->t σ H Q->wpAny (model X.prog X.w) X.A (spliced (backTo pos (starEach es X.env))) (AP X pins σ Q) X.xe s
def PS (X:Cx) (st:Stmt) (t:TS):Prop:=
 ∀(pins:List (Addr × Obj)) (s:Shared) (σ:St) (H:Hp) (D:Ends),Inv X pins σ H s->t D σ H->wpAny (model X.prog X.w) X.A (exec st X.env) (SP X pins D) X.xe s
def PSs (X:Cx) (st:List Stmt) (t:TS):Prop:=
 ∀(pins:List (Addr × Obj)) (s:Shared) (σ:St) (H:Hp) (D:Ends),Inv X pins σ H s->t D σ H->wpAny (model X.prog X.w) X.A (execs st X.env) (SP X pins D) X.xe s
theorem thn {α:Type}{t:Sem α}{Q Q':α->Shared->Prop}{M:Model}{A:Around}{E:Value->Shared->Prop}{s:Shared} (h:wpAny M A t Q E s) (hQ:∀a s,Q a s->Q' a s):wpAny M A t Q' E s:=wpAny_mono h hQ λ_ _ x=>x
section
variable {X:Cx}
inductive jh (i:Nat) (σ:St) (H:Hp) (Q:VK):Prop
 | mk (v) (h1:σ[i]?=some (some v)) (h2:Q v H):jh i σ H Q
noncomputable def tC (v:V):TE:=λ_ H Q=>Q v H
theorem AC {i:Nat}{x:Str}{pos:Pos} (hN:X.N[i]?=some x) (hv:Vis X.env.scope x) (hd:(x == ("__debug__" : Str))=false:=by decide) (hcd:(x == ("__classdict__" : Str))=false:=by decide):PE X (.Name x pos) (jh i):=by
 intro pins s σ H Q I h
 obtain⟨v,e,h⟩:=h
 obtain⟨m,hn,hl⟩:=I.loc
 obtain⟨u,r,l⟩:=hl i x v hN e hv
 have fin:EP X pins σ Q u s:=⟨v,H,I,r,h⟩
 rcases l with⟨hk,hm⟩ | ⟨hk,c,hc,hcell⟩
 ·exact wpAny_Name (wpAny_loadName_local I.ok.kind hk hn hm fin) hd
 ·rcases hk with hk | hk
  ·exact wpAny_Name (wpAny_loadName_cell I.ok.kind hk hc hcell fin) hd
  ·exact wpAny_Name (wpAny_loadName_free I.ok.kind hk hc hcell fin hcd) hd
theorem aj {i j pos}:PE X (.Constant (.int i) j pos) (tC (.int i)):=λ_ _ _ H _ I h=>wpAny_Constant_int ⟨.int i,H,I.tok _,⟨_,rfl⟩,h⟩
theorem jC {b j pos}:PE X (.Constant (.bool b) j pos) (tC (.bl b)):=λ_ _ _ H _ I h=>Constant_bool ⟨.bl b,H,I,rfl,h⟩
theorem dm {j pos}:PE X (.Constant .none j pos) (tC .non):=λ_ _ _ H _ I h=>Constant_none ⟨.non,H,I,rfl,h⟩
theorem aD {x j pos}:PE X (.Constant (.str x) j pos) (tC (.str x)):=λ_ _ _ H _ I h=>Calls.Constant_str ⟨.str x,H,I.tok _,⟨_,rfl⟩,h⟩
def Gl (X:Cx) (x:Str):Prop:=X.env.kindOf x=some .globalImplicit
theorem j7 {E:Value->Shared->Prop}{pins:List (Addr × Obj)}{s:Shared}{σ:St}{H:Hp}{x:Str}{u:Value}{pos:Pos}{Q:Value->Shared->Prop} (I:Inv X pins σ H s) (hg:Gl X x) (hm:X.mg x=some u) (h:Q u s)
  (hd:(x == ("__debug__" : Str))=false:=by decide):wpAny (model X.prog X.w) X.A (eval (.Name x pos) X.env) Q E s:=
 Calls.Name_function_global I.ok.kind hg (Calls.loadGlobal_global (by rw [I.ok.glob];exact I.mod.glob.keeps I.bk) hm h) hd
theorem fW {E:Value->Shared->Prop}{pins:List (Addr × Obj)}{s:Shared}{σ:St}{H:Hp}{x:Str}{u:Value}{pos:Pos}{Q:Value->Shared->Prop} (I:Inv X pins σ H s) (hg:Gl X x) (hm:X.mg x=none) (hv:bootBuiltins x=some u) (h:Q u s)
  (hn:x≠"__name__":=by decide) (hd:(x == ("__debug__" : Str))=false:=by decide):wpAny (model X.prog X.w) X.A (eval (.Name x pos) X.env) Q E s:=by
 obtain⟨mb,h1,h2⟩:=I.mod.blt
 exact Calls.Name_function_global I.ok.kind hg (Calls.loadGlobal_builtin (by rw [I.ok.glob];exact I.mod.glob.keeps I.bk) hm (by rw [I.ok.blt];exact h1.keeps I.bk) ((h2 x hn).trans hv) h) hd
theorem bI {x:Str}{v:V}{u:Value}{pos:Pos} (hg:Gl X x) (hm:X.mg x=some u) (r:b8 v u) (hd:(x == ("__debug__" : Str))=false:=by decide):PE X (.Name x pos) (tC v):=
 λ_ _ _ H _ I h=>j7 I hg hm ⟨v,H,I,r,h⟩ hd
theorem gk {x:Str}{v:V}{u:Value}{pos:Pos} (hg:Gl X x) (hm:X.mg x=none) (hv:bootBuiltins x=some u) (r:b8 v u) (hn:x≠"__name__":=by decide) (hd:(x == ("__debug__" : Str))=false:=by decide):PE X (.Name x pos) (tC v):=
 λ_ _ _ H _ I h=>fW I hg hm hv ⟨v,H,I,r,h⟩ hn hd
variable {a b:Expr}{ta tb:TE}{pos:Pos}
def PC (X:Cx) (op:CmpOp) (a b:Expr) (t:TE):Prop:=
 ∀(pins:List (Addr × Obj)) (s:Shared) (σ:St) (H:Hp) (Q:VK),Inv X pins σ H s->t σ H Q->
  wpAny (model X.prog X.w) X.A (eval a X.env) (λv s₁=>wpAny (model X.prog X.w) X.A (eval b X.env) (λu s₂=>wpAny (model X.prog X.w) X.A (compareOp op v u) (EP X pins σ Q) X.xe s₂) X.xe s₁) X.xe s
theorem nW (b:Expr){op:CmpOp} (h:op≠.In) (h2:op≠.NotIn):behindInMarks op b=false:=by
 have e1:(op == CmpOp.In)=false:=by cases op <;> first | rfl | exact absurd rfl h
 have e2:(op == CmpOp.NotIn)=false:=by cases op <;> first | rfl | exact absurd rfl h2
 cases b <;> simp [behindInMarks,e1,e2]
noncomputable def Ck (ta:TE):TE:=λσ H Q=>ta σ H λx H1=>Q (.bl (decide (x=.non))) H1
noncomputable def Bx (ta:TE):TE:=λσ H Q=>ta σ H λx H1=>Q (.bl (!decide (x=.non))) H1
theorem b8.none_iff {x:V}{v:Value} (r:b8 x v):(v == Value.none)=decide (x=.non):=by
 cases x with
 | non=>cases r;rfl
 | bl _=>cases r;rfl
 | int _=>obtain⟨t,rfl⟩:=r;rfl
 | str _=>obtain⟨t,rfl⟩:=r;rfl
 | byt _=>obtain⟨t,rfl⟩:=r;rfl
 | flt _=>obtain⟨t,rfl⟩:=r;rfl
 | ref _=>cases r;rfl
 | ty _=>cases r;rfl
theorem gH {j pos'} (ha:PE X a ta):PC X .Is a (.Constant .none j pos') (Ck ta):=by
 intro pins s σ H Q I h
 refine thn (ha pins s σ H _ I h) λv s1 ⟨x,H1,I1,r1,q1⟩=>?_
 exact Constant_none (is_none_gen ⟨.bl _,H1,I1,by rw [r1.none_iff];rfl,q1⟩)
theorem hX {j pos'} (ha:PE X a ta):PC X .IsNot a (.Constant .none j pos') (Bx ta):=by
 intro pins s σ H Q I h
 refine thn (ha pins s σ H _ I h) λv s1 ⟨x,H1,I1,r1,q1⟩=>?_
 exact Constant_none (isnot_none_gen ⟨.bl _,H1,I1,by rw [r1.none_iff];rfl,q1⟩)
inductive tbR (x:V) (H1:Hp) (Q:Bool->Hp->Prop):Prop
 | mk (c) (h1:x=.bl c) (h2:Q c H1):tbR x H1 Q
noncomputable def tB (t:TE):TT:=λσ H Q=>t σ H λx H1=>tbR x H1 Q
theorem mw {op:CmpOp}{t:TE} (h:PC X op a b t) (h1:behindInMarks op b=false:=by first | exact nW _ (by decide) (by decide) | rfl):PE X (.Compare a [op] [b] pos) t:=λpins s σ H Q I hw=>wpAny_Compare1 (h pins s σ H Q I hw) h1
theorem fk {op:CmpOp}{t:TE} (h:PC X op a b t) (h1:behindInMarks op b=false:=by first | exact nW _ (by decide) (by decide) | rfl):PT X (.Compare a [op] [b] pos) (tB t):=by
 intro pins s σ H Q I hw
 refine wpAny_isTrue_Compare1 (thn (h pins s σ H _ I hw) λv s1 h1=>thn h1 λu s2 h2=>thn h2 λc s3 ⟨x,H1,I1,r1,q1⟩=>?_) h1
 obtain⟨d,rfl,q⟩:=q1
 cases r1
 exact wpAny_truthy_bool ⟨H1,I1,q⟩
theorem dl {e:Expr}{t:TE} (h:PE X e t) (he:∀whole,isTrue e X.env whole=(do let v <- whole;standAt e.pos;holding [v] (truthy v)):=by intro _;rfl):PT X e (tB t):=by
 intro pins s σ H Q I hw
 refine isTrue_plain (thn (h pins s σ H _ I hw) λv s1 ⟨x,H1,I1,r1,q1⟩=>?_) (he _)
 obtain⟨d,rfl,q⟩:=q1
 cases r1
 exact wpAny_truthy_bool ⟨H1,I1,q⟩
variable {tA tB':TT}{rest:List Expr}
noncomputable def Cp (t u:TT):TT:=λσ H Q=>t σ H λc H1=>if c=true then u σ H1 Q else Q false H1
noncomputable def tOr (t u:TT):TT:=λσ H Q=>t σ H λc H1=>if c=true then Q true H1 else u σ H1 Q
noncomputable def Ci (t:TT):TT:=λσ H Q=>t σ H λc H1=>Q (!c) H1
theorem qO (ha:PT X a tA):PW X (.BoolOp .And [a] pos) tA:=by
 intro wh pins s σ H Q I h
 refine isTrue_and (thn (ha pins s σ H Q I h) λc s1 e=>?_)
 cases c with
 | true=>exact isTrue_and_nil e
 | false=>exact e
theorem jy (ha:PT X a tA):PW X (.BoolOp .Or [a] pos) tA:=by
 intro wh pins s σ H Q I h
 refine isTrue_or (thn (ha pins s σ H Q I h) λc s1 e=>?_)
 cases c with
 | false=>exact isTrue_or_nil e
 | true=>exact e
theorem pQ (ha:PT X a tA) (hb:PW X (.BoolOp .And (b::rest) pos) tB'):PW X (.BoolOp .And (a::b::rest) pos) (Cp tA tB'):=by
 intro wh pins s σ H Q I h
 refine isTrue_and (thn (ha pins s σ H _ I h) λc s1 ⟨H1,I1,q1⟩=>?_)
 cases c with
 | true=>exact hb wh pins s1 σ H1 Q I1 q1
 | false=>exact⟨H1,I1,q1⟩
theorem nF (ha:PT X a tA) (hb:PW X (.BoolOp .Or (b::rest) pos) tB'):PW X (.BoolOp .Or (a::b::rest) pos) (tOr tA tB'):=by
 intro wh pins s σ H Q I h
 refine isTrue_or (thn (ha pins s σ H _ I h) λc s1 ⟨H1,I1,q1⟩=>?_)
 cases c with
 | true=>exact⟨H1,I1,q1⟩
 | false=>exact hb wh pins s1 σ H1 Q I1 q1
theorem eR (ha:PT X a tA):PT X (.UnaryOp .Not a pos) (Ci tA):=by
 intro pins s σ H Q I h
 exact isTrue_not (ha pins s σ H (λc H1=>Q (!c) H1) I h)
noncomputable def yV (ta tb:TE):TE:=λσ H Q=>ta σ H λx H1=>∃c,x=.bl c/\if c=true then tb σ H1 Q else Q (.bl false) H1
noncomputable def Ch (ta tb:TE):TE:=λσ H Q=>ta σ H λx H1=>∃c,x=.bl c/\if c=true then Q (.bl true) H1 else tb σ H1 Q
noncomputable def Bw (ta:TE):TE:=λσ H Q=>ta σ H λx H1=>∃c,x=.bl c/\Q (.bl (!c)) H1
theorem fQ {op}{t:TE} (h:PE X a t):PE X (.BoolOp op [a] pos) t:=λpins s σ H Q I hw=>BoolOp_one (h pins s σ H Q I hw)
theorem fR (ha:PE X a ta) (hb:PE X (.BoolOp .And (b::rest) pos) tb):PE X (.BoolOp .And (a::b::rest) pos) (yV ta tb):=by
 intro pins s σ H Q I h
 refine BoolOp_and (thn (ha pins s σ H _ I h) λv s1 ⟨x,H1,I1,r1,q1⟩=>?_)
 obtain⟨c,rfl,q1⟩:=q1
 cases r1
 refine wpAny_truthy_bool ?_
 cases c with
 | true=>exact hb pins s1 σ H1 Q I1 q1
 | false=>exact⟨.bl false,H1,I1,rfl,q1⟩
theorem vf (ha:PE X a ta) (hb:PE X (.BoolOp .Or (b::rest) pos) tb):PE X (.BoolOp .Or (a::b::rest) pos) (Ch ta tb):=by
 intro pins s σ H Q I h
 refine BoolOp_or (thn (ha pins s σ H _ I h) λv s1 ⟨x,H1,I1,r1,q1⟩=>?_)
 obtain⟨c,rfl,q1⟩:=q1
 cases r1
 refine wpAny_truthy_bool ?_
 cases c with
 | false=>exact hb pins s1 σ H1 Q I1 q1
 | true=>exact⟨.bl true,H1,I1,rfl,q1⟩
theorem AD (ha:PE X a ta):PE X (.UnaryOp .Not a pos) (Bw ta):=by
 intro pins s σ H Q I h
 refine UnaryOp_ (thn (ha pins s σ H _ I h) λv s1 ⟨x,H1,I1,r1,q1⟩=>?_)
 obtain⟨c,rfl,q1⟩:=q1
 cases r1
 exact not_of (wpAny_truthy_bool ⟨.bl (!c),H1,I1,rfl,q1⟩)
noncomputable def tIf (t:TT) (ta tb:TE):TE:=λσ H Q=>t σ H λc H1=>if c=true then ta σ H1 Q else tb σ H1 Q
theorem dQ {c:Expr} (hc:PT X c tA) (ha:PE X a ta) (hb:PE X b tb):PE X (.IfExp c a b pos) (tIf tA ta tb):=by
 intro pins s σ H Q I h
 refine wpAny_IfExp (thn (hc pins s σ H _ I h) λd s1 ⟨H1,I1,q1⟩=>?_)
 cases d with
 | true=>exact ha pins s1 σ H1 Q I1 q1
 | false=>exact hb pins s1 σ H1 Q I1 q1
end
def SqL (K:PySem.W.Frag) (H:Hp) (a:Addr) (xs:List V):Prop:=
 Rd H a (.lst xs)\/
  ∃(o:Obj) (its:Array Value) (n:Nat),K.lookup a=some o/\o.cls=.type "list"/\o.dict=none/\o.data=.seq its n/\its.size<=sizeLine/\aW xs its.toList
def SqT (K:PySem.W.Frag) (H:Hp) (a:Addr) (xs:List V):Prop:=
 Rd H a (.tup xs)\/
  ∃(o:Obj) (its:Array Value) (n:Nat),K.lookup a=some o/\o.cls=.type "tuple"/\o.data=.seq its n/\its.size<=sizeLine/\aW xs its.toList
noncomputable def D5:Value->Option V
 | .none=>some .non
 | .bool b=>some (.bl b)
 | .int i _=>some (.int i)
 | .str x _=>some (.str x)
 | .bytes b _=>some (.byt b)
 | .float b _=>some (.flt b)
 | .ref a=>some (.ref a)
 | .type n=>some (.ty n)
 | _=>none
theorem b8.abs {x:V}{u:Value} (r:b8 x u):D5 u=some x:=by
 cases x with
 | non=>cases r;rfl
 | bl _=>cases r;rfl
 | int _=>obtain⟨t,rfl⟩:=r;rfl
 | str _=>obtain⟨t,rfl⟩:=r;rfl
 | byt _=>obtain⟨t,rfl⟩:=r;rfl
 | flt _=>obtain⟨t,rfl⟩:=r;rfl
 | ref _=>cases r;rfl
 | ty _=>cases r;rfl
theorem b8.inj {x y:V}{u:Value} (r:b8 x u) (q:b8 y u):x=y:=Option.some.inj (r.abs.symm.trans q.abs)
theorem aW.inj:∀{xs ys:List V}{us:List Value},aW xs us->aW ys us->xs=ys
 | _,_,_,.nil,.nil=>rfl
 | _,_,_,.cons r t,.cons r' t'=>by rw [r.inj r',aW.inj t t']
section
variable {X:Cx}{pins:List (Addr × Obj)}{σ:St}{H:Hp}{s:Shared}{a:Addr}{xs ys:List V}
theorem SqL.of {K:W.Frag} (h:H a=some (.lst xs)):SqL K H a xs:=.inl (.inl h)
theorem SqT.of {K:W.Frag} (h:H a=some (.tup xs)):SqT K H a xs:=.inl (.inl h)
theorem Inv.list (I:Inv X pins σ H s) (h:SqL X.K H a xs):∃its:List Value,aW xs its/\PlainL s.heap a its.toArray/\xs.length<=sizeLine:=by
 rcases h with h | ⟨o,its,n,hk,hc,hd,hs,hz,r⟩
 ·obtain⟨z,its,n,r,e⟩:=h.ok I.hok
  exact⟨its,r,⟨_,n,e,rfl,rfl,rfl⟩,z⟩
 ·refine⟨its.toList,r,⟨o,n,I.kIn a o hk,hc,hd,by simpa using hs⟩,?_⟩
  have e:=r.length
  simp only [Array.length_toList]at e
  omega
theorem Inv.tuple (I:Inv X pins σ H s) (h:SqT X.K H a xs):∃its:List Value,aW xs its/\IsTup s.heap a its.toArray/\xs.length<=sizeLine:=by
 rcases h with h | ⟨o,its,n,hk,hc,hs,hz,r⟩
 ·obtain⟨z,its,r,p⟩:=h.ok I.hok
  exact⟨its,r,p,z⟩
 ·refine⟨its.toList,r,⟨o,I.kIn a o hk,hc,n,by simpa using hs⟩,?_⟩
  have e:=r.length
  simp only [Array.length_toList]at e
  omega
theorem Inv.list_inj (I:Inv X pins σ H s) (h:SqL X.K H a xs) (h':SqL X.K H a ys):xs=ys:=by
 obtain⟨its,r,⟨o,n,e,_,_,d⟩,_⟩:=I.list h
 obtain⟨its',r',⟨o',n',e',_,_,d'⟩,_⟩:=I.list h'
 rw [e]at e';cases e'
 rw [d]at d'
 injection d' with d1 _
 have:its=its':=by simpa using congrArg Array.toList d1
 subst this
 exact r.inj r'
theorem Inv.tuple_inj (I:Inv X pins σ H s) (h:SqT X.K H a xs) (h':SqT X.K H a ys):xs=ys:=by
 obtain⟨its,r,⟨o,e,_,n,d⟩,_⟩:=I.tuple h
 obtain⟨its',r',⟨o',e',_,n',d'⟩,_⟩:=I.tuple h'
 rw [e]at e';cases e'
 rw [d]at d'
 injection d' with d1 _
 have:its=its':=by simpa using congrArg Array.toList d1
 subst this
 exact r.inj r'
end
noncomputable abbrev Cx.wish (X:Cx) (E:Value->Shared->Prop):Cx:={ X with xe:=E }
noncomputable abbrev Cx.nox (X:Cx):Cx:=X.wish λ_ _=>False
theorem Cx.Ok.wish {X:Cx} (ok:X.Ok) (E:Value->Shared->Prop):(X.wish E).Ok:=
 ⟨ok.mod,ok.kind,ok.glob,ok.blt,ok.above,ok.inj,ok.has,ok.cab,ok.hd,ok.frames,ok.stk,ok.exf,ok.bs,ok.bsz,ok.noex,ok.exfs,ok.funs,ok.frf⟩
theorem Cx.Ok.unwish {X:Cx}{E:Value->Shared->Prop} (ok:(X.wish E).Ok):X.Ok:=
 ⟨ok.mod,ok.kind,ok.glob,ok.blt,ok.above,ok.inj,ok.has,ok.cab,ok.hd,ok.frames,ok.stk,ok.exf,ok.bs,ok.bsz,ok.noex,ok.exfs,ok.funs,ok.frf⟩
section
variable {X:Cx}{pins:List (Addr × Obj)}{σ:St}{H:Hp}{s:Shared}{E:Value->Shared->Prop}
theorem Inv.wish (I:Inv X pins σ H s) (E:Value->Shared->Prop):Inv (X.wish E) pins σ H s:=⟨I.ok.wish E,I.os,I.bare,I.base,I.loc,I.cell,I.free,I.freeC,I.pin,I.hok,I.len⟩
theorem Inv.unwish (I:Inv (X.wish E) pins σ H s):Inv X pins σ H s:=⟨I.ok.unwish,I.os,I.bare,I.base,I.loc,I.cell,I.free,I.freeC,I.pin,I.hok,I.len⟩
theorem SP.unwish {D:Ends}{f:Flow}{s':Shared} (h:SP (X.wish E) pins D f s'):SP X pins D f s':=by
 cases f with
 | next=>obtain⟨σ',H',I,q⟩:=h;exact⟨σ',H',I.unwish,q⟩
 | brk=>obtain⟨σ',H',I,q⟩:=h;exact⟨σ',H',I.unwish,q⟩
 | cont=>obtain⟨σ',H',I,q⟩:=h;exact⟨σ',H',I.unwish,q⟩
 | ret u=>obtain⟨v,σ',H',I,r,q⟩:=h;exact⟨v,σ',H',I.unwish,r,q⟩
theorem PSs.nox {st:List Stmt}{t:TS} (h:PSs X.nox st t):PSs X st t:=λpins s σ H D I hw=>
 wpAny_mono (h pins s σ H D (I.wish _) hw) (λ_ _ q=>q.unwish) λ_ _ z=>False.elim z
end
section
variable {X:Cx}{st:Stmt}{rest:List Stmt}{t u:TS}{e:Expr}{te:TE}{pos:Pos}
noncomputable def yS:TS:=λD σ H=>D.nx σ H
noncomputable def xk (t u:TS):TS:=λD σ H=>t { D with nx:=u D } σ H
theorem aF:PSs X [] yS:=λ_ _ σ H _ I h=>wpAny_execs_nil ⟨σ,H,I,h⟩
theorem ae (h1:PS X st t) (h2:PSs X rest u):PSs X (st::rest) (xk t u):=by
 intro pins s σ H D I h
 refine wpAny_execs_cons (thn (h1 pins s σ H { D with nx:=u D } I h) λf s1 q=>?_)
 cases f with
 | next=>
  obtain⟨σ',H',I',q⟩:=q
  exact h2 pins s1 σ' H' D I' q
 | ret v=>exact q
 | brk=>exact q
 | cont=>exact q
theorem ah (h1:PS X st t):PSs X [st] t:=by
 intro pins s σ H D I h
 refine wpAny_execs_cons (thn (h1 pins s σ H D I h) λf s1 q=>?_)
 cases f with
 | next=>exact wpAny_execs_nil q
 | ret v=>exact q
 | brk=>exact q
 | cont=>exact q
theorem Inv.quiet {pins:List (Addr × Obj)}{σ:St}{H:Hp}{s:Shared} (I:Inv X pins σ H s):interactive X.env=false:=by simp [interactive,I.ok.kind]
noncomputable def yU (te:TE):TS:=λD σ H=>te σ H λ_ H1=>D.nx σ H1
theorem bg (he:PE X e te) (hs:swapsWith e none pos.line X.env=pure false:=by rfl):PS X (.Expr e pos) (yU te):=by
 intro pins s σ H D I h
 exact wpAny_Expr_any (thn (he pins s σ H _ I h) λv s1 ⟨x,H1,I1,r1,q1⟩=>⟨σ,H1,I1,q1⟩) I.quiet hs
noncomputable def zM (te:TE):TS:=λD σ H=>te σ H D.rt
theorem ax (he:PE X e te):PS X (.Return (some e) pos) (zM te):=by
 intro pins s σ H D I h
 exact wpAny_Return_some (thn (he pins s σ H _ I h) λv s1 ⟨x,H1,I1,r1,q1⟩=>⟨x,σ,H1,I1,r1,q1⟩)
noncomputable def zQ (c:TT) (t u:TS):TS:=λD σ H=>c σ H λb H1=>if b=true then t D σ H1 else u D σ H1
theorem ba {c:Expr}{a b:List Stmt}{tc:TT} (hc:PT X c tc) (ha:PSs X a t) (hb:PSs X b u):PS X (.If c a b pos) (zQ tc t u):=by
 intro pins s σ H D I h
 refine wpAny_If (thn (hc pins s σ H _ I h) λd s1 ⟨H1,I1,q1⟩=>?_)
 cases d with
 | true=>exact ha pins s1 σ H1 D I1 q1
 | false=>exact hb pins s1 σ H1 D I1 q1
noncomputable def zN:TS:=λ_ _ _=>False
theorem hE:PS X st zN:=λ_ _ _ _ _ _ h=>h.elim
end
noncomputable abbrev TG:=V->St->Hp->(St->Hp->Prop)->Prop
noncomputable abbrev TGs:=List V->St->Hp->(St->Hp->Prop)->Prop
def PG (X:Cx) (target:Expr) (t:TG):Prop:=
 ∀(pins:List (Addr × Obj)) (s:Shared) (σ:St) (H:Hp) (v:V) (u:Value) (Q:St->Hp->Prop),Inv X pins σ H s->b8 v u->t v σ H Q->
  wpAny (model X.prog X.w) X.A (assign target X.env u) (λ_ s'=>∃σ' H',Inv X pins σ' H' s'/\Q σ' H') X.xe s
def PGs (X:Cx) (ts:List Expr) (t:TGs):Prop:=
 ∀(pins:List (Addr × Obj)) (s:Shared) (σ:St) (H:Hp) (vs:List V) (us:List Value) (Q:St->Hp->Prop),Inv X pins σ H s->aW vs us->t vs σ H Q->
  wpAny (model X.prog X.w) X.A (assignInOrder ((assignEach ts X.env).map (·.2)) us) (λ_ s'=>∃σ' H',Inv X pins σ' H' s'/\Q σ' H') X.xe s
noncomputable abbrev Br:=V->V->V->Hp->(Hp->Prop)->Prop
def Cb (X:Cx) (t:Br):Prop:=
 ∀(pins:List (Addr × Obj)) (s:Shared) (σ:St) (H:Hp) (o i v:V) (ov iv u:Value) (Q:Hp->Prop),Inv X pins σ H s->b8 o ov->b8 i iv->b8 v u->t o i v H Q->
  wpAny (model X.prog X.w) X.A (setItem ov iv u) (λ_ s'=>∃H',Inv X pins σ H' s'/\Q H') X.xe s
noncomputable abbrev TIp:=V->V->Hp->VK->Prop
def PIp (X:Cx) (op:Operator) (t:TIp):Prop:=
 ∀(pins:List (Addr × Obj)) (s:Shared) (σ:St) (H:Hp) (x y:V) (v u:Value) (Q:VK),Inv X pins σ H s->b8 x v->b8 y u->t x y H Q->
  wpAny (model X.prog X.w) X.A (inplaceOp op v u) (EP X pins σ Q) X.xe s
section
variable {X:Cx}{pos:Pos}
noncomputable def az (i:Nat):TG:=λv σ H Q=>Q (σ.set i (some v)) H
theorem bi {i:Nat}{x:Str} (hN:X.N.Nodup) (hi:X.N[i]?=some x) (hx:Loc X.env.scope x) (hf:X.fn x=true\/X.env.scope.names.lookup x=some .local:=by first | exact .inl rfl | exact .inr rfl | assumption):PG X (.Name x pos) (az i):=by
 intro pins s σ H v u Q I r h
 exact wpAny_assign_Name (fM I hN hi hx r (λs' I'=>⟨_,H,I',h⟩) hf)
noncomputable def CY:TGs:=λvs σ H Q=>vs=[]/\Q σ H
inductive zE (t:TG) (u:TGs) (vs:List V) (σ:St) (H:Hp) (Q:St->Hp->Prop):Prop
 | mk (v r) (h1:vs=v::r) (h2:t v σ H λσ' H'=>u r σ' H' Q):zE t u vs σ H Q
theorem ms:PGs X [] CY:=by
 intro pins s σ H vs us Q I r h
 obtain⟨e,h⟩:=h
 subst e
 cases r
 exact assignInOrder_nil ⟨σ,H,I,h⟩
theorem cL {e:Expr}{es:List Expr}{t:TG}{u:TGs} (h1:PG X e t) (h2:PGs X es u)
  (hs:(assignEach (e::es) X.env).map (·.2)=assign e X.env::(assignEach es X.env).map (·.2):=by rfl):PGs X (e::es) (zE t u):=by
 intro pins s σ H vs us Q I r h
 obtain⟨v,vr,e1,h⟩:=h
 subst e1
 cases r with
 | cons r rr=>
  rw [hs]
  refine assignInOrder_cons (thn (h1 pins s σ H _ _ _ I r h) λ_ s1 ⟨σ1,H1,I1,q1⟩=>?_)
  exact h2 pins s1 σ1 H1 _ _ Q I1 rr q1
inductive BZ (K:PySem.W.Frag) (n:Nat) (t:TGs) (v:V) (σ:St) (H:Hp) (Q:St->Hp->Prop):Prop
 | mk (a xs) (h1:v=.ref a) (h2:SqT K H a xs) (h3:xs.length=n) (h4:t xs σ H Q):BZ K n t v σ H Q
theorem pU {es:List Expr}{k:Nat}{t:TGs}{n:Nat} (hc:X.calm=true) (h:PGs X es t)
  (hn:(assignEach es X.env).length=n:=by rfl) (hst:(assignEach es X.env).findIdx? (·.1)=none:=by rfl):PG X (.Tuple es k pos) (BZ X.K n t):=by
 intro pins s σ H v u Q I r hw
 obtain⟨a,xs,e1,hq,hl,hw⟩:=hw
 subst e1
 cases r
 obtain⟨its,rv,ht,hz⟩:=I.tuple hq
 refine assign_Tuple_tuple (I.ok.hd hc) ht (by simp [hn,<- hl,rv.length]) hst λh' hx=>?_
 have I1:Inv X pins σ H { s with heap:=h' }:=I.kept (t':=s.toks) λb o e=>hx b o (Nat.ne_of_lt (Heap.lt_size e)) e
 exact h pins _ σ H xs _ Q I1 (by simpa using rv) hw
noncomputable def CV (to ti:TE) (t:Br):TG:=λv σ H Q=>to σ H λo H1=>ti σ H1 λi H2=>t o i v H2 λH3=>Q σ H3
theorem ve {o i:Expr}{to ti:TE}{t:Br} (ho:PE X o to) (hi:PE X i ti) (hs:Cb X t)
  (ha:∀v,assign (.Subscript o i pos) X.env v=(do
   let ov <- holding [v] (eval o X.env)
   let iv <- holding [v,ov] (eval i X.env)
   standAt pos
   holding [v,ov,iv] (setItem ov iv v)
   release [v,ov,iv] []):=by intro _;rfl):PG X (.Subscript o i pos) (CV to ti t):=by
 intro pins s σ H v u Q I r h
 rw [ha]
 refine zB0 (wpAny_holding (thn (ho pins s σ H _ I h) λov s1 ⟨x,H1,I1,r1,q1⟩=>?_))
 refine zB0 (wpAny_holding (thn (hi pins s1 σ H1 _ I1 q1) λiv s2 ⟨y,H2,I2,r2,q2⟩=>?_))
 refine zB0 (wpAny_standAt (zB0 (wpAny_holding (thn (hs pins s2 σ H2 x y v ov iv u _ I2 r1 r2 r q2) λ_ s3 ⟨H3,I3,q3⟩=>?_))))
 exact wpAny_release ⟨σ,H3,I3,q3⟩
noncomputable def xm (te:TE) (g:TG):TS:=λD σ H=>te σ H λx H1=>g x σ H1 D.nx
theorem jz {tg e:Expr}{te:TE}{g:TG} (he:PE X e te) (hg:PG X tg g) (hs:swapsWithSole [tg] e pos.line X.env=pure false:=by rfl) (hw:swappedStores [tg] e X.env=pure none:=by rfl)
  (h1:(assignEach [tg] X.env).map (·.2)=[assign tg X.env]:=by rfl):PS X (.Assign [tg] e pos) (xm te g):=by
 intro pins s σ H D I h
 refine wpAny_Assign_stores (thn (he pins s σ H _ I h) λv s1 ⟨x,H1,I1,r1,q1⟩=>?_) hs hw
 rw [h1]
 exact thn (hg pins s1 σ H1 x v _ I1 r1 q1) λ_ s2 q=>q
theorem ay {i:Nat}{x:Str}{e:Expr}{te:TE}{pos':Pos} (hN:X.N.Nodup) (hi:X.N[i]?=some x) (hx:Loc X.env.scope x) (he:PE X e te) (hs:swapsWith e (some (.Name x pos')) pos.line X.env=pure false:=by rfl) (hf:X.fn x=true\/X.env.scope.names.lookup x=some .local:=by first | exact .inl rfl | exact .inr rfl | assumption) :
  PS X (.Assign [.Name x pos'] e pos) (xm te (az i)):=by
 intro pins s σ H D I h
 refine wpAny_Assign_Name (thn (he pins s σ H _ I h) λv s1 ⟨y,H1,I1,r1,q1⟩=>?_) hs
 exact fM I1 hN hi hx r1 (λs2 I2=>⟨_,H1,I2,q1⟩) hf
noncomputable def Co (i:Nat) (te:TE) (ti:TIp):TS:=λD σ H=>∃x,σ[i]?=some (some x)/\te σ H λy H1=>ti x y H1 λz H2=>D.nx (σ.set i (some z)) H2
theorem Az {i:Nat}{x:Str}{e:Expr}{te:TE}{op:Operator}{ti:TIp}{pos':Pos} (hN:X.N.Nodup) (hi:X.N[i]?=some x) (hx:Loc X.env.scope x) (he:PE X e te) (ho:PIp X op ti) (hf:X.fn x=true\/X.env.scope.names.lookup x=some .local:=by first | exact .inl rfl | exact .inr rfl | assumption) :
  PS X (.AugAssign (.Name x pos') op e pos) (Co i te ti):=by
 intro pins s σ H D I h
 obtain⟨v,e1,h⟩:=h
 obtain⟨m,hn,hl⟩:=I.loc
 have vis:Vis X.env.scope x:=by rcases hx with k | k;exact .inl k;exact .inr (.inl k)
 obtain⟨u,r,l⟩:=hl i x v hi e1 vis
 refine wpAny_AugAssign_Name ?_
 have go:wpAny (model X.prog X.w) X.A (eval e X.env) (λw s₂=>wpAny (model X.prog X.w) X.A (inplaceOp op u w) (λr s₃=>wpAny (model X.prog X.w) X.A (storeName X.env x r) (λ_=>SP X pins D .next) X.xe s₃) X.xe s₂) X.xe s:=by
  refine thn (he pins s σ H _ I h) λw s1 ⟨y,H1,I1,r1,q1⟩=>?_
  refine thn (ho pins s1 σ H1 v y u w _ I1 r r1 q1) λz s2 ⟨zv,H2,I2,r2,q2⟩=>?_
  exact fM I2 hN hi hx r2 (λs3 I3=>⟨_,H2,I3,q2⟩) hf
 rcases l with⟨hk,hm⟩ | ⟨hk,c,hc,hcell⟩
 ·exact wpAny_loadName_local I.ok.kind hk hn hm go
 ·rcases hk with hk | hk
  ·exact wpAny_loadName_cell I.ok.kind hk hc hcell go
  ·rcases hx with k | k
   ·have:X.env.scope.names.lookup x=some .free:=hk
    rw [k]at this;cases this
   ·have:X.env.scope.names.lookup x=some .free:=hk
    rw [k]at this;cases this
noncomputable def ipI (f:Int->Int->Int):TIp:=λx y H Q=>∃i j,x=.int i/\y=.int j/\Q (.int (f i j)) H
theorem B5:PIp X .Sub (ipI λi j=>i - j):=by
 intro pins s σ H x y v u Q I r1 r2 h
 obtain⟨i,j,e1,e2,q⟩:=h
 subst e1;subst e2
 obtain⟨t,rfl⟩:=r1
 obtain⟨t',rfl⟩:=r2
 exact isub_int ⟨.int _,H,I.tok _,⟨_,rfl⟩,q⟩
end
section
variable {X:Cx}{pos:Pos}
noncomputable def tS (c:TT) (tb:TS):TS:=λD σ H=>∃W:Nat->St->Hp->Prop,(∃m,W m σ H)/\∀m σ H,W m σ H->
 c σ H λb H1=>if b=true then ∃N:St->Hp->Prop,(∀σ' H',N σ' H'->∃m',m' < m/\W m' σ' H')/\tb { D with nx:=N,ct:=N,bk:=D.nx } σ H1 else D.nx σ H1
theorem nH {c:Expr}{body:List Stmt}{tc:TT}{tb:TS} (hp:PassesOwn (model X.prog X.w) X.A X.env X.xe) (hc:PT X c tc) (hb:PSs X body tb):PS X (.While c body [] pos) (tS tc tb):=by
 intro pins s σ H D I h
 obtain⟨W,⟨m0,w0⟩,turn⟩:=h
 refine wpAny_While (codeAny_whileLoop (λn s'=>∃σ' H',Inv X pins σ' H' s'/\W n σ' H') ?_ m0 ⟨σ,H,I,w0⟩)
 rintro n s1 ⟨σ1,H1,I1,w1⟩
 refine wpAny_passesOwn hp (thn (hc pins s1 σ1 H1 _ I1 (turn n σ1 H1 w1)) λb s2 ⟨H2,I2,q2⟩=>?_)
 cases b with
 | true=>
  obtain⟨N,hN,q2⟩:=q2
  rw [if_pos rfl]
  refine wpAny_passesOwn hp (thn (hb pins s2 σ1 H2 _ I2 q2) λf s3 q3=>?_)
  cases f with
  | next=>
   obtain⟨σ3,H3,I3,n3⟩:=q3
   obtain⟨m',hm,w3⟩:=hN σ3 H3 n3
   exact⟨m',hm,σ3,H3,I3,w3⟩
  | cont=>
   obtain⟨σ3,H3,I3,n3⟩:=q3
   obtain⟨m',hm,w3⟩:=hN σ3 H3 n3
   exact⟨m',hm,σ3,H3,I3,w3⟩
  | brk=>exact q3
  | ret v=>exact q3
 | false=>
  rw [if_neg Bool.false_ne_true]
  exact wpAny_execs_nil ⟨σ1,H2,I2,q2⟩
end
structure It where
 go:Nat->Hp->Prop
 yld:Nat->Hp->V->Hp->Prop
 stop:Nat->Hp->Prop
def iJ (X:Cx) (pins:List (Addr × Obj)) (H:Hp) (b:Addr):Prop:=
 H b=none/\b≠X.env.locals/\b∉X.fs/\(b∈X.ex\/X.s₀.heap.objs.size<=b)/\(∀x c,X.env.cells.lookup x=some c->c≠b)/\∀p∈X.pn++pins,p.1≠b
theorem Inv.fpOk {X:Cx}{pins:List (Addr × Obj)}{σ:St}{H H':Hp}{s:Shared}{b:Addr} (I:Inv X pins σ H s) (hb:s.heap.objs.size<=b) (hn:H' b=none):iJ X pins H' b:=by
 refine⟨hn,Nat.ne_of_gt (Nat.lt_of_lt_of_le I.lt hb),I.nofs hb,.inr (Nat.le_trans I.sz hb),λx c e z=>?_,λp hp z=>?_⟩
 ·obtain⟨v,q⟩:=I.cell x c e
  exact absurd (Nat.lt_of_lt_of_le q.lt (by rw [z];exact hb)) (Nat.lt_irrefl _)
 ·exact absurd (Nat.lt_of_lt_of_le (Heap.lt_size (I.pin p hp).1) (by rw [z];exact hb)) (Nat.lt_irrefl _)
structure Turn (P:Program) (w:World) (K:PySem.W.Frag) (tg:Expr) (J:It) (fp:List Addr) (it:Addr) (tn:Nat->Heap->Prop):Prop where
 mem:it∈fp
 obj:∀i h,tn i h->∀b∈fp,∃o,h.get? b=some o/\∀v,o.data≠.cell v
 keep:∀i h h',tn i h->(∀b∈fp,∀o,h.get? b=some o->h'.get? b=some o)->tn i h'
 item:∀(X:Cx),X.prog=P->X.w=w->X.K=K->X.calm=true->∀(i:Nat) (pins:List (Addr × Obj)) (s:Shared) (σ:St) (H:Hp) (E:Value->Shared->Prop),Inv X pins σ H s->(∀b∈fp,iJ X pins H b)->tn i s.heap->J.go i H->
  wpAny (model P w) X.A (pyNext (.ref it)) (λr s1=>∃u,r=some u/\
   wpAny (model P w) X.A (letOwnedTupleGo tg (.ref it) u) (λ_ s2=>∃x H',Inv X pins σ H' s2/\b8 x u/\J.yld i H x H'/\tn (i+1) s2.heap/\∀b∈fp,H' b=none) E s1) E s
 done:∀(X:Cx),X.prog=P->X.w=w->X.K=K->X.calm=true->∀(i:Nat) (pins:List (Addr × Obj)) (s:Shared) (σ:St) (H:Hp) (E:Value->Shared->Prop),Inv X pins σ H s->(∀b∈fp,iJ X pins H b)->tn i s.heap->J.stop i H->
  wpAny (model P w) X.A (pyNext (.ref it)) (λr s1=>r=none/\Inv X pins σ H s1) E s
 self:∀(A:Around) (i:Nat) (s:Shared) (Q:Value->Shared->Prop) (E:Value->Shared->Prop),tn i s.heap->Q (.ref it) s->wpAny (model P w) A (pyIter (.ref it)) Q E s
noncomputable abbrev TI:=St->Hp->(It->Hp->Prop)->Prop
def PIE (X:Cx) (pins:List (Addr × Obj)) (σ:St) (tg:Expr) (R:It->Hp->Prop) (itv:Value) (s2:Shared):Prop:=
 ∃(it:Addr) (fp:List Addr) (tn:Nat->Heap->Prop) (J:It) (H':Hp),itv=.ref it/\Inv X pins σ H' s2/\Turn X.prog X.w X.K tg J fp it tn/\tn 0 s2.heap/\(∀b∈fp,iJ X pins H' b)/\R J H'
def PI (X:Cx) (tg iter:Expr) (wi:TI):Prop:=
 ∀(pins:List (Addr × Obj)) (s:Shared) (σ:St) (H:Hp) (R:It->Hp->Prop),Inv X pins σ H s->wi σ H R->
  wpAny (model X.prog X.w) X.A (eval iter X.env) (λv s1=>wpAny (model X.prog X.w) X.A (pyIter v) (PIE X pins σ tg R) X.xe s1) X.xe s
theorem lc {M : Model} {A : Around} {E : Value → Shared → Prop} {s : Shared} {tg : Expr} {it : Addr} {u : Value} {o : Obj} {n : String} {vs : Array Value} {Q : Unit → Shared → Prop} (ho : s.heap.get? it = some o) (hc : o.cls = .type n) (hd : o.data = .fields vs)
    (hn : ["enumerate", "zip", "dict_itemiterator", "dict_reverseitemiterator", "odict_iterator", "itertools.zip_longest", "itertools.pairwise"].contains n = false) (hQ : Q () s) : wpAny M A (letOwnedTupleGo tg (.ref it) u) Q E s := by
  unfold letOwnedTupleGo
  cases tg <;> first
    | exact zP0 hQ
    | (cases u <;> first
        | exact zP0 hQ
        | (refine zB0 (wpAny_load ho ?_)
           rw [hc, hd]
           show wpAny M A (if (["enumerate", "zip", "dict_itemiterator", "dict_reverseitemiterator", "odict_iterator", "itertools.zip_longest", "itertools.pairwise"].contains n && vs[0]? == some (rawInt _)) = true then _ else _) Q E s
           rw [if_neg (by intro h; rw [hn, Bool.false_and] at h; cases h)]
           exact zP0 hQ))
noncomputable def Itl (K:PySem.W.Frag) (a:Addr):It:=
 ⟨λi H=>∃xs x,SqL K H a xs/\xs[i]?=some x,λi H x H'=>H'=H/\∀xs,SqL K H a xs->xs[i]?=some x,λi H=>∃xs,SqL K H a xs/\xs.length<=i⟩
noncomputable def Itt (K:PySem.W.Frag) (a:Addr):It:=
 ⟨λi H=>∃xs x,SqT K H a xs/\xs[i]?=some x,λi H x H'=>H'=H/\∀xs,SqT K H a xs->xs[i]?=some x,λi H=>∃xs,SqT K H a xs/\xs.length<=i⟩
noncomputable def Itr (lo:Int) (n:Nat):It:=⟨λi _=>i < n,λi H x H'=>H'=H/\x=.int (lo+i),λi _=>n<=i⟩
theorem rO {P:Program}{w:World}{K:W.Frag}{tg:Expr} (a it:Addr):Turn P w K tg (Itl K a) [it] it (λi h=>h.IsListIter it a i) where
 mem:=by simp
 obj:=λi h st b hb=>by
  have e:b=it:=by simpa using hb
  subst e
  obtain⟨o,e,c,d⟩:=st
  exact⟨o,e,λv z=>by rw [d]at z;cases z⟩
 keep:=λi h h' st k=>st.at λo e=>k it (by simp) o e
 item:=by
  intro X hP hw hK hc i pins s σ H E I hf st hg
  subst hP hw hK
  obtain⟨xs,x,hq,hx⟩:=hg
  obtain⟨its,rv,p,hz⟩:=I.list hq
  obtain⟨u,hu,ru⟩:=rv.get hx
  obtain⟨f0,f1,f2,f3,f4,f5⟩:=hf it (by simp)
  refine wpAny_pyNext_list_item st p.isList (x:=u) (by simpa using hu) λh' st' sb=>?_
  have I1:Inv X pins σ H { s with heap:=h' }:=I.turned (t':=s.toks) (λb o hb e=>(sb.2 b hb).trans e) f0 f1 f3 f4 f5
  obtain⟨o,e,c,d⟩:=id st'
  exact⟨u,rfl,lc (s:={ s with heap:=h' }) e c d (by decide) ⟨x,H,I1,ru,⟨rfl,λys hy=>by rw [I.list_inj hy hq];exact hx⟩,st',λb hb=>(hf b hb).1⟩⟩
 done:=by
  intro X hP hw hK hc i pins s σ H E I hf st hg
  subst hP hw hK
  obtain⟨xs,hq,hx⟩:=hg
  obtain⟨its,rv,p,hz⟩:=I.list hq
  obtain⟨f0,f1,f2,f3,f4,f5⟩:=hf it (by simp)
  have hl:=rv.length
  exact wpAny_pyNext_list_end (I.ok.hd hc) st p.isList (by simp;omega) λh' eb=>⟨rfl,I.turned (t':=s.toks) (λb o hb e=>eb b o hb e) f0 f1 f3 f4 f5⟩
 self:=λ_ _ _ _ _ st h=>wpAny_pyIter_listiter st h
theorem oO {P:Program}{w:World}{K:W.Frag}{tg:Expr} (a it:Addr):Turn P w K tg (Itt K a) [it] it (λi h=>h.IsTupleIter it a i) where
 mem:=by simp
 obj:=λi h st b hb=>by
  have e:b=it:=by simpa using hb
  subst e
  obtain⟨o,e,c,d⟩:=st
  exact⟨o,e,λv z=>by rw [d]at z;cases z⟩
 keep:=λi h h' st k=>st.at λo e=>k it (by simp) o e
 item:=by
  intro X hP hw hK hc i pins s σ H E I hf st hg
  subst hP hw hK
  obtain⟨xs,x,hq,hx⟩:=hg
  obtain⟨its,rv,p,hz⟩:=I.tuple hq
  obtain⟨u,hu,ru⟩:=rv.get hx
  obtain⟨f0,f1,f2,f3,f4,f5⟩:=hf it (by simp)
  refine wpAny_pyNext_tuple_item st (show s.heap.IsTuple a its.toArray from p) (x:=u) (by simpa using hu) λh' st' sb=>?_
  have I1:Inv X pins σ H { s with heap:=h' }:=I.turned (t':=s.toks) (λb o hb e=>(sb.2 b hb).trans e) f0 f1 f3 f4 f5
  obtain⟨o,e,c,d⟩:=id st'
  exact⟨u,rfl,lc (s:={ s with heap:=h' }) e c d (by decide) ⟨x,H,I1,ru,⟨rfl,λys hy=>by rw [I.tuple_inj hy hq];exact hx⟩,st',λb hb=>(hf b hb).1⟩⟩
 done:=by
  intro X hP hw hK hc i pins s σ H E I hf st hg
  subst hP hw hK
  obtain⟨xs,hq,hx⟩:=hg
  obtain⟨its,rv,p,hz⟩:=I.tuple hq
  obtain⟨f0,f1,f2,f3,f4,f5⟩:=hf it (by simp)
  have hl:=rv.length
  exact wpAny_pyNext_tuple_end (I.ok.hd hc) st (show s.heap.IsTuple a its.toArray from p) (by simp;omega) λh' eb=>⟨rfl,I.turned (t':=s.toks) (λb o hb e=>eb b o hb e) f0 f1 f3 f4 f5⟩
 self:=λ_ _ _ _ _ st h=>wpAny_pyIter_tupleiter st h
theorem oP {P:Program}{w:World}{K:W.Frag}{tg:Expr} (it:Addr) (lo:Int) (n:Nat):Turn P w K tg (Itr lo n) [it] it (λi h=>IsRangeIter h it (lo+(i:Nat) * 1) ((n:Int) - (i:Nat)) 1) where
 mem:=by simp
 obj:=λi h st b hb=>by
  have e:b=it:=by simpa using hb
  subst e
  exact⟨_,st,λv z=>by
   have z':Data.fields _=Data.cell v:=z
   cases z'⟩
 keep:=λi h h' st k=>k it (by simp) _ st
 item:=by
  intro X hP hw hK hc i pins s σ H E I hf st hg
  subst hP hw hK
  obtain⟨f0,f1,f2,f3,f4,f5⟩:=hf it (by simp)
  have W:=Walks.range (prog:=X.prog) (w:=X.w) (I.ok.hd hc) it lo 1 n
  refine W.item i s _ _ hg st λv h' tk hv st' kk=>?_
  obtain⟨t,rfl⟩:=hv
  have I1:Inv X pins σ H { s with heap:=h',toks:=tk }:=I.turned (λb o hb e=>kk b o (by simpa using hb) e) f0 f1 f3 f4 f5
  refine⟨_,rfl,lc (s:={ s with heap:=h',toks:=tk }) (n:="range_iterator") st' rfl rfl (by decide) ⟨.int (lo+i),H,I1,⟨t,?_⟩,⟨rfl,rfl⟩,st',λb hb=>(hf b hb).1⟩⟩
  rw [Int.mul_one]
 done:=by
  intro X hP hw hK hc i pins s σ H E I hf st hg
  subst hP hw hK
  obtain⟨f0,f1,f2,f3,f4,f5⟩:=hf it (by simp)
  exact wpAny_pyNext_range_end (I.ok.hd hc) st (by have:n<=i:=hg;omega) λh' eb=>⟨rfl,I.turned (t':=s.toks) (λb o hb e=>eb b o hb e) f0 f1 f3 f4 f5⟩
 self:=λ_ _ _ _ _ st h=>wpAny_pyIter_rangeiter st h
section
variable {X:Cx}{tg:Expr}
noncomputable def zD (K:PySem.W.Frag) (tl:TE):TI:=λσ H R=>tl σ H λx H1=>∃a,x=.ref a/\(∃xs,SqL K H1 a xs)/\R (Itl K a) H1
noncomputable def CU (K:PySem.W.Frag) (tl:TE):TI:=λσ H R=>tl σ H λx H1=>∃a,x=.ref a/\(∃xs,SqT K H1 a xs)/\R (Itt K a) H1
theorem cg {l:Expr}{tl:TE} (hl:PE X l tl):PI X tg l (zD X.K tl):=by
 intro pins s σ H R I h
 refine thn (hl pins s σ H _ I h) λv s1 ⟨x,H1,I1,r1,q1⟩=>?_
 obtain⟨a,e,⟨xs,hq⟩,q⟩:=q1
 subst e
 cases r1
 obtain⟨its,rv,p,hz⟩:=I1.list hq
 refine wpAny_pyIter_list p.isList ?_
 refine⟨s1.heap.objs.size,[s1.heap.objs.size],_,_,H1,rfl,I1.kept (t':=s1.toks) λb o e=>zH0 _ e,rO a _,⟨_,Heap.get?_push_size _ rfl,rfl,rfl⟩,λb hb=>?_,q⟩
 have e:b=s1.heap.objs.size:=by simpa using hb
 subst e
 exact I1.fpOk (Nat.le_refl _) (I1.hok.fresh (Nat.le_refl _))
theorem AA {l:Expr}{tl:TE} (hl:PE X l tl):PI X tg l (CU X.K tl):=by
 intro pins s σ H R I h
 refine thn (hl pins s σ H _ I h) λv s1 ⟨x,H1,I1,r1,q1⟩=>?_
 obtain⟨a,e,⟨xs,hq⟩,q⟩:=q1
 subst e
 cases r1
 obtain⟨its,rv,p,hz⟩:=I1.tuple hq
 refine wpAny_pyIter_tuple (show s1.heap.IsTuple a its.toArray from p) ?_
 refine⟨s1.heap.objs.size,[s1.heap.objs.size],_,_,H1,rfl,I1.kept (t':=s1.toks) λb o e=>zH0 _ e,oO a _,⟨_,Heap.get?_push_size _ rfl,rfl,rfl⟩,λb hb=>?_,q⟩
 have e:b=s1.heap.objs.size:=by simpa using hb
 subst e
 exact I1.fpOk (Nat.le_refl _) (I1.hok.fresh (Nat.le_refl _))
theorem nE {pins:List (Addr × Obj)}{σ:St}{H:Hp}{s:Shared}{R:It->Hp->Prop}{E:Value->Shared->Prop}{lo hi:Int}{t u v:Tok}{tk:Nat} (I:Inv X pins σ H s) (h1 : -(2 ^ 62)<=lo) (h2:lo < 2 ^ 62) (h3 : -(2 ^ 62)<=hi) (h4:hi < 2 ^ 62)
  (q:R (Itr lo (hi - lo).toNat) H):wpAny (model X.prog X.w) X.A (pyIter (.ref s.heap.objs.size)) (PIE X pins σ tg R) E { s with heap:=s.heap.push { cls:=.type "range", data:=.fields #[.int lo t,.int hi u,.int 1 v] },toks:=tk }:=by
 refine wpAny_pyIter_range (IsRange.new ..) (small_one h1 h2 h3 h4) ?_
 have I1:Inv X pins σ H { s with heap:=s.heap.push { cls:=.type "range", data:=.fields #[.int lo t,.int hi u,.int 1 v] },toks:=tk }:=I.kept λb o e=>zH0 _ e
 refine⟨(s.heap.push { cls:=.type "range", data:=.fields #[.int lo t,.int hi u,.int 1 v] }).objs.size,[(s.heap.push { cls:=.type "range", data:=.fields #[.int lo t,.int hi u,.int 1 v] }).objs.size],_,_,H,rfl,
  I1.kept (t':=tk) λb o e=>zH0 _ e,oP _ lo (hi - lo).toNat,?_,λb hb=>?_,q⟩
 ·have e1:lo+((0:Nat):Int) * 1=lo:=by simp
  have e2:(((hi - lo).toNat:Nat):Int) - ((0:Nat):Int)=Builtin.Range.rangeSize lo hi 1:=by rw [rangeSize_one];split <;> omega
  show IsRangeIter _ _ (lo+((0:Nat):Int) * 1) ((((hi - lo).toNat:Nat):Int) - ((0:Nat):Int)) 1
  rw [e1,e2]
  exact Heap.get?_push_size _ rfl
 ·have e:b=(s.heap.push { cls:=.type "range", data:=.fields #[.int lo t,.int hi u,.int 1 v] }).objs.size:=by simpa using hb
  subst e
  exact I1.fpOk (Nat.le_refl _) (I1.hok.fresh (Nat.le_refl _))
noncomputable def BY (ta:TA):TI:=λσ H R=>ta σ H λvs H1=>∃j:Int,vs=[.int j]/\-(2 ^ 62)<=j/\j < 2 ^ 62/\R (Itr 0 j.toNat) H1
noncomputable def BX (ta:TA):TI:=λσ H R=>ta σ H λvs H1=>∃i j:Int,vs=[.int i,.int j]/\(-(2 ^ 62)<=i/\i < 2 ^ 62/\-(2 ^ 62)<=j/\j < 2 ^ 62)/\R (Itr i (j - i).toNat) H1
theorem cC {a:Expr}{ta:TA}{p pos:Pos} (hg:Gl X "range") (hm:X.mg "range" = none) (ha:PA X [a] ta) (hs:starEach [a] X.env=[(false,eval a X.env)]:=by rfl):PI X tg (.Call (.Name "range" p) [a] [] pos) (BY ta):=by
 intro pins s σ H R I h
 refine Call_ (fW I hg hm boot_range (PyProof.Rows.callWith_type1 (thn (ha pos pins s σ H _ I h) λus s1 ⟨vs,H1,I1,r1,q1⟩=>?_) hs rfl))
 obtain⟨j,e,q1,q2,q⟩:=q1
 subst e
 cases r1 with
 | cons r rr=>
  cases rr
  obtain⟨t,rfl⟩:=r
  exact call_range_1 (nE I1 ‹1› ‹1› q1 q2 (by simpa using q))
theorem dL {a b:Expr}{ta:TA}{p pos:Pos} (hg:Gl X "range") (hm:X.mg "range" = none) (ha:PA X [a,b] ta) (hs:starEach [a,b] X.env=[(false,eval a X.env),(false,eval b X.env)]:=by rfl) (hs2:starEach [b] X.env=[(false,eval b X.env)]:=by rfl) :
  PI X tg (.Call (.Name "range" p) [a,b] [] pos) (BX ta):=by
 intro pins s σ H R I h
 refine Call_ (fW I hg hm boot_range (PyProof.Rows.callWith_type1 (thn (ha pos pins s σ H _ I h) λus s1 ⟨vs,H1,I1,r1,q1⟩=>?_) (by rw [hs,hs2]) (by rw [hs2];rfl)))
 obtain⟨i,j,e,⟨q1,q2,q3,q4⟩,q⟩:=q1
 subst e
 cases r1 with
 | cons r rr=>
  cases rr with
  | cons r' rr=>
   cases rr
   obtain⟨t,rfl⟩:=r
   obtain⟨t',rfl⟩:=r'
   exact call_range_2 (nE I1 q1 q2 q3 q4 q)
noncomputable def Cl (wi:TI) (g:TG) (tb:TS):TS:=λD σ H=>wi σ H λJ H1=>∃W:Nat->Nat->St->Hp->Prop,(∃m,W 0 m σ H1)/\∀i m σ H,W i m σ H->
 (J.stop i H/\D.nx σ H)\/(J.go i H/\∃N:St->Hp->Prop,(∀σ' H',N σ' H'->∃m',m' < m/\W (i+1) m' σ' H')/\∀x H',J.yld i H x H'->g x σ H' λσ2 H2=>tb { D with nx:=N,ct:=N,bk:=D.nx } σ2 H2)
noncomputable def jA (fp:List Addr) (h:Heap):List (Addr × Obj):=fp.filterMap λb=>(h.get? b).map λo=>(b,o)
theorem fo {fp:List Addr}{h:Heap}{b:Addr}{o:Obj} (hb:b∈fp) (e:h.get? b=some o):(b,o)∈jA fp h:=List.mem_filterMap.mpr ⟨b,hb,by rw [e];rfl⟩
theorem sI {fp:List Addr}{h:Heap}{p:Addr × Obj} (hp:p∈jA fp h):p.1∈fp/\h.get? p.1=some p.2:=by
 obtain⟨b,hb,e⟩:=List.mem_filterMap.mp hp
 cases q:h.get? b with
 | none=>rw [q]at e;cases e
 | some o=>
  rw [q]at e
  have e':(b,o)=p:=Option.some.inj e
  subst e'
  exact⟨hb,q⟩
theorem Inv.pinned {pins:List (Addr × Obj)}{σ:St}{H:Hp}{s:Shared}{fp:List Addr} (I:Inv X pins σ H s) (hf:∀b∈fp,iJ X pins H b) (ho:∀b∈fp,∃o,s.heap.get? b=some o/\∀v,o.data≠.cell v):Inv X (pins++jA fp s.heap) σ H s:=
 I.pins_of λp hp=>(List.mem_append.mp hp).elim (λz=>I.pin p (List.mem_append_right _ z)) λz=>by
  obtain⟨hb,e⟩:=sI z
  obtain⟨f0,f1,f2,_⟩:=hf p.1 hb
  obtain⟨o,e',d⟩:=ho p.1 hb
  rw [e]at e';cases e'
  exact⟨e,f0,f1,f2,d⟩
theorem Inv.unpinned {pins pl:List (Addr × Obj)}{σ:St}{H:Hp}{s:Shared} (I:Inv X (pins++pl) σ H s):Inv X pins σ H s:=I.pins_of λp hp=>I.pin p (List.mem_append_right _ (List.mem_append_left _ hp))
theorem cA {iter:Expr}{body:List Stmt}{wi:TI}{g:TG}{tb:TS}{pos:Pos} (hp:PassesOwn (model X.prog X.w) X.A X.env X.xe) (hc:X.calm=true) (hi:PI X tg iter wi) (hg:PG X tg g) (hb:PSs X body tb)
  (hs:∀x,foldedSetIterable iter X.env x=pure x:=by intro _;rfl):PS X (.For tg iter body [] pos) (Cl wi g tb):=by
 intro pins s σ H D I h
 refine wpAny_For (thn (hi pins s σ H _ I h) λv s1 h1=>thn h1 λitv s2 h2=>?_) hs
 obtain⟨it,fp,tn,J,H2,e,I2,T,st2,f2,W,⟨m0,w0⟩,turn⟩:=h2
 subst e
 have stat:∀{H':Hp},(∀b∈fp,H' b=none)->∀b∈fp,iJ X pins H' b:=λhn b hb=>⟨hn b hb,(f2 b hb).2⟩
 refine codeAny_forLoop_any (λn s'=>∃i σ' H',Inv X pins σ' H' s'/\tn i s'.heap/\(∀b∈fp,H' b=none)/\W i n σ' H') ?_ m0 ⟨0,σ,H2,I2,st2,λb hb=>(f2 b hb).1,w0⟩
 rintro n s3 ⟨i,σ3,H3,I3,st3,fr3,w3⟩
 rcases turn i n σ3 H3 w3 with⟨stop,qn⟩ | ⟨go,N,hN,step⟩
 ·refine wpAny_passesOwn hp (thn (T.done X rfl rfl rfl hc i pins s3 σ3 H3 X.xe I3 (stat fr3) st3 stop) λr s4 ⟨hr,I4⟩=>?_)
  subst hr
  exact wpAny_execs_nil ⟨σ3,H3,I4,qn⟩
 ·refine wpAny_passesOwn hp (thn (T.item X rfl rfl rfl hc i pins s3 σ3 H3 X.xe I3 (stat fr3) st3 go) λr s4 ⟨u,hr,h4⟩=>?_)
  subst hr
  refine wpAny_passesOwn hp (thn h4 λ_ s5 ⟨x,H5,I5,r5,y5,st5,fr5⟩=>?_)
  have I5':=I5.pinned (stat fr5) (T.obj _ _ st5)
  refine wpAny_passesOwn hp (thn (hg _ s5 σ3 H5 x u _ I5' r5 (step x H5 y5)) λ_ s6 ⟨σ6,H6,I6,q6⟩=>?_)
  refine wpAny_passesOwn hp (thn (hb _ s6 σ6 H6 _ I6 q6) λf s7 q7=>?_)
  have again:∀{σ7:St}{H7:Hp},Inv X (pins++jA fp s5.heap) σ7 H7 s7->N σ7 H7->∃m,m < n/\∃i σ' H',Inv X pins σ' H' s7/\tn i s7.heap/\(∀b∈fp,H' b=none)/\W i m σ' H':=λ{σ7 H7} I7 n7=>by
   obtain⟨m',hm,w7⟩:=hN σ7 H7 n7
   refine⟨m',hm,i+1,σ7,H7,I7.unpinned,T.keep _ _ _ st5 λb hb o e=>(I7.pin (b,o) (List.mem_append_right _ (List.mem_append_right _ (fo hb e)))).1,λb hb=>?_,w7⟩
   obtain⟨o,e,d⟩:=T.obj _ _ st5 b hb
   exact(I7.pin (b,o) (List.mem_append_right _ (List.mem_append_right _ (fo hb e)))).2.1
  cases f with
  | next=>obtain⟨σ7,H7,I7,n7⟩:=q7;exact again I7 n7
  | cont=>obtain⟨σ7,H7,I7,n7⟩:=q7;exact again I7 n7
  | brk=>obtain⟨σ7,H7,I7,q7⟩:=q7;exact⟨σ7,H7,I7.unpinned,q7⟩
  | ret v=>obtain⟨x7,σ7,H7,I7,r7,q7⟩:=q7;exact⟨x7,σ7,H7,I7.unpinned,r7,q7⟩
end
theorem fb {K:W.Frag}{a:Addr}{xs:List V}{g:TG}{tb:TS}{D:Ends}{σ:St}{H:Hp} (Pv:Nat->St->Hp->Prop) (h0:Pv 0 σ H) (hl:∀i σ H,i<=xs.length->Pv i σ H->SqL K H a xs)
  (hs:∀i x σ H,xs[i]?=some x->Pv i σ H->g x σ H λσ2 H2=>tb { D with nx:=Pv (i+1),ct:=Pv (i+1),bk:=D.nx } σ2 H2) (hd:∀σ H,Pv xs.length σ H->D.nx σ H) :
  ∃W:Nat->Nat->St->Hp->Prop,(∃m,W 0 m σ H)/\∀i m σ H,W i m σ H->
   ((Itl K a).stop i H/\D.nx σ H)\/((Itl K a).go i H/\∃N:St->Hp->Prop,(∀σ' H',N σ' H'->∃m',m' < m/\W (i+1) m' σ' H')/\∀x H',(Itl K a).yld i H x H'->g x σ H' λσ2 H2=>tb { D with nx:=N,ct:=N,bk:=D.nx } σ2 H2):=by
 refine⟨λi m σ H=>m=xs.length - i/\i<=xs.length/\Pv i σ H,⟨xs.length,by simp,Nat.zero_le _,h0⟩,?_⟩
 rintro i m σ H ⟨rfl,hi,p⟩
 have q:=hl i σ H hi p
 by_cases hlt:i < xs.length
 ·refine .inr ⟨⟨xs,xs[i],q,by simp [hlt]⟩,Pv (i+1),λσ' H' p'=>⟨xs.length - (i+1),by omega,rfl,hlt,p'⟩,λx H' y=>?_⟩
  obtain⟨e,y⟩:=y
  subst e
  exact hs i x σ _ (y xs q) p
 ·have e:i=xs.length:=by omega
  subst e
  exact .inl ⟨⟨xs,q,Nat.le_refl _⟩,hd σ H p⟩
theorem cE {lo:Int}{n:Nat}{g:TG}{tb:TS}{D:Ends}{σ:St}{H:Hp} (Pv:Nat->St->Hp->Prop) (h0:Pv 0 σ H)
  (hs:∀i σ H,i < n->Pv i σ H->g (.int (lo+i)) σ H λσ2 H2=>tb { D with nx:=Pv (i+1),ct:=Pv (i+1),bk:=D.nx } σ2 H2) (hd:∀σ H,Pv n σ H->D.nx σ H) :
  ∃W:Nat->Nat->St->Hp->Prop,(∃m,W 0 m σ H)/\∀i m σ H,W i m σ H->
   ((Itr lo n).stop i H/\D.nx σ H)\/((Itr lo n).go i H/\∃N:St->Hp->Prop,(∀σ' H',N σ' H'->∃m',m' < m/\W (i+1) m' σ' H')/\∀x H',(Itr lo n).yld i H x H'->g x σ H' λσ2 H2=>tb { D with nx:=N,ct:=N,bk:=D.nx } σ2 H2):=by
 refine⟨λi m σ H=>m=n - i/\i<=n/\Pv i σ H,⟨n,by simp,Nat.zero_le _,h0⟩,?_⟩
 rintro i m σ H ⟨rfl,hi,p⟩
 by_cases hlt:i < n
 ·refine .inr ⟨hlt,Pv (i+1),λσ' H' p'=>⟨n - (i+1),by omega,rfl,hlt,p'⟩,λx H' y=>?_⟩
  obtain⟨e,y⟩:=y
  subst e y
  exact hs i σ _ hlt p
 ·have e:i=n:=by omega
  subst e
  exact .inl ⟨Nat.le_refl _,hd σ H p⟩
noncomputable abbrev R2:=V->V->Hp->VK->Prop
def OpR (X:Cx) (f:Value->Value->Sem Value) (r:R2):Prop:=
 ∀(pins:List (Addr × Obj)) (s:Shared) (σ:St) (H:Hp) (x y:V) (v u:Value) (Q:VK),Inv X pins σ H s->b8 x v->b8 y u->r x y H Q->
  wpAny (model X.prog X.w) X.A (f v u) (EP X pins σ Q) X.xe s
def UnR (X:Cx) (f:Value->Sem Value) (r:V->Hp->VK->Prop):Prop:=
 ∀(pins:List (Addr × Obj)) (s:Shared) (σ:St) (H:Hp) (x:V) (v:Value) (Q:VK),Inv X pins σ H s->b8 x v->r x H Q->
  wpAny (model X.prog X.w) X.A (f v) (EP X pins σ Q) X.xe s
def cW (X:Cx) (f:Value) (r:List V->Hp->VK->Prop):Prop:=
 ∀(pins:List (Addr × Obj)) (s:Shared) (σ:St) (H:Hp) (xs:List V) (us:List Value) (Q:VK),Inv X pins σ H s->aW xs us->r xs H Q->
  wpAny (model X.prog X.w) X.A (call f us) (EP X pins σ Q) X.xe s
noncomputable def tOp (r:R2) (ta tb:TE):TE:=λσ H Q=>ta σ H λx H1=>tb σ H1 λy H2=>r x y H2 Q
noncomputable def tUn (r:V->Hp->VK->Prop) (ta:TE):TE:=λσ H Q=>ta σ H λx H1=>r x H1 Q
inductive rI (C:Int->Int->Prop) (g:Int->Int->V) (x:V) (y:V) (H:Hp) (Q:VK):Prop
 | mk (i j) (h1:x=.int i) (h2:y=.int j) (h3:C i j) (h4:Q (g i j) H):rI C g x y H Q
inductive rI0 (g:Int->Int->V) (x:V) (y:V) (H:Hp) (Q:VK):Prop
 | mk (i j) (h1:x=.int i) (h2:y=.int j) (h3:Q (g i j) H):rI0 g x y H Q
noncomputable def rU (g:Int->V):V->Hp->VK->Prop:=λx H Q=>∃i,x=.int i/\Q (g i) H
section
variable {X:Cx}{a b c:Expr}{ta tb tc:TE}{pos:Pos}
theorem Bq (ha:PE X a ta) (hb:PE X b tb){pins:List (Addr × Obj)}{s:Shared}{σ:St}{H:Hp}{R:V->V->Hp->Prop} (I:Inv X pins σ H s)
  (h:ta σ H λx H1=>tb σ H1 λy H2=>R x y H2){Q:Value->Shared->Prop}{f:Value->Value->Sem Value}
  (hf:∀v u s2 x y H2,Inv X pins σ H2 s2->b8 x v->b8 y u->R x y H2->wpAny (model X.prog X.w) X.A (f v u) Q X.xe s2) :
  wpAny (model X.prog X.w) X.A (eval a X.env) (λv s₁=>wpAny (model X.prog X.w) X.A (eval b X.env) (λu s₂=>wpAny (model X.prog X.w) X.A (f v u) Q X.xe s₂) X.xe s₁) X.xe s:=by
 refine thn (ha pins s σ H _ I h) λv s1 ⟨x,H1,I1,r1,q1⟩=>?_
 refine thn (hb pins s1 σ H1 _ I1 q1) λu s2 ⟨y,H2,I2,r2,q2⟩=>?_
 exact hf v u s2 x y H2 I2 r1 r2 q2
theorem aL {op:Operator}{r:R2} (ho:OpR X (binaryOp op) r) (ha:PE X a ta) (hb:PE X b tb):PE X (.BinOp a op b pos) (tOp r ta tb):=by
 intro pins s σ H Q I h
 exact wpAny_BinOp (Bq ha hb I h λv u s2 x y H2 I2 rx ry q=>ho pins s2 σ H2 x y v u Q I2 rx ry q)
theorem zo {op:UnaryOp}{r:V->Hp->VK->Prop} (ho:UnR X (unaryOp op) r) (ha:PE X a ta):PE X (.UnaryOp op a pos) (tUn r ta):=by
 intro pins s σ H Q I h
 exact UnaryOp_ (thn (ha pins s σ H _ I h) λv s1 ⟨x,H1,I1,r1,q1⟩=>ho pins s1 σ H1 x v Q I1 r1 q1)
theorem opI {f:Value->Value->Sem Value}{C:Int->Int->Prop}{g:Int->Int->Int}
  (rule:∀(i j:Int) (t u:Tok) (s:Shared) (Q:Value->Shared->Prop) (E:Value->Shared->Prop),C i j->Q (.int (g i j) s.toks) { s with toks:=s.toks+1 }->wpAny (model X.prog X.w) X.A (f (.int i t) (.int j u)) Q E s) :
  OpR X f (rI C λi j=>.int (g i j)):=by
 intro pins s σ H x y v u Q I rx ry h
 obtain⟨i,j,rfl,rfl,hc,q⟩:=h
 obtain⟨t,rfl⟩:=rx
 obtain⟨t',rfl⟩:=ry
 exact rule i j t t' s _ _ hc ⟨.int (g i j),H,I.tok _,⟨_,rfl⟩,q⟩
theorem BP {f:Value->Value->Sem Value}{g:Int->Int->Int}
  (rule:∀(i j:Int) (t u:Tok) (s:Shared) (Q:Value->Shared->Prop) (E:Value->Shared->Prop),Q (.int (g i j) s.toks) { s with toks:=s.toks+1 }->wpAny (model X.prog X.w) X.A (f (.int i t) (.int j u)) Q E s) :
  OpR X f (rI0 λi j=>.int (g i j)):=by
 intro pins s σ H x y v u Q I rx ry h
 obtain⟨i,j,rfl,rfl,q⟩:=h
 obtain⟨t,rfl⟩:=rx
 obtain⟨t',rfl⟩:=ry
 exact rule i j t t' s _ _ ⟨.int (g i j),H,I.tok _,⟨_,rfl⟩,q⟩
theorem xU {f:Value->Value->Sem Value}{g:Int->Int->Bool}
  (rule:∀(i j:Int) (t u:Tok) (s:Shared) (Q:Value->Shared->Prop) (E:Value->Shared->Prop),Q (.bool (g i j)) s->wpAny (model X.prog X.w) X.A (f (.int i t) (.int j u)) Q E s) :
  OpR X f (rI0 λi j=>.bl (g i j)):=by
 intro pins s σ H x y v u Q I rx ry h
 obtain⟨i,j,rfl,rfl,q⟩:=h
 obtain⟨t,rfl⟩:=rx
 obtain⟨t',rfl⟩:=ry
 exact rule i j t t' s _ _ ⟨.bl (g i j),H,I,rfl,q⟩
def D7 (i j:Int):Prop:=0<=j/\j<=1000000/\i.natAbs < 2 ^ 64
def Bu (i j:Int):Prop:=(-(2 ^ 64) < i/\i < 2 ^ 64)\/(-(2 ^ 64) < j/\j < 2 ^ 64)
theorem Bu.ok {i j:Int} (h:Bu i j):IntMulOk i j:=by
 rcases h with⟨h1,h2⟩ | ⟨h1,h2⟩
 ·exact .of_left (intBits_le_64 h1 h2)
 ·exact .of_right (intBits_le_64 h1 h2)
theorem bx:OpR X (binaryOp .Add) (rI0 λi j=>.int (i+j)):=BP λ_ _ _ _ _ _ _ q=>add_int q
theorem dn:OpR X (binaryOp .Sub) (rI0 λi j=>.int (i - j)):=BP λ_ _ _ _ _ _ _ q=>sub_int q
theorem eS:OpR X (binaryOp .Mult) (rI Bu λi j=>.int (i * j)):=opI λ_ _ _ _ _ _ _ hc q=>mul_int q hc.ok
theorem fm:OpR X (binaryOp .Mod) (rI (λ_ j=>0 < j) λi j=>.int (i % j)):=opI λi j _ _ _ _ _ hc q=>by
 have h1:(0:Int) < j:=hc
 exact mod_int' ‹1› (by rw [Int.fmod_eq_emod_of_nonneg i ‹1›];exact q)
theorem pV:OpR X (binaryOp .Pow) (rI D7 λi j=>.int (i ^ j.toNat)):=opI λ_ _ _ _ _ _ _ hc q=>pow_int_small hc.1 hc.2.1 hc.2.2 q
theorem unI {f:Value->Sem Value}{g:Int->Int}
  (rule:∀(i:Int) (t:Tok) (s:Shared) (Q:Value->Shared->Prop) (E:Value->Shared->Prop),Q (.int (g i) s.toks) { s with toks:=s.toks+1 }->wpAny (model X.prog X.w) X.A (f (.int i t)) Q E s) :
  UnR X f (rU λi=>.int (g i)):=by
 intro pins s σ H x v Q I rx h
 obtain⟨i,rfl,q⟩:=h
 obtain⟨t,rfl⟩:=rx
 exact rule i t s _ _ ⟨.int (g i),H,I.tok _,⟨_,rfl⟩,q⟩
theorem tI:UnR X (unaryOp .USub) (rU λi=>.int (-i)):=unI λ_ _ _ _ _ q=>neg_int q
end
noncomputable def zZ:V->V->Bool
 | .non,.non=>true | .non,.int _=>true | .int _,.non=>true | .non,.bl _=>true | .bl _,.non=>true | .non,.str _=>true | .str _,.non=>true
 | .int _,.int _=>true | .bl _,.bl _=>true | .str _,.str _=>true | .byt _,.byt _=>true
 | .int _,.str _=>true | .str _,.int _=>true | .bl _,.str _=>true | .str _,.bl _=>true
 | _,_=>false
noncomputable def rEq:R2:=λx y H Q=>zZ x y=true/\Q (.bl (decide (x=y))) H
noncomputable def rNe:R2:=λx y H Q=>zZ x y=true/\Q (.bl (!decide (x=y))) H
theorem rq {i j:Int}:decide (V.int i=V.int j)=(i == j):=by
 rw [Bool.eq_iff_iff]
 simp
theorem wI {i j:Bool}:decide (V.bl i=V.bl j)=(i == j):=by
 rw [Bool.eq_iff_iff]
 simp
theorem rp {i j:Str}:decide (V.str i=V.str j)=(i == j):=by
 rw [Bool.eq_iff_iff]
 simp
theorem rA {i j:Array UInt8}:decide (V.byt i=V.byt j)=(i.toList == j.toList):=by
 rw [Bool.eq_iff_iff]
 cases i
 cases j
 simp
section
variable {X:Cx}{a b c:Expr}{ta tb tc:TE}{pos:Pos}
theorem bn {pins:List (Addr × Obj)}{σ:St}{H:Hp}{s:Shared}{Q:VK}{k k':Bool} (I:Inv X pins σ H s) (q:Q (.bl k) H) (e:k=k'):EP X pins σ Q (.bool k') s:=by
 subst e
 exact⟨.bl k,H,I,rfl,q⟩
theorem bM:OpR X (compareOp .Eq) rEq:=by
 intro pins s σ H x y v u Q I rx ry h
 obtain⟨hs,q⟩:=h
 cases x with
 | non=>
  cases rx
  cases y with
  | non=>cases ry;exact PySem.EqNone.eq_none_none (bn I q (by simp))
  | bl j=>cases ry;exact PySem.EqNone.eq_none_bool (bn I q (by simp))
  | int j=>obtain⟨t',rfl⟩:=ry;exact PySem.EqNone.eq_none_int (bn I q (by simp))
  | str j=>obtain⟨t',rfl⟩:=ry;exact PySem.EqNone.eq_none_str (bn I q (by simp))
  | _=>exact absurd (show false=true from hs) Bool.false_ne_true
 | bl i=>
  cases rx
  cases y with
  | non=>cases ry;exact PySem.EqNone.eq_bool_none (bn I q (by simp))
  | bl j=>cases ry;exact eq_bool (bn I q wI)
  | str j=>obtain⟨t',rfl⟩:=ry;exact PySem.EqMixed.eq_bool_str (bn I q (by simp))
  | _=>exact absurd (show false=true from hs) Bool.false_ne_true
 | int i=>
  obtain⟨t,rfl⟩:=rx
  cases y with
  | non=>cases ry;exact PySem.EqNone.eq_int_none (bn I q (by simp))
  | int j=>obtain⟨t',rfl⟩:=ry;exact eq_int (bn I q rq)
  | str j=>obtain⟨t',rfl⟩:=ry;exact PySem.EqMixed.eq_int_str (bn I q (by simp))
  | _=>exact absurd (show false=true from hs) Bool.false_ne_true
 | str i=>
  obtain⟨t,rfl⟩:=rx
  cases y with
  | non=>cases ry;exact PySem.EqNone.eq_str_none (bn I q (by simp))
  | bl j=>cases ry;exact PySem.EqMixed.eq_str_bool (bn I q (by simp))
  | int j=>obtain⟨t',rfl⟩:=ry;exact PySem.EqMixed.eq_str_int (bn I q (by simp))
  | str j=>obtain⟨t',rfl⟩:=ry;exact eq_str (bn I q rp)
  | _=>exact absurd (show false=true from hs) Bool.false_ne_true
 | byt i=>
  obtain⟨t,rfl⟩:=rx
  cases y with
  | byt j=>obtain⟨t',rfl⟩:=ry;exact PySem.W.eq_bytes (bn I q rA)
  | _=>exact absurd (show false=true from hs) Bool.false_ne_true
 | _=>cases y <;> exact absurd (show false=true from hs) Bool.false_ne_true
theorem qT:OpR X (compareOp .NotEq) rNe:=by
 intro pins s σ H x y v u Q I rx ry h
 obtain⟨hs,q⟩:=h
 cases x with
 | non=>
  cases rx
  cases y with
  | non=>cases ry;exact PySem.EqNone.ne_none_none (bn I q (by simp))
  | bl j=>cases ry;exact PySem.EqNone.ne_none_bool (bn I q (by simp))
  | int j=>obtain⟨t',rfl⟩:=ry;exact PySem.EqNone.ne_none_int (bn I q (by simp))
  | str j=>obtain⟨t',rfl⟩:=ry;exact PySem.EqNone.ne_none_str (bn I q (by simp))
  | _=>exact absurd (show false=true from hs) Bool.false_ne_true
 | bl i=>
  cases rx
  cases y with
  | non=>cases ry;exact PySem.EqNone.ne_bool_none (bn I q (by simp))
  | bl j=>cases ry;exact ne_bool (bn I q (congrArg not wI))
  | str j=>obtain⟨t',rfl⟩:=ry;exact PySem.EqMixed.ne_bool_str (bn I q (by simp))
  | _=>exact absurd (show false=true from hs) Bool.false_ne_true
 | int i=>
  obtain⟨t,rfl⟩:=rx
  cases y with
  | non=>cases ry;exact PySem.EqNone.ne_int_none (bn I q (by simp))
  | int j=>obtain⟨t',rfl⟩:=ry;exact ne_int (bn I q (congrArg not rq))
  | str j=>obtain⟨t',rfl⟩:=ry;exact PySem.EqMixed.ne_int_str (bn I q (by simp))
  | _=>exact absurd (show false=true from hs) Bool.false_ne_true
 | str i=>
  obtain⟨t,rfl⟩:=rx
  cases y with
  | non=>cases ry;exact PySem.EqNone.ne_str_none (bn I q (by simp))
  | bl j=>cases ry;exact PySem.EqMixed.ne_str_bool (bn I q (by simp))
  | int j=>obtain⟨t',rfl⟩:=ry;exact PySem.EqMixed.ne_str_int (bn I q (by simp))
  | str j=>obtain⟨t',rfl⟩:=ry;exact ne_str (bn I q (congrArg not rp))
  | _=>exact absurd (show false=true from hs) Bool.false_ne_true
 | byt i=>
  obtain⟨t,rfl⟩:=rx
  cases y with
  | byt j=>obtain⟨t',rfl⟩:=ry;exact PySem.W.ne_bytes (bn I q (congrArg not rA))
  | _=>exact absurd (show false=true from hs) Bool.false_ne_true
 | _=>cases y <;> exact absurd (show false=true from hs) Bool.false_ne_true
theorem jD:OpR X (compareOp .Lt) (rI0 λi j=>.bl (decide (i < j))):=xU λ_ _ _ _ _ _ _ q=>lt_int q
theorem jE:OpR X (compareOp .LtE) (rI0 λi j=>.bl (decide (i<=j))):=xU λ_ _ _ _ _ _ _ q=>le_int q
theorem vk:OpR X (compareOp .Gt) (rI0 λi j=>.bl (decide (j < i))):=xU λ_ _ _ _ _ _ _ q=>gt_int q
theorem zt:OpR X (compareOp .GtE) (rI0 λi j=>.bl (decide (j<=i))):=xU λ_ _ _ _ _ _ _ q=>ge_int q
theorem sx:OpR X (compareOp .In) (λx y H Q=>∃i j,x=.str i/\y=.str j/\Q (.bl (!(Builtin.Str.occurrences j i 0 j.length 1).isEmpty)) H):=by
 intro pins s σ H x y v u Q I rx ry h
 obtain⟨i,j,rfl,rfl,q⟩:=h
 obtain⟨t,rfl⟩:=rx
 obtain⟨t',rfl⟩:=ry
 exact in_str (bn I q rfl)
theorem aP (b:Expr){op:CmpOp} (h:op≠.In:=by decide) (h2:op≠.NotIn:=by decide):behindInMarks op b=false:=by
 have e1:(op == CmpOp.In)=false:=by cases op <;> first | rfl | exact absurd rfl h
 have e2:(op == CmpOp.NotIn)=false:=by cases op <;> first | rfl | exact absurd rfl h2
 cases b <;> simp [behindInMarks,e1,e2]
theorem cj {op:CmpOp}{r:R2} (ho:OpR X (compareOp op) r) (ha:PE X a ta) (hb:PE X b tb) (hm:behindInMarks op b=false):PE X (.Compare a [op] [b] pos) (tOp r ta tb):=by
 intro pins s σ H Q I h
 exact wpAny_Compare1 (Bq ha hb I h λv u s2 x y H2 I2 rx ry q=>ho pins s2 σ H2 x y v u Q I2 rx ry q) hm
inductive ttR (x:V) (H':Hp) (Q:Bool->Hp->Prop):Prop
 | mk (k) (h1:x=.bl k) (h2:Q k H'):ttR x H' Q
noncomputable def yR (t:TE):TT:=λσ H Q=>t σ H λx H'=>ttR x H' Q
theorem aI {op:CmpOp}{r:R2} (ho:OpR X (compareOp op) r) (ha:PE X a ta) (hb:PE X b tb) (hm:behindInMarks op b=false):PT X (.Compare a [op] [b] pos) (yR (tOp r ta tb)):=by
 intro pins s σ H Q I h
 refine wpAny_isTrue_Compare1 (thn (ha pins s σ H _ I h) λv s1 ⟨x,H1,I1,r1,q1⟩=>thn (hb pins s1 σ H1 _ I1 q1) λu s2 ⟨y,H2,I2,r2,q2⟩=>
  thn (ho pins s2 σ H2 x y v u _ I2 r1 r2 q2) λc s3 ⟨z,H3,I3,r3,k,e,q3⟩=>?_) hm
 subst e
 cases r3
 exact wpAny_truthy_bool ⟨H3,I3,q3⟩
noncomputable def tT (r r':R2) (ta tb tc:TE):TE:=λσ H Q=>ta σ H λx H1=>tb σ H1 λy H2=>r x y H2 λz H3=>∃k,z=.bl k/\
 (if k=true then tc σ H3 λw' H4=>r' y w' H4 Q else Q (.bl false) H3)
theorem vh {op op':CmpOp}{r r':R2} (ho:OpR X (compareOp op) r) (ho':OpR X (compareOp op') r') (ha:PE X a ta) (hb:PE X b tb) (hc:PE X c tc)
  (hm:lastMarks [op,op'] [b,c]=false:=by with_unfolding_all rfl):PE X (.Compare a [op,op'] [b,c] pos) (tT r r' ta tb tc):=by
 intro pins s σ H Q I h
 refine Compare_chain (thn (ha pins s σ H _ I h) λv s1 ⟨x,H1,I1,r1,q1⟩=>chain_link (thn (hb pins s1 σ H1 _ I1 q1) λu s2 ⟨y,H2,I2,r2,q2⟩=>
  thn (ho pins s2 σ H2 x y v u _ I2 r1 r2 q2) λd s3 ⟨z,H3,I3,r3,k,e,q3⟩=>?_)) hm
 subst e
 cases r3
 refine wpAny_truthy_bool ?_
 cases k with
 | false=>exact ite_ff ⟨.bl false,H3,I3,rfl,q3⟩
 | true=>exact ite_tt (chain_last (thn (hc pins s3 σ H3 _ I3 q3) λw' s4 ⟨z',H4,I4,r4,q4⟩=>ho' pins s4 σ H4 y z' u w' Q I4 r2 r4 q4))
theorem nG {op op':CmpOp}{r r':R2} (ho:OpR X (compareOp op) r) (ho':OpR X (compareOp op') r') (ha:PE X a ta) (hb:PE X b tb) (hc:PE X c tc)
  (hm:lastMarks [op,op'] [b,c]=false:=by with_unfolding_all rfl):PT X (.Compare a [op,op'] [b,c] pos) (yR (tT r r' ta tb tc)):=by
 intro pins s σ H Q I h
 refine isTrue_chain (thn (ha pins s σ H _ I h) λv s1 ⟨x,H1,I1,r1,q1⟩=>test_link (thn (hb pins s1 σ H1 _ I1 q1) λu s2 ⟨y,H2,I2,r2,q2⟩=>
  thn (ho pins s2 σ H2 x y v u _ I2 r1 r2 q2) λd s3 ⟨z,H3,I3,r3,k,e,q3⟩=>?_)) hm
 subst e
 cases r3
 refine wpAny_truthy_bool ?_
 cases k with
 | false=>
  obtain⟨k',e',q'⟩:=q3
  cases e'
  exact ite_ff ⟨H3,I3,q'⟩
 | true=>
  refine ite_tt (test_last (thn (hc pins s3 σ H3 _ I3 q3) λw' s4 ⟨z',H4,I4,r4,q4⟩=>thn (ho' pins s4 σ H4 y z' u w' _ I4 r2 r4 q4) λd' s5 ⟨z2,H5,I5,r5,k2,e2,q5⟩=>?_))
  subst e2
  cases r5
  exact wpAny_truthy_bool ⟨H5,I5,q5⟩
theorem iz:(sizeLine:Nat) < 2 ^ 63:=by rw [sizeLine_eq];decide
theorem cB {x:V}{us:List Value} (r:aW [x] us):∃u,us=[u]/\b8 x u:=by
 cases r with
 | cons r1 r2=>cases r2;exact⟨_,rfl,r1⟩
theorem tH {x y:V}{us:List Value} (r:aW [x,y] us):∃u w',us=[u,w']/\b8 x u/\b8 y w':=by
 cases r with
 | cons r1 r2=>
  cases r2 with
  | cons r3 r4=>cases r4;exact⟨_,_,rfl,r1,r3⟩
theorem sY (hc:X.calm=true):cW X (.builtin "max") (λxs H Q=>∃i j,xs=[.int i,.int j]/\Q (.int (if j > i then j else i)) H):=by
 intro pins s σ H xs us Q I r h
 obtain⟨i,j,rfl,q⟩:=h
 obtain⟨u,w',rfl,⟨t,rfl⟩,⟨t',rfl⟩⟩:=tH r
 refine max_two_ints (I.ok.hd hc) λh' tk k=>⟨_,H,I.kept k,?_,q⟩
 by_cases hj:j > i
 ·rw [if_pos hj,if_pos hj];exact⟨_,rfl⟩
 ·rw [if_neg hj,if_neg hj];exact⟨_,rfl⟩
theorem iH (hc:X.calm=true):cW X (.builtin "min") (λxs H Q=>∃i j,xs=[.int i,.int j]/\Q (.int (if j < i then j else i)) H):=by
 intro pins s σ H xs us Q I r h
 obtain⟨i,j,rfl,q⟩:=h
 obtain⟨u,w',rfl,⟨t,rfl⟩,⟨t',rfl⟩⟩:=tH r
 refine min_two_ints (I.ok.hd hc) λh' tk k=>⟨_,H,I.kept k,?_,q⟩
 by_cases hj:j < i
 ·rw [if_pos hj,if_pos hj];exact⟨_,rfl⟩
 ·rw [if_neg hj,if_neg hj];exact⟨_,rfl⟩
theorem lq:cW X (.type "int") (λxs H Q=>(∃i,xs=[.int i]/\Q (.int i) H)\/∃k,xs=[.bl k]/\Q (.int (if k then 1 else 0)) H):=by
 intro pins s σ H xs us Q I r h
 rcases h with⟨i,rfl,q⟩ | ⟨k,rfl,q⟩
 ·obtain⟨u,rfl,t,rfl⟩:=cB r
  exact call_int_int ⟨.int i,H,I,⟨_,rfl⟩,q⟩
 ·obtain⟨u,rfl,r1⟩:=cB r
  cases r1
  exact call_int_bool ⟨.int (if k then 1 else 0),H,I.tok _,⟨_,rfl⟩,q⟩
theorem bj:cW X (.type "str") (λxs H Q=>∃i,xs=[.int i]/\i.natAbs.log2 < 1920/\Q (.str (toString i)) H):=by
 intro pins s σ H xs us Q I r h
 obtain⟨i,rfl,hz,q⟩:=h
 obtain⟨u,rfl,t,rfl⟩:=cB r
 exact PySem.P.str_of_int hz ⟨.str _,H,I.tok _,⟨_,rfl⟩,q⟩
end
structure ObjM (h:Heap) (x dx C:Addr) (mA:Str->Option Value):Prop where
 obj:h.get? x=some (PySem.W.instObj C dx)
 ns:h.Ns1 dx mA
 ne:dx≠x
theorem sJ {h:Heap}{dx:Addr}{mA:Str->Option Value} (n:h.Ns1 dx mA):∃od,h.get? dx=some od/\∀name,PySem.W.lookIn name od=some (mA name):=by
 obtain⟨o,es,ep,ho,hd,hk,_,hm⟩:=n
 refine⟨o,ho,λname=>?_⟩
 have e:=hm name
 unfold nsFind findBy at e
 rw [<- Array.find?_toList]at e
 unfold PySem.W.lookIn
 rw [hd]
 dsimp only
 split
 ·rename_i y q
  rw [q]at e
  exact congrArg some e
 ·rename_i q
  rw [q]at e
  have a:es.toList.any (·.refKey)=false:=by
   rw [List.any_eq_false]
   intro y hy
   obtain⟨z,t,hkey⟩:=hk y (Array.mem_toList_iff.mp hy)
   simp [DictEntry.refKey,hkey]
  have a':¬es.toList.any (·.refKey)=true:=by rw [a];exact Bool.false_ne_true
  rw [if_neg a']
  exact congrArg some e
theorem ObjM.look {h:Heap}{x dx C:Addr}{mA:Str->Option Value} (I:ObjM h x dx C mA):∃od,PySem.W.InstAt h x (PySem.W.instObj C dx) C (some od)/\∀name,PySem.W.lookIn name od=some (mA name):=
 let ⟨od,ho,hl⟩:=sJ I.ns
 ⟨od,⟨I.obj,rfl,rfl,ho⟩,hl⟩
section
variable {prog:Program}{w:World}{A:Around}{E:Value->Shared->Prop}{s:Shared}{K:W.Frag}{x dx C f:Addr}{mA:Str->Option Value}{name:Str}{v:Value}
theorem yx {expr:Bool}{Q:Value->Shared->Prop} (X:K.In s.heap) (I:ObjM s.heap x dx C mA) (hg:PySem.W.plainGet K C name=true) (hh:PySem.W.hasDictIn K C=true)
  (ha:PySem.W.findIn K (.ref C) name=some none) (hv:mA name=some v) (hv':PySem.W.handedIn v=true) (h:Q v { s with toks:=s.toks+1 }) :
  wpAny (model prog w) A (getAttr (.ref x) name expr) Q E s:=by
 obtain⟨od,J,hl⟩:=I.look
 exact PySem.W.get_value X J (PySem.W.plainGet_of hg).1 (PySem.W.findObj_own hh ha rfl (by rw [hl,hv])) hv' h
theorem ww {pl:Sem Bool}{Q:Value × List Value->Shared->Prop} (X:K.In s.heap) (I:ObjM s.heap x dx C mA) (hg:PySem.W.plainGet K C name=true)
  (hf:PySem.W.findIn K (.ref C) name=some (some (.ref f))) (ht:‹[K,f]›) (hv:mA name=none) (h:Q (.ref f,[.ref x]) s) :
  wpAny (model prog w) A (getMethod (.ref x) name pl) Q E s:=by
 obtain⟨od,J,hl⟩:=I.look
 exact PySem.W.method_fn X J (PySem.W.plainGet_of hg).1 (PySem.W.plainGet_of hg).2 hf (beq_iff_eq.mp ht) (by show (PySem.W.lookIn name od).map (·.isSome)=some false;rw [hl,hv];rfl) h
theorem xr {ns:List Str}{Q:Unit->Shared->Prop} (X:K.In s.heap) (I:ObjM s.heap x dx C mA)
  (hs:PySem.W.findIn K (.ref C) "__setattr__" = some (some (.builtin "object.__setattr__"))) (hp:PySem.W.plainOver K C=true) (ht:PySem.W.takerIn K C name=some none) (hh:PySem.W.hasDictIn K C=true)
  (hw:PySem.Within mA ns) (hsz:ns.length<=sizeLine)
  (h:∀h',ObjM h' x dx C (λy=>if y=name then some v else mA y)->Heap.SameBut dx s.heap h'->Q () { s with heap:=h',toks:=s.toks+2 }) :
  wpAny (model prog w) A (setAttr (.ref x) name v) Q E s:=by
 obtain⟨od,J,hl⟩:=I.look
 refine PySem.W.set_plain X J hs (PySem.W.osa_open (s:={ s with toks:=s.toks+1 }) (r:=none) X J hp ht λb=>?_)
 obtain⟨cd,hc,hd'⟩:=PySem.W.any_some hh
 have hx:s.heap.get? x=some ⟨.ref C,some dx,.plain,#[]⟩:=I.obj
 refine zB0 (zP0 (zB0 (zB0 (wpAny_loadPart hx (zB0 (PySem.W.Looks.here (s:={ s with toks:=s.toks+1 }) (PySem.W.looks_clsIn X hc) ?_))))))
 rw [hd']
 refine zP0 (a:=some dx) (zB0 (zP0 (zB0 ?_)))
 refine wpAny_nsSet1 (s:={ s with toks:=s.toks+1 }) I.ns λh' hn2 hs2=>?_
 obtain⟨oD,esD,epD,hoD,hdD,hcD⟩:=hn2.count (PySem.Within.cons name v hw)
 refine zB0 (wpAny_lookBehind hoD (by rw [hdD];exact pastItsLine_dict (Nat.le_trans hcD (by rw [List.length_cons];omega))) ?_)
 exact zP0 (h _ ⟨(hs2.2 _ (Ne.symm I.ne)).trans I.obj,hn2,I.ne⟩ hs2)
theorem vX {R:Result->Shared->Prop}{vs:List Value}{kw:List (Str × Value)} (X:K.In s.heap) (hm:PySem.W.makesIn K C=true)
  (hi:‹(K,C,f,"__init__")›) (hf:PySem.W.typeIn K (.ref f)=some (.type "function"))
  (h:codeAny (model prog w) (A.under (.builtin "type.__call__" ⟨.ref C::vs,kw⟩)) (.call (.ref f) ⟨.ref (s.heap.objs.size+1)::vs,kw⟩) (PySem.W.InitBack (s.heap.objs.size+1) R)
   { s with heap:=(s.heap.push PySem.W.emptyDict).push (PySem.W.instObj C s.heap.objs.size) }) :
  codeAny (model prog w) A (.call (.ref C) ⟨vs,kw⟩) R s:=by
 obtain⟨hh,g,d,t,os⟩:=s
 exact PySem.W.make_core (PySem.W.makes_of X hm) (PySem.W.looks_findIn X hi) (λself=>PySem.W.bind_fn X self hf) (.inl rfl) h
end
noncomputable def db (f:Str) (v:V):List (Str × V)->List (Str × V)
 | []=>[(f,v)]
 | (g,x)::r=>if g=f then (g,v)::r else (g,x)::db f v r
theorem iO (f g:Str) (v:V):∀fs:List (Str × V),(db f v fs).lookup g=if g=f then some v else fs.lookup g
 | []=>by
  show List.lookup g [(f,v)]=_
  by_cases h:g=f
  ·have hb:(g == f)=true:=beq_iff_eq.mpr h
   simp only [List.lookup,hb,if_pos h]
  ·have hb:(g == f)=false:=beq_eq_false_iff_ne.mpr h
   simp only [List.lookup,hb,if_neg h]
 | (k,x)::r=>by
  have ih:=iO f g v r
  rw [show db f v ((k,x)::r)=(if k=f then (k,v)::r else (k,x)::db f v r) from rfl]
  by_cases hk:k=f
  ·rw [if_pos hk]
   by_cases h:g=k
   ·have hb:(g == k)=true:=beq_iff_eq.mpr h
    simp only [List.lookup,hb,if_pos (h.trans hk)]
   ·have hb:(g == k)=false:=beq_eq_false_iff_ne.mpr h
    simp only [List.lookup,hb,if_neg (λe:g=f=>h (e.trans hk.symm))]
  ·rw [if_neg hk]
   by_cases h:g=k
   ·have hb:(g == k)=true:=beq_iff_eq.mpr h
    simp only [List.lookup,hb,if_neg (λe:g=f=>hk (h.symm.trans e))]
   ·have hb:(g == k)=false:=beq_eq_false_iff_ne.mpr h
    simp only [List.lookup,hb]
    exact ih
theorem iB (f:Str) (v:V):∀fs:List (Str × V),f∈(db f v fs).map (·.1)/\∀g,g∈fs.map (·.1)->g∈(db f v fs).map (·.1)
 | []=>⟨by simp [db],λg h=>by simp at h⟩
 | (k,x)::r=>by
  obtain⟨i1,i2⟩:=iB f v r
  rw [show db f v ((k,x)::r)=(if k=f then (k,v)::r else (k,x)::db f v r) from rfl]
  by_cases hk:k=f
  ·rw [if_pos hk]
   subst hk
   exact⟨by simp,λg h=>by simpa using h⟩
  ·rw [if_neg hk]
   refine⟨?_,λg h=>?_⟩
   ·rw [List.map_cons]
    exact List.mem_cons_of_mem _ i1
   ·rw [List.map_cons]at h ⊢
    rcases List.mem_cons.mp h with e | e
    ·exact List.mem_cons.mpr (.inl e)
    ·exact List.mem_cons_of_mem _ (i2 g e)
theorem eK (f:Str) (v:V):∀fs:List (Str × V),(db f v fs).length<=fs.length+1
 | []=>by simp [db]
 | (k,x)::r=>by
  have ih:=eK f v r
  rw [show db f v ((k,x)::r)=(if k=f then (k,v)::r else (k,x)::db f v r) from rfl]
  by_cases hk:k=f
  ·rw [if_pos hk,List.length_cons,List.length_cons];omega
  ·rw [if_neg hk,List.length_cons,List.length_cons];omega
theorem gy.some_of {v:V}{o:Option Value} (r:gy (some v) o):∃u,o=some u/\b8 v u:=by
 cases o with
 | none=>exact(show False from r).elim
 | some u=>exact⟨u,rfl,r⟩
theorem gy.none_of {o:Option Value} (r:gy none o):o=none:=by
 cases o with
 | none=>rfl
 | some u=>exact(show False from r).elim
theorem sQ {v:V}{u:Value} (r:b8 v u):PySem.W.handedIn u=true:=by
 cases v with
 | non=>cases (show u=Value.none from r);rfl
 | bl b=>cases (show u=Value.bool b from r);rfl
 | int i=>obtain⟨t,e⟩:=(show ∃t,u=Value.int i t from r);cases e;rfl
 | str x=>obtain⟨t,e⟩:=(show ∃t,u=Value.str x t from r);cases e;rfl
 | byt b=>obtain⟨t,e⟩:=(show ∃t,u=Value.bytes b t from r);cases e;rfl
 | flt b=>obtain⟨t,e⟩:=(show ∃t,u=Value.float b t from r);cases e;rfl
 | ref a=>cases (show u=Value.ref a from r);rfl
 | ty n=>cases (show u=Value.type n from r);rfl
section
variable {P:Program}{w:World}{H H':Hp}{h h':Heap}{a C dx:Addr}{fs fs':List (Str × V)}
theorem ja (hok:HOk P w H h) (e:H a=some (.ins C dx fs)):∃mA,ObjM h a dx C mA/\(∀f,gy (fs.lookup f) (mA f))/\PySem.Within mA (fs.map (·.1))/\fs.length<=1000/\H dx=some (.own a):=by
 obtain⟨d,z,ne,ob,mA,n,r,q⟩:=(show bC P w H h a (.ins C dx fs) from hok a _ e)
 exact⟨mA,⟨ob,n,ne⟩,r,q,z,d⟩
end
structure Cls (K:PySem.W.Frag) (C:Addr):Prop where
 pg:PySem.W.plainGet K C Str.empty=true
 hd:PySem.W.hasDictIn K C=true
 po:PySem.W.plainOver K C=true
 sa:PySem.W.findIn K (.ref C) "__setattr__" = some (some (.builtin "object.__setattr__"))
theorem Cls.get {K:W.Frag}{C:Addr} (c:Cls K C) (f:Str):PySem.W.plainGet K C f=true:=c.pg
def NoAttr (K:PySem.W.Frag) (C:Addr) (f:Str):Prop:=PySem.W.findIn K (.ref C) f=some none
theorem NoAttr.taker {K:W.Frag}{C:Addr}{f:Str} (n:NoAttr K C f):PySem.W.takerIn K C f=some none:=by
 unfold PySem.W.takerIn
 rw [show PySem.W.findIn K (.ref C) f=some none from n]
 rfl
structure Meth (K:PySem.W.Frag) (C:Addr) (m:Str) (f:Addr):Prop where
 at_:PySem.W.findIn K (.ref C) m=some (some (.ref f))
 fn:‹[K,f]›
 kp:PySem.W.keepIn K (.ref f)=true
section
variable {X:Cx}{pins:List (Addr × Obj)}{σ:St}{H:Hp}{s:Shared}{a C dx:Addr}{fs:List (Str × V)}{f:Str}{v:V}{A:Around}{E:Value->Shared->Prop}
theorem jL {b:Bool}{Q:Value->Shared->Prop} (I:Inv X pins σ H s) (e:H a=some (.ins C dx fs)) (c:Cls X.K C) (n:NoAttr X.K C f) (l:fs.lookup f=some v)
  (h:∀u s',Inv X pins σ H s'->b8 v u->Q u s'):wpAny (model X.prog X.w) A (getAttr (.ref a) f b) Q E s:=by
 obtain⟨mA,O,r,_,_,_⟩:=ja I.hok e
 obtain⟨u,hu,ru⟩:=gy.some_of (v:=v) (o:=mA f) (by rw [<- l];exact r f)
 exact yx I.kIn O (c.get f) c.hd n hu (sQ ru) (h u _ (I.tok _) ru)
theorem fq {m:Str}{g:Addr}{pl:Sem Bool}{Q:Value × List Value->Shared->Prop} (I:Inv X pins σ H s) (e:H a=some (.ins C dx fs)) (c:Cls X.K C) (k:Meth X.K C m g) (l:fs.lookup m=none)
  (h:Q (.ref g,[.ref a]) s):wpAny (model X.prog X.w) A (getMethod (.ref a) m pl) Q E s:=by
 obtain⟨mA,O,r,_,_,_⟩:=ja I.hok e
 have hn:mA m=none:=gy.none_of (by rw [<- l];exact r m)
 exact ww I.kIn O (c.get m) k.at_ k.fn hn h
theorem ju {y:V}{u:Value}{Q:Unit->Shared->Prop} (I:Inv X pins σ H s) (e:H a=some (.ins C dx fs)) (c:Cls X.K C) (n:NoAttr X.K C f) (hl:fs.length < 1000) (ry:b8 y u)
  (h:∀s',Inv X pins σ (upd H a (.ins C dx (db f y fs))) s'->Q () s'):wpAny (model X.prog X.w) A (setAttr (.ref a) f u) Q E s:=by
 obtain⟨mA,O,r,wi,_,ho⟩:=ja I.hok e
 have hz:(fs.map (·.1)).length<=sizeLine:=by rw [List.length_map,sizeLine_eq];omega
 refine xr I.kIn O c.sa c.po n.taker c.hd wi hz λh' O' sb=>h _ ?_
 have hd:∃o,h'.get? dx=some o:=let ⟨o,_,_,e',_⟩:=O'.ns;⟨o,e'⟩
 refine I.write (x:=a) (e:=dx) (by rw [e];exact True.intro) (.inr ho) (λb q hb z=>(sb.2 b hb).trans z) hd ?_
 refine⟨by rw [ai O.ne];exact ho,?_,O.ne,O'.obj,_,O'.ns,λg=>?_,λg hg=>?_⟩
 ·have:=eK f y fs;omega
 ·show gy ((db f y fs).lookup g) (if g=f then some u else mA g)
  rw [iO]
  by_cases q:g=f
  ·rw [if_pos q,if_pos q];exact ry
  ·rw [if_neg q,if_neg q];exact r g
 ·by_cases q:g=f
  ·rw [q];exact(iB f y fs).1
  ·refine(iB f y fs).2 g (wi g λz=>hg ?_)
   show (if g=f then some u else mA g)=none
   rw [if_neg q];exact z
theorem Inv.made (I:Inv X pins σ H s):Inv X pins σ (upd (upd H s.heap.objs.size (.own (s.heap.objs.size+1))) (s.heap.objs.size+1) (.ins C s.heap.objs.size []))
  { s with heap:=(s.heap.push PySem.W.emptyDict).push (PySem.W.instObj C s.heap.objs.size) }:=by
 have e1:(s.heap.push PySem.W.emptyDict).get? s.heap.objs.size=some PySem.W.emptyDict:=Heap.get?_push_size s.heap rfl
 have e2:((s.heap.push PySem.W.emptyDict).push (PySem.W.instObj C s.heap.objs.size)).get? (s.heap.objs.size+1)=some (PySem.W.instObj C s.heap.objs.size):=by
  have:=Heap.get?_push_size (s.heap.push PySem.W.emptyDict) (o:=PySem.W.instObj C s.heap.objs.size) rfl
  rwa [Heap.size_push]at this
 have e3:(s.heap.push PySem.W.emptyDict).Ns s.heap.objs.size (λ_=>none):=⟨PySem.W.emptyDict,#[],_,e1,rfl,(λe he=>absurd he (by simp)),λ_=>rfl⟩
 have I1:=I.laid (a:=s.heap.objs.size) (o:=.own (s.heap.objs.size+1)) (h':=s.heap.push PySem.W.emptyDict) (t':=s.toks) (λb u q=>zH0 _ q) (Nat.le_refl _) ⟨_,e1⟩
 refine I1.laid (a:=s.heap.objs.size+1) (o:=.ins C s.heap.objs.size []) (t':=s.toks) (λb u q=>zH0 _ q) (Nat.le_of_eq (Heap.size_push _ _)) ?_
 have ne:s.heap.objs.size≠s.heap.objs.size+1:=Nat.ne_of_lt (Nat.lt_succ_self _)
 refine⟨by rw [ai ne,ar],Nat.zero_le _,ne,e2,λ_=>none,(Heap.Ns1.of_empty e3).at λo q=>zH0 _ q,λ_=>True.intro,λy hy=>absurd rfl hy⟩
theorem yJ {prog:Program}{w:World}{env:Env}{e:Expr}{f:Str}{pos:Pos}{s:Shared}{Q:Value->Shared->Prop} (hb:attributeBase e f env (eval e env)=eval e env)
  (h:wpAny (model prog w) A (eval e env) (λo s₁=>wpAny (model prog w) A (getAttr o f true) Q E s₁) E s):wpAny (model prog w) A (eval (.Attribute e f pos) env) Q E s:=
 Attribute_any_ h (by rw [arm_eval_Attribute,hb])
end
inductive C3 (K:PySem.W.Frag) (f:Str) (x:V) (H1:Hp) (Q:VK):Prop
 | mk (a C dx fs v) (h1:x=.ref a) (h2:H1 a=some (.ins C dx fs)) (h3:Cls K C) (h4:NoAttr K C f) (h5:fs.lookup f=some v) (h6:Q v H1):C3 K f x H1 Q
noncomputable def Bz (K:PySem.W.Frag) (ta:TE) (f:Str):TE:=λσ H Q=>ta σ H λx H1=>C3 K f x H1 Q
noncomputable def Cu (K:PySem.W.Frag) (ta tv:TE) (f:Str):TS:=λD σ H=>tv σ H λy H1=>ta σ H1 λx H2=>∃a C dx fs,x=.ref a/\H2 a=some (.ins C dx fs)/\Cls K C/\NoAttr K C f/\fs.length < 1000/\
 D.nx σ (upd H2 a (.ins C dx (db f y fs)))
def Bs (X:Cx) (op:Operator) (rd:V->V->Hp->VK->Prop):Prop:=
 ∀(pins:List (Addr × Obj)) (s:Shared) (σ:St) (H:Hp) (x y:V) (u v:Value) (Q:VK),Inv X pins σ H s->b8 x u->b8 y v->rd x y H Q->wpAny (model X.prog X.w) X.A (inplaceOp op u v) (EP X pins σ Q) X.xe s
noncomputable def xK (K:PySem.W.Frag) (ta tv:TE) (rd:V->V->Hp->VK->Prop) (f:Str):TS:=λD σ H=>ta σ H λx H1=>∃a C dx fs v,x=.ref a/\H1 a=some (.ins C dx fs)/\Cls K C/\NoAttr K C f/\fs.lookup f=some v/\
 tv σ H1 λy H2=>rd v y H2 λz H3=>∃dx' fs',H3 a=some (.ins C dx' fs')/\fs'.length < 1000/\D.nx σ (upd H3 a (.ins C dx' (db f z fs')))
section
variable {X:Cx}{o e value:Expr}{f:Str}{pos pos' tpos:Pos}{ta tv:TE}
theorem aV (he:PE X e ta) (hb:attributeBase e f X.env (eval e X.env)=eval e X.env):PE X (.Attribute e f pos) (Bz X.K ta f):=by
 intro pins s σ H Q I h
 refine yJ hb (thn (he pins s σ H _ I h) λu s1 ⟨x,H1,I1,rx,a,C,dx,fs,v,ex,ea,c,n,l,q⟩=>?_)
 subst ex
 obtain rfl:u=Value.ref a:=rx
 exact jL I1 ea c n l λu' s2 I2 ru=>⟨v,H1,I2,ru,q⟩
theorem bw (ha:PE X o ta) (hv:PE X value tv) (hs:swapsWith value (some (.Attribute o f pos')) pos.line X.env=pure false):PS X (.Assign [.Attribute o f pos'] value pos) (Cu X.K ta tv f):=by
 intro pins s σ H D I h
 refine plainObj_wpAny_Assign_Attribute (thn (hv pins s σ H _ I h) λu s1 ⟨y,H1,I1,ry,q⟩=>thn (ha pins s1 σ H1 _ I1 q) λov s2 ⟨x,H2,I2,rx,a,C,dx,fs,ex,ea,c,n,l,q2⟩=>?_) hs
 subst ex
 obtain rfl:ov=Value.ref a:=rx
 exact ju I2 ea c n l ry λs3 I3=>⟨σ,_,I3,q2⟩
theorem iu {op:Operator}{rd:V->V->Hp->VK->Prop} (ha:PE X o ta) (hv:PE X value tv) (hop:Bs X op rd):PS X (.AugAssign (.Attribute o f tpos) op value pos) (xK X.K ta tv rd f):=by
 intro pins s σ H D I h
 refine wpAny_AugAssign_AttributeAny (thn (ha pins s σ H _ I h) λov s1 ⟨x,H1,I1,rx,a,C,dx,fs,v,ex,ea,c,n,l,q⟩=>?_)
 subst ex
 obtain rfl:ov=Value.ref a:=rx
 refine jL I1 ea c n l λu s2 I2 ru=>thn (hv pins s2 σ H1 _ I2 q) λw3 s3 ⟨y,H2,I3,ry,q3⟩=>thn (hop pins s3 σ H2 v y u w3 _ I3 ru ry q3) λw4 s4 ⟨z,H3,I4,rz,dx',fs',ea',l',q4⟩=>?_
 exact ju I4 ea' c n l' rz λs5 I5=>⟨σ,_,I5,q4⟩
noncomputable def Cy:V->V->Hp->VK->Prop:=λx y H Q=>∃i j,x=.int i/\y=.int j/\Q (.int (i+j)) H
noncomputable def Cv:V->V->Hp->VK->Prop:=λx y H Q=>∃i j,x=.int i/\y=.int j/\Q (.int (i - j)) H
theorem wp:Bs X .Add Cy:=by
 rintro pins s σ H x y u v Q I rx ry ⟨i,j,rfl,rfl,q⟩
 obtain⟨t,rfl⟩:=(show ∃t,u=Value.int i t from rx)
 obtain⟨t',rfl⟩:=(show ∃t',v=Value.int j t' from ry)
 exact PyProof.Rows.iadd_int ⟨.int (i+j),H,I.tok _,⟨_,rfl⟩,q⟩
theorem B7:Bs X .Sub Cv:=by
 rintro pins s σ H x y u v Q I rx ry ⟨i,j,rfl,rfl,q⟩
 obtain⟨t,rfl⟩:=(show ∃t,u=Value.int i t from rx)
 obtain⟨t',rfl⟩:=(show ∃t',v=Value.int j t' from ry)
 exact PyProof.Rows.isub_int ⟨.int (i - j),H,I.tok _,⟨_,rfl⟩,q⟩
end
section
variable {X:Cx}{pins:List (Addr × Obj)}{σ:St}{H:Hp}{s:Shared}{A:Around}{E:Value->Shared->Prop}{Q:Value->Shared->Prop}{c:Value}{b:Bool}
inductive TyOf (K:PySem.W.Frag) (H:Hp):V->Value->Prop where
 | non:TyOf K H .non (.type "NoneType")
 | bl (x:Bool):TyOf K H (.bl x) (.type "bool")
 | int (i:Int):TyOf K H (.int i) (.type "int")
 | str (x:Str):TyOf K H (.str x) (.type "str")
 | flt (x:UInt64):TyOf K H (.flt x) (.type "float")
 | lst {a:Addr}{xs:List V} (e:H a=some (.lst xs)):TyOf K H (.ref a) (.type "list")
 | frz {a:Addr}{o:Obj}{xs:List V} (e:H a=some (.frz o (.lst xs))):TyOf K H (.ref a) (.type "list")
 | tup {a:Addr}{xs:List V} (e:H a=some (.tup xs)):TyOf K H (.ref a) (.type "tuple")
 | dK {a:Addr}{kvs:List (Key × V)} (e:H a=some (.dK kvs)):TyOf K H (.ref a) (.type "dict")
 | dT {a:Addr}{kvs:List (List Key × V)} (e:H a=some (.dT kvs)):TyOf K H (.ref a) (.type "dict")
 | ins {a C dx:Addr}{fs:List (Str × V)} (e:H a=some (.ins C dx fs)) (cl:Cls K C) (ha:PySem.W.findIn K (.ref C) "__class__" = some (some (.builtin "object.__class__")))
   (hn:PySem.W.specialIn K (.builtin "object.__class__") "__get__" = some (some (.builtin "getset_descriptor.__get__"))) (htk:PySem.W.takesIn K (.builtin "object.__class__")=some true)
   (hm:PySem.W.mroIn K C (.type "object")=some true):TyOf K H (.ref a) (.ref C)
theorem sO {x:V}{u t:Value} (I:Inv X pins σ H s) (rx:b8 x u) (ty:TyOf X.K H x t) (e:PySem.W.kitOne X.K t c=some b) (h:∀tk,Q (.bool b) { s with toks:=tk }) :
  wpAny (model X.prog X.w) A (call (.builtin "isinstance") [u,c]) Q E s:=by
 cases ty with
 | non=>cases (show u=Value.none from rx);exact PySem.W.kia_one PySem.W.kitx_none I.kIn True.intro e (λz=>nomatch z) h
 | bl y=>cases (show u=Value.bool y from rx);exact PySem.W.kia_one PySem.W.kitx_bool I.kIn True.intro e (λz=>nomatch z) h
 | int i=>obtain⟨t,q⟩:=(show ∃t,u=Value.int i t from rx);cases q;exact PySem.W.kia_one PySem.W.kitx_int I.kIn True.intro e (λz=>nomatch z) h
 | str y=>obtain⟨t,q⟩:=(show ∃t,u=Value.str y t from rx);cases q;exact PySem.W.kia_one PySem.W.kitx_str I.kIn True.intro e (λz=>nomatch z) h
 | flt y=>obtain⟨t,q⟩:=(show ∃t,u=Value.float y t from rx);cases q;exact PySem.W.kia_one PySem.W.kitx_float I.kIn True.intro e (λz=>nomatch z) h
 | @lst a xs ea=>
  cases (show u=Value.ref a from rx)
  obtain⟨_,_,n,_,h1⟩:=(show bC X.prog X.w H s.heap a (.lst xs) from I.hok a _ ea)
  exact PySem.W.kia_one PySem.W.kitx_list I.kIn ⟨_,h1,rfl⟩ e (λz=>nomatch z) h
 | @frz a ob xs ea=>
  cases (show u=Value.ref a from rx)
  obtain⟨_,_,_,n,_,h1⟩:=(show bC X.prog X.w H s.heap a (.frz ob (.lst xs)) from I.hok a _ ea)
  exact PySem.W.kia_one PySem.W.kitx_list I.kIn ⟨_,h1,rfl⟩ e (λz=>nomatch z) h
 | @tup a xs ea=>
  cases (show u=Value.ref a from rx)
  obtain⟨_,_,_,p⟩:=(show bC X.prog X.w H s.heap a (.tup xs) from I.hok a _ ea)
  obtain⟨o,h1,h2,_⟩:=p
  exact PySem.W.kia_one PySem.W.kitx_tuple I.kIn ⟨o,h1,h2⟩ e (λz=>nomatch z) h
 | @dK a kvs ea=>
  cases (show u=Value.ref a from rx)
  obtain⟨_,_,vs,_,p⟩:=(show bC X.prog X.w H s.heap a (.dK kvs) from I.hok a _ ea)
  obtain⟨o,es,ep,h1,h2,_⟩:=p
  exact PySem.W.kia_one PySem.W.kitx_dict I.kIn ⟨o,h1,h2.1⟩ e (λz=>nomatch z) h
 | @dT a kvs ea=>
  cases (show u=Value.ref a from rx)
  obtain⟨_,_,xs,_,o,es,ep,h1,h2,_⟩:=(show bC X.prog X.w H s.heap a (.dT kvs) from I.hok a _ ea)
  exact PySem.W.kia_one PySem.W.kitx_dict I.kIn ⟨o,h1,h2.1⟩ e (λz=>nomatch z) h
 | @ins a C dx fs ea cl ha hn htk hm=>
  cases (show u=Value.ref a from rx)
  obtain⟨mA,O,_⟩:=ja I.hok ea
  obtain⟨od,J,_⟩:=O.look
  exact PySem.W.kia_one (PySem.W.kitx_own (cl.get _) cl.hd ha hn htk hm) I.kIn J e (λz=>nomatch z) h
end
structure Room (k:Nat) (A:Around):Prop where
 hd:A.handled=none
 dp:A.depth+3 * k+5 < recursionLimit
 un:A.units+16 * k+200 < cLine
 gd:A.guards=some []
theorem Room.mono {j k:Nat}{A:Around} (r:Room k A) (h:j<=k):Room j A:=⟨r.hd,by have:=r.dp;omega,by have:=r.un;omega,r.gd⟩
theorem Room.deeper {k:Nat}{A:Around} (r:Room (k+1) A) (env:Env):Room k (A.deeper env):=
 ⟨r.hd,by have:=r.dp;show A.depth+1+3 * k+5 < _;omega,by have:=r.un;show A.units+3+16 * k+200 < _;omega,r.gd⟩
theorem qd {A:Around}{C:Addr}{us:List Value}{kw:List (Str × Value)}:(A.under (.builtin "type.__call__" ⟨.ref C::us,kw⟩)).depth=A.depth+1:=by
 first | rfl | simp [Around.under,Code.weight,Code.isCreation,Code.isGuard,Code.isCaller,Code.frames,Code.isFrame,guardIds]
theorem qc {A:Around}{C:Addr}{us:List Value}{kw:List (Str × Value)}:(A.under (.builtin "type.__call__" ⟨.ref C::us,kw⟩)).units=A.units+1:=by
 first | rfl | simp [Around.under,Code.cUnits,Code.frames,Code.isFrame]
theorem Room.make {k:Nat}{A:Around} (r:Room (k+1) A) (C:Addr) (us:List Value) (kw:List (Str × Value)):Room k (A.under (.builtin "type.__call__" ⟨.ref C::us,kw⟩)):=
 ⟨r.hd,by have:=r.dp;rw [qd];omega,by have:=r.un;rw [qc];omega,by have h:=r.gd;first | (unfold Around.under;simp [h,pushGuards,Code.guards,Code.isGuard,guardIds]) | (simp [Around.under,h,pushGuards,Code.guards,Code.isGuard,guardIds])⟩
theorem Room.depth {k:Nat}{A:Around} (r:Room k A):A.depth < recursionLimit:=by have:=r.dp;omega
theorem Room.units {k:Nat}{A:Around} (r:Room k A):A.units+64 < cLine:=by have:=r.un;omega
noncomputable def gC:TA:=λ_ H Q=>Q [] H
noncomputable def cq (ta:TE) (tr:TA):TA:=λσ H Q=>ta σ H λx H1=>tr σ H1 λxs H2=>Q (x::xs) H2
section
variable {X:Cx}{e:Expr}{es:List Expr}{te:TE}{t:TA}{pos:Pos}
theorem ac:PA X [] gC:=λ_ _ _ _ H Q I h=>Calls.spliced_nil ⟨[],H,I,.nil,h⟩
theorem aC (ha:PE X e te) (hr:PA X es t) (hs:starEach (e::es) X.env=(false,eval e X.env)::starEach es X.env:=by rfl):PA X (e::es) (cq te t):=by
 intro pos pins s σ H Q I h
 rw [hs]
 show wpAny _ _ (spliced ((false,eval e X.env)::backTo pos (starEach es X.env))) _ _ s
 refine Calls.spliced_cons (thn (ha pins s σ H _ I h) λu s1 ⟨x,H1,I1,r1,q1⟩=>?_)
 exact thn (hr pos pins s1 σ H1 _ I1 q1) λus s2 ⟨xs,H2,I2,r2,q2⟩=>⟨x::xs,H2,I2,.cons r1 r2,q2⟩
noncomputable def Cg (t:TA):TE:=λσ H Q=>t σ H λxs H1=>xs.length<=sizeLine/\∀p,H1 p=none->Q (.ref p) (upd H1 p (.tup xs))
noncomputable def Cj (t:TA):TE:=λσ H Q=>t σ H λxs H1=>xs.length<=sizeLine/\∀p,H1 p=none->Q (.ref p) (upd H1 p (.lst xs))
theorem bW {x1} (h:PA X es t):PE X (.Tuple es x1 pos) (Cg t):=by
 intro pins s σ H Q I hq
 refine wpAny_Tuple_spliced (thn (h pos pins s σ H _ I hq) λus s1 ⟨xs,H1,I1,r,z,q⟩=>⟨by rw [<- r.length];exact z,?_⟩)
 have hf:H1 s1.heap.objs.size=none:=I1.hok.fresh (Nat.le_refl _)
 refine⟨.ref s1.heap.objs.size,upd H1 s1.heap.objs.size (.tup xs),I1.laid (t':=s1.toks) (λb u e=>zH0 _ e) (Nat.le_refl _) ?_,rfl,q _ hf⟩
 exact⟨z,us,r,⟨_,Heap.get?_push_size _ rfl,rfl,_,rfl⟩⟩
theorem aR (h:PA X es t):PE X (.List es pos) (Cj t):=by
 intro pins s σ H Q I hq
 refine wpAny_List_spliced (thn (h pos pins s σ H _ I hq) λus s1 ⟨xs,H1,I1,r,z,q⟩=>⟨by rw [<- r.length];exact z,?_⟩)
 have hf:H1 s1.heap.objs.size=none:=I1.hok.fresh (Nat.le_refl _)
 refine⟨.ref s1.heap.objs.size,upd H1 s1.heap.objs.size (.lst xs),I1.laid (t':=s1.toks) (λb u e=>zH0 _ e) (Nat.le_refl _) ?_,rfl,q _ hf⟩
 exact⟨z,us,0,r,Heap.get?_push_size _ rfl⟩
end
noncomputable abbrev Sp:=List V->Hp->VK->XK->Prop
noncomputable abbrev CXT:=List Env->Hp->Shared->XK->Value->Shared->Prop
structure Env0 (P:Program) (w:World) (K:PySem.W.Frag) (mg:Str->Option Value) (base:Heap) (A:Around) (outer:List Env) (s:Shared) (H:Hp):Prop where
 frames:A.frames=some outer
 mod:Mod K mg base
 bs:∀b o,base.get? b=some o->s.heap.get? b=some o/\H b=none
 bsz:base.objs.size<=s.heap.objs.size
 funs:s.heap.FunFrames base outer
 frf:∀b∈frs outer,H b=none
 hok:HOk P w H s.heap
 bare:AllBare s.gens
def CE (outer:List Env) (P:Program) (w:World) (H:Hp) (s:Shared) (Q:VK) (u:Value) (s':Shared):Prop:=
 ∃v H',s'.os=s.os/\AllBare s'.gens/\Un (frs outer) [] H H' s.heap s'.heap/\HOk P w H' s'.heap/\b8 v u/\Q v H'
def CR (CX:CXT) (outer:List Env) (P:Program) (w:World) (H:Hp) (s:Shared) (Q:VK) (E:XK) (r:Result) (s':Shared):Prop:=
 match r with
 | .ok (.ret u)=>CE outer P w H s Q u s'
 | .ok _=>False
 | .error e=>CX outer H s E e s'
structure FnOk (P:Program) (w:World) (K:PySem.W.Frag) (mg:Str->Option Value) (base:Heap) (CX:CXT) (k:Nat) (f:Addr) (fd:FuncData) (ps:List Str) (sp:Sp):Prop where
 len:∀vs H Q E,sp vs H Q E->vs.length=ps.length
 run:∀(A:Around) (outer:List Env) (s:Shared) (H:Hp) (args:Args) (us:List Value) (vs:List V) (Q:VK) (E:XK),Room k A->Env0 P w K mg base A outer s H->BindsTo s fd args (ps.zip us)->aW vs us->sp vs H Q E->
  codeAny (model P w) A (.call (.ref f) args) (CR CX outer P w H s Q E) s
theorem FnOk.mono {P:Program}{w:World}{K:W.Frag}{mg:Str->Option Value}{base:Heap}{CX:CXT}{j k:Nat}{f:Addr}{fd:FuncData}{ps:List Str}{sp:Sp} (F:FnOk P w K mg base CX j f fd ps sp) (h:j<=k) :
  FnOk P w K mg base CX k f fd ps sp:=⟨F.len,λA outer s H args us vs Q E hr=>F.run A outer s H args us vs Q E (hr.mono h)⟩
theorem FnOk.imp {P:Program}{w:World}{K:W.Frag}{mg:Str->Option Value}{base:Heap}{CX:CXT}{k:Nat}{f:Addr}{fd:FuncData}{ps:List Str}{sp sp':Sp} (F:FnOk P w K mg base CX k f fd ps sp)
  (h:∀vs H Q E,sp' vs H Q E->sp vs H Q E):FnOk P w K mg base CX k f fd ps sp':=
 ⟨λvs H Q E q=>F.len vs H Q E (h _ _ _ _ q),λA outer s H args us vs Q E hr he hb hv hs=>F.run A outer s H args us vs Q E hr he hb hv (h _ _ _ _ hs)⟩
theorem Env0.make {P:Program}{w:World}{K:W.Frag}{mg:Str->Option Value}{base:Heap}{A:Around}{outer:List Env}{s:Shared}{H:Hp} (e:Env0 P w K mg base A outer s H) (C:Addr) (us:List Value) (kw:List (Str × Value)) :
  Env0 P w K mg base (A.under (.builtin "type.__call__" ⟨.ref C::us,kw⟩)) outer s H:=⟨by first | exact e.frames | (simpa [Around.under,Code.envs,Code.isFrame,pushEnvs] using e.frames),e.mod,e.bs,e.bsz,e.funs,e.frf,e.hok,e.bare⟩
section
variable {X:Cx}{pins:List (Addr × Obj)}{σ:St}{H:Hp}{s s':Shared}
theorem Inv.env0 (I:Inv X pins σ H s):Env0 X.prog X.w X.K X.mg X.base X.A X.stack s H:=
 ⟨I.ok.frames,I.ok.mod,I.bs,Nat.le_trans I.ok.bsz I.sz,I.stack,I.stkFree,I.hok,I.bare⟩
theorem Inv.after {Q:VK}{u:Value} (I:Inv X pins σ H s) (h:CE X.stack X.prog X.w H s Q u s'):EP X pins σ Q u s':=by
 obtain⟨v,H',os,bare,un,hok,r,q⟩:=h
 obtain⟨hh,g,d,t,os'⟩:=s'
 obtain rfl:os'=s.os:=os
 exact⟨v,H',I.call (h':=hh) (g':=g) (d':=d) (t':=t) (ch:=[]) un hok bare (λb z=>absurd z (by simp)),r,q⟩
end
noncomputable def kH (sp:Sp) (dvs:List V) (E:XK) (t:TA):TE:=λσ H Q=>t σ H λvs H1=>sp (vs++dvs) H1 Q E
noncomputable def yT (C:Addr) (m:Str) (sp:Sp) (dvs:List V) (E:XK) (ta:TE) (t:TA):TE:=λσ H Q=>ta σ H λx H1=>∃a dx fs,x=.ref a/\H1 a=some (.ins C dx fs)/\fs.lookup m=none/\
 t σ H1 λvs H2=>sp (x::(vs++dvs)) H2 Q E
noncomputable def By (C:Addr) (sp:Sp) (dvs:List V) (E:XK) (t:TA):TE:=λσ H Q=>t σ H λvs H1=>∀x dx,H1 x=none->H1 dx=none->dx≠x->
 sp (.ref x::(vs++dvs)) (upd (upd H1 dx (.own x)) x (.ins C dx [])) (λv H2=>v=.non/\Q (.ref x) H2) E
def bE (K:PySem.W.Frag) (fd:FuncData) (ps:List Str) (ds:List Value):Prop:=
 ∀(s:Shared) (us:List Value),K.In s.heap->(us++ds).length=ps.length->BindsTo s fd ⟨us,[]⟩ (ps.zip (us++ds))
theorem bE.all {K:W.Frag}{fd:FuncData}{ps:List Str} (h:∀us:List Value,us.length=ps.length->bindArgs fd ⟨us,[]⟩=pure (ps.zip us)):bE K fd ps []:=λs us _ hl=>by
 rw [List.append_nil]at hl ⊢
 exact .of_eq (h us hl)
def eC (CX:CXT) (X:Cx) (E:XK):Prop:=∀(pins:List (Addr × Obj)) (σ:St) (H:Hp) (s:Shared) (e:Value) (s':Shared),Inv X pins σ H s->CX X.stack H s E e s'->X.xe e s'
section
variable {X:Cx}{CX:CXT}{k:Nat}{f C:Addr}{fd:FuncData}{ps:List Str}{sp:Sp}{dvs:List V}{ds:List Value}{E:XK}{x m:Str}{p pos apos:Pos}{e o:Expr}{es:List Expr}{ta:TE}{t:TA}
theorem ir {pins:List (Addr × Obj)}{σ:St}{H:Hp}{s:Shared}{Q:VK}{us:List Value}{vs:List V} (F:FnOk X.prog X.w X.K X.mg X.base CX k f fd ps sp) (hr:Room k X.A) (hb:bE X.K fd ps ds) (hd:aW dvs ds) (hx:eC CX X E)
  (I:Inv X pins σ H s) (r:aW vs us) (h:sp (vs++dvs) H Q E):wpAny (model X.prog X.w) X.A (call (.ref f) us) (EP X pins σ Q) X.xe s:=by
 have r2:aW (vs++dvs) (us++ds):=r.append hd
 have hl:(us++ds).length=ps.length:=by rw [<- r2.length];exact F.len _ _ _ _ h
 refine wpAny_call (codeAny_mono (F.run X.A X.stack s H ⟨us,[]⟩ (us++ds) (vs++dvs) Q E hr I.env0 (hb s us I.kIn hl) r2 h) λr s' hq=>?_)
 cases r with
 | error e=>exact hx pins σ H s e s' I hq
 | ok fl=>
  cases fl with
  | ret u=>exact I.after hq
  | next=>exact False.elim hq
  | brk=>exact False.elim hq
  | cont=>exact False.elim hq
theorem av (F:FnOk X.prog X.w X.K X.mg X.base CX k f fd ps sp) (hr:Room k X.A) (hg:Gl X x) (hm:X.mg x=some (.ref f)) (hk:PySem.W.keepIn X.K (.ref f)=true) (hb:bE X.K fd ps ds) (hd:aW dvs ds) (hx:eC CX X E)
  (ha:PA X (e::es) t) (hdb:(x == ("__debug__" : Str))=false:=by decide) (he:starEach (e::es) X.env=(false,eval e X.env)::starEach es X.env:=by rfl) (hpl:(backTo pos (starEach es X.env)).any (·.1)=false:=by rfl) :
  PE X (.Call (.Name x p) (e::es) [] pos) (kH sp dvs E t):=by
 intro pins s σ H Q I h
 refine wpAny_Call_Name_kw (j7 I hg hm ?_ hdb)
 refine PySem.W.callWith_K (h₀:=X.base) I.ok.mod.kin hk (thn (ha pos pins s σ H _ I h) λus s1 ⟨vs,H1,I1,r,q⟩=>⟨I1.kIn,?_⟩) he hpl
 exact ir F hr hb hd hx I1 r q
theorem bF {pl:Sem Bool} (he:PE X o ta) (c:Cls X.K C) (hm:Meth X.K C m f) (F:FnOk X.prog X.w X.K X.mg X.base CX k f fd ps sp) (hr:Room k X.A) (hb:bE X.K fd ps ds) (hd:aW dvs ds) (hx:eC CX X E) (ha:PA X (e::es) t)
  (hst:starEach (e::es) X.env=(false,eval e X.env)::starEach es X.env:=by rfl) (hpl:(backTo pos (starEach es X.env)).any (·.1)=false:=by rfl)
  (ht:eval (.Call (.Attribute o m apos) (e::es) [] pos) X.env=(do
   let ov <- eval o X.env
   standAt apos.atName
   let (f,first) <- holding [ov] (getMethod ov m pl)
   callWith pos f first (backTo pos (starEach (e::es) X.env)) (backToKw pos (keywordEach [] X.env))):=by rfl) :
  PE X (.Call (.Attribute o m apos) (e::es) [] pos) (yT C m sp dvs E ta t):=by
 intro pins s σ H Q I h
 refine PySem.W.methodCall_KW (pl:=pl) (thn (he pins s σ H _ I h) λu s1 ⟨x,H1,I1,rx,a,dx,fs,ex,ea,l,q⟩=>?_) ht
 subst ex
 obtain rfl:u=Value.ref a:=rx
 refine fq I1 ea c hm l ?_
 refine PySem.W.callWith_K (first:=[.ref a]) (h₀:=X.base) I.ok.mod.kin hm.kp (thn (ha pos pins s1 σ H1 _ I1 q) λus s2 ⟨vs,H2,I2,r,q2⟩=>⟨I2.kIn,?_⟩) hst hpl
 exact ir (us:=.ref a::us) (vs:=.ref a::vs) F hr hb hd hx I2 (.cons rfl r) q2
theorem bp {pl:Sem Bool} (he:PE X o ta) (c:Cls X.K C) (hm:Meth X.K C m f) (F:FnOk X.prog X.w X.K X.mg X.base CX k f fd ps sp) (hr:Room k X.A) (hb:bE X.K fd ps ds) (hd:aW dvs ds) (hx:eC CX X E)
  (ht:eval (.Call (.Attribute o m apos) [] [] pos) X.env=(do
   let ov <- eval o X.env
   standAt apos.atName
   let (f,first) <- holding [ov] (getMethod ov m pl)
   callWith pos f first (backTo pos (starEach [] X.env)) (backToKw pos (keywordEach [] X.env))):=by rfl) :
  PE X (.Call (.Attribute o m apos) [] [] pos) (yT C m sp dvs E ta gC):=by
 intro pins s σ H Q I h
 refine PySem.W.methodCall_KW (pl:=pl) (thn (he pins s σ H _ I h) λu s1 ⟨x,H1,I1,rx,a,dx,fs,ex,ea,l,q⟩=>?_) ht
 subst ex
 obtain rfl:u=Value.ref a:=rx
 refine fq I1 ea c hm l ?_
 exact PySem.W.callWith_K0 (first:=[.ref a]) I1.kIn hm.kp (ir (us:=[.ref a]) (vs:=[.ref a]) F hr hb hd hx I1 (.cons rfl .nil) q)
structure Mk (K:PySem.W.Frag) (C f:Addr):Prop where
 makes:PySem.W.makesIn K C=true
 init:‹(K,C,f,"__init__")›
 fn:‹[K,f]›
 kp:PySem.W.keepIn K (.ref C)=true
theorem uW {pins:List (Addr × Obj)}{σ:St}{H:Hp}{s:Shared}{Q:VK}{us:List Value}{vs:List V} (M:Mk X.K C f) (F:FnOk X.prog X.w X.K X.mg X.base CX k f fd ps sp) (hr:Room (k+1) X.A) (hb:bE X.K fd ps ds) (hd:aW dvs ds)
  (hx:eC CX X E) (I:Inv X pins σ H s) (r:aW vs us)
  (h:∀x dx,H x=none->H dx=none->dx≠x->sp (.ref x::(vs++dvs)) (upd (upd H dx (.own x)) x (.ins C dx [])) (λv H2=>v=.non/\Q (.ref x) H2) E) :
  wpAny (model X.prog X.w) X.A (call (.ref C) us) (EP X pins σ Q) X.xe s:=by
 have hq:=h (s.heap.objs.size+1) s.heap.objs.size (I.hok.fresh (Nat.le_succ _)) (I.hok.fresh (Nat.le_refl _)) (Nat.ne_of_lt (Nat.lt_succ_self _))
 have I2:=Inv.made (C:=C) I
 have r2:aW (V.ref (s.heap.objs.size+1)::(vs++dvs)) (Value.ref (s.heap.objs.size+1)::(us++ds)):=.cons rfl (r.append hd)
 have hl:(Value.ref (s.heap.objs.size+1)::us++ds).length=ps.length:=by
  have e:=r2.length
  rw [F.len _ _ _ _ hq]at e
  exact e.symm
 refine wpAny_call (vX (f:=f) I.kIn M.makes M.init (beq_iff_eq.mp M.fn) (codeAny_mono (F.run _ X.stack _ _ ⟨Value.ref (s.heap.objs.size+1)::us,[]⟩ (Value.ref (s.heap.objs.size+1)::(us++ds)) _ _ E (hr.make C us [])
  (I2.env0.make C us []) (hb _ (Value.ref (s.heap.objs.size+1)::us) I2.kIn hl) r2 hq) λr s' hq'=>?_))
 cases r with
 | error e=>exact hx pins σ _ _ e s' I2 hq'
 | ok fl=>
  cases fl with
  | ret u=>
   obtain⟨v,H',I3,rv,ev,q3⟩:=I2.after hq'
   subst ev
   exact⟨rv,⟨V.ref (s.heap.objs.size+1),H',I3,rfl,q3⟩⟩
  | next=>exact False.elim hq'
  | brk=>exact False.elim hq'
  | cont=>exact False.elim hq'
theorem dC (M:Mk X.K C f) (F:FnOk X.prog X.w X.K X.mg X.base CX k f fd ps sp) (hr:Room (k+1) X.A) (hg:Gl X x) (hm:X.mg x=some (.ref C)) (hb:bE X.K fd ps ds) (hd:aW dvs ds) (hx:eC CX X E)
  (ha:PA X (e::es) t) (hdb:(x == ("__debug__" : Str))=false:=by decide) (he:starEach (e::es) X.env=(false,eval e X.env)::starEach es X.env:=by rfl) (hpl:(backTo pos (starEach es X.env)).any (·.1)=false:=by rfl) :
  PE X (.Call (.Name x p) (e::es) [] pos) (By C sp dvs E t):=by
 intro pins s σ H Q I h
 refine wpAny_Call_Name_kw (j7 I hg hm ?_ hdb)
 refine PySem.W.callWith_K (h₀:=X.base) I.ok.mod.kin M.kp (thn (ha pos pins s σ H _ I h) λus s1 ⟨vs,H1,I1,r,q⟩=>⟨I1.kIn,?_⟩) he hpl
 exact uW M F hr hb hd hx I1 r q
end
def PK (X:Cx) (kws:List Keyword) (t:TA):Prop:=
 ∀(pos:Pos) (pins:List (Addr × Obj)) (s:Shared) (σ:St) (H:Hp) (Q:List V->Hp->Prop),Inv X pins σ H s->t σ H Q->wpAny (model X.prog X.w) X.A (evalAll ((backToKw pos (keywordEach kws X.env)).map (·.2))) (AP X pins σ Q) X.xe s
section
variable {X:Cx}{CX:CXT}{k:Nat}{f C:Addr}{fd:FuncData}{ps ks:List Str}{sp:Sp}{E:XK}{x m:Str}{p pos apos kpos:Pos}{e o:Expr}{es:List Expr}{kws:List Keyword}{te ta:TE}{t tk:TA}{nm:Option Str}
theorem vb:PK X [] gC:=λ_ _ _ _ H Q I h=>wpAny_evalAll_nil ⟨[],H,I,.nil,h⟩
theorem qQ (ha:PE X e te) (hr:PK X kws t):PK X (⟨nm,e,kpos⟩::kws) (cq te t):=by
 intro pos pins s σ H Q I h
 show wpAny _ _ (evalAll ((do let v <- eval e X.env;standAt pos;pure v)::(backToKw pos (keywordEach kws X.env)).map (·.2))) _ _ s
 refine wpAny_evalAll_cons (zB0 (thn (ha pins s σ H _ I h) λu s1 ⟨x,H1,I1,r1,q1⟩=>zB0 (wpAny_standAt (zP0 ?_))))
 exact thn (hr pos pins s1 σ H1 _ I1 q1) λus s2 ⟨xs,H2,I2,r2,q2⟩=>⟨x::xs,H2,I2,.cons r1 r2,q2⟩
variable {g:List Value->List Value->List Value}{gV:List V->List V->List V}
end
structure FnScope (N P:List Str) (sc:Scope):Prop where
 kind:sc.kind=.function
 co:sc.isCoroutine=false
 gen:sc.isGenerator=false
 nd:N.Nodup
 pre:N.take P.length=P
 par:∀x∈P,sc.names.lookup x=some .local\/sc.names.lookup x=some .cell
 nofree:∀y∈sc.names,y.2≠.free
theorem ls {kindOf:Str->Option NameKind}{x:Str}:∀{binds:List (Str × Value)}{m:Str->Option Value},(∀v,(x,v)∉binds)->bindL kindOf binds m x=m x
 | [],_,_=>rfl
 | (n,v)::r,m,h=>by
  unfold bindL
  rw [ls λw hw=>h w (List.mem_cons_of_mem _ hw)]
  split
  ·have:x≠n:=by rintro rfl;exact h v List.mem_cons_self
   simp [this]
  ·rfl
theorem lz {kindOf:Str->Option NameKind}{x:Str}:∀{binds:List (Str × Value)}{m:Str->Option Value},(∀v,(x,v)∉binds)->bindC kindOf binds m x=m x
 | [],_,_=>rfl
 | (n,v)::r,m,h=>by
  unfold bindC
  rw [lz λw hw=>h w (List.mem_cons_of_mem _ hw)]
  split
  ·rfl
  ·have:x≠n:=by rintro rfl;exact h v List.mem_cons_self
   simp [this]
theorem ly {kindOf:Str->Option NameKind}{x:Str}{v:Value}:∀{P:List Str}{vs:List Value}{i:Nat}{m:Str->Option Value},P.Nodup->P[i]?=some x->vs[i]?=some v->kindOf x=some .local->
  bindL kindOf (P.zip vs) m x=some v
 | [],_,_,_,_,h,_,_=>by simp at h
 | _::_,[],_,_,_,_,h,_=>by simp at h
 | p::P,w::vs,0,m,nd,h1,h2,hk=>by
  simp at h1 h2;subst h1;subst h2
  show bindL kindOf ((p,w)::P.zip vs) m p=_
  unfold bindL
  rw [ls λv hv=>(List.nodup_cons.mp nd).1 (List.of_mem_zip hv).1,if_pos hk]
  simp
 | p::P,w::vs,i+1,m,nd,h1,h2,hk=>by
  show bindL kindOf ((p,w)::P.zip vs) m x=_
  unfold bindL
  exact ly (i:=i) (List.nodup_cons.mp nd).2 (by simpa using h1) (by simpa using h2) hk
theorem lA {kindOf:Str->Option NameKind}{x:Str}{v:Value}:∀{P:List Str}{vs:List Value}{i:Nat}{m:Str->Option Value},P.Nodup->P[i]?=some x->vs[i]?=some v->kindOf x≠some .local->
  bindC kindOf (P.zip vs) m x=some v
 | [],_,_,_,_,h,_,_=>by simp at h
 | _::_,[],_,_,_,_,h,_=>by simp at h
 | p::P,w::vs,0,m,nd,h1,h2,hk=>by
  simp at h1 h2;subst h1;subst h2
  show bindC kindOf ((p,w)::P.zip vs) m p=_
  unfold bindC
  rw [lz λv hv=>(List.nodup_cons.mp nd).1 (List.of_mem_zip hv).1,if_neg hk]
  simp
 | p::P,w::vs,i+1,m,nd,h1,h2,hk=>by
  show bindC kindOf ((p,w)::P.zip vs) m x=_
  unfold bindC
  exact lA (i:=i) (List.nodup_cons.mp nd).2 (by simpa using h1) (by simpa using h2) hk
noncomputable def cU (N:List Str) (vs:List V):St:=vs.map some++List.replicate (N.length - vs.length) none
noncomputable def jU (CX:CXT) (P:Program) (w:World) (K:PySem.W.Frag) (mg:Str->Option Value) (base:Heap) (N:List Str) (qual:Str) (scope:Scope) (f:Addr) (cd:Value) (A:Around) (outer:List Env) (s:Shared) (H:Hp) (E:XK):Cx where
 prog:=P
 w:=w
 K:=K
 mg:=mg
 base:=base
 A:=A.deeper (envOfC qual scope s.heap.objs.size f cd)
 N:=N
 s₀:=s
 H₀:=H
 env:=envOfC qual scope s.heap.objs.size f cd
 outer:=outer
 stack:=envOfC qual scope s.heap.objs.size f cd::outer
 ex:=[]
 calm:=true
 fn:=λ_=>true
 pn:=[]
 xe:=λe s'=>wpAny (model P w) (A.deeper (envOfC qual scope s.heap.objs.size f cd)) (leaving (envOfC qual scope s.heap.objs.size f cd) e) (λ_ s''=>CX outer H s E e s'') (λe' s''=>CX outer H s E e' s'') s'
theorem oH {sc:Scope}{n:Nat}{x:Str} (h:sc.names.lookup x=some .cell):∃c,(cellsFrom n sc.names []).lookup x=some c:=by
 have q:=PySem.W.cellsFrom_some sc.names n [] (.inl h)
 exact Option.isSome_iff_exists.mp q
theorem lb {CX:CXT}{P:Program}{w:World}{K:W.Frag}{mg:Str->Option Value}{base:Heap}{N ps:List Str}{qual:Str}{scope:Scope}{f:Addr}{cd:Value}{A:Around}{outer:List Env}{s s1:Shared}{H:Hp}{E:XK}{us:List Value}{vs:List V}
  (S:FnScope N ps scope) (hd:A.handled=none) (e0:Env0 P w K mg base A outer s H) (hl:vs.length=ps.length) (r:aW vs us)
  (x:InCallC s s.heap.objs.size (bindL (envOfC qual scope s.heap.objs.size f cd).kindOf (ps.zip us) λ_=>none) (cellsFrom (s.heap.objs.size+1) scope.names []) (bindC (envOfC qual scope s.heap.objs.size f cd).kindOf (ps.zip us) λ_=>none) s1) :
  Inv (jU CX P w K mg base N qual scope f cd A outer s H E) [] (cU N vs) H s1:=by
 have hpl:ps.length<=N.length:=by have:=congrArg List.length S.pre;rw [List.length_take]at this;omega
 obtain⟨h1,tk,rfl,hk⟩:=x.done
 have noA:∀b:Addr,b∉(jU CX P w K mg base N qual scope f cd A outer s H E).ex:=λb z=>absurd (show b∈([]:List Addr) from z) (by simp)
 refine⟨⟨e0.mod,S.kind,rfl,rfl,Nat.le_refl _,λy z c h1 h2=>?_,λy hy=>?_,λy c _ h=>?_,λ_=>hd,Around.frames_deeper e0.frames,.inr ⟨rfl,rfl⟩,λb z=>absurd z (noA b),e0.bs,e0.bsz,λb _ _=>noA b,λb z=>absurd z (noA b),e0.funs,e0.frf⟩,
  rfl,e0.bare,Un.kept hk,⟨_,x.toInCall.ns,λi y v h1 h2 h3=>?_⟩,λy c h=>⟨_,x.cell y c h⟩,e0.hok.fresh (Nat.le_refl _),λy c h=>?_,λp hp=>absurd (show p∈([]:List (Addr × Obj)) from hp) (by simp),e0.hok.kept hk,?_⟩
 ·exact name_of_addr x.apart (PySem.mem_of_lookup h1) (PySem.mem_of_lookup h2)
 ·have hy:scope.names.lookup y=some .cell\/scope.names.lookup y=some .free:=hy
  rcases hy with hy | hy
  ·exact oH hy
  ·exact absurd rfl (S.nofree _ (PySem.mem_of_lookup hy))
 ·exact Nat.le_of_lt (x.above y c (PySem.mem_of_lookup h))
 ·have hi:i < vs.length:=by
   unfold cU at h2
   by_cases hi:i < vs.length
   ·exact hi
   ·rw [List.getElem?_append_right (by simpa using hi)]at h2
    rw [List.getElem?_replicate]at h2
    split at h2 <;> cases h2
  have ha:vs[i]?=some v:=by
   unfold cU at h2
   rw [List.getElem?_append_left (by simpa using hi),List.getElem?_map]at h2
   cases e:vs[i]? with
   | none=>rw [e]at h2;cases h2
   | some a=>rw [e]at h2;cases h2;rfl
  obtain⟨u,hu,rv⟩:=r.get ha
  have hp:ps[i]?=some y:=by
   rw [<- S.pre,List.getElem?_take_of_lt ‹1›];exact h1
  have ndP:ps.Nodup:=by rw [<- S.pre];exact S.nd.sublist (List.take_sublist _ _)
  refine⟨u,rv,?_⟩
  rcases S.par y (List.mem_of_getElem? hp) with k | k
  ·exact .inl ⟨k,ly ndP hp hu k⟩
  ·obtain⟨c,e⟩:=oH (n:=s.heap.objs.size+1) k
   refine .inr ⟨.inl k,c,e,?_⟩
   have q:=x.cell y c e
   rw [lA ndP hp hu (by show scope.names.lookup y≠_;rw [k];decide)]at q
   exact q
 ·exact e0.hok.fresh (Nat.le_of_lt (x.above y c (PySem.mem_of_lookup h)))
 ·unfold cU
  show _=N.length
  rw [List.length_append,List.length_map,List.length_replicate]
  omega
theorem C2 {CX:CXT}{P:Program}{w:World}{K:W.Frag}{mg:Str->Option Value}{base:Heap}{k:Nat}{f:Addr}{name qual:Str}{params:Arguments}{body:List Stmt}{scope:Scope}{dV kV doc pm cdv ct oc:Value}{an od:Option Addr}
  {osl:Array (Option Value)}{N ps:List Str}{sp:Sp} (lk:K.lookup f=some ⟨oc,od,.func (PySem.W.fnOf name qual params body scope dV kV doc pm an cdv ct),osl⟩) (hcd:PySem.W.codeIn K cdv qual=true) (S:FnScope N ps scope)
  (len:∀vs H Q E,sp vs H Q E->vs.length=ps.length)
  (hbody:∀(A:Around) (outer:List Env) (s:Shared) (H:Hp) (vs:List V) (Q:VK) (E:XK),Room k (A.deeper (envOfC qual scope s.heap.objs.size f cdv))->sp vs H Q E->
   ∃t,PSs (jU CX P w K mg base N qual scope f cdv A outer s H E) body t/\t { nx:=λ_ H'=>Q .non H',rt:=Q } (cU N vs) H) :
  FnOk P w K mg base CX (k+1) f (PySem.W.fnOf name qual params body scope dV kV doc pm an cdv ct) ps sp:=by
 refine⟨len,λA outer s H args us vs Q E hr e0 hb r hsp=>?_⟩
 have hl:=len _ _ _ _ hsp
 have KX:K.In s.heap:=e0.mod.kin.keeps λb o e=>(e0.bs b o e).1
 have lim:s.heap.NoLimit:=e0.mod.nolimit.keeps λb o e=>(e0.bs b o e).1
 have hkind:∀y∈ps.zip us,scope.names.lookup y.1=some .local\/(scope.names.lookup y.1=some .cell/\((cellsFrom (s.heap.objs.size+1) scope.names []).lookup y.1).isSome=true):=λ⟨n,v⟩ hy=>by
  rcases S.par n (List.of_mem_zip hy).1 with q | q
  ·exact .inl q
  ·exact .inr ⟨q,PySem.W.cellsFrom_some _ _ _ (.inl q)⟩
 refine codeAny_call_function hr.depth (KX _ _ lk) rfl S.co S.gen rfl (PySem.W.codeRec_of KX hcd) (hb _ _ _ _ ?_)
 refine wpAny_newFunctionEnv_cells S.kind hkind λenv he s1 x=>?_
 subst he
 refine⟨lim.keeps x.toInCall.keep,codeAny_func ?_⟩
 obtain⟨t,ht,hq⟩:=hbody A outer s H vs Q E (hr.deeper _) hsp
 have I:Inv (jU CX P w K mg base N qual scope f cdv A outer s H E) [] (cU N vs) H s1:=lb S hr.hd e0 hl r x
 refine wpAny_mono (ht [] s1 (cU N vs) H _ I hq) (λfl s' hs=>?_) λe s' hs=>hs
 have fin:∀{σ':St}{H':Hp}{v:V}{u:Value},Inv (jU CX P w K mg base N qual scope f cdv A outer s H E) [] σ' H' s'->b8 v u->Q v H'->CE outer P w H s Q u s':=
  λ{σ' H' v u} J rv q=>⟨v,H',J.os,J.bare,J.base,J.hok,rv,q⟩
 cases fl with
 | ret u=>
  obtain⟨v,σ',H',J,rv,q⟩:=hs
  exact fin J rv q
 | next=>
  obtain⟨σ',H',J,q⟩:=hs
  exact fin (v:=V.non) (u:=Value.none) J rfl q
 | brk=>
  obtain⟨_,_,_,q⟩:=hs
  exact False.elim q
 | cont=>
  obtain⟨_,_,_,q⟩:=hs
  exact False.elim q
section
variable {X:Cx}{x:Str}{p pos:Pos}{e:Expr}{es:List Expr}{t:TA}{id T:String}{r:List V->Hp->VK->Prop}
noncomputable def tCB (r:List V->Hp->VK->Prop) (t:TA):TE:=λσ H Q=>t σ H λvs H1=>r vs H1 Q
theorem aG (hc:cW X (.builtin id) r) (hg:Gl X x) (hm:X.mg x=none) (hv:bootBuiltins x=some (.builtin id)) (ha:PA X (e::es) t) (hn:x≠"__name__":=by decide) (hdb:(x == ("__debug__" : Str))=false:=by decide)
  (he:starEach (e::es) X.env=(false,eval e X.env)::starEach es X.env:=by rfl) (hpl:(backTo pos (starEach es X.env)).any (·.1)=false:=by rfl):PE X (.Call (.Name x p) (e::es) [] pos) (tCB r t):=by
 intro pins s σ H Q I h
 refine wpAny_Call_Name_kw (fW I hg hm hv ?_ hn hdb)
 exact PyProof.Rows.callWith_builtin1 (thn (ha pos pins s σ H _ I h) λus s1 ⟨vs,H1,I1,r1,q1⟩=>hc pins s1 σ H1 vs us Q I1 r1 q1) he hpl
theorem aX (hc:cW X (.type T) r) (hg:Gl X x) (hm:X.mg x=none) (hv:bootBuiltins x=some (.type T)) (ha:PA X (e::es) t) (hn:x≠"__name__":=by decide) (hdb:(x == ("__debug__" : Str))=false:=by decide)
  (he:starEach (e::es) X.env=(false,eval e X.env)::starEach es X.env:=by rfl) (hpl:(backTo pos (starEach es X.env)).any (·.1)=false:=by rfl):PE X (.Call (.Name x p) (e::es) [] pos) (tCB r t):=by
 intro pins s σ H Q I h
 refine wpAny_Call_Name_kw (fW I hg hm hv ?_ hn hdb)
 exact PyProof.Rows.callWith_type1 (thn (ha pos pins s σ H _ I h) λus s1 ⟨vs,H1,I1,r1,q1⟩=>hc pins s1 σ H1 vs us Q I1 r1 q1) he hpl
end
end L2
local macro_rules|`(tactic|walk_at "d")=>`(tactic|dsimp only [L2.az,List.set_cons_zero,List.set_cons_succ])
namespace HT
open PySem PyProof.Rows
section
open PySem.SeqAt
open PySem.AutoSeq1 (wpAny_loadPart')
open PySem.MeetsSeq PySem.MeetsSeq2 PySem.MeetsSeq3
end
section
variable {prog:Program}{w:World}{A:Around}{E:Value->Shared->Prop}{s:Shared}
noncomputable def sIx (n d:Nat):Option Int->Nat
 | none=>d
 | some v=>if v < 0 then (v+(n:Int)).toNat else min v.toNat n
theorem sIx_nat (n d k:Nat):sIx n d (some (k:Int))=min k n:=by
 show (if (k:Int) < 0 then ((k:Int)+(n:Int)).toNat else min (k:Int).toNat n)=min k n
 rw [if_neg ‹1›,Int.toNat_natCast]
theorem Ai (n d:Nat) (hd:d<=n) (o:Option Int):sIx n d o<=n:=by
 cases o with
 | none=>exact hd
 | some v=>
  show (if v < 0 then (v+(n:Int)).toNat else min v.toNat n)<=n
  by_cases hv:v < 0
  ·rw [if_pos hv];omega
  ·rw [if_neg hv];exact Nat.min_le_right _ _
theorem rD (v:Int) (n d:Nat):(if v < 0 then max (v+(n:Int)) 0 else min v (n:Int))=((sIx n d (some v):Nat):Int):=by
 show (if v < 0 then max (v+(n:Int)) 0 else min v (n:Int))=(((if v < 0 then (v+(n:Int)).toNat else min v.toNat n):Nat):Int)
 by_cases hv:v < 0
 ·simp only [if_pos hv];omega
 ·simp only [if_neg hv];omega
theorem qv (lo hi:Option Int) (n:Nat):Builtin.Slice.sliceAdjust lo hi 1 (n:Int)=(((sIx n 0 lo:Nat):Int),((sIx n n hi:Nat):Int)):=by
 have h1:¬((1:Int) < 0):=by omega
 unfold Builtin.Slice.sliceAdjust
 simp only [h1,if_false]
 refine Prod.ext ?_ ?_
 ·cases lo with
  | none=>rfl
  | some v=>exact rD v n 0
 ·cases hi with
  | none=>rfl
  | some v=>exact rD v n n
theorem pT (i j:Nat):Builtin.Slice.slicePlaces (i:Int) (j:Int) 1=j - i:=by
 unfold Builtin.Slice.slicePlaces
 have h1:(1:Int) > 0:=by omega
 simp only [h1,if_true,Int.ediv_one]
 split <;> omega
theorem js {v:Value}{o:Option Int}{Q:Option Int->Shared->Prop} (p:IsPart v o) (h:Q o s):wpAny (model prog w) A (Builtin.Slice.slicePartIndex v) Q E s:=by
 cases p with
 | none=>exact slicePart_none h
 | int i t=>exact slicePart_int h
theorem io {sl:Addr}{vl vu:Value}{lo hi:Option Int}{n:Nat}{Q:Int × Int × Nat->Shared->Prop} (hs:s.heap.IsSliceOf sl vl vu .none) (pl:IsPart vl lo) (pu:IsPart vu hi)
  (h:Q (((sIx n 0 lo:Nat):Int),1,sIx n n hi - sIx n 0 lo) s):wpAny (model prog w) A (Builtin.Slice.sliceApplied (.ref sl) (pure (n:Int))) Q E s:=by
 obtain⟨os,hos,hcs,hds⟩:=id hs
 unfold Builtin.Slice.sliceApplied Builtin.Slice.sliceFields
 refine zB0 (zB0 (wpAny_field hos hds (x:=vl) rfl (zB0 (wpAny_field hos hds (x:=vu) rfl (zB0 (wpAny_field hos hds (x:=.none) rfl (zP0 ?_)))))))
 refine zB0 (slicePart_none ?_)
 show wpAny _ _ (if ((1:Int) == 0)=true then _ else _) _ _ s
 rw [if_neg (by decide)]
 refine zB0 (js pl (zB0 (js pu (zB0 (zP0 ?_)))))
 show wpAny _ _ (match Builtin.Slice.sliceAdjust lo hi 1 (n:Int) with | (lo,hi)=>pure (lo,(1:Int),Builtin.Slice.slicePlaces lo hi 1)) _ _ s
 rw [qv lo hi n]
 show wpAny _ _ (pure (((sIx n 0 lo:Nat):Int),(1:Int),Builtin.Slice.slicePlaces ((sIx n 0 lo:Nat):Int) ((sIx n n hi:Nat):Int) 1)) _ _ s
 rw [pT]
 exact zP0 h
theorem vd (xs:Array Value) (i k:Nat):((List.range k).filterMap λ(m:Nat)=>xs[((i:Int)+(m:Int) * 1).toNat]?).toArray=((xs.toList.drop i).take k).toArray:=by
 have e:(λ(m:Nat)=>xs[((i:Int)+(m:Int) * 1).toNat]?)=λm=>xs[i+m]?:=by
  funext m
  have:((i:Int)+(m:Int) * 1).toNat=i+m:=by omega
  rw [this]
 rw [e]
 have:=pick_run xs i k
 rw [List.filterMap_map]at this
 have e2:((λx=>xs[x]?) ∘ λx=>i+x)=λm=>xs[i+m]?:=rfl
 rw [e2]at this
 rw [this]
theorem getItem_tuple_cut {t sl:Addr}{items:Array Value}{vl vu:Value}{lo hi:Option Int}{Q:Value->Shared->Prop} (ht:IsTup s.heap t items) (hs:s.heap.IsSliceOf sl vl vu .none) (pl:IsPart vl lo) (pu:IsPart vu hi)
  (hw:¬(sIx items.size 0 lo=0/\sIx items.size items.size hi=items.size))
  (h:Q (.ref s.heap.objs.size) { s with heap:=s.heap.push { cls:=.type "tuple", data:=.seq ((items.toList.drop (sIx items.size 0 lo)).take (sIx items.size items.size hi - sIx items.size 0 lo)).toArray } })
  (hsz:items.size<=sizeLine):wpAny (model prog w) A (getItem (.ref t) (.ref sl)) Q E s:=by
 have htake:sizeOk (.seq ((items.toList.drop (sIx items.size 0 lo)).take (sIx items.size items.size hi - sIx items.size 0 lo)).toArray):=by
  show ((items.toList.drop (sIx items.size 0 lo)).take (sIx items.size items.size hi - sIx items.size 0 lo)).toArray.size<=sizeLine
  rw [List.size_toArray,List.length_take,List.length_drop,Array.length_toList]
  omega
 have hj:sIx items.size items.size hi<=items.size:=Ai _ _ (Nat.le_refl _) hi
 obtain⟨os,hos,hcs,hds⟩:=id hs
 have hTs:s.TypeIs (.ref sl) "slice":=⟨os,hos,hcs⟩
 unfold getItem
 try with_reducible refine wpAny_holding ?_
 first | refine zB0 (zP0 ?_) | skip
 refine zB0 (wpAny_sequenceKey ht.typeIs (by decide) ?_)
 refine zB0 (wpAny_callSpecial?_slot (name:=‹"__getitem__"›) ht.typeIs PyProof.Rows.slot_tuple_getitem
  (wpAny_call_entry PyProof.Rows.slot_tuple_getitem ht.typeIs entry_tuple_getitem ?_ (args_tuple_getitem _ _)))
 show wpAny _ _ (Builtin.Tuple.tupleItemsOf (.ref t) >>= _) _ _ s
 refine zB0 (tupleItemsOf_ ht ?_)
 refine zB0 (wpAny_typeOf hTs ?_)
 rw [if_pos (by decide)]
 refine zB0 (io hs pl pu ?_)
 have hno:¬((((sIx items.size 0 lo:Nat):Int) == 0 && (1:Int) == 1 && (sIx items.size items.size hi - sIx items.size 0 lo) == items.size)=true):=by
  intro q
  rw [Bool.and_eq_true,Bool.and_eq_true]at q
  have q1:((sIx items.size 0 lo:Nat):Int)=0:=eq_of_beq q.1.1
  have q2:sIx items.size items.size hi - sIx items.size 0 lo=items.size:=eq_of_beq q.2
  exact hw ⟨by omega,by omega⟩
 show wpAny _ _ (if (((sIx items.size 0 lo:Nat):Int) == 0 && (1:Int) == 1 && (sIx items.size items.size hi - sIx items.size 0 lo) == items.size)=true then _ else _) _ _ s
 rw [if_neg hno,vd]
 first
  | exact zB0 (m:=Builtin.Tuple.tupleExact _) (wpAny_newObj_type (zP0 ⟨_,rfl,zP0 h⟩) htake)
  | exact zB0 (m:=Builtin.Tuple.tupleExact _) (wpAny_newObj_type (zB0 (zP0 (zP0 ⟨_,rfl,zP0 h⟩))) htake)
  | exact zB0 (zB0 (m:=Builtin.Tuple.tupleExact _) (wpAny_newObj_type (zP0 (zP0 ⟨_,rfl,zP0 h⟩)) htake))
  | exact zB0 (zB0 (m:=Builtin.Tuple.tupleExact _) (wpAny_newObj_type (zP0 ⟨_,rfl,zP0 h⟩) htake))
end
end HT
namespace L2
open PySem PySem.Spec PyProof.Rows
noncomputable abbrev TO:=St->Hp->(Option Int->Hp->Prop)->Prop
def PO (X:Cx) (e:Option Expr) (t:TO):Prop:=
 ∀(pins:List (Addr × Obj)) (s:Shared) (σ:St) (H:Hp) (Q:Option Int->Hp->Prop),Inv X pins σ H s->t σ H Q->
  wpAny (model X.prog X.w) X.A (evalPart e X.env) (λu s'=>∃o H',Inv X pins σ H' s'/\IsPart u o/\Q o H') X.xe s
noncomputable def xl:TO:=λ_ H Q=>Q none H
noncomputable def Bv (t:TE):TO:=λσ H Q=>t σ H λx H1=>∃i,x=.int i/\Q (some i) H1
section
variable {X:Cx}{e:Expr}{te:TE}{lo hi:Option Expr}{tl th:TO}{pos p2:Pos}
theorem gj:PO X none xl:=by
 intro pins s σ H Q I h
 rw [evalPart_none]
 exact zP0 ⟨none,H,I,.none,h⟩
theorem gi (h:PE X e te):PO X (some e) (Bv te):=by
 intro pins s σ H Q I hw
 rw [evalPart_some]
 refine thn (h pins s σ H _ I hw) λu s1 ⟨x,H1,I1,r1,q1⟩=>?_
 obtain⟨i,rfl,q⟩:=q1
 obtain⟨t,rfl⟩:=r1
 exact⟨some i,H1,I1,.int i t,q⟩
def SlR (X:Cx) (r:V->Option Int->Option Int->Hp->VK->Prop):Prop:=
 ∀(pins:List (Addr × Obj)) (s:Shared) (σ:St) (H:Hp) (x:V) (v vl vu:Value) (lo hi:Option Int) (sl:Addr) (Q:VK),Inv X pins σ H s->b8 x v->s.heap.IsSliceOf sl vl vu .none->IsPart vl lo->IsPart vu hi->r x lo hi H Q->
  ∃T id,typeLookup (.type T) "__getitem__" = pure (some (.builtin id))/\s.TypeIs v T/\wpAny (model X.prog X.w) X.A (getItem v (.ref sl)) (EP X pins σ Q) X.xe s
noncomputable def tSl (r:V->Option Int->Option Int->Hp->VK->Prop) (te:TE) (tl th:TO):TE:=λσ H Q=>te σ H λx H1=>tl σ H1 λl H2=>th σ H2 λu H3=>r x l u H3 Q
theorem eW {r:V->Option Int->Option Int->Hp->VK->Prop} (hr:SlR X r) (he:PE X e te) (hl:PO X lo tl) (hu:PO X hi th):PE X (.Subscript e (.Slice lo hi none p2) pos) (tSl r te tl th):=by
 intro pins s σ H Q I h
 refine Subscript_ (thn (he pins s σ H _ I h) λv s1 ⟨x,H1,I1,r1,q1⟩=>?_)
 refine wpAny_Slice (thn (hl pins s1 σ H1 _ I1 q1) λvl s2 ⟨l,H2,I2,pl,q2⟩=>thn (hu pins s2 σ H2 _ I2 q2) λvu s3 ⟨u,H3,I3,pu,q3⟩=>?_)
 rw [evalPart_none]
 refine zP0 ?_
 have I4:Inv X pins σ H3 { s3 with heap:=s3.heap.push { cls:=.type "slice", data:=.fields #[vl,vu,.none] } }:=I3.kept (t':=s3.toks) λb ob q=>zH0 _ q
 obtain⟨T,id,hT,ht,hg⟩:=hr pins { s3 with heap:=s3.heap.push { cls:=.type "slice", data:=.fields #[vl,vu,.none] } } σ H3 x v vl vu l u s3.heap.objs.size Q I4 r1 (Heap.IsSliceOf.new ..) pl pu q3
 show wpAny (model X.prog X.w) X.A (subscriptTail e (.Slice lo hi none p2) v (.ref s3.heap.objs.size)) (EP X pins σ Q) X.xe { s3 with heap:=s3.heap.push { cls:=.type "slice", data:=.fields #[vl,vu,.none] } }
 exact tail_any (ops:=[.ref s3.heap.objs.size,v]) ht hT hg (by with_unfolding_all rfl)
noncomputable def dZ (xs:List V) (lo hi:Option Int):List V:=(xs.drop (HT.sIx xs.length 0 lo)).take (HT.sIx xs.length xs.length hi - HT.sIx xs.length 0 lo)
theorem eL (xs:List V) (lo hi:Option Int):(dZ xs lo hi).length<=xs.length:=by
 unfold dZ
 rw [List.length_take,List.length_drop]
 omega
noncomputable def Cw (K:PySem.W.Frag):V->Option Int->Option Int->Hp->VK->Prop:=λx lo hi H Q=>∃a xs,x=.ref a/\SqT K H a xs/\
 ¬(HT.sIx xs.length 0 lo=0/\HT.sIx xs.length xs.length hi=xs.length)/\∀p,H p=none->Q (.ref p) (upd H p (.tup (dZ xs lo hi)))
theorem zX:SlR X (Cw X.K):=by
 intro pins s σ H x v vl vu lo hi sl Q I rx hs pl pu h
 obtain⟨a,xs,rfl,hx,hw,q⟩:=h
 cases rx
 obtain⟨its,r,ht,hz⟩:=I.tuple hx
 have hlen:its.toArray.size=xs.length:=by rw [List.size_toArray];exact r.length.symm
 refine⟨"tuple", _,PyProof.Rows.slot_tuple_getitem.lookup,ht.typeIs,?_⟩
 refine HT.getItem_tuple_cut ht hs pl pu (by rw [hlen];exact hw) ?_ (by rw [hlen];exact hz)
 rw [hlen]
 refine⟨.ref s.heap.objs.size,_,I.laid (t':=s.toks) (o:=.tup (dZ xs lo hi)) (λb ob q=>zH0 _ q) (Nat.le_refl _) ?_,rfl,q _ (I.hok.fresh (Nat.le_refl _))⟩
 exact⟨Nat.le_trans (eL xs lo hi) hz,_,(r.drop (HT.sIx xs.length 0 lo)).take (HT.sIx xs.length xs.length hi - HT.sIx xs.length 0 lo),IsTup.new _ _⟩
end
noncomputable def ixN (n:Nat) (i:Int):Option Nat:=if 0<=i then (if i < n then some i.toNat else none) else if -(n:Int)<=i then some (i+n).toNat else none
noncomputable def atI {α:Type} (xs:List α) (i:Int):Option α:=(ixN xs.length i).bind λj=>xs[j]?
theorem rf {n:Nat}{i:Int}{j:Nat} (h:ixN n i=some j):seqIndex? i n=some j/\j < n/\-(n:Int)<=i/\i < n:=by
 unfold ixN at h
 by_cases h0:0<=i
 ·rw [if_pos h0]at h
  by_cases h1:i < n
  ·rw [if_pos h1]at h
   have e:i.toNat=j:=Option.some.inj h
   exact⟨by rw [seqIndex_of h0 h1,e],by omega,by omega,h1⟩
  ·rw [if_neg h1]at h;cases h
 ·rw [if_neg h0]at h
  by_cases h1 : -(n:Int)<=i
  ·rw [if_pos h1]at h
   have e:(i+n).toNat=j:=Option.some.inj h
   exact⟨by rw [seqIndex_neg ‹1› h1,e],by omega,h1,by omega⟩
  ·rw [if_neg h1]at h;cases h
theorem mR {α:Type}{xs:List α}{i:Int}{v:α} (h:atI xs i=some v):∃j,seqIndex? i xs.length=some j/\xs[j]?=some v/\j < xs.length/\-(xs.length:Int)<=i/\i < xs.length:=by
 unfold atI at h
 cases e:ixN xs.length i with
 | none=>rw [e]at h;cases h
 | some j=>
  rw [e]at h
  obtain⟨h1,h2,h3,h4⟩:=rf e
  exact⟨j,h1,h,h2,h3,h4⟩
theorem dH {α:Type}{xs:List α}{j:Nat}{v:α} (h:xs[j]?=some v):atI xs (j:Int)=some v:=by
 have hj:j < xs.length:=(List.getElem?_eq_some_iff.mp h).1
 have e:ixN xs.length (j:Int)=some j:=by
  unfold ixN
  rw [if_pos ‹1›,if_pos ‹1›];simp
 unfold atI;rw [e];exact h
def yL (b:Expr):Prop:=∀o i,subscripted b false o i=operate [o,i] (getItem o i)
def IxR (X:Cx) (r:R2):Prop:=
 ∀(value slice:Expr) (pins:List (Addr × Obj)) (s:Shared) (σ:St) (H:Hp) (x y:V) (v u:Value) (Q:VK),Inv X pins σ H s->b8 x v->b8 y u->r x y H Q->
  subscripted slice false v u=operate [v,u] (getItem v u)->wpAny (model X.prog X.w) X.A (subscriptTail value slice v u) (EP X pins σ Q) X.xe s
def MtR (X:Cx) (id:String) (r:V->List V->Hp->VK->Prop):Prop:=
 ∀(pins:List (Addr × Obj)) (s:Shared) (σ:St) (H:Hp) (x:V) (xs:List V) (v:Value) (us:List Value) (Q:VK),Inv X pins σ H s->b8 x v->aW xs us->r x xs H Q->
  wpAny (model X.prog X.w) X.A (call (.builtin id) (v::us)) (EP X pins σ Q) X.xe s
section
variable {X:Cx}{a b:Expr}{ta tb:TE}{pos:Pos}
theorem aU {r:R2} (hr:IxR X r) (ha:PE X a ta) (hb:PE X b tb) (hs:yL b):PE X (.Subscript a b pos) (tOp r ta tb):=by
 intro pins s σ H Q I h
 exact Subscript_ (Bq ha hb I h λv u s2 x y H2 I2 rx ry q=>hr a b pins s2 σ H2 x y v u Q I2 rx ry q (hs _ _))
inductive xO (K:PySem.W.Frag) (x:V) (y:V) (H:Hp) (Q:VK):Prop
 | mk (p xs i v) (h1:x=.ref p) (h2:y=.int i) (h3:SqL K H p xs) (h4:atI xs i=some v) (h5:Q v H):xO K x y H Q
inductive BM (K:PySem.W.Frag) (x:V) (y:V) (H:Hp) (Q:VK):Prop
 | mk (p xs i v) (h1:x=.ref p) (h2:y=.int i) (h3:SqT K H p xs) (h4:atI xs i=some v) (h5:Q v H):BM K x y H Q
inductive BO (x:V) (y:V) (H:Hp) (Q:VK):Prop
 | mk (z i c) (h1:x=.str z) (h2:y=.int i) (h3:z.length<=sizeLine) (h4:atI z.cps.toList i=some c) (h5:Q (.str ⟨#[c]⟩) H):BO x y H Q
theorem aO:IxR X (xO X.K):=by
 intro value slice pins s σ H x y v u Q I rx ry h hs
 obtain⟨p,xs,i,z,rfl,rfl,hq,he,q⟩:=h
 cases rx
 obtain⟨t,rfl⟩:=ry
 obtain⟨its,r,pl,hz⟩:=I.list hq
 obtain⟨j,h1,h2,h3,h4,h5⟩:=mR he
 obtain⟨w,ew,rw'⟩:=r.get h2
 have hl:=r.length
 have hn:=iz
 have fin:EP X pins σ Q w s:=⟨z,H,I,rw',q⟩
 by_cases h0:0<=i
 ·have hj:i.toNat=j:=by
   rw [seqIndex_of h0 h5]at h1
   exact Option.some.inj h1
  exact item_listR pl.isList h0 ‹1› (by rw [hj];simpa using ew) fin hs
 ·have hj:(i+(its.toArray.size:Int)).toNat=j:=by
   rw [seqIndex_neg ‹1› h4]at h1
   rw [List.size_toArray,<- hl]
   exact Option.some.inj h1
  exact subscriptTail_builtinR (x:=w) pl.isList.typeIs slot_list_getitem.lookup
   (wpAny_getItem_list_neg (Q:=λr s'=>r=w/\EP X pins σ Q r s') pl.isList ‹1› (by rw [List.size_toArray] <;> omega) ‹1› (by rw [hj];simpa using ew) ⟨rfl,fin⟩) hs
theorem de:IxR X (BM X.K):=by
 intro value slice pins s σ H x y v u Q I rx ry h hs
 obtain⟨p,xs,i,z,rfl,rfl,hq,he,q⟩:=h
 cases rx
 obtain⟨t,rfl⟩:=ry
 obtain⟨its,r,pl,hz⟩:=I.tuple hq
 obtain⟨j,h1,h2,h3,h4,h5⟩:=mR he
 obtain⟨w,ew,rw'⟩:=r.get h2
 have hl:=r.length
 have hn:=iz
 have fin:EP X pins σ Q w s:=⟨z,H,I,rw',q⟩
 exact subscriptTail_builtinR (x:=w) pl.typeIs slot_tuple_getitem.lookup
  (getItem_tuple (j:=j) (Q:=λr s'=>r=w/\EP X pins σ Q r s') pl ‹1› ‹1› (by rw [List.size_toArray,<- hl];exact h1) (by simpa using ew) ⟨rfl,fin⟩) hs
theorem B2:IxR X BO:=by
 intro value slice pins s σ H x y v u Q I rx ry h hs
 obtain⟨z,i,c,rfl,rfl,hz,he,q⟩:=h
 obtain⟨t,rfl⟩:=rx
 obtain⟨t',rfl⟩:=ry
 obtain⟨j,h1,h2,h3,h4,h5⟩:=mR he
 have hl:z.cps.toList.length=z.length:=by simp [Str.length]
 rw [hl]at h1 h4 h5
 have hn:=iz
 exact tail_any (typeIs_str s z t) slot_str_getitem.lookup (getItem_str (c:=c) (by
  have e1:decide (i < -(2 ^ 63:Int))=false:=decide_eq_false ‹1›
  have e2:decide (i>=2 ^ 63)=false:=decide_eq_false ‹1›
  rw [e1,e2,Bool.or_false]) (by rw [h1];simpa using h2) ⟨.str ⟨#[c]⟩,H,I.tok _,⟨_,rfl⟩,q⟩) hs
theorem qb (its:List Value) (n j:Nat) (u:Value):Obj.mapSeq (·.setIfInBounds j u) { cls:=.type "list", data:=.seq its.toArray n }={ cls:=.type "list", data:=.seq (its.set j u).toArray n }:=by
 simp [Obj.mapSeq]
theorem Inv.lst {pins:List (Addr × Obj)}{σ:St}{H:Hp}{s:Shared}{p:Addr}{xs:List V} (I:Inv X pins σ H s) (h:H p=some (.lst xs)) :
  ∃(its:List Value) (n:Nat),aW xs its/\s.heap.get? p=some { cls:=.type "list", data:=.seq its.toArray n }/\xs.length<=sizeLine:=by
 obtain⟨z,its,n,r,e⟩:=I.hok p _ h
 exact⟨its,n,r,e,z⟩
theorem Inv.lstUpd {pins:List (Addr × Obj)}{σ:St}{H:Hp}{s:Shared}{p:Addr}{xs ys:List V}{its its':List Value}{n n':Nat}{f:Obj->Obj} (I:Inv X pins σ H s) (h:H p=some (.lst xs))
  (ho:s.heap.get? p=some { cls:=.type "list", data:=.seq its.toArray n }) (hf:f { cls:=.type "list", data:=.seq its.toArray n }={ cls:=.type "list", data:=.seq its'.toArray n' }) (r:aW ys its') (hz:ys.length<=sizeLine) (t:Nat) :
  Inv X pins σ (upd H p (.lst ys)) { s with heap:=s.heap.update p f,toks:=t }:=by
 have e:(s.heap.update p f).get? p=some { cls:=.type "list", data:=.seq its'.toArray n' }:=by
  rw [Heap.get?_update_self f ho (by rw [hf] <;> rfl),hf]
 refine I.write (x:=p) (e:=p) (by rw [h];trivial) (.inl rfl) (λb u hb q=>(Heap.get?_update_other _ _ (Ne.symm hb)).trans q) ⟨_,e⟩ ?_
 exact⟨hz,its',n',r,e⟩
noncomputable def BL:V->V->V->Hp->(Hp->Prop)->Prop:=λo i v H Q=>∃p xs k j,o=.ref p/\i=.int k/\H p=some (.lst xs)/\ixN xs.length k=some j/\Q (upd H p (.lst (xs.set j v)))
theorem nk:Cb X BL:=by
 intro pins s σ H o i v ov iv u Q I ro ri rv h
 obtain⟨p,xs,k,j,rfl,rfl,hp,hj,q⟩:=h
 cases ro
 obtain⟨t,rfl⟩:=ri
 obtain⟨its,n,r,ho,hz⟩:=I.lst hp
 obtain⟨h1,h2,h3,h4⟩:=rf hj
 have hl:=r.length
 have hn:=iz
 have I':Inv X pins σ (upd H p (.lst (xs.set j v))) { s with heap:=s.heap.update p (Obj.mapSeq (·.setIfInBounds j u)) }:=
  I.lstUpd hp ho (qb its n j u) (r.set rv j) (by rw [List.length_set];exact hz) s.toks
 by_cases h0:0<=k
 ·have hk:k.toNat=j:=by
   rw [seqIndex_of h0 h4]at h1
   exact Option.some.inj h1
  exact PySem.W.ki_setAt ho h0 ‹1› (by rw [List.size_toArray,<- hl];exact h4) (by rw [hk];exact⟨_,I',q⟩)
 ·have hk:(k+(its.toArray.size:Int)).toNat=j:=by
   rw [seqIndex_neg ‹1› h3]at h1
   rw [List.size_toArray,<- hl]
   exact Option.some.inj h1
  exact PySem.W.ki_setBack ho ‹1› (by rw [List.size_toArray,<- hl];exact h3) ‹1› (by rw [hk];exact⟨_,I',q⟩)
theorem lT (lo hi:Option Int) (n:Nat):(sliceBounds lo hi none n).1=((HT.sIx n 0 lo:Nat):Int)/\(sliceBounds lo hi none n).2.1=((HT.sIx n n hi:Nat):Int)/\(sliceBounds lo hi none n).2.2=1:=by
 refine⟨?_,?_,rfl⟩
 ·cases lo with
  | none=>simp [sliceBounds,HT.sIx]
  | some i=>
   simp only [sliceBounds,HT.sIx,Option.getD_none,show (1:Int) > 0 by decide,if_true]
   by_cases h:i < 0
   ·simp only [h,if_true] <;> omega
   ·simp only [h,if_false] <;> omega
 ·cases hi with
  | none=>simp [sliceBounds,HT.sIx]
  | some i=>
   simp only [sliceBounds,HT.sIx,Option.getD_none,show (1:Int) > 0 by decide,if_true]
   by_cases h:i < 0
   ·simp only [h,if_true] <;> omega
   ·simp only [h,if_false] <;> omega
theorem kj (its:List Value) (lo hi:Option Int):slicePick its.toArray lo hi none=((its.drop (HT.sIx its.length 0 lo)).take (HT.sIx its.length its.length hi - HT.sIx its.length 0 lo)).toArray:=by
 obtain⟨h1,h2,h3⟩:=lT lo hi its.toArray.size
 unfold slicePick
 rw [h1,h2,h3]
 simp only [sliceRange_one,pick_run,List.size_toArray] <;> rfl
inductive BK (K:PySem.W.Frag) (x:V) (lo:Option Int) (hi:Option Int) (H:Hp) (Q:VK):Prop
 | mk (a xs) (h1:x=.ref a) (h2:SqL K H a xs) (h3:∀p,H p=none->Q (.ref p) (upd H p (.lst (dZ xs lo hi)))):BK K x lo hi H Q
theorem iY:SlR X (BK X.K):=by
 intro pins s σ H x v vl vu lo hi sl Q I rx hs pl pu h
 obtain⟨a,xs,rfl,hx,q⟩:=h
 cases rx
 obtain⟨its,r,ht,hz⟩:=I.list hx
 have hlen:=r.length
 refine⟨"list", _,slot_list_getitem.lookup,ht.isList.typeIs,?_⟩
 refine wpAny_getItem_list_slice ht.isList hs pl pu .none (by simp) ?_ (by rw [List.size_toArray] <;> omega)
 rw [kj,<- hlen]
 refine⟨.ref s.heap.objs.size,_,I.laid (t':=s.toks) (o:=.lst (dZ xs lo hi)) (λb ob q=>zH0 _ q) (Nat.le_refl _) ?_,rfl,q _ (I.hok.fresh (Nat.le_refl _))⟩
 exact⟨Nat.le_trans (eL xs lo hi) hz,_,0,(r.drop (HT.sIx xs.length 0 lo)).take (HT.sIx xs.length xs.length hi - HT.sIx xs.length 0 lo),Heap.get?_push_size _ rfl⟩
noncomputable def ii:V->Bool
 | .non=>true
 | .bl _=>true
 | .int _=>true
 | .str _=>true
 | _=>false
noncomputable def eqV:V->V->Bool
 | .non,.non=>true
 | .bl a,.bl b=>a == b
 | .bl a,.int b=>(if a then 1 else 0) == b
 | .int a,.bl b=>a == (if b then 1 else 0)
 | .int a,.int b=>a == b
 | .str a,.str b=>a == b
 | _,_=>false
theorem Bg {A:Around}{s:Shared}{y x:V}{u v:Value} (ry:b8 y u) (rx:b8 x v) (fy:ii y=true) (fx:ii x=true):SeqAt.EqAt A s u v (eqV y x):=by
 cases y with
 | non=>
  cases ry
  cases x with
  | non=>cases rx;exact SeqAt.EqAt.same _
  | bl b=>cases rx;exact SeqAt.EqAt.none_bool b
  | int b=>obtain⟨t,rfl⟩:=rx;exact SeqAt.EqAt.none_int b t
  | str b=>obtain⟨t,rfl⟩:=rx;exact SeqAt.EqAt.none_str b t
  | _=>exact absurd (show false=true from fx) Bool.false_ne_true
 | bl a=>
  cases ry
  cases x with
  | non=>cases rx;exact SeqAt.EqAt.bool_none a
  | bl b=>cases rx;exact SeqAt.EqAt.bool_bool a b
  | int b=>obtain⟨t,rfl⟩:=rx;exact SeqAt.EqAt.bool_int a b t
  | str b=>obtain⟨t,rfl⟩:=rx;exact SeqAt.EqAt.bool_str a b t
  | _=>exact absurd (show false=true from fx) Bool.false_ne_true
 | int a=>
  obtain⟨t',rfl⟩:=ry
  cases x with
  | non=>cases rx;exact SeqAt.EqAt.int_none a t'
  | bl b=>cases rx;exact SeqAt.EqAt.int_bool a t' b
  | int b=>obtain⟨t,rfl⟩:=rx;exact SeqAt.EqAt.int_int a t' b t
  | str b=>obtain⟨t,rfl⟩:=rx;exact SeqAt.EqAt.int_str a t' b t
  | _=>exact absurd (show false=true from fx) Bool.false_ne_true
 | str a=>
  obtain⟨t',rfl⟩:=ry
  cases x with
  | non=>cases rx;exact SeqAt.EqAt.str_none a t'
  | bl b=>cases rx;exact SeqAt.EqAt.str_bool a t' b
  | int b=>obtain⟨t,rfl⟩:=rx;exact SeqAt.EqAt.str_int a t' b t
  | str b=>obtain⟨t,rfl⟩:=rx;exact SeqAt.EqAt.str_str a t' b t
  | _=>exact absurd (show false=true from fx) Bool.false_ne_true
 | _=>exact absurd (show false=true from fy) Bool.false_ne_true
noncomputable def eqU (x:V) (u:Value):Bool:=match u with
 | .none=>eqV .non x
 | .bool b=>eqV (.bl b) x
 | .int i _=>eqV (.int i) x
 | .str z _=>eqV (.str z) x
 | _=>false
theorem wE {x y:V}{u:Value} (r:b8 y u) (f:ii y=true):eqU x u=eqV y x:=by
 cases y with
 | non=>cases r;rfl
 | bl b=>cases r;rfl
 | int i=>obtain⟨t,rfl⟩:=r;rfl
 | str z=>obtain⟨t,rfl⟩:=r;rfl
 | _=>exact absurd (show false=true from f) Bool.false_ne_true
theorem im {x:V}:∀{xs:List V}{us:List Value},aW xs us->xs.all ii=true->us.any (eqU x)=xs.any λy=>eqV y x
 | _,_,.nil,_=>rfl
 | y::xs,u::us,.cons r t,f=>by
  rw [List.all_cons,Bool.and_eq_true]at f
  rw [List.any_cons,List.any_cons,wE r f.1,im t f.2]
theorem fS {A:Around}{s:Shared}{x:V}{v:Value} (rx:b8 x v) (fx:ii x=true):∀{xs:List V}{us:List Value},aW xs us->xs.all ii=true->∀u∈us,SeqAt.EqAt A s u v (eqU x u)
 | _,_,.nil,_=>λu hu=>by cases hu
 | y::xs,u::us,.cons r t,f=>λu' hu=>by
  rw [List.all_cons,Bool.and_eq_true]at f
  rcases List.mem_cons.mp hu with rfl | hu
  ·rw [wE r f.1];exact Bg r rx f.1 fx
  ·exact fS rx fx t f.2 u' hu
noncomputable def inV (x:V) (xs:List V):Bool:=xs.any λy=>eqV y x
inductive rIn (K:PySem.W.Frag) (neg:Bool) (x:V) (y:V) (H:Hp) (Q:VK):Prop
 | mk (p xs) (h1:y=.ref p) (h2:(SqL K H p xs\/SqT K H p xs)) (h3:ii x=true) (h4:xs.all ii=true) (h5:Q (.bl (if neg then !inV x xs else inV x xs)) H):rIn K neg x y H Q
theorem cD:OpR X (compareOp .In) (rIn X.K false):=by
 intro pins s σ H x y v u Q I rx ry h
 obtain⟨p,xs,rfl,hq,fx,fs,q⟩:=h
 cases ry
 rcases hq with hq | hq
 ·obtain⟨its,r,pl,hz⟩:=I.list hq
  refine SeqAt.in_listAt (eqU x) pl.isList (λw hw=>fS rx fx r fs w (by simpa using hw)) ⟨.bl _,H,I,rfl,?_⟩
  rw [show its.toArray.any (eqU x)=its.any (eqU x) by simp,im r fs]
  exact q
 ·obtain⟨its,r,pl,hz⟩:=I.tuple hq
  refine SeqAt.in_tupleAt (eqU x) pl (λw hw=>fS rx fx r fs w (by simpa using hw)) ⟨.bl _,H,I,rfl,?_⟩
  rw [show its.toArray.any (eqU x)=its.any (eqU x) by simp,im r fs]
  exact q
theorem my:OpR X (compareOp .NotIn) (rIn X.K true):=by
 intro pins s σ H x y v u Q I rx ry h
 obtain⟨p,xs,rfl,hq,fx,fs,q⟩:=h
 cases ry
 rcases hq with hq | hq
 ·obtain⟨its,r,pl,hz⟩:=I.list hq
  refine SeqAt.notIn_listAt (eqU x) pl.isList (λw hw=>fS rx fx r fs w (by simpa using hw)) ⟨.bl _,H,I,rfl,?_⟩
  rw [show its.toArray.any (eqU x)=its.any (eqU x) by simp,im r fs]
  exact q
 ·obtain⟨its,r,pl,hz⟩:=I.tuple hq
  refine SeqAt.notIn_tupleAt (eqU x) pl (λw hw=>fS rx fx r fs w (by simpa using hw)) ⟨.bl _,H,I,rfl,?_⟩
  rw [show its.toArray.any (eqU x)=its.any (eqU x) by simp,im r fs]
  exact q
theorem aN:cW X (.builtin "len") (λxs H Q=>∃p ys,xs=[.ref p]/\(SqL X.K H p ys\/SqT X.K H p ys)/\Q (.int ys.length) H):=by
 intro pins s σ H xs us Q I r h
 obtain⟨p,ys,rfl,hq,q⟩:=h
 obtain⟨u,rfl,rx⟩:=cB r
 cases rx
 have hn:=iz
 rcases hq with hq | hq
 ·obtain⟨its,r',pl,hz⟩:=I.list hq
  have hlen:=r'.length
  exact Calls.call_len_list pl.isList (by simp only [List.size_toArray] <;> omega) ⟨.int ys.length,H,I.tok _,⟨s.toks+1,by rw [List.size_toArray,hlen]⟩,q⟩
 ·obtain⟨its,r',pl,hz⟩:=I.tuple hq
  have hlen:=r'.length
  exact len_tuple pl (by simp only [List.size_toArray] <;> omega) ⟨.int ys.length,H,I.tok _,⟨s.toks+1,by rw [List.size_toArray,hlen]⟩,q⟩
theorem il:cW X (.builtin "len") (λxs H Q=>∃z,xs=[.str z]/\z.length<=sizeLine/\Q (.int z.length) H):=by
 intro pins s σ H xs us Q I r h
 obtain⟨z,rfl,hz,q⟩:=h
 obtain⟨u,rfl,t,rfl⟩:=cB r
 have hn:=iz
 exact len_str ‹1› ⟨.int z.length,H,I.tok _,⟨_,rfl⟩,q⟩
theorem fB:cW X (.type "list") (λxs H Q=>∃p ys,xs=[.ref p]/\(SqL X.K H p ys\/SqT X.K H p ys)/\∀l,H l=none->Q (.ref l) (upd H l (.lst ys))):=by
 intro pins s σ H xs us Q I r h
 obtain⟨p,ys,rfl,hq,q⟩:=h
 obtain⟨u,rfl,rx⟩:=cB r
 cases rx
 have fin:∀(its:List Value),aW ys its->ys.length<=sizeLine->∀(h':Heap) (c':Nat),(∀b o',s.heap.get? b=some o'->h'.get? b=some o')->
   h'.get? s.heap.objs.size=some { cls:=.type "list", dict:=none,data:=.seq its.toArray c',slots:=#[] }->EP X pins σ Q (.ref s.heap.objs.size) { s with heap:=h' }:=λits r' hz h' c' kp e=>
  ⟨.ref s.heap.objs.size,_,I.laid (t':=s.toks) kp (Nat.le_refl _) (show bC X.prog X.w _ h' _ (.lst ys) from ⟨hz,its,c',r',e⟩),rfl,q _ (I.hok.fresh (Nat.le_refl _))⟩
 rcases hq with hq | hq
 ·obtain⟨its,r',pl,hz⟩:=I.list hq
  have hlen:=r'.length
  obtain⟨o,ho,hc,n,hd⟩:=pl.isList
  exact call_list_seq p (.inl rfl) ho hc hd (λh' c' kp e=>fin its r' hz h' c' kp e) (by simp only [List.size_toArray] <;> omega)
 ·obtain⟨its,r',pl,hz⟩:=I.tuple hq
  have hlen:=r'.length
  obtain⟨o,ho,hc,n,hd⟩:=pl
  exact call_list_seq p (.inr rfl) ho hc hd (λh' c' kp e=>fin its r' hz h' c' kp e) (by simp only [List.size_toArray] <;> omega)
def tyV (K:PySem.W.Frag) (T:String) (x:V) (H:Hp):Prop:=match x with
 | .str _=>T = "str"
 | .int _=>T = "int"
 | .ref p=>(T = "list"/\∃xs,SqL K H p xs)\/(T = "tuple"/\∃o,K.lookup p=some o/\o.cls=.type "tuple"/\o.dict=none)\/
   (T = "dict"/\((∃kvs,H p=some (.dK kvs))\/∃kvs,H p=some (.dT kvs)))\/(T = "set"/\∃S n,H p=some (.set S n))
 | _=>False
theorem zK {pins:List (Addr × Obj)}{σ:St}{H:Hp}{s:Shared}{T:String}{x:V}{v:Value} (I:Inv X pins σ H s) (r:b8 x v) (ty:tyV X.K T x H) :
  s.TypeIs v T/\∀a,v=.ref a->∃ob,s.heap.get? a=some ob/\ob.dict=none:=by
 cases x with
 | str z=>
  obtain⟨t,rfl⟩:=r
  cases (show T = "str" from ty)
  exact⟨typeIs_str s z t,λ_ e=>nomatch e⟩
 | int i=>
  obtain⟨t,rfl⟩:=r
  cases (show T = "int" from ty)
  exact⟨typeIs_int s i t,λ_ e=>nomatch e⟩
 | ref p=>
  cases r
  rcases ty with⟨rfl,xs,hq⟩ | ⟨rfl,o,hk,hc,hd⟩ | ⟨rfl,hk⟩ | ⟨rfl,S,n,hk⟩
  ·obtain⟨its,_,pl,_⟩:=I.list hq
   refine⟨pl.isList.typeIs,λa e=>?_⟩
   cases e
   obtain⟨o,n,e,c,hd,_⟩:=pl
   exact⟨o,e,hd⟩
  ·refine⟨⟨o,I.kIn p o hk,hc⟩,λa e=>?_⟩
   cases e
   exact⟨o,I.kIn _ o hk,hd⟩
  ·have z:∃o,s.heap.get? p=some o/\o.ExactDict:=by
    rcases hk with⟨kvs,hk⟩ | ⟨kvs,hk⟩
    ·obtain⟨_,_,_,_,o,_,_,e,ex,_⟩:=I.hok p _ hk
     exact⟨o,e,ex⟩
    ·obtain⟨_,_,_,_,o,_,_,e,ex,_⟩:=I.hok p _ hk
     exact⟨o,e,ex⟩
   obtain⟨o,e,ex⟩:=z
   refine⟨⟨o,e,ex.1⟩,λa e2=>?_⟩
   cases e2
   exact⟨o,e,ex.2.1⟩
  ·obtain⟨o,_,_,_,e,ex,_⟩:=I.hok p _ hk
   refine⟨⟨o,e,ex.1⟩,λa e2=>?_⟩
   cases e2
   exact⟨o,e,ex.2.1⟩
 | _=>exact False.elim ty
noncomputable def tBM (K:PySem.W.Frag) (T:String) (r:V->List V->Hp->VK->Prop) (to:TE) (t:TA):TE:=λσ H Q=>to σ H λx H1=>tyV K T x H1/\t σ H1 λxs H2=>r x xs H2 Q
variable {o e:Expr}{es:List Expr}{to:TE}{t:TA}{name:Str}{apos cpos:Pos}{T id:String}{r:V->List V->Hp->VK->Prop}
theorem cM (pa:PlainAttrs T) (slot:Slot T name id) (hty:typeOf (.builtin id)=pure (.type "method_descriptor")) (hm:MtR X id r) (ho:PE X o to) (ha:PA X (e::es) t)
  (hbase:attributeBase o name X.env (eval o X.env)=eval o X.env:=by rfl)
  (hfew:((backTo cpos (starEach (e::es) X.env)).all (λx=>!x.1) && (backToKw cpos (keywordEach [] X.env)).all (λx=>x.1.isSome)
   && decide ((e::es).length+([]:List Keyword).length+(if ([]:List Keyword).isEmpty then 0 else 1) < 30))=true:=by rfl)
  (hline:(apos.endLine == cpos.line)=true:=by rfl) (hs:starEach (e::es) X.env=(false,eval e X.env)::starEach es X.env:=by rfl) (hplain:(backTo cpos (starEach es X.env)).any (·.1)=false:=by rfl) :
  PE X (.Call (.Attribute o name apos) (e::es) [] cpos) (tBM X.K T r to t):=by
 intro pins s σ H Q I h
 refine wpAny_Call_method_late hbase hfew hline rfl (thn (ho pins s σ H _ I h) λv s1 ⟨x,H1,I1,r1,ty,q1⟩=>?_)
 obtain⟨h1,h2⟩:=zK I1 r1 ty
 refine⟨T,id,pa,slot,hty,h1,h2,?_⟩
 have hA:=ha cpos pins s1 σ H1 _ I1 q1
 rw [hs]at hA ⊢
 refine Calls.callWith_builtin (by show (false || (backTo cpos (starEach es X.env)).any (·.1))=false;rw [hplain] <;> rfl) (Calls.evalArgs_plain ?_)
 exact thn hA λus s2 ⟨vs,H2,I2,r2,q2⟩=>hm pins s2 σ H2 x vs v us Q I2 r1 r2 q2
end
def MtM (X:Cx) (id:String) (r:V->List V->Hp->VK->Prop):Prop:=
 ∀(pins:List (Addr × Obj)) (s:Shared) (σ:St) (H:Hp) (x:V) (xs:List V) (v:Value) (us:List Value) (Q:VK),Inv X pins σ H s->b8 x v->aW xs us->r x xs H Q->
  wpAny (model X.prog X.w) X.A (call (.builtin id) (v::us)) (EP X pins σ Q) X.xe s
theorem aW.one:∀{x:V}{us:List Value},aW [x] us->∃u,us=[u]/\b8 x u
 | _,_,.cons r .nil=>⟨_,rfl,r⟩
theorem aW.eraseIdx:∀{xs:List V}{us:List Value} (i:Nat),aW xs us->aW (xs.eraseIdx i) (us.eraseIdx i)
 | _,_,_,.nil=>.nil
 | _,_,0,.cons _ t=>t
 | _,_,i+1,.cons r t=>.cons r (aW.eraseIdx i t)
theorem kU {α:Type}:∀(l:List α) (i:Nat),(l.eraseIdx i).length<=l.length
 | [],_=>Nat.le_refl _
 | _::_,0=>Nat.le_succ _
 | _::r,i+1=>Nat.succ_le_succ (kU r i)
section
variable {X:Cx}{pins:List (Addr × Obj)}{σ:St}{H:Hp}{s:Shared}{l b:Addr}{xs ys zs:List V}
theorem Inv.lset {its its':List Value}{n:Nat}{f:Array Value->Array Value}{t':Nat} (I:Inv X pins σ H s) (hH:H l=some (.lst xs))
  (e:s.heap.get? l=some { cls:=.type "list", data:=.seq its.toArray n }) (hf:f its.toArray=its'.toArray) (hv:aW ys its') (hz:ys.length<=sizeLine) :
  Inv X pins σ (upd H l (.lst ys)) { s with heap:=s.heap.update l (Obj.mapSeq f),toks:=t' }:=by
 have q:=PySem.IsL.update e f
 rw [hf]at q
 refine I.write (x:=l) (e:=l) (by rw [hH];exact trivial) (.inl rfl) (λb' u hb hu=>(Heap.get?_update_other s.heap (Obj.mapSeq f) (Ne.symm hb)).trans hu) ⟨_,q⟩ ?_
 exact⟨hz,its',_,hv,q⟩
theorem Inv.lnew {its:List Value}{t':Nat} (I:Inv X pins σ H s) (hv:aW ys its) (hz:ys.length<=sizeLine) :
  Inv X pins σ (upd H s.heap.objs.size (.lst ys)) { s with heap:=s.heap.push { cls:=.type "list", data:=.seq its.toArray },toks:=t' }:=
 I.laid (λ_ _ q=>zH0 _ q) (Nat.le_refl _) ⟨hz,its,0,hv,Heap.get?_push_size _ rfl⟩
theorem Inv.fresh (I:Inv X pins σ H s):H s.heap.objs.size=none:=I.hok.fresh (Nat.le_refl _)
theorem Inv.lstM (I:Inv X pins σ H s) (hH:H l=some (.lst xs)):xs.length<=sizeLine/\∃(its:List Value) (n:Nat),aW xs its/\xs.length=its.length/\s.heap.get? l=some { cls:=.type "list", data:=.seq its.toArray n }:=by
 obtain⟨z,its,n,r,e⟩:=I.hok l _ hH
 exact⟨z,its,n,r,r.length,e⟩
theorem vU {n:Nat} (h:n<=sizeLine):Builtin.List.listTooLong n=false:=by
 unfold Builtin.List.listTooLong
 exact decide_eq_false ‹1›
end
section
variable {X:Cx}
inductive qN (x:V) (vs:List V) (H:Hp) (Q:VK):Prop
 | mk (l xs y) (h1:x=.ref l) (h2:vs=[y]) (h3:H l=some (.lst xs)) (h4:xs.length < sizeLine) (h5:Q .non (upd H l (.lst (xs++[y])))):qN x vs H Q
theorem dM:MtM X "list.append" qN:=by
 intro pins s σ H x vs v us Q I rx rv h
 obtain⟨l,xs,y,rfl,rfl,hH,hz,q⟩:=h
 cases rx
 obtain⟨u,rfl,ru⟩:=rv.one
 obtain⟨z,its,n,r,hl,e⟩:=I.lstM hH
 refine call_meets F.slot_list_append ⟨_,e,rfl⟩ F.entry_list_append (F.args_list_append_2 _ _) (PySem.list_append l its.toArray n u (by rw [List.size_toArray];omega)) ⟨e,?_⟩
 refine⟨.non,_,I.lset (its':=its++[u]) hH e (by simp) (r.append (.cons ru .nil)) ?_,rfl,q⟩
 rw [List.length_append,List.length_singleton]
 omega
noncomputable def xP:V->List V->Hp->VK->Prop:=λx vs H Q=>∃l b xs zs,x=.ref l/\vs=[.ref b]/\H l=some (.lst xs)/\H b=some (.lst zs)/\xs.length+zs.length<=sizeLine/\Q .non (upd H l (.lst (xs++zs)))
theorem iy:MtM X "list.extend" xP:=by
 intro pins s σ H x vs v us Q I rx rv h
 obtain⟨l,b,xs,zs,rfl,rfl,hH,hB,hz,q⟩:=h
 cases rx
 obtain⟨u,rfl,ru⟩:=rv.one
 cases ru
 obtain⟨z,its,n,r,hl,e⟩:=I.lstM hH
 obtain⟨z2,its2,n2,r2,hl2,e2⟩:=I.lstM hB
 have hsz:its.toArray.size+its2.toArray.size<=sizeLine:=by rw [List.size_toArray,List.size_toArray];omega
 have hlong:¬(!its.toArray.isEmpty && Builtin.List.listTooLong (its.toArray.size+its2.toArray.size))=true:=by
  rw [vU hsz,Bool.and_false]
  exact Bool.false_ne_true
 refine call_meets F.slot_list_extend ⟨_,e,rfl⟩ F.entry_list_extend (F.args_list_extend_2 _ _)
  (AutoSeq1.list_extend_list_list_0 l its.toArray n b its2.toArray n2 hlong (by rw [List.size_toArray];omega) ‹1›) ⟨e,e2,?_⟩
 refine⟨.non,_,I.lset (its':=its++its2) hH e (by simp) (r.append r2) ?_,rfl,q⟩
 rw [List.length_append]
 omega
noncomputable def Aw:V->List V->Hp->VK->Prop:=λx vs H Q=>∃l xs i k y,x=.ref l/\vs=[.int i]/\H l=some (.lst xs)/\-(2 ^ 63)<=i/\i < 2 ^ 63/\seqIndex? i xs.length=some k/\xs[k]?=some y/\Q y (upd H l (.lst (xs.eraseIdx k)))
theorem vW:MtM X "list.pop" Aw:=by
 intro pins s σ H x vs v us Q I rx rv h
 obtain⟨l,xs,i,k,y,rfl,rfl,hH,h1,h2,hk,hy,q⟩:=h
 cases rx
 obtain⟨u,rfl,ru⟩:=rv.one
 obtain⟨t,rfl⟩:=ru
 obtain⟨z,its,n,r,hl,e⟩:=I.lstM hH
 obtain⟨w,hw,rw'⟩:=r.get hy
 refine call_meets F.slot_list_pop ⟨_,e,rfl⟩ F.entry_list_pop (F.args_list_pop_2 _ _)
  (MeetsSeq.list_pop_at l its.toArray n i t k w (fitsIndex_both h1 h2) (by rw [List.size_toArray,<- hl];exact hk) (by rw [<- Array.getElem?_toList];exact hw) (by rw [List.size_toArray];omega)) ⟨e,?_⟩
 refine⟨y,_,I.lset (its':=its.eraseIdx k) hH e ?_ (r.eraseIdx k) ?_,rw',q⟩
 ·show its.toArray.eraseIdxIfInBounds k=(its.eraseIdx k).toArray
  rw [List.eraseIdxIfInBounds_toArray]
 ·have:=kU xs k
  omega
inductive xQ (x:V) (y:V) (H:Hp) (Q:VK):Prop
 | mk (l b xs zs) (h1:x=.ref l) (h2:y=.ref b) (h3:H l=some (.lst xs)) (h4:H b=some (.lst zs)) (h5:xs.length+zs.length<=sizeLine) (h6:∀p,H p=none->Q (.ref p) (upd H p (.lst (xs++zs)))):xQ x y H Q
theorem jF:OpR X (binaryOp .Add) xQ:=by
 intro pins s σ H x y v u Q I rx ry h
 obtain⟨l,b,xs,zs,rfl,rfl,hH,hB,hz,q⟩:=h
 cases rx
 cases ry
 obtain⟨z,its,n,r,hl,e⟩:=I.lstM hH
 obtain⟨z2,its2,n2,r2,hl2,e2⟩:=I.lstM hB
 refine PySem.P.add_list e e2 ?_ (by rw [List.size_toArray,List.size_toArray];omega)
 have ea:its.toArray++its2.toArray=(its++its2).toArray:=by simp
 rw [ea]
 exact⟨.ref _,_,I.lnew (t':=s.toks) (r.append r2) (by rw [List.length_append];omega),rfl,q _ I.fresh⟩
end
section
variable {prog:Program}{w:World}{A:Around}{E:Value->Shared->Prop}{s:Shared}
end
section
variable {X:Cx}
end
section
variable {κ:Type} [DecidableEq κ]
noncomputable def valV (kvs:List (κ × V)) (k:κ):Option V:=(kvs.find? λkv=>decide (kv.1=k)).map (·.2)
noncomputable def eE (kvs:List (κ × V)) (k:κ) (v:V):List (κ × V):=
 if (kvs.any λkv=>decide (kv.1=k))=true then kvs.map (λkv=>if kv.1=k then (kv.1,v) else kv) else kvs++[(k,v)]
theorem bY {p:κ × V}{r:List (κ × V)}{k:κ} (e:p.1=k):valV (p::r) k=some p.2:=by simp [valV,List.find?_cons,e]
theorem bZ {p:κ × V}{r:List (κ × V)}{k:κ} (e:¬p.1=k):valV (p::r) k=valV r k:=by simp [valV,List.find?_cons,e]
theorem gP (k:κ):∀kvs:List (κ × V),(kvs.any λkv=>decide (kv.1=k))=(valV kvs k).isSome
 | []=>rfl
 | p::r=>by
  rw [List.any_cons]
  by_cases e:p.1=k
  ·simp only [bY e,decide_eq_true e,Bool.true_or,Option.isSome_some]
  ·rw [bZ e,decide_eq_false e,Bool.false_or];exact gP k r
theorem mV (k j:κ) (y:V):∀kvs:List (κ × V),valV (kvs.map λkv=>if kv.1=k then (kv.1,y) else kv) j=(valV kvs j).map λx=>if j=k then y else x
 | []=>rfl
 | p::r=>by
  have ih:=mV k j y r
  rw [List.map_cons]
  by_cases h:p.1=k
  ·rw [if_pos h]
   by_cases e:p.1=j
   ·rw [bY (p:=(p.1,y)) e,bY e,Option.map_some,if_pos (e.symm.trans h)]
   ·rw [bZ (p:=(p.1,y)) e,bZ e,ih]
  ·rw [if_neg h]
   by_cases e:p.1=j
   ·rw [bY (p:=p) e,bY e,Option.map_some,if_neg (λz=>h (e.trans z))]
   ·rw [bZ (p:=p) e,bZ e,ih]
theorem kF (k j:κ) (y:V):∀kvs:List (κ × V),valV kvs k=none->valV (kvs++[(k,y)]) j=if j=k then some y else valV kvs j
 | [],_=>by
  by_cases e:k=j
  ·rw [if_pos e.symm];exact bY (p:=(k,y)) e
  ·rw [if_neg (λz=>e z.symm)];exact bZ (p:=(k,y)) e
 | p::r,hn=>by
  rw [List.cons_append]
  have hk:¬p.1=k:=λz=>by rw [bY z]at hn;cases hn
  rw [bZ hk]at hn
  have ih:=kF k j y r hn
  by_cases e:p.1=j
  ·rw [bY e,bY e,if_neg (λz=>hk (e.trans z))]
  ·rw [bZ e,bZ e,ih]
theorem jf (kvs:List (κ × V)) (k j:κ) (y:V):valV (eE kvs k y) j=if j=k then some y else valV kvs j:=by
 unfold eE
 by_cases a:(kvs.any λkv=>decide (kv.1=k))=true
 ·rw [if_pos a,mV]
  rw [gP]at a
  by_cases e:j=k
  ·obtain⟨x,hx⟩:=Option.isSome_iff_exists.mp a
   rw [if_pos e,e,hx,Option.map_some,if_pos rfl]
  ·rw [if_neg e]
   cases valV kvs j with
   | none=>rfl
   | some x=>rw [Option.map_some,if_neg e]
 ·rw [if_neg a]
  refine kF k j y kvs ?_
  rw [gP]at a
  cases q:valV kvs k with
  | none=>rfl
  | some x=>rw [q]at a;exact(a rfl).elim
theorem dg (kvs:List (κ × V)) (k:κ) (v:V):(eE kvs k v).length<=kvs.length+1:=by
 unfold eE
 split
 ·rw [List.length_map];omega
 ·rw [List.length_append,List.length_cons,List.length_nil];omega
theorem gy.isSome_eq {o:Option V}{u:Option Value} (r:gy o u):o.isSome=u.isSome:=by
 cases o with
 | none=>cases u with
  | none=>rfl
  | some _=>exact(show False from r).elim
 | some _=>cases u with
  | none=>exact(show False from r).elim
  | some _=>rfl
theorem gy.getD {o:Option V}{u:Option Value}{d:V}{d':Value} (r:gy o u) (rd:b8 d d'):b8 (o.getD d) (u.getD d'):=by
 cases o with
 | none=>cases u with
  | none=>exact rd
  | some _=>exact(show False from r).elim
 | some _=>cases u with
  | none=>exact(show False from r).elim
  | some _=>exact r
theorem KV.val {kvs:List (κ × V)}{vs:List (κ × Value)} (r:KV kvs vs) (k:κ):gy (valV kvs k) (valueAt vs k):=by
 unfold KV at r
 induction r with
 | nil=>exact True.intro
 | @cons p q ps qs h t ih=>
  obtain⟨h1,h2⟩:=h
  by_cases e:p.1=k
  ·have e':q.1=k:=h1.symm.trans e
   have b:valueAt (q::qs) k=some q.2:=by simp [valueAt,List.find?_cons,e']
   rw [bY e,b];exact h2
  ·have e':¬q.1=k:=λz=>e (h1.trans z)
   have b:valueAt (q::qs) k=valueAt qs k:=by simp [valueAt,List.find?_cons,e']
   rw [bZ e,b];exact ih
theorem KV.any {kvs:List (κ × V)}{vs:List (κ × Value)} (r:KV kvs vs) (k:κ):(kvs.any λkv=>decide (kv.1=k))=vs.any λkv=>decide (kv.1=k):=by
 unfold KV at r
 induction r with
 | nil=>rfl
 | cons h t ih=>rw [List.any_cons,List.any_cons,ih,h.1]
theorem KV.repl {kvs:List (κ × V)}{vs:List (κ × Value)} (r:KV kvs vs) (k:κ){y:V}{u:Value} (ry:b8 y u) :
  KV (kvs.map λkv=>if kv.1=k then (kv.1,y) else kv) (vs.map λkv=>if kv.1=k then (kv.1,u) else kv):=by
 unfold KV at r ⊢
 induction r with
 | nil=>exact .nil
 | @cons p q ps qs h t ih=>
  rw [List.map_cons,List.map_cons]
  refine .cons ?_ ih
  obtain⟨h1,h2⟩:=h
  by_cases e:p.1=k
  ·rw [if_pos e,if_pos (h1.symm.trans e)];exact⟨h1,ry⟩
  ·rw [if_neg e,if_neg (λz=>e (h1.trans z))];exact⟨h1,h2⟩
theorem KV.put {kvs:List (κ × V)}{vs:List (κ × Value)} (r:KV kvs vs) (k:κ){y:V}{u:Value} (ry:b8 y u):KV (eE kvs k y) (stored vs k u):=by
 unfold eE stored
 rw [r.any k]
 by_cases e:(vs.any λkv=>decide (kv.1=k))=true
 ·rw [if_pos e,if_pos e];exact r.repl k ry
 ·rw [if_neg e,if_neg e];exact Paired.snoc r ⟨rfl,ry⟩
theorem KV.length {kvs:List (κ × V)}{vs:List (κ × Value)} (r:KV kvs vs):kvs.length=vs.length:=Paired.length r
end
theorem rc {P:Program}{w:World}{k:Key}{u:Value} (r:b8 (kV k) u):(aJ P w).is k u=true:=by
 cases k with
 | inl i=>obtain⟨t,e⟩:=(show ∃t,u=Value.int i t from r);subst e;exact nZ P w i t
 | inr x=>obtain⟨t,e⟩:=(show ∃t,u=Value.str x t from r);subst e;exact nY P w x t
theorem kY {P:Program}{w:World}:∀{ks:List Key}{us:List Value},aW (ks.map kV) us->ItemsAre (aJ P w) ks us
 | [],_,r=>by rw [List.map_nil]at r;cases r;exact .nil
 | k::ks,_,r=>by
  rw [List.map_cons]at r
  cases r with
  | cons h t=>exact .cons (rc h) (kY t)
noncomputable abbrev KT (H:Hp):List (List Key × V)->List (List Key × Addr × Value)->Prop:=Paired λp q=>p.1=q.1/\H q.2.1=some (.tup (p.1.map kV))/\b8 p.2 q.2.2
theorem KT.val {H:Hp}{kvs:List (List Key × V)}{xs:List (List Key × Addr × Value)} (r:KT H kvs xs) (k:List Key):gy (valV kvs k) ((atKey xs k).map (·.2)):=by
 induction r with
 | nil=>exact True.intro
 | @cons p q ps qs h t ih=>
  obtain⟨h1,_,h2⟩:=h
  by_cases e:p.1=k
  ·have e':q.1=k:=h1.symm.trans e
   have b:atKey (q::qs) k=some q.2:=by simp [atKey,List.find?_cons,e']
   rw [bY e,b];exact h2
  ·have e':¬q.1=k:=λz=>e (h1.trans z)
   have b:atKey (q::qs) k=atKey qs k:=by simp [atKey,List.find?_cons,e']
   rw [bZ e,b];exact ih
theorem KT.repl {H:Hp}{kvs:List (List Key × V)}{xs:List (List Key × Addr × Value)} (r:KT H kvs xs) (k:List Key){y:V}{u:Value} (ry:b8 y u) :
  KT H (kvs.map λkv=>if kv.1=k then (kv.1,y) else kv) (xs.map (putAt k u)):=by
 induction r with
 | nil=>exact .nil
 | @cons p q ps qs h t ih=>
  rw [List.map_cons,List.map_cons]
  refine .cons ?_ ih
  obtain⟨h1,h2,h3⟩:=h
  unfold putAt
  by_cases e:p.1=k
  ·rw [if_pos e,if_pos (h1.symm.trans e)];exact⟨h1,h2,ry⟩
  ·rw [if_neg e,if_neg (λz=>e (h1.trans z))];exact⟨h1,h2,h3⟩
theorem KT.put {H:Hp}{kvs:List (List Key × V)}{xs:List (List Key × Addr × Value)} (r:KT H kvs xs) (k:List Key){b:Addr}{y:V}{u:Value} (hb:H b=some (.tup (k.map kV))) (ry:b8 y u) :
  KT H (eE kvs k y) (storedH xs k b u):=by
 have e:(kvs.any λkv=>decide (kv.1=k))=(atKey xs k).isSome:=by
  rw [gP,(r.val k).isSome_eq,Option.isSome_map]
 unfold eE storedH
 rw [e]
 by_cases q:(atKey xs k).isSome=true
 ·rw [if_pos q,if_pos q];exact r.repl k ry
 ·rw [if_neg q,if_neg q];exact Paired.snoc r ⟨rfl,hb,ry⟩
theorem KT.keeps {H H':Hp}{kvs:List (List Key × V)}{xs:List (List Key × Addr × Value)} (r:KT H kvs xs) (ht:∀b ys,H b=some (.tup ys)->H' b=some (.tup ys)):KT H' kvs xs:=
 Paired.mapP r λ_ _ z=>⟨z.1,ht _ _ z.2.1,z.2.2⟩
section
variable {P:Program}{w:World}{H:Hp}{h:Heap}{a:Addr}
theorem zj {u:HO} (ok:HOk P w H h) (e:Rd H a u):bC P w H h a u:=e.ok ok
theorem rm {kvs:List (Key × V)} (ok:HOk P w H h) (e:Rd H a (.dK kvs)):kvs.length<=sizeLine/\(a == sysModules)=false/\∃vs,KV kvs vs/\h.DictOf (aJ P w) a vs:=
 show bC P w H h a (.dK kvs) from zj ok e
theorem C8 {kvs:List (Key × V)} (ok:HOk P w H h) (e:H a=some (.dK kvs)):kvs.length<=sizeLine/\(a == sysModules)=false/\∃vs,KV kvs vs/\h.DictOf (aJ P w) a vs:=rm ok (.inl e)
theorem gL {ks:List Key} (ok:HOk P w H h) (e:H a=some (.tup (ks.map kV))):(tupleKind (aJ P w)).is h ks a:=by
 obtain⟨_,its,r,o,h1,h2,n,h3⟩:=(show bC P w H h a (.tup (ks.map kV)) from ok a _ e)
 exact⟨o,its.toArray,n,h1,h2,h3,by simpa using kY r⟩
theorem rl {kvs:List (List Key × V)} (ok:HOk P w H h) (e:Rd H a (.dT kvs)):kvs.length<=sizeLine/\(a == sysModules)=false/\
  ∃xs,KT H kvs xs/\h.DictOfH (tupleKind (aJ P w)) a xs:=by
 obtain⟨z,y,xs,r,o,es,ep,h1,h2,h3,h4,h5⟩:=(show bC P w H h a (.dT kvs) from zj ok e)
 refine⟨z,y,xs,r,o,es,ep,h1,h2,h3,h4,λx hx=>?_,h5⟩
 have all:∀{l:List (List Key × V)}{m:List (List Key × Addr × Value)},KT H l m->∀x∈m,(tupleKind (aJ P w)).is h x.1 x.2.1:=by
  intro l m q
  induction q with
  | nil=>intro x hx;exact nomatch hx
  | @cons p q ps qs hq t ih=>
   intro x hx
   rcases List.mem_cons.mp hx with e | hx
   ·subst e
    exact gL ok (by rw [<- hq.1];exact hq.2.1)
   ·exact ih x hx
 exact all r x hx
theorem C6 {kvs:List (List Key × V)} (ok:HOk P w H h) (e:H a=some (.dT kvs)):kvs.length<=sizeLine/\(a == sysModules)=false/\
  ∃xs,KT H kvs xs/\h.DictOfH (tupleKind (aJ P w)) a xs:=rl ok (.inl e)
end
def yN (H:Hp) (a:Addr) (y:V) (r:Option V):Prop:=
 (∃kvs k,Rd H a (.dK kvs)/\y=kV k/\r=valV kvs k)\/∃kvs k b,Rd H a (.dT kvs)/\y=.ref b/\H b=some (.tup (k.map kV))/\r=valV kvs k
def Bt (H:Hp) (a:Addr) (y v:V) (H':Hp):Prop:=
 (∃kvs k,H a=some (.dK kvs)/\y=kV k/\kvs.length < sizeLine/\H'=upd H a (.dK (eE kvs k v)))\/
 ∃kvs k b,H a=some (.dT kvs)/\y=.ref b/\H b=some (.tup (k.map kV))/\kvs.length < sizeLine/\H'=upd H a (.dT (eE kvs k v))
section
variable {X:Cx}{pins:List (Addr × Obj)}{σ:St}{H:Hp}{s:Shared}{a:Addr}{y v:V}{u r:Value}{o:Option V}{A:Around}{E:Value->Shared->Prop}
theorem Inv.big (I:Inv X pins σ H s):sysModules < s.heap.objs.size:=by
 have h:mainGlobals < s.heap.objs.size:=(I.mod.glob.keeps I.bk).lt
 exact Nat.lt_trans (by decide) h
theorem D0 {Q:Value->Shared->Prop} (hu:A.units+1 < cLine) (I:Inv X pins σ H s) (g:yN H a y o) (ry:b8 y u) (h:∀s',Inv X pins σ H s'->Q (.bool o.isSome) s') :
  wpAny (model X.prog X.w) A (compareOp .In u (.ref a)) Q E s:=by
 rcases g with⟨kvs,k,e,ey,l⟩ | ⟨kvs,k,b,e,ey,eb,l⟩
 ·subst ey
  obtain⟨z,hd,vs,rel,dd⟩:=rm I.hok e
  refine wpAny_in_of (rc ry) hd dd.mapOf ?_
  rw [<- (rel.val k).isSome_eq,<- l]
  exact h _ (I.tok _)
 ·subst ey
  cases (show u=Value.ref b from ry)
  obtain⟨z,hd,xs,rel,dd⟩:=rl I.hok e
  refine wpAny_in_heap (tupleKind_room_in1 hu) (gL I.hok eb) hd dd ?_
  have q:=(rel.val k).isSome_eq
  rw [Option.isSome_map]at q
  rw [<- q,<- l]
  exact h _ (I.tok _)
theorem rC {h':Heap}{t':Nat}{ob:HO} (I:Inv X pins σ H s) (mu:Mut (H a)) (hs:Heap.SameBut a s.heap h') (he:∃q,h'.get? a=some q) (new:bC X.prog X.w (upd H a ob) h' a ob) :
  Inv X pins σ (upd H a ob) { s with heap:=h',toks:=t' }:=
 I.write (x:=a) (e:=a) mu (.inl rfl) (λb q hb z=>(hs.2 b hb).trans z) he new
theorem Bi {P:Program}{w:World}{H':Hp}{h':Heap}{kvs:List (Key × V)}{vs:List (Key × Value)} (z:kvs.length<=sizeLine) (hd:(a == sysModules)=false) (rel:KV kvs vs) (dd:h'.DictOf (aJ P w) a vs) :
  bC P w H' h' a (.dK kvs):=⟨z,hd,vs,rel,dd⟩
theorem sS {H':Hp}{Q:Unit->Shared->Prop} (hu:A.units+1 < cLine) (I:Inv X pins σ H s) (g:Bt H a y v H') (ry:b8 y u) (rv:b8 v r) (h:∀s',Inv X pins σ H' s'->Q () s') :
  wpAny (model X.prog X.w) A (setItem (.ref a) u r) Q E s:=by
 rcases g with⟨kvs,k,e,ey,l,eH⟩ | ⟨kvs,k,b,e,ey,eb,l,eH⟩
 ·subst ey eH
  obtain⟨z,hd,vs,rel,dd⟩:=C8 I.hok e
  have hz:vs.length<=sizeLine:=by rw [<- rel.length];exact z
  have hl:(eE kvs k v).length<=sizeLine:=by have:=dg kvs k v;omega
  refine wpAny_setItem_pairs (hsz:=hz) (rc ry) dd λh' dd' hs=>h _ ?_
  have he:∃q,h'.get? a=some q:=let ⟨q,_,_,hq,_⟩:=dd';⟨q,hq⟩
  exact rC I (by rw [e];exact True.intro) hs he (Bi hl hd (rel.put k rv) dd')
 ·subst ey eH
  cases (show u=Value.ref b from ry)
  obtain⟨z,hd,xs,rel,dd⟩:=C6 I.hok e
  have hz:xs.length<=sizeLine:=by rw [<- Paired.length rel];exact z
  have hl:(eE kvs k v).length<=sizeLine:=by have:=dg kvs k v;omega
  refine wpAny_setItem_heap (hsz:=hz) (tupleKind_room_in1 hu) (gL I.hok eb) dd λh' dd' hs=>h _ ?_
  obtain⟨q,es,ep,hq,h2,h3,h4,_,h5⟩:=dd'
  refine rC I (by rw [e];exact True.intro) hs ⟨q,hq⟩ ⟨hl,hd,_,(rel.put k eb rv).keeps λc ys ec=>?_,q,es,ep,hq,h2,h3,h4,h5⟩
  rw [ai (dw ec e (λz=>nomatch z))]
  exact ec
end
section
variable {X:Cx}{pins:List (Addr × Obj)}{σ:St}{H:Hp}{s:Shared}{a:Addr}{kvs:List (Key × V)}{k:Key}{u:Value}{A:Around}{E:Value->Shared->Prop}
end
inductive C9 (x y:V) (H2:Hp) (Q:VK):Prop
 | mk (a o) (h1:x=.ref a) (h2:yN H2 a y o) (h3:Q (.bl o.isSome) H2):C9 x y H2 Q
noncomputable def Cn (ty td:TE):TE:=λσ H Q=>ty σ H λy H1=>td σ H1 λx H2=>C9 x y H2 Q
noncomputable def BF (td ty tv:TE):TS:=λD σ H=>tv σ H λv H1=>td σ H1 λx H2=>ty σ H2 λy H3=>∃a H4,x=.ref a/\Bt H3 a y v H4/\D.nx σ H4
section
variable {X:Cx}{o i e value:Expr}{pos pos' tpos:Pos}{td ty tv:TE}
theorem AF (hu:X.A.units+1 < cLine) (hi:PE X i ty) (ho:PE X o td):PC X .In i o (Cn ty td):=by
 intro pins s σ H Q I h
 refine thn (hi pins s σ H _ I h) λiv s1 ⟨y,H1,I1,ry,q1⟩=>thn (ho pins s1 σ H1 _ I1 q1) λu s2 ⟨x,H2,I2,rx,a,ov,ex,g,q2⟩=>?_
 subst ex
 obtain rfl:u=Value.ref a:=rx
 exact D0 hu I2 g ry λs3 I3=>⟨.bl ov.isSome,H2,I3,rfl,q2⟩
theorem hG (hu:X.A.units+1 < cLine) (ho:PE X o td) (hi:PE X i ty) (hv:PE X value tv) (hs:swapsWith value (some (.Subscript o i pos')) pos.line X.env=pure false) :
  PS X (.Assign [.Subscript o i pos'] value pos) (BF td ty tv):=by
 intro pins s σ H D I h
 refine wpAny_Assign_Subscript (thn (hv pins s σ H _ I h) λr s1 ⟨v,H1,I1,rv,q1⟩=>thn (ho pins s1 σ H1 _ I1 q1) λu s2 ⟨x,H2,I2,rx,q2⟩=>thn (hi pins s2 σ H2 _ I2 q2) λiv s3 ⟨y,H3,I3,ry,a,H4,ex,g,q3⟩=>?_) hs
 subst ex
 obtain rfl:u=Value.ref a:=rx
 exact sS hu I3 g ry rv λs4 I4=>⟨σ,H4,I4,q3⟩
end
theorem wF {P:Program}{w:World}{H:Hp} (h:Heap) (hb:sysModules < h.objs.size):bC P w H (h.push { cls:=.type "dict", data:=.dict #[] }) h.objs.size (.dT []):=
 ⟨Nat.zero_le _,beq_eq_false_iff_ne.mpr (Ne.symm (Nat.ne_of_lt hb)),[],.nil,_,#[],0,Heap.get?_push_size _ rfl,⟨rfl,rfl,rfl⟩,rfl,rfl,List.nodup_nil⟩
noncomputable def zT:TE:=λ_ H Q=>∀p,H p=none->Q (.ref p) (upd H p (.dT []))
section
variable {X:Cx}{pos:Pos}
theorem jB:PE X (.Dict [] [] pos) zT:=λpins s σ H Q I h=>
 wpAny_Dict_empty ⟨.ref s.heap.objs.size,_,I.laid (a:=s.heap.objs.size) (o:=.dT []) (t':=s.toks) (λ_ _ q=>zH0 _ q) (Nat.le_refl _) (wF s.heap I.big),rfl,h _ (I.hok.fresh (Nat.le_refl _))⟩
end
structure M1 (X:Cx) (o:Expr) (m:Str) (apos:Pos) (e:Expr) (cpos:Pos):Prop where
 base:attributeBase o m X.env (eval o X.env)=eval o X.env
 few:((backTo cpos (starEach [e] X.env)).all (λx=>!x.1) && (backToKw cpos (keywordEach [] X.env)).all (λx=>x.1.isSome)
  && decide (([e]:List Expr).length+([]:List Keyword).length+(if ([]:List Keyword).isEmpty then 0 else 1) < 30))=true
 line:(apos.endLine == cpos.line)=true
 trees:backTo cpos (starEach [e] X.env)=[(false,eval e X.env)]
def IsD (H:Hp) (a:Addr):Prop:=(∃kvs,Rd H a (.dK kvs))\/∃kvs,Rd H a (.dT kvs)
theorem B4 {X:Cx}{pins:List (Addr × Obj)}{σ:St}{H:Hp}{s:Shared}{a:Addr} (I:Inv X pins σ H s) (d:IsD H a) :
  s.TypeIs (.ref a) "dict"/\(∀b,Value.ref a=.ref b->∃ob,s.heap.get? b=some ob/\ob.dict=none)/\(a == sysModules)=false:=by
 rcases d with⟨kvs,e⟩ | ⟨kvs,e⟩
 ·obtain⟨_,hd,vs,_,dd⟩:=rm I.hok e
  refine⟨dd.typeIs,λb q=>?_,hd⟩
  cases q
  obtain⟨ob,_,_,h1,h2,_⟩:=dd
  exact⟨ob,h1,h2.2.1⟩
 ·obtain⟨_,hd,xs,_,dd⟩:=rl I.hok e
  refine⟨dd.typeIs,λb q=>?_,hd⟩
  cases q
  obtain⟨ob,_,_,h1,h2,_⟩:=dd
  exact⟨ob,h1,h2.2.1⟩
section
variable {X:Cx}{pins:List (Addr × Obj)}{σ:St}{H:Hp}{s:Shared}{a:Addr}{y d:V}{u r:Value}{o:Option V}{A:Around}{E:Value->Shared->Prop}
theorem Bj {Q:Value->Shared->Prop} (hu:A.units+1 < cLine) (I:Inv X pins σ H s) (g:yN H a y o) (ry:b8 y u) (h:∀w' s',Inv X pins σ H s'->b8 (o.getD .non) w'->Q w' s') :
  wpAny (model X.prog X.w) A (call (.builtin "dict.get") [.ref a,u]) Q E s:=by
 rcases g with⟨kvs,k,e,ey,l⟩ | ⟨kvs,k,b,e,ey,eb,l⟩
 ·subst ey
  obtain⟨z,hd,vs,rel,dd⟩:=rm I.hok e
  refine call_meetsIn PySem.F.slot_dict_get dd.typeIs PySem.F.entry_dict_get (PySem.F.args_dict_get_2 _ _) (meets_dict_get (aJ X.prog X.w) a (rc ry) hd) ⟨_,dd.mapOf,h _ _ (I.tok _) ?_⟩
  rw [l]
  exact(rel.val k).getD rfl
 ·subst ey
  cases (show u=Value.ref b from ry)
  obtain⟨z,hd,xs,rel,dd⟩:=rl I.hok e
  refine call_meetsIn PySem.F.slot_dict_get dd.typeIs PySem.F.entry_dict_get (PySem.F.args_dict_get_2 _ _) (meetsH_dict_get (tupleKind (aJ X.prog X.w)) a b hd) ⟨tupleKind_room_in1 hu,k,xs,gL I.hok eb,dd,h _ _ (I.tok _) ?_⟩
  rw [l]
  exact(rel.val k).getD rfl
end
noncomputable def zU (td ty:TE):TE:=λσ H Q=>td σ H λx H1=>∃a,x=.ref a/\IsD H1 a/\ty σ H1 λy H2=>∃o,yN H2 a y o/\Q (o.getD .non) H2
section
variable {X:Cx}{o e f:Expr}{apos cpos:Pos}{td ty tx:TE}
theorem nK (hu:X.A.units+1 < cLine) (ho:PE X o td) (he:PE X e ty) (m:M1 X o "get" apos e cpos):PE X (.Call (.Attribute o "get" apos) [e] [] cpos) (zU td ty):=by
 intro pins s σ H Q I h
 refine wpAny_Call_method m.base m.few m.line PySem.F.plainAttrs_dict PySem.F.slot_dict_get PySem.F.type_dict_get (thn (ho pins s σ H _ I h) λu s1 ⟨x,H1,I1,rx,a,ex,d,q1⟩=>?_)
 subst ex
 obtain rfl:u=Value.ref a:=rx
 obtain⟨t1,t2,_⟩:=B4 I1 d
 refine⟨t1,t2,?_⟩
 rw [m.trees]
 refine Calls.callWith_builtin rfl (Calls.evalArgs_plain (Calls.spliced_cons (thn (he pins s1 σ H1 _ I1 q1) λiv s2 ⟨y,H2,I2,ry,ov,g,q2⟩=>Calls.spliced_nil ?_)))
 exact Bj hu I2 g ry λw' s3 I3 rw'=>⟨_,H2,I3,rw',q2⟩
end
section
variable {X:Cx}{pins:List (Addr × Obj)}{σ:St}{H:Hp}{s:Shared}{a:Addr}{kvs:List (Key × V)}{A:Around}{E:Value->Shared->Prop}
end
section
variable {X:Cx}{pins:List (Addr × Obj)}{σ:St}{H:Hp}{s:Shared}{a:Addr}{y:V}{u:Value}{A:Around}{E:Value->Shared->Prop}
end
end L2
namespace Att
open PySem PySem.W PySem.Calls PyProof.Rows
theorem iR {P:Params}{h:Heap}:∀(ns:List Int) (vs:List Value),WellAll P h vs (ns.map WData.int)->IntsAre vs ns:=by
 intro ns
 induction ns with
 | nil=>
  intro vs w
  rw [List.map_nil]at w
  cases w
  exact .nil
 | cons n ns ih=>
  intro vs w
  rw [List.map_cons]at w
  cases w with
  | cons a b=>
   cases a
   exact .cons _ _ (ih _ b)
theorem rV {l:OpenLaw}{n:Nat} (hn:l.most=some n){P:Params}{h:Heap}{args:List WData}{vals:List Value}
  (hpre:l.row.toRowW.claim.pre args=true) (hwl:WellAll P h vals args) :
  ∃a vs ns,vals=[Value.ref a]/\args=[WData.list (ns.map WData.int)]/\h.get? a=some { cls:=.type "list", data:=.seq vs.toArray }/\IntsAre vs ns/\ns.length<=n:=by
 have hsh:WShape.hasAll [] args [.list .int]=true:=(pre_splitW hpre).1
 have hc:l.pre.holds [] { args:=args }=true:=(pre_splitW hpre).2
 obtain⟨d,r,rfl,h1,h2⟩:=hasAllW_cons hsh
 obtain rfl:=hasAllW_nil h2
 obtain⟨xs,rfl,h3⟩:=hasW_list h1
 obtain⟨ns,rfl⟩:=items_int h3
 have hlen:ns.length<=n:=by
  unfold OpenLaw.pre at hc
  have h4:(WTm.not (.lt (.lit (.int (n:Int))) (.len (.arg 0)))).holds [] { args:=[.list (ns.map .int)] }=true:=by
   have h4:=(holds_andW hc).1
   rw [hn]at h4
   exact h4
  have h5:=condW_of h4 (w_not (w_lt w_lit (w_len_list (w_arg rfl))))
  rw [List.length_map]at h5
  refine Nat.le_of_not_lt λq=>?_
  have q':(n:Int) < ((ns.length:Nat):Int):=by omega
  first
   | (rw [decide_eq_true q']at h5;exact absurd h5 (by decide))
   | (simp at h5;omega)
 cases hwl with
 | cons w1 w2=>
  cases w2
  cases w1 with
  | list ho hall=>exact⟨_,_,ns,rfl,rfl,ho,iR ns _ hall,hlen⟩
theorem sj (l:OpenLaw) (args:List WData):l.row.toRowW.claim.post args (.bool true) args=true:=
 postW_of (r:=l.row.toRowW) (X:=(true == true))
  (show WShape.has [] (.bool true) .bool=true by first | rfl | decide | simp [WShape.has,WShape.arms,WShape.armsAll])
  (show (WTm.eq .res (.lit (.bool true))).value [] { args:=args,res:=some (.bool true),after:=args }=some (.bool (true == true)) from w_eq_bool (w_res rfl) w_lit) rfl
theorem attach_call {l:OpenLaw}{n:Nat}{q:Program}{loose:List Str}{XP:(Str->Option Value)->Heap->Prop}{YP:World->Heap->Prop}{d:DefRec}
  (hn:l.most=some n) (hdf:d.params.defaults=[])
  (call:∀(w:World) (s₀ s₁:Shared) (mg mb:Str->Option Value) (fa:Addr) (o:Obj) (pm cd doc:Value) (a:Addr) (vs:List Value) (ns:List Int),
   Ground q loose [] XP w s₀ mg mb s₁.heap->YP w s₁.heap->
   s₁.heap.get? fa=some o->o.data=.func (docDef d.name d.params d.body d.scope pm cd doc)->s₁.heap.CodeRec cd d.name->mg d.name=some (.ref fa)->
   s₁.heap.get? a=some { cls:=.type "list", data:=.seq vs.toArray }->IntsAre vs ns->ns.length<=n->s₁.gens = #[]->
   codeAny (model l.prog w) callerA (.call (.ref fa) ⟨[.ref a],[]⟩) (λr s'=>r=.ok (.ret (.bool true))/\OldK s₁.heap s'.heap/\s'.os=s₁.os/\AllBare s'.gens) s₁) :
  WalkO q loose XP YP l.row.toRowW d [] (λf vs=>PySem.call f vs):=by
 intro w s₀ s₁ mg mb G Y fa o pm cd doc dV kV ho hd hcd hD hmg hg args vals as hpre hlay hrd hwl hlo
 obtain rfl:dV=.none:=Dflts.none hD hdf
 obtain rfl:kV=.none:=Dflts.noKw hD
 obtain⟨a,vs,ns,rfl,rfl,hobj,hints,hlen⟩:=rV hn hpre hwl
 refine enter_call (codeAny_mono (call w s₀ s₁ mg mb fa o pm cd doc a vs ns G Y ho (fd_plain hd) hcd hmg hobj hints hlen hg) λr s' hq=>?_)
 obtain⟨rfl,h2,h3,h4⟩:=hq
 exact⟨.inl ⟨.bool true,.bool true,[],rfl,λ_=>rfl,.bool true,sj l _,λ_=>⟨List.Pairwise.nil,λ_ hm=>(nomatch hm)⟩⟩,h2,h3,h4⟩
section
variable {prog:Program}{w:World}{A:Around}{E:Value->Shared->Prop}{s:Shared}{K:Frag}
end
end Att
namespace L2
open PySem PySem.Spec PyProof.Rows
theorem kE:∀{vs:List Value}{ns:List Int},IntsAre vs ns->aW (ns.map V.int) vs
 | _,_,.nil=>.nil
 | _,_,.cons n t h=>.cons ⟨t,rfl⟩ (kE h)
noncomputable def aM (s:Stmt) (j:Nat):Stmt:=match s with
 | .ClassDef _ _ _ body _ _ _ _ _ _ _=>body.getD j (.Pass ⟨0,0,0,0⟩)
 | _=>.Pass ⟨0,0,0,0⟩
noncomputable def dG (s:Stmt):Arguments:=match s with
 | .FunctionDef _ a _ _ _ _ _ _ _ _=>a
 | _=>{ posonlyargs:=[],args:=[],vararg:=none,kwonlyargs:=[],kw_defaults:=[],kwarg:=none,defaults:=[] }
noncomputable def cz (s:Stmt):List Stmt:=match s with
 | .FunctionDef _ _ b _ _ _ _ _ _ _=>b
 | _=>[]
noncomputable def aq (s:Stmt):Scope:=match s with
 | .FunctionDef _ _ _ _ _ _ sc _ _ _=>sc
 | _=>{ kind:=.function,names:=[],isGenerator:=false,isCoroutine:=false }
noncomputable abbrev CX0:CXT:=λ_ _ _ _ _ _=>False
noncomputable abbrev E0:XK:=λ_ _ _=>False
theorem au {X:Cx}:eC CX0 X E0:=λ_ _ _ _ _ _ _ h=>h.elim
structure Fun (K:PySem.W.Frag) (x qual:Str) (st:Stmt) (f:Addr) (fd:FuncData):Prop where
 ex:∃(oc:Value) (od:Option Addr) (kV doc pm:Value) (an:Option Addr) (cdv ct:Value) (osl:Array (Option Value)),
  fd=PySem.W.fnOf x qual (dG st) (cz st) (aq st) .none kV doc pm an cdv ct/\K.lookup f=some ⟨oc,od,.func fd,osl⟩/\PySem.W.codeIn K cdv qual=true
 kp:PySem.W.keepIn K (.ref f)=true
section
variable {P:Program}{w:World}{K:W.Frag}{mg:Str->Option Value}{base:Heap}
theorem Fun.ok {x qual:Str}{st:Stmt}{f:Addr}{fd:FuncData}{N ps:List Str}{k:Nat}{sp:Sp} (F:Fun K x qual st f fd) (S:FnScope N ps (aq st)) (len:∀vs H Q E,sp vs H Q E->vs.length=ps.length)
  (hbody:∀(cdv:Value) (A:Around) (outer:List Env) (s:Shared) (H:Hp) (vs:List V) (Q:VK) (E:XK),Room k (A.deeper (envOfC qual (aq st) s.heap.objs.size f cdv))->sp vs H Q E->
   ∃t,PSs (jU CX0 P w K mg base N qual (aq st) f cdv A outer s H E).nox (cz st) t/\t { nx:=λ_ H'=>Q .non H',rt:=Q } (cU N vs) H):FnOk P w K mg base CX0 (k+1) f fd ps sp:=by
 obtain⟨oc,od,kV,doc,pm,an,cdv,ct,osl,rfl,lk,hcd⟩:=F.ex
 refine C2 lk hcd S len λA outer s H vs Q E hr hsp=>?_
 obtain⟨t,h,q⟩:=hbody cdv A outer s H vs Q E hr hsp
 exact⟨t,h.nox,q⟩
theorem Fun.binds {x qual:Str}{st:Stmt}{f:Addr}{fd:FuncData}{ps:List Str} (F:Fun K x qual st f fd)
  (h:∀(kV doc pm:Value) (an:Option Addr) (cdv ct:Value) (us:List Value),us.length=ps.length->bindArgs (PySem.W.fnOf x qual (dG st) (cz st) (aq st) .none kV doc pm an cdv ct) ⟨us,[]⟩=pure (ps.zip us)):bE K fd ps []:=by
 obtain⟨oc,od,kV,doc,pm,an,cdv,ct,osl,rfl,lk,hcd⟩:=F.ex
 exact .all (h kV doc pm an cdv ct)
theorem fun_mk {x qual:Str}{st:Stmt}{f:Addr}{oc:Value}{od an:Option Addr}{osl:Array (Option Value)}{kV doc pm cdv ct:Value} (l:K.lookup f=some ⟨oc,od,.func (PySem.W.fnOf x qual (dG st) (cz st) (aq st) .none kV doc pm an cdv ct),osl⟩)
  (c:PySem.W.codeIn K cdv qual=true) (k:PySem.W.keepIn K (.ref f)=true):Fun K x qual st f (PySem.W.fnOf x qual (dG st) (cz st) (aq st) .none kV doc pm an cdv ct):=⟨⟨oc,od,kV,doc,pm,an,cdv,ct,osl,rfl,l,c⟩,k⟩
end
theorem aK {A:Around}{k:Nat} (hr:Room k A):A.units+1 < cLine:=Nat.lt_of_le_of_lt (Nat.add_le_add_left (by decide:1<=64) _) hr.units
theorem bh {n:Nat} (h:n<=1000):n < sizeLine:=Nat.lt_of_le_of_lt h (by decide)
section
variable {X:Cx}
theorem pv (i:Nat){x:Str}{pos:Pos} (hN:X.N[i]?=some x:=by rfl) (hv:Vis X.env.scope x:=by first | exact Or.inl rfl | exact Or.inr (Or.inl rfl) | exact Or.inr (Or.inr rfl)) (hd:(x == ("__debug__" : Str))=false:=by decide)
  (hcd:(x == ("__classdict__" : Str))=false:=by decide):PE X (.Name x pos) (jh i):=AC hN hv hd hcd
end
theorem aS {A B:Prop} (h:B):if false=true then A else B:=by
 rw [if_neg Bool.false_ne_true]
 exact h
theorem bb {A B:Prop} (h:A):if true=true then A else B:=by
 rw [if_pos rfl]
 exact h
theorem dX {c A B:Prop} [Decidable c] (h1:c->A) (h2:¬c->B):if c then A else B:=by
 by_cases h:c
 ·rw [if_pos h]
  exact h1 h
 ·rw [if_neg h]
  exact h2 h
section
variable {κ:Type} [DecidableEq κ]
end
end L2
set_option maxHeartbeats 4000000
namespace L2
open PySem PySem.Spec PyProof.Rows
section
variable {X:Cx}{pins:List (Addr × Obj)}{σ:St}{H:Hp}{s:Shared}{h':Heap}
theorem Inv.table {P:Addr}{ps more:Array Value}{t':Nat} (I:Inv X pins σ H s) (e:H P=some (.tbl ps)) (k:∀b o,b≠P->s.heap.get? b=some o->h'.get? b=some o)
  (hP:h'.get? P=some { cls:=.none,data:=.fields (ps++more) }):Inv X pins σ (upd H P (.tbl (ps++more))) { s with heap:=h',toks:=t' }:=by
 have nP:∀b,H b=none->b≠P:=λb n z=>by rw [z,e]at n;cases n
 refine I.un ⟨λb o q n _ _=>k b o (nP b n) q,λb o q n _ _=>⟨o.slots,k b o (nP b n) q⟩,λb o q n _=>by rw [ai (nP b n)];exact n,λb o q _=>?_,λb xs q=>?_,λb o u q=>?_,λb qs q=>?_⟩ λb u q=>?_
 ·by_cases z:b=P
  ·exact⟨_,by rw [z];exact hP⟩
  ·exact⟨o,k b o z q⟩
 ·rw [ai (dw q e (by intro z;cases z))];exact q
 ·rw [ai (dw q e (by intro z;cases z))];exact q
 ·by_cases z:b=P
  ·subst z;rw [e]at q;cases q;exact⟨more,ar⟩
  ·exact⟨#[],by rw [ai z,q];simp⟩
 ·by_cases z:b=P
  ·subst z;rw [ar]at q;cases q;exact hP
  ·rw [ai z]at q
   refine(I.hok b u q).stay (λc v hc r=>k c v ?_ r) (λc r=>by rw [ai (dw r e (by intro z;cases z))];exact r) λc xs r=>by rw [ai (dw r e (by intro z;cases z))];exact r
   rcases hc with hc | hc
   ·rw [hc];exact z
   ·exact dw hc e (by intro z;cases z)
theorem Inv.track {a:Addr}{o:HO} (I:Inv X pins σ H s) (hs:X.s₀.heap.objs.size<=a) (f:iJ X pins H a) (new:bC X.prog X.w (upd H a o) s.heap a o):Inv X pins σ (upd H a o) s:=by
 obtain⟨hn,hL,hfs,_,hcl,hpn⟩:=f
 have ne:∀b u,H b=some u->b≠a:=λb u q=>ao q hn
 refine⟨I.ok,I.os,I.bare,⟨I.base.keep,I.base.slot,λb ob q n hx=>?_,I.base.there,λb xs q=>?_,λb ob u q=>?_,λb ps q=>?_⟩,I.loc,I.cell,?_,λx c q=>?_,λp hp=>?_,λb u q=>?_,I.len⟩
 ·rw [ai (Nat.ne_of_lt (Nat.lt_of_lt_of_le (Heap.lt_size q) hs))];exact I.base.free b ob q n hx
 ·have r:=I.base.tups b xs q
  rw [ai (ne b _ r)];exact r
 ·have r:=I.base.frzs b ob u q
  rw [ai (ne b _ r)];exact r
 ·obtain⟨m,r⟩:=I.base.tbls b ps q
  exact⟨m,by rw [ai (ne b _ r)];exact r⟩
 ·rw [ai (Ne.symm hL)];exact I.free
 ·rw [ai (hcl x c q)];exact I.freeC x c q
 ·obtain⟨e,n,r⟩:=I.pin p hp
  exact⟨e,by rw [ai (hpn p hp)];exact n,r⟩
 ·by_cases z:b=a
  ·subst z;rw [ar]at q;cases q;exact new
  ·rw [ai z]at q
   exact(I.hok b u q).stay (λ_ _ _ r=>r) (λc r=>by rw [ai (ne c _ r)];exact r) λc xs r=>by rw [ai (ne c _ r)];exact r
end
noncomputable def bD (c:Addr) (q:Str):Heap->Prop:=λh=>h.CodeRec (.ref c) q
theorem bD.st {c:Addr}{q:Str}{h1 h2:Heap} (x:bD c q h1) (k:∀o,h1.get? c=some o->h2.get? c=some o):bD c q h2:=by
 obtain⟨c',o,vs,t,e,g,r⟩:=x
 cases e
 exact⟨c,o,vs,t,rfl,k o g,r⟩
theorem bD.obj {c:Addr}{q:Str}{h:Heap} (x:bD c q h):∃o,h.get? c=some o:=by
 obtain⟨c',o,vs,t,e,g,r⟩:=x
 cases e
 exact⟨o,g⟩
def kA (P:Addr) (pos:Pos) (q:Str) (H:Hp):Prop:=
 H P=some (.tbl #[])\/∃c,H P=some (.tbl #[rawInt pos.line,rawInt pos.col,.ref c])/\H c=some (.ext (bD c q))
theorem kA.tbl {P:Addr}{pos:Pos}{q:Str}{H:Hp} (L:kA P pos q H):∃ps,H P=some (.tbl ps):=by
 rcases L with L | ⟨c,L,_⟩
 ·exact⟨_,L⟩
 ·exact⟨_,L⟩
structure Go (P:Addr) (pos:Pos) (q:Str) (H H':Hp):Prop where
 same:∀b o,b≠P->H b=some o->H' b=some o
 lam:kA P pos q H'
theorem Go.at {P:Addr}{pos:Pos}{q:Str}{H H':Hp} (G:Go P pos q H H') (L:kA P pos q H){b:Addr}{o:HO} (e:H b=some o) (n:∀ps,o≠.tbl ps):H' b=some o:=by
 obtain⟨ps,eP⟩:=L.tbl
 exact G.same b o (dw e eP (n ps)) e
theorem kA.upd_new {P:Addr}{pos:Pos}{q:Str}{H:Hp} (L:kA P pos q H){a:Addr}{o:HO} (hn:H a=none):kA P pos q (upd H a o):=by
 rcases L with L | ⟨c,L,Lc⟩
 ·exact .inl (by rw [ai (ao L hn)];exact L)
 ·exact .inr ⟨c,by rw [ai (ao L hn)];exact L,by rw [ai (ao Lc hn)];exact Lc⟩
theorem Go.new {P:Addr}{pos:Pos}{q:Str}{H:Hp} (L:kA P pos q H){a:Addr}{o:HO} (hn:H a=none):Go P pos q H (upd H a o):=
 ⟨λb u _ e=>by rw [ai (ao e hn)];exact e,L.upd_new hn⟩
section
variable {X:Cx}
end
section
variable {prog:Program}{w:World}{A:Around}{E:Value->Shared->Prop}{s:Shared}
end
class Rk where
 rk:Value->Int
 kd:SortKind
 ok:Value->Prop
class RkOk (prog:Program) (w:World) (A:Around) (s:Shared) extends Rk where
 lt:∀(x y:Value) (E:Value->Shared->Prop) (R:Bool->Shared->Prop),ok x->ok y->R (decide (rk x < rk y)) s->wpAny (model prog w) A (keyLt' kd x y) R E s
section
variable {prog:Program}{w:World}{A:Around}{E:Value->Shared->Prop}{s:Shared}
end
section
variable {prog:Program}{w:World}{A:Around}{E:Value->Shared->Prop}{s:Shared} [RkOk prog w A s] {a₀:Array Keyed}{p:Array (Nat × Nat × Nat)}
end
noncomputable def ky [Rk] (q:Keyed):Int:=Rk.rk q.1
section
variable {prog:Program}{w:World}{A:Around}{E:Value->Shared->Prop}{s:Shared} [RkOk prog w A s]
end
section
variable {prog:Program}{w:World}{A:Around}{E:Value->Shared->Prop}{s:Shared} [RkOk prog w A s]
end
section
variable {prog:Program}{w:World}{A:Around}{E:Value->Shared->Prop}{s:Shared} [RkOk prog w A s] {a₀:Array Keyed}{p:Array (Nat × Nat × Nat)}
end
section
variable {prog:Program}{w:World}{A:Around}{E:Value->Shared->Prop}{s:Shared} [RkOk prog w A s] {a₀:Array Keyed}
end
section
variable {prog:Program}{w:World}{A:Around}{E:Value->Shared->Prop}{s:Shared}{hb:Heap}{fa:Addr}{mp:Str->Option Value}{bk:List (Addr × Obj)}{a st:Addr}{xs:List Value}{ks:List Int}{ka:Array Value}{c1 c2:Nat}
end
section
variable {X:Cx}{pins:List (Addr × Obj)}{σ:St}{H:Hp}{s:Shared}
end
section
variable {X:Cx}{e:Expr}{kws:List Keyword}{t tk:TA}{p pos:Pos}
end
section
variable {X:Cx}{pins:List (Addr × Obj)}{σ:St}{H:Hp}{s:Shared}
end
section
variable {X:Cx}
end
section
variable {X:Cx}
end
def xa (P:Addr) (H:Hp):Prop:=H P=some (.tbl #[])/\∀b,b=P\/H b=none\/∃o xs,H b=some (.frz o (.lst xs))
theorem sL {P:Program}{w:World}{K:W.Frag}{mg mb:Str->Option Value}{k:Nat}{fa a:Addr}{fd:FuncData}{x:Str}{sp:Sp}{s₁:Shared}{vs:List Value}{ns:List Int}{c T:Addr}
  (KX:K.In s₁.heap) (hns:s₁.heap.Ns mainGlobals mg) (hb:s₁.heap.Ns builtinsNs mb) (hbb:∀x:Str,x≠"__name__"->mb x=bootBuiltins x) (hlim:s₁.heap.NoLimit) (hg:s₁.gens = #[])
  (hC:PySem.W.CodeHd s₁.heap c T) (hT:s₁.heap.get? T=some (PySem.W.tabObj #[])) (hnt:PySem.W.noTabs K=true) (hB:s₁.heap.BuiltinsAt mg T)
  (ha:s₁.heap.get? a=some { cls:=.type "list", data:=.seq vs.toArray }) (hi:IntsAre vs ns) (hl:ns.length<=sizeLine) (hr:Room k callerA)
  (F:∀base:Heap,K.In base->base.Ns mainGlobals mg->PySem.W.CodeHd base c T->base.BuiltinsAt mg T->FnOk P w K mg base CX0 k fa fd [x] sp) (hbind:∀(s:Shared) (u:Value),BindsTo s fd ⟨[u],[]⟩ [(x,u)])
  (hsp:∀H:Hp,xa T H->SqL K H a (ns.map V.int)->sp [.ref a] H (λv _=>v=.bl true) λ_ _ _=>False) :
  codeAny (model P w) callerA (.call (.ref fa) ⟨[.ref a],[]⟩) (λr s'=>r=.ok (.ret (.bool true))/\OldK s₁.heap s'.heap/\s'.os=s₁.os/\AllBare s'.gens) s₁:=by
 have rv:=kE hi
 have lenV:=hi.length
 have aT:a≠T:=λz=>by rw [z,hT]at ha;cases ha
 have core:∀H:Hp,xa T H->SqL K H a (ns.map V.int)->HOk P w H s₁.heap->(∀b,H b≠none->b=a\/b=T)->(H a≠none->K.lookup a=none)->
   codeAny (model P w) callerA (.call (.ref fa) ⟨[.ref a],[]⟩) (λr s'=>r=.ok (.ret (.bool true))/\OldK s₁.heap s'.heap/\s'.os=s₁.os/\AllBare s'.gens) s₁:=by
  intro H hO hS hok hA hK
  have base_of:∀{b:Addr}{o:Obj},s₁.heap.get? b=some o->H b=none->(jK s₁.heap H).get? b=some o:=λe n=>wt e n
  have noA:∀{b:Addr}{o:Obj},s₁.heap.get? b=some o->o≠{ cls:=.type "list", data:=.seq vs.toArray }->o≠PySem.W.tabObj #[]->H b=none:=λ{b o} e d1 d2=>by
   cases q:H b with
   | none=>rfl
   | some u=>
    rcases hA b (by rw [q];simp) with z | z
    ·subst z
     rw [ha]at e;cases e
     exact absurd rfl d1
    ·subst z
     rw [hT]at e;cases e
     exact absurd rfl d2
  have nsK:∀{b:Addr}{m:Str->Option Value},s₁.heap.Ns b m->(jK s₁.heap H).Ns b m:=λ{b m} hh=>by
   obtain⟨o,es,ep,e,d,r⟩:=hh
   exact⟨o,es,ep,base_of e (noA e (λz=>by rw [z]at d;cases d) λz=>by rw [z]at d;cases d),d,r⟩
  have hKb:K.In (jK s₁.heap H):=λb o e=>base_of (KX b o e) (by
   cases q:H b with
   | none=>rfl
   | some u=>
    rcases hA b (by rw [q];simp) with z | z
    ·subst z
     rw [hK (by rw [q];simp)]at e;cases e
    ·subst z
     have h1:=KX b o e
     rw [hT]at h1;cases h1
     have h2:=List.all_eq_true.mp hnt (b,PySem.W.tabObj #[]) (PySem.W.mem_of_lookupK e)
     exact absurd (show false=true from h2) Bool.false_ne_true)
  have hM:Mod K mg (jK s₁.heap H):=⟨hKb,nsK hns,⟨mb,nsK hb,hbb⟩,let ⟨mc,h1,h2⟩:=hlim;⟨mc,nsK h1,h2⟩⟩
  have hCb:PySem.W.CodeHd (jK s₁.heap H) c T:=by
   obtain⟨o,vs',file,tf,flags,tg,inF,text,tt,e1,e2,r⟩:=hC
   exact⟨o,vs',file,tf,flags,tg,inF,text,tt,base_of e1 (noA e1 (λz=>by rw [z]at e2;injection e2 with e2;exact absurd e2 (by decide)) λz=>by rw [z]at e2;cases e2),e2,r⟩
  have hBb:(jK s₁.heap H).BuiltinsAt mg T:=by
   obtain⟨bm,ob,b1,b2,b3,b4,b5,b6,b7⟩:=hB
   exact⟨bm,ob,b1,b2,b3,b4,base_of b5 (noA b5 (λz=>by rw [z]at b6;injection b6 with b6;exact absurd b6 (by decide)) λz=>by rw [z]at b6;cases b6),b6,b7⟩
  have e0:Env0 P w K mg (jK s₁.heap H) callerA [] s₁ H:=⟨rfl,hM,λb o e=>yn e,Nat.le_of_eq (sP _ _),trivial,λb hb=>absurd (show b∈([]:List Addr) from hb) (by simp),hok,.of_eq hg⟩
  refine codeAny_mono ((F _ hKb (nsK hns) hCb hBb).run callerA [] s₁ H ⟨[.ref a],[]⟩ [.ref a] [.ref a] _ _ hr e0 (hbind s₁ (.ref a)) (.cons rfl .nil) (hsp H hO hS)) λr s' h=>?_
  cases r with
  | error e=>exact False.elim h
  | ok fl=>
   cases fl with
   | next=>exact False.elim h
   | brk=>exact False.elim h
   | cont=>exact False.elim h
   | ret u=>
    obtain⟨v,H',os,bare,un,hok',r',q⟩:=h
    have q':v=.bl true:=q
    subst q'
    obtain rfl:u=Value.bool true:=r'
    obtain⟨more,hmore⟩:=un.tbls T #[] hO.1
    have hT':s'.heap.get? T=some { cls:=.none,data:=.fields (#[]++more) }:=hok' T _ hmore
    have kept:∀b o,b≠T->s₁.heap.get? b=some o->s'.heap.get? b=some o:=λb o nT e=>by
     rcases hO.2 b with z | z | ⟨ob,xs,z⟩
     ·exact absurd z nT
     ·exact un.keep b o e z (by intro z;exact absurd (show b∈([]:List Addr) from z) (by simp)) (by simp)
     ·have z2:=un.frzs b ob _ z
      obtain⟨e1,_⟩:=hok b _ z
      obtain⟨e2,_⟩:=hok' b _ z2
      rw [e]at e1;cases e1
      exact e2
    refine⟨rfl,⟨λb o e=>?_,λb o e=>?_⟩,os,bare⟩
    ·by_cases z:b=T
     ·subst z
      rw [hT]at e;cases e
      exact .inr (.inl ⟨(hC.tab hT).isCodeTable,rfl,#[],more,rfl,hT'⟩)
     ·exact .inl (kept b o z e)
    ·by_cases z:b=T
     ·subst z;exact⟨_,hT'⟩
     ·exact⟨o,kept b o z e⟩
 cases hk:K.lookup a with
 | some o=>
  have e:=KX a o hk
  rw [ha]at e
  cases e
  refine core (λb=>if b=T then some (.tbl #[]) else none) ⟨if_pos rfl,λb=>?_⟩ (.inr ⟨_,vs.toArray,_,hk,rfl,rfl,rfl,by rw [List.size_toArray,lenV];exact hl,by simpa using rv⟩) (λb u z=>?_) (λb z=>?_) λz=>absurd (if_neg aT) z
  ·by_cases hb:b=T
   ·exact .inl hb
   ·exact .inr (.inl (if_neg hb))
  ·by_cases hb:b=T
   ·have z':=(if_pos hb).symm.trans z
    cases z'
    rw [hb]
    exact hT
   ·have z':=(if_neg hb).symm.trans z
    cases z'
  ·by_cases hb:b=T
   ·exact .inr hb
   ·exact absurd (if_neg hb) z
 | none=>
  refine core (λb=>if b=T then some (.tbl #[]) else if b=a then some (.frz { cls:=.type "list", data:=.seq vs.toArray } (.lst (ns.map V.int))) else none) ⟨if_pos rfl,λb=>?_⟩
   (.inl (.inr ⟨{ cls:=.type "list", data:=.seq vs.toArray },(if_neg aT).trans (if_pos rfl)⟩)) (λb u z=>?_) (λb z=>?_) λ_=>hk
  ·by_cases hb:b=T
   ·exact .inl hb
   ·by_cases hb2:b=a
    ·exact .inr (.inr ⟨_,_,(if_neg hb).trans (if_pos hb2)⟩)
    ·exact .inr (.inl ((if_neg hb).trans (if_neg hb2)))
  ·by_cases hb:b=T
   ·have z':=(if_pos hb).symm.trans z
    cases z'
    rw [hb]
    exact hT
   ·by_cases hb2:b=a
    ·have z':=((if_neg hb).trans (if_pos hb2)).symm.trans z
     cases z'
     subst hb2
     exact⟨ha,by rw [List.length_map];exact hl,vs,_,rv,ha⟩
    ·have z':=((if_neg hb).trans (if_neg hb2)).symm.trans z
     cases z'
  ·by_cases hb:b=T
   ·exact .inr hb
   ·by_cases hb2:b=a
    ·exact .inl hb2
    ·exact absurd ((if_neg hb).trans (if_neg hb2)) z
theorem tF {l:PySem.W.OpenLaw}{n k:Nat}{q:Program}{loose:List Str}{XP:(Str->Option Value)->Heap->Prop}{YP:World->Heap->Prop}{d dj:DefRec}{K:Params->PySem.W.Frag}{sp:World->Sp}{x xj:Str}{c T:Addr}
  (hn:l.most=some n) (hn2:n<=sizeLine) (hdf:d.params.defaults=[]) (hr:Room k callerA)
  (hY:∀(w:World) (h:Heap),YP w h->(K w.params).In h)
  (hrj:(recsOf q).find? (λe=>e.name == xj)=some dj) (htab:∀(w:World) (h:Heap),(K w.params).In h->PySem.W.tabIn (K w.params) xj=some (c,T)) (hnt:∀(w:World) (h:Heap),(K w.params).In h->PySem.W.noTabs (K w.params)=true)
  (F:∀(w:World) (mg:Str->Option Value) (fa:Addr) (h:Heap),(K w.params).In h->h.Ns mainGlobals mg->mg d.name=some (.ref fa)->
   ∃fd:FuncData,(∀(s:Shared) (u:Value),BindsTo s fd ⟨[u],[]⟩ [(x,u)])/\
    ∀base:Heap,(K w.params).In base->base.Ns mainGlobals mg->PySem.W.CodeHd base c T->base.BuiltinsAt mg T->FnOk l.prog w (K w.params) mg base CX0 k fa fd [x] (sp w))
  (hsp:∀(w:World) (H:Hp) (a:Addr) (ns:List Int),ns.length<=n->xa T H->SqL (K w.params) H a (ns.map V.int)->sp w [.ref a] H (λv _=>v=.bl true) λ_ _ _=>False) :
  PySem.W.WalkO q loose XP YP l.row.toRowW d [] (λf vs=>PySem.call f vs):=by
 refine Att.attach_call hn hdf λw s₀ s₁ mg mb fa o pm cd doc a vs ns G Y ho hd hcd hmg hobj hints hlen hg=>?_
 have KX:=hY w _ Y
 obtain⟨fd,hb,hF⟩:=F w mg fa _ KX G.T.g hmg
 obtain⟨hC,hT⟩:=PySem.W.tab_of G.T KX hrj (htab w _ KX)
 have hB:s₁.heap.BuiltinsAt mg T:=by
  obtain⟨bm,ob,b1,b2,b3,b4,b5,b6⟩:=G.T.bmain
  refine⟨bm,ob,b1,b2,λz=>?_,λz=>?_,b3,b4,b5,b6⟩
  ·obtain⟨o',es,ep,e,hd',_⟩:=G.T.g
   rw [z,e]at b3;cases b3;rw [hd']at b6;cases b6
  ·rw [z,hT]at b3;cases b3;cases b4
 exact sL KX G.T.g G.T.b G.T.builtins G.T.nolimit hg hC hT (hnt w _ KX) hB hobj hints (Nat.le_trans hlen hn2) hr hF hb (λH hO hS=>hsp w H a ns hlen hO hS)
end L2
namespace Strip
section
variable {M:Type} [DecidableEq M]
end
end Strip
namespace L2
open PySem PySem.Spec PyProof.Rows
section
variable {T:Addr}{pos:Pos}{q:Str}{H H':Hp}
end
section
variable {X:Cx}
theorem cF:cW X (.builtin "isinstance") (λxs H Q=>∃x n t b,xs=[x,.ty n]/\TyOf X.K H x t/\PySem.W.kitOne X.K t (.type n)=some b/\Q (.bl b) H):=by
 intro pins s σ H xs us Q I r h
 obtain⟨x,n,t,b,rfl,ty,e,q⟩:=h
 obtain⟨u,u2,rfl,rx,rt⟩:=tH r
 cases (show u2=Value.type n from rt)
 exact sO I rx ty e λtk=>⟨.bl b,H,I.tok _,rfl,q⟩
end
end L2
namespace Strip
section
variable {M:Type} [DecidableEq M]
end
end Strip
namespace L2
open PySem PySem.Spec PyProof.Rows
noncomputable def cR (X:Cx) (scope:Scope) (cl:List (Str × Addr)) (N:List Str) (C:Addr) (fp:List Addr) (s:Shared) (H:Hp):Cx where
 prog:=X.prog
 w:=X.w
 K:=X.K
 mg:=X.mg
 base:=X.base
 A:=X.A
 N:=N
 s₀:=s
 H₀:=H
 env:=compEnvC scope cl C X.env
 outer:=X.stack
 stack:=X.stack
 ex:=fp
 fn:=λ_=>false
 calm:=true
 pn:=[]
 xe:=λ_ _=>False
noncomputable def bG (sub:List Nat) (σ:St):St:=sub.map λi=>(σ[i]?).join
def PTs (X:Cx) (ifs:List Expr) (t:TT):Prop:=
 ∀(pins:List (Addr × Obj)) (s:Shared) (σ:St) (H:Hp) (Q:Bool->Hp->Prop),Inv X pins σ H s->t σ H Q->
  wpAny (model X.prog X.w) X.A (forIn ifs true λc r=>if r=true then do let ok <- isTrue c X.env (eval c X.env);pure (ForInStep.yield ok) else pure (ForInStep.yield r)) (TP X pins σ Q) X.xe s
theorem cw {X:Cx}:PTs X [] (λ_ H Q=>Q true H):=λ_ _ _ H _ I h=>wpAny_tests_nil ⟨H,I,h⟩
theorem mo {X:Cx}{c:Expr}{t:TT} (h:PT X c t):PTs X [c] t:=λpins s σ H Q I q=>wpAny_tests_one (h pins s σ H Q I q)
noncomputable def kG (wi:TI) (sub:List Nat) (tt:TT) (te:TE):TE:=λσ H Q=>wi σ H λJ H1=>∀D,H1 D=none->∃W:Nat->Nat->List V->Hp->Prop,(∃m,W 0 m [] (upd H1 D (.lst [])))/\∀i m ys H2,W i m ys H2->
 (J.stop i H2/\Q (.ref D) H2)\/(J.go i H2/\∃N:List V->Hp->Prop,(∀ys' H',N ys' H'->∃m',m' < m/\W (i+1) m' ys' H')/\∀v H3,J.yld i H2 v H3->tt (some v::bG sub σ) H3 λb H4=>if b=true then
  te (some v::bG sub σ) H4 λy H5=>H5 D=some (.lst ys)/\ys.length < sizeLine/\N (ys++[y]) (upd H5 D (.lst (ys++[y])))
  else N ys H4)
def PEC (X:Cx) (e iter:Expr) (scope:Scope) (te:TE):Prop:=
 ∀(pos:Pos) (pins:List (Addr × Obj)) (s:Shared) (σ:St) (H:Hp) (Q:VK) (use:Option (Value->Sem Unit)) (QV:Value->Shared->Prop),Inv X pins σ H s->te σ H Q->
  (∀(D C:Addr) (H':Hp) (s':Shared),Inv X pins σ H' s'->iJ X pins H' C->(∃m,s'.heap.Ns C m)->Q (.ref D) H'->compPost (model X.prog X.w) X.A X.xe use QV (.ref D) C (.ok .next) s')->
  wpAny (model X.prog X.w) X.A (comprehension e scope X.env pos (newList []) false (eval iter X.env) use) QV X.xe s
theorem iJ.turn {X:Cx}{pins:List (Addr × Obj)}{σ:St}{H:Hp}{s:Shared}{h':Heap}{C:Addr} (f:iJ X pins H C) (I:Inv X pins σ H s) (hs:Heap.SameBut C s.heap h'):Inv X pins σ H { s with heap:=h' }:=
 I.turned (h':=h') (t':=s.toks) (it:=C) (λb o n e=>(hs.2 b n).trans e) f.1 f.2.1 f.2.2.2.1 f.2.2.2.2.1 f.2.2.2.2.2
theorem fH {X:Cx}{elt tg iter:Expr}{ifs:List Expr}{scope:Scope}{pos:Pos}{te:TE} (h:PEC X (.ListComp elt [⟨tg,iter,ifs,0⟩] scope pos) iter scope te):PE X (.ListComp elt [⟨tg,iter,ifs,0⟩] scope pos) te:=by
 intro pins s σ H Q I q
 rw [eval_ListComp]
 refine h _ pins s σ H Q none _ I q λD C H' s' K1 fC ⟨m,hm⟩ q=>⟨m,hm,λh' hsb'=>⟨.ref D,H',fC.turn K1 hsb',rfl,q⟩⟩
theorem mq {X:Cx}{elt tg iter:Expr}{ifs:List Expr}{scope:Scope}{pos spos py:Pos}{te:TE}{i:Nat}{y:Str} (hN:X.N.Nodup) (hi:X.N[i]?=some y) (hx:Loc X.env.scope y)
  (h:PEC X (.ListComp elt [⟨tg,iter,ifs,0⟩] scope pos) iter scope te) (hsw:swapsWith (.ListComp elt [⟨tg,iter,ifs,0⟩] scope pos) (some (.Name y py)) spos.line X.env=pure true:=by rfl)
  (hf:X.fn y=true\/X.env.scope.names.lookup y=some .local:=by first | exact .inl rfl | exact .inr rfl | assumption):PS X (.Assign [.Name y py] (.ListComp elt [⟨tg,iter,ifs,0⟩] scope pos) spos) (xm te (az i)):=by
 intro pins s σ H D I q
 rw [exec_Assign_Name_used _ _ _ _ hsw]
 refine zB0 (wpAny_standAt (zB0 ?_))
 show wpAny _ X.A (do let _ <- comprehension (.ListComp elt [⟨tg,iter,ifs,0⟩] scope pos) scope X.env _ (newList []) false (eval iter X.env) (some (assign (.Name y py) X.env))) _ _ s
 refine zB0 (wpAny_mono (h _ pins s σ H _ (some (assign (.Name y py) X.env)) (λ_ s'=>SP X pins D .next s') I q λDa C H' s' K1 fC hm q=>?_) (λ_ s' hq=>zP0 (zP0 hq)) λ_ _ e=>e)
 show wpAny _ X.A (assign (.Name y py) X.env (.ref Da)) _ _ _
 refine wpAny_assign_Name (kJ K1 hN hi hx (v:=.ref Da) rfl (λs2 I2 hh=>?_) hf)
 obtain⟨m,hm⟩:=hm
 obtain⟨a,hsb,ha⟩:=hh
 have hne:C≠a:=by
  rcases ha with z | z
  ·rw [z];exact fC.2.1
  ·exact λe=>fC.2.2.2.2.1 _ _ z e.symm
 exact⟨m,hm.sameBut hsb hne,λh' hs'=>⟨_,H',fC.turn I2 hs',q⟩⟩
section
variable {prog:Program}{w:World}{A:Around}{R:Result->Shared->Prop}{s:Shared}
noncomputable abbrev lh (prog:Program) (w:World) (A:Around) (env:Env) (R:Result->Shared->Prop):Value->Shared->Prop:=notedBy (model prog w) A env λx s'=>R (.error x) s'
theorem qo {elt tg iter:Expr}{ifs:List Expr}{scope:Scope}{pos:Pos}{it acc:Value}{env:Env} (J:Nat->Shared->Prop)
  (go:∀n s,J n s->wpAny (model prog w) A (pyNext it) (λr s1=>match r with
   | none=>R (.ok .next) s1
   | some v=>wpAny (model prog w) A (letOwnedTupleGo tg it v) (λ_ s1'=>wpAny (model prog w) A (assign tg env v) (λ_ s2=>
     wpAny (model prog w) A (forIn ifs true λc r=>if r=true then do let ok <- isTrue c env (eval c env);pure (ForInStep.yield ok) else pure (ForInStep.yield r)) (λb s3=>
      if b=true then wpAny (model prog w) A (eval elt env) (λx s4=>wpAny (model prog w) A (call (.builtin "list.append") [acc,x]) (λ_ s5=>∃m,m < n/\J m s5) (lh prog w A env R) s4) (lh prog w A env R) s3
      else ∃m,m < n/\J m s3) (lh prog w A env R) s2) (lh prog w A env R) s1') (lh prog w A env R) s1) (lh prog w A env R) s)
  (n:Nat) (h0:J n s):codeAny (model prog w) A (.compLoop (.ListComp elt [⟨tg,iter,ifs,0⟩] scope pos) 0 it acc env) R s:=by
 refine codeAny_loop rfl J (λn s hI=>?_) n h0
 have e:((compTurn (.ListComp elt [⟨tg,iter,ifs,0⟩] scope pos) 0 it acc env).onRaise λx=>do noteFrame x env;theTreesLotGoes x)=((compTurn (.ListComp elt [⟨tg,iter,ifs,0⟩] scope pos) 0 it acc env).onRaise λx=>do noteFrame x env;theTreesLotGoes x):=rfl
 show wpAny _ A ((compTurn (.ListComp elt [⟨tg,iter,ifs,0⟩] scope pos) 0 it acc env).onRaise λx=>do noteFrame x env;theTreesLotGoes x) _ _ s
 apply wpAny_noted
 rw [compTurn_list]
 refine zB0 (wpAny_standAt (zB0 (thn (go n s hI) λr s1 h1=>?_)))
 cases r with
 | none=>exact zP0 h1
 | some v=>
  refine zB0 (thn h1 λ_ s1' h1'=>zB0 (thn h1' λ_ s2 h2=>zB0 (thn h2 λb s3 h3=>?_)))
  cases b with
  | false=>exact zP0 ⟨rfl,h3⟩
  | true=>exact zB0 (zB0 (thn h3 λx s4 h4=>zB0 (thn h4 λ_ s5 h5=>zP0 (zP0 ⟨rfl,h5⟩))))
end
def Cd (g:TG) (n:Nat) (sub:List Nat) (tt:TT) (te:TE) (σ:St) (Q:VK) (J:It) (H1:Hp):Prop:=∀D,H1 D=none->∃W:Nat->Nat->List V->Hp->Prop,(∃m,W 0 m [] (upd H1 D (.lst [])))/\∀i m ys H2,W i m ys H2->
 (J.stop i H2/\Q (.ref D) H2)\/(J.go i H2/\∃N:List V->Hp->Prop,(∀ys' H',N ys' H'->∃m',m' < m/\W (i+1) m' ys' H')/\∀v H3,J.yld i H2 v H3->∀τ:List (Option V),τ.length=n->g v (τ++bG sub σ) H3 λσ' H'=>(∃τ':List (Option V),τ'.length=n/\σ'=τ'++bG sub σ)/\tt σ' H' λc H4=>if c=true then
  te σ' H4 λy H5=>H5 D=some (.lst ys)/\ys.length < sizeLine/\N (ys++[y]) (upd H5 D (.lst (ys++[y])))
  else N ys H4)
section
variable {X:Cx}
theorem sv {elt tg iter:Expr}{xn:List Str}{g:TG}{CB:St->VK->It->Hp->Prop}{pos:Pos}{ifs:List Expr}{scope:Scope}{cl:List (Str × Addr)}{sub:List Nat}{fv:List Str}{wi:TI}{tt:TT}{te:TE}
  (hc:X.calm=true) (hi:PI X tg iter wi) (hclos:closureFor scope X.env=pure cl)
  (hcell:∀y∈scope.names,y.2≠.cell) (hkind:scope.kind=.function) (hnames:∀y∈scope.names,y.2=.local->scope.names.lookup y.1=some .local)
  (hl:sub.length=fv.length) (hsub:∀(j:Nat) (i:Nat) (y:Str),sub[j]?=some i->fv[j]?=some y->X.N[i]?=some y/\Vis X.env.scope y/\X.env.kindOf y≠some .local)
  (hvis:∀y∈fv,(compEnvC scope cl 0 X.env).kindOf y=some .cell\/(compEnvC scope cl 0 X.env).kindOf y=some .free)
  (hcl:∀y c,cl.lookup y=some c->X.env.cells.lookup y=some c) (hcl2:∀y∈fv,cl.lookup y=X.env.cells.lookup y)
  (hhas:∀y,((compEnvC scope cl 0 X.env).kindOf y=some .cell\/(compEnvC scope cl 0 X.env).kindOf y=some .free)->∃c,cl.lookup y=some c)
  (hg:∀C fp s H,PG (cR X scope cl (xn++fv) C fp s H) tg g) (ht:∀C fp s H,PTs (cR X scope cl (xn++fv) C fp s H) ifs tt) (he:∀C fp s H,PE (cR X scope cl (xn++fv) C fp s H) elt te)
  (hCB:∀σ Q J H1,CB σ Q J H1->Cd g xn.length sub tt te σ Q J H1) (hs:∀x,foldedSetIterable iter X.env x=pure x:=by intro _;rfl):PEC X (.ListComp elt [⟨tg,iter,ifs,0⟩] scope pos) iter scope (λσ H Q=>wi σ H λJ H1=>CB σ Q J H1):=by
 intro upos pins s σ H Q use QV I h hend
 refine wpAny_comprehension_free (use:=use) rfl hs hclos hkind hnames ?_
 refine thn (hi pins s σ H _ I h) λv s1 h1=>thn h1 λitv s2 h2=>?_
 obtain⟨it,fp,tn,J,H2,e,I2,T,st2,f2,h⟩:=h2
 subst e
 refine wpAny_newList ?_ (Nat.zero_le _)
 have nD:H2 s2.heap.objs.size=none:=I2.hok.fresh (Nat.le_refl _)
 obtain⟨W,⟨m0,w0⟩,turn⟩:=hCB _ _ _ _ h s2.heap.objs.size nD
 have I3:=I2.lnew (ys:=[]) (its:=[]) (t':=s2.toks) .nil (Nat.zero_le _)
 generalize hs3:({ s2 with heap:=s2.heap.push { cls:=.type "list", data:=.seq ([]:List Value).toArray },toks:=s2.toks }:Shared)=s3 at I3
 have hDlt:s2.heap.objs.size < s3.heap.objs.size:=by rw [<- hs3];show _ < (s2.heap.push _).objs.size;rw [Heap.size_push];exact Nat.lt_succ_self _
 have old3:∀b o,s2.heap.get? b=some o->s3.heap.get? b=some o:=λb o e=>by rw [<- hs3];exact zH0 _ e
 generalize hD:s2.heap.objs.size=D at *
 refine wpAny_newFunctionEnv hcell (by intro y hy;simp at hy) (λh₁ hns hsb=>?_) hkind
 generalize hC:s3.heap.objs.size=C at *
 have kept:∀b o,s3.heap.get? b=some o->h₁.get? b=some o:=λb o e=>(hsb.2 b (by rw [<- hC];exact Nat.ne_of_lt (Heap.lt_size e))).trans (zH0 _ e)
 have nC:upd H2 D (.lst []) C=none:=I3.hok.fresh (Nat.le_of_eq hC)
 have fC:iJ X pins (upd H2 D (.lst [])) C:=I3.fpOk (Nat.le_of_eq hC) nC
 have fp3:∀b∈fp,b < s2.heap.objs.size:=λb hb=>by obtain⟨o,e,_⟩:=T.obj _ _ st2 b hb;exact Heap.lt_size e
 have fpC:∀b∈fp,b≠C:=λb hb=>by rw [<- hC];exact Nat.ne_of_lt (Nat.lt_of_lt_of_le (fp3 b hb) (by rw [hD];exact Nat.le_of_lt (hC ▸ hDlt)))
 have fpD:∀b∈fp,b≠D:=λb hb=>by rw [<- hD];exact Nat.ne_of_lt (fp3 b hb)
 have ok':(cR X scope cl (xn++fv) C fp s3 (upd H2 D (.lst []))).Ok:=by
  refine⟨I.ok.mod,hkind,I.ok.glob,I.ok.blt,Nat.le_of_eq hC,λy z c e1 e2=>I.ok.inj y z c (hcl y c e1) (hcl z c e2),λy hy=>hhas y hy,(λy c e _=>by cases e),λ_=>I.ok.hd hc,I.ok.frames,.inl rfl,λb hb=>⟨fpC b hb,λy c e=>(f2 b hb).2.2.2.2.1 y c (hcl y c e)⟩,I3.bs,Nat.le_trans I.ok.bsz I3.sz,
   λb o e hb=>?_,λb hb hf=>?_,I3.stack,I3.stkFree⟩
  ·rcases (f2 b hb).2.2.2.1 with z | z
   ·exact I.ok.noex b o e z
   ·exact absurd (Nat.lt_of_lt_of_le (Heap.lt_size e) (Nat.le_trans I.ok.bsz z)) (Nat.lt_irrefl _)
  ·rcases List.mem_cons.mp (I3.stkSub b hf) with z | z
   ·exact(f2 b hb).2.1 z
   ·exact(f2 b hb).2.2.1 z
 have lenσ:∀τ:List (Option V),τ.length=xn.length->(τ++bG sub σ).length=(xn++fv).length:=λτ ht=>by
  unfold bG
  rw [List.length_append,List.length_append,List.length_map,hl,ht]
 have I4:∀t',Inv (cR X scope cl (xn++fv) C fp s3 (upd H2 D (.lst []))) [] (List.replicate xn.length none++bG sub σ) (upd H2 D (.lst [])) { s3 with heap:=h₁,toks:=t' }:=λt'=>by
  refine⟨ok',rfl,I3.bare,Un.kept kept,⟨_,hns,λi y v e1 e2 e3=>?_⟩,λy c e=>?_,nC,λy c e=>I3.freeC y c (hcl y c e),(λp hp=>by cases hp),I3.hok.kept kept,lenσ _ (List.length_replicate ..)⟩
  ·by_cases hi:i < xn.length
   ·rw [List.getElem?_append_left (by rw [List.length_replicate];exact hi),List.getElem?_replicate,if_pos hi]at e2
    cases e2
   ·have e1:(xn++fv)[i]?=some y:=e1
    rw [List.getElem?_append_right ‹1›]at e1
    rw [List.getElem?_append_right (by rw [List.length_replicate];omega),List.length_replicate]at e2
    generalize i - xn.length=j at e1 e2
    unfold bG at e2
    rw [List.getElem?_map]at e2
    cases ei:sub[j]? with
    | none=>rw [ei]at e2;cases e2
    | some i=>
     rw [ei]at e2
     have e2:(σ[i]?).join=some v:=Option.some.inj e2
     obtain⟨n1,n2,n3⟩:=hsub j i y ei e1
     have e4:σ[i]?=some (some v):=by
      cases q:σ[i]? with
      | none=>rw [q]at e2;cases e2
      | some w'=>rw [q]at e2;cases w' with
       | none=>cases e2
       | some v'=>cases e2;rfl
     obtain⟨m,hn,hl'⟩:=I3.loc
     obtain⟨u,ru,lu⟩:=hl' i y v n1 e4 n2
     refine⟨u,ru,?_⟩
     rcases lu with⟨k1,_⟩ | ⟨k1,c,ec,ic⟩
     ·exact absurd k1 n3
     ·have hy:=List.mem_of_getElem? e1
      exact .inr ⟨hvis y hy,c,(hcl2 y hy).trans ec,ic.keeps kept⟩
  ·obtain⟨v,z⟩:=I3.cell y c (hcl y c e)
   exact⟨v,z.keeps kept⟩
 have back:∀{σ':St}{H':Hp}{s':Shared},Inv (cR X scope cl (xn++fv) C fp s3 (upd H2 D (.lst []))) [] σ' H' s'->Q (.ref D) H'->
   compPost (model X.prog X.w) X.A X.xe use QV (.ref D) C (.ok .next) s':=λ{σ' H' s'} J' q=>by
  obtain⟨m,hm,_⟩:=id J'.loc
  have hos:s'.os=s3.os:=J'.os
  have K1:Inv X pins σ H' s':=I3.call' (ch:=fp) hos J'.base J'.hok J'.bare λb hb=>⟨(f2 b hb).2.2.2.1,(f2 b hb).2.1,(f2 b hb).2.2.2.2.1,(f2 b hb).2.2.2.2.2⟩
  exact hend D C H' s' K1 ⟨J'.free,fC.2⟩ ⟨m,hm⟩ q
 have stat:∀{H':Hp},(∀b∈fp,H' b=none)->∀b∈fp,iJ (cR X scope cl (xn++fv) C fp s3 (upd H2 D (.lst []))) [] H' b:=λhn b hb=>
  ⟨hn b hb,fpC b hb,ok'.exfs b hb,.inl hb,(ok'.exf b hb).2,(λp hp=>by cases hp)⟩
 have loop:∀t',codeAny (model X.prog X.w) X.A (.compLoop (.ListComp elt [⟨tg,iter,ifs,0⟩] scope pos) 0 (.ref it) (.ref D) (compEnvC scope cl C X.env)) (compPost (model X.prog X.w) X.A X.xe use QV (.ref D) C) { s3 with heap:=h₁,toks:=t' }:=λt'=>by
  refine qo (λn s'=>∃(i:Nat) (ys:List V) (H':Hp) (τ:List (Option V)),τ.length=xn.length/\Inv (cR X scope cl (xn++fv) C fp s3 (upd H2 D (.lst []))) [] (τ++bG sub σ) H' s'/\tn i s'.heap/\(∀b∈fp,H' b=none)/\W i n ys H') ?_ m0
   ⟨0,[],_,_,List.length_replicate ..,I4 t',T.keep _ _ _ st2 (λb hb o e=>kept b o (old3 b o e)),λb hb=>by rw [ai (fpD b hb)];exact(f2 b hb).1,w0⟩
  rintro n s5 ⟨i,ys,H5,τ,hτ,I5,st5,fr5,w5⟩
  rcases turn i n ys H5 w5 with⟨stop,q⟩ | ⟨go,NN,hNN,step⟩
  ·refine wpAny_mono (T.done (cR X scope cl (xn++fv) C fp s3 (upd H2 D (.lst []))) rfl rfl rfl rfl i [] s5 _ H5 (λ_ _=>False) I5 (stat fr5) st5 stop) (λr s6 hh=>?_) λ_ _ f=>f.elim
   obtain⟨hr,I6⟩:=hh
   subst hr
   exact back I6 q
  ·refine wpAny_mono (T.item (cR X scope cl (xn++fv) C fp s3 (upd H2 D (.lst []))) rfl rfl rfl rfl i [] s5 _ H5 (λ_ _=>False) I5 (stat fr5) st5 go) (λr s6 hh=>?_) λ_ _ f=>f.elim
   obtain⟨u,hr,h6⟩:=hh
   subst hr
   refine wpAny_mono h6 (λ_ s7 hh=>?_) λ_ _ f=>f.elim
   obtain⟨v,H7,I7,r7,y7,st7,fr7⟩:=hh
   have I7':=I7.pinned (stat fr7) (T.obj _ _ st7)
   refine wpAny_mono (hg C fp s3 _ _ s7 _ H7 v u _ I7' r7 (step v H7 y7 τ hτ)) (λ_ s8 hh=>?_) λ_ _ f=>f.elim
   obtain⟨_,H8,I8,⟨τ',hτ',rfl⟩,step⟩:=hh
   have again:∀{H9:Hp}{s9:Shared}{ys9:List V}{m9:Nat},Inv (cR X scope cl (xn++fv) C fp s3 (upd H2 D (.lst []))) ([]++jA fp s7.heap) (τ'++bG sub σ) H9 s9->m9 < n->W (i+1) m9 ys9 H9->
     ∃m,m < n/\∃(i:Nat) (ys:List V) (H':Hp) (τ:List (Option V)),τ.length=xn.length/\Inv (cR X scope cl (xn++fv) C fp s3 (upd H2 D (.lst []))) [] (τ++bG sub σ) H' s9/\tn i s9.heap/\(∀b∈fp,H' b=none)/\W i m ys H':=λ{H9 s9 ys9 m9} I9 hm w9=>by
    refine⟨m9,hm,i+1,ys9,H9,_,hτ',I9.unpinned,T.keep _ _ _ st7 λb hb o e=>(I9.pin (b,o) (List.mem_append_right _ (List.mem_append_right _ (fo hb e)))).1,λb hb=>?_,w9⟩
    obtain⟨o,e,d⟩:=T.obj _ _ st7 b hb
    exact(I9.pin (b,o) (List.mem_append_right _ (List.mem_append_right _ (fo hb e)))).2.1
   refine wpAny_mono (ht C fp s3 _ _ s8 _ H8 _ I8 step) (λok s9 hh=>?_) λ_ _ f=>f.elim
   obtain⟨H9,I9,q9⟩:=hh
   cases ok with
   | false=>
    rw [if_neg Bool.false_ne_true]at q9 ⊢
    obtain⟨m',hm,w'⟩:=hNN _ _ q9
    exact again I9 hm w'
   | true=>
    rw [if_pos rfl]at q9 ⊢
    refine wpAny_mono (he C fp s3 _ _ s9 _ H9 _ I9 q9) (λxv sa hh=>?_) λ_ _ f=>f.elim
    obtain⟨y,Ha,Ia,ra,hDa,hsz,qa⟩:=hh
    obtain⟨m',hm,w'⟩:=hNN _ _ qa
    refine wpAny_mono (dM (X:=cR X scope cl (xn++fv) C fp s3 (upd H2 D (.lst []))) _ sa _ Ha (.ref D) [y] (.ref D) [xv] (λ_ H'=>H'=upd Ha D (.lst (ys++[y]))) Ia rfl (.cons ra .nil) ⟨D,ys,y,rfl,rfl,hDa,hsz,rfl⟩) (λ_ sb hh=>?_) λ_ _ f=>f.elim
    obtain⟨_,Hb,Ib,_,rfl⟩:=hh
    exact again Ib hm w'
 exact codeAny_compStart_list (loop _) (T.self X.A 0 _ _ _ (T.keep _ _ _ st2 (λb hb o e=>kept b o (old3 b o e))) (loop _))
theorem nJ {elt iter:Expr}{x:Str}{px pos:Pos}{ifs:List Expr}{scope:Scope}{cl:List (Str × Addr)}{sub:List Nat}{fv:List Str}{wi:TI}{tt:TT}{te:TE}
  (hc:X.calm=true) (hi:PI X (.Name x px) iter wi) (hclos:closureFor scope X.env=pure cl)
  (hcell:∀y∈scope.names,y.2≠.cell) (hkind:scope.kind=.function) (hnames:∀y∈scope.names,y.2=.local->scope.names.lookup y.1=some .local) (hx:scope.names.lookup x=some .local)
  (hnd:(x::fv).Nodup) (hl:sub.length=fv.length) (hsub:∀(j:Nat) (i:Nat) (y:Str),sub[j]?=some i->fv[j]?=some y->X.N[i]?=some y/\Vis X.env.scope y/\X.env.kindOf y≠some .local)
  (hvis:∀y∈fv,(compEnvC scope cl 0 X.env).kindOf y=some .cell\/(compEnvC scope cl 0 X.env).kindOf y=some .free)
  (hcl:∀y c,cl.lookup y=some c->X.env.cells.lookup y=some c) (hcl2:∀y∈fv,cl.lookup y=X.env.cells.lookup y)
  (hhas:∀y,((compEnvC scope cl 0 X.env).kindOf y=some .cell\/(compEnvC scope cl 0 X.env).kindOf y=some .free)->∃c,cl.lookup y=some c)
  (ht:∀C fp s H,PTs (cR X scope cl (x::fv) C fp s H) ifs tt) (he:∀C fp s H,PE (cR X scope cl (x::fv) C fp s H) elt te)
  (hs:∀x,foldedSetIterable iter X.env x=pure x:=by intro _;rfl):PEC X (.ListComp elt [⟨.Name x px,iter,ifs,0⟩] scope pos) iter scope (kG wi sub tt te):=by
 refine sv (xn:=[x]) (g:=az 0) hc hi hclos hcell hkind hnames hl hsub hvis hcl hcl2 hhas (λC fp s H=>bi (i:=0) hnd rfl (.inl (lookup_relabel_local hx)) (.inr (lookup_relabel_local hx))) ht he (λσ Q J H1 h D nD=>?_) hs
 obtain⟨W,w0,st⟩:=h D nD
 refine⟨W,w0,λi m ys H2 hw=>(st i m ys H2 hw).imp id λ⟨go,N,hN,h⟩=>⟨go,N,hN,λv H3 y τ hτ=>?_⟩⟩
 match τ,hτ with
 | [t0],_=>exact⟨⟨[some v],rfl,rfl⟩,h v H3 y⟩
end
end L2
namespace Strip
section
variable {M:Type} [DecidableEq M]
end
end Strip
namespace L2
open PySem PySem.Spec PyProof.Rows
section
variable {X:Cx}{pins:List (Addr × Obj)}{σ:St}{H:Hp}{s:Shared}
end
section
variable {X:Cx}
end
theorem fe {K:W.Frag}{a D:Addr}{xs:List V}{σ:St}{sub:List Nat}{tt:TT}{te:TE}{Q:VK}{H:Hp} (Pv:Nat->List V->Hp->Prop) (h0:Pv 0 [] (upd H D (.lst []))) (hl:∀i ys H,i<=xs.length->Pv i ys H->SqL K H a xs)
  (hs:∀i x ys H,xs[i]?=some x->Pv i ys H->tt (some x::bG sub σ) H λb H4=>if b=true then te (some x::bG sub σ) H4 λy H5=>H5 D=some (.lst ys)/\ys.length < sizeLine/\Pv (i+1) (ys++[y]) (upd H5 D (.lst (ys++[y]))) else Pv (i+1) ys H4)
  (hd:∀ys H,Pv xs.length ys H->Q (.ref D) H) :
  ∃W:Nat->Nat->List V->Hp->Prop,(∃m,W 0 m [] (upd H D (.lst [])))/\∀i m ys H2,W i m ys H2->
   ((Itl K a).stop i H2/\Q (.ref D) H2)\/((Itl K a).go i H2/\∃N:List V->Hp->Prop,(∀ys' H',N ys' H'->∃m',m' < m/\W (i+1) m' ys' H')/\∀v H3,(Itl K a).yld i H2 v H3->tt (some v::bG sub σ) H3 λb H4=>if b=true then
    te (some v::bG sub σ) H4 λy H5=>H5 D=some (.lst ys)/\ys.length < sizeLine/\N (ys++[y]) (upd H5 D (.lst (ys++[y])))
    else N ys H4):=by
 refine⟨λi m ys H=>m=xs.length - i/\i<=xs.length/\Pv i ys H,⟨xs.length,rfl,Nat.zero_le _,h0⟩,?_⟩
 rintro i m ys H ⟨rfl,hi,p⟩
 have q:=hl i ys H hi p
 by_cases hlt:i < xs.length
 ·refine .inr ⟨⟨xs,xs[i],q,by simp [hlt]⟩,Pv (i+1),λys' H' p'=>⟨xs.length - (i+1),by omega,rfl,hlt,p'⟩,λx H' y=>?_⟩
  obtain⟨e,y⟩:=y
  subst e
  exact hs i x ys _ (y xs q) p
 ·have e:i=xs.length:=by omega
  subst e
  exact .inl ⟨⟨xs,q,Nat.le_refl _⟩,hd ys H p⟩
section
variable {X:Cx}
theorem mt_startswith:MtR X "str.startswith" (λx xs H Q=>∃i j,x=.str i/\xs=[.str j]/\Q (.bl (Txt.startswith i j)) H):=by
 intro pins s σ H x xs v us Q I rx rv h
 obtain⟨i,j,rfl,rfl,q⟩:=h
 obtain⟨t,rfl⟩:=rx
 obtain⟨u,rfl,t',rfl⟩:=cB rv
 exact PySem.SC.startswith ⟨.bl _,H,I,rfl,q⟩
theorem kx:cW X (.type "int") (λxs H Q=>∃x n,xs=[.str x]/\PySem.intText? x=some n/\x.length<=640/\Q (.int n) H):=by
 intro pins s σ H xs us Q I r h
 obtain⟨x,n,rfl,hn,hl,q⟩:=h
 obtain⟨u,rfl,t,rfl⟩:=cB r
 exact PySem.W.KIN.call_text hn hl ⟨.int n,H,I.tok _,⟨_,rfl⟩,q⟩
theorem zY:SlR X (λx lo hi H Q=>∃z,x=.str z/\z.length<=sizeLine/\Q (.str (Txt.slice z lo hi)) H):=by
 intro pins s σ H x v vl vu lo hi sl Q I rx hs pl pu h
 obtain⟨z,rfl,hz,q⟩:=h
 obtain⟨t,rfl⟩:=rx
 refine⟨"str", _,slot_str_getitem.lookup,typeIs_str s z t,?_⟩
 have fin:∀l u:Option (Int × Tok),vl=partValue l->vu=partValue u->l.map (·.1)=lo->u.map (·.1)=hi->
   wpAny (model X.prog X.w) X.A (getItem (.str z t) (.ref sl)) (EP X pins σ Q) X.xe s:=λl u e1 e2 e3 e4=>by
  subst e1 e2 e3 e4
  refine wpAny_getItem_str_slice (l:=l) (u:=u) (st:=none) hs rfl ?_
  have q2:∀t',EP X pins σ Q (.str (Txt.slice z (l.map (·.1)) (u.map (·.1))) t') s:=λt'=>⟨.str _,H,I,⟨t',rfl⟩,q⟩
  unfold sliceMade
  unfold Txt.slice at q2
  unfold Txt.slice at q
  by_cases c:((((none:Option (Int × Tok)).map (·.1)).getD 1:Int) == 1 && (slicePicked z l u none).length == z.length)=true
  ·rw [if_pos c]
   rw [if_pos (show ((1:Int) == 1 && (Builtin.Str.strSliceIndices (l.map (·.1)) (u.map (·.1)) 1 z.length).length == z.length)=true from c)]at q2
   exact q2 t
  ·rw [if_neg c]
   rw [if_neg (show ¬((1:Int) == 1 && (Builtin.Str.strSliceIndices (l.map (·.1)) (u.map (·.1)) 1 z.length).length == z.length)=true from c)]at q
   refine⟨?_,⟨.str _,H,I.tok _,⟨_,rfl⟩,q⟩⟩
   have hle:=Txt.slice_le z (l.map (·.1)) (u.map (·.1))
   unfold Txt.slice at hle
   rw [if_neg (show ¬((1:Int) == 1 && (Builtin.Str.strSliceIndices (l.map (·.1)) (u.map (·.1)) 1 z.length).length == z.length)=true from c)]at hle
   exact Nat.le_trans hle hz
 cases pl with
 | none=>cases pu with
  | none=>exact fin none none rfl rfl rfl rfl
  | int j tj=>exact fin none (some (j,tj)) rfl rfl rfl rfl
 | int i ti=>cases pu with
  | none=>exact fin (some (i,ti)) none rfl rfl rfl rfl
  | int j tj=>exact fin (some (i,ti)) (some (j,tj)) rfl rfl rfl rfl
noncomputable def Its (x:Str):It:=⟨λi _=>i < x.cps.size,λi H v H'=>H'=H/\∃c,x.cps[i]?=some c/\v=.str ⟨#[c]⟩,λi _=>x.cps.size<=i⟩
theorem oQ {P:Program}{w:World}{K:W.Frag}{tg:Expr} (x:Str) (t:Tok) (it:Addr):Turn P w K tg (Its x) [it] it (λi h=>h.IsStrIter it "str_ascii_iterator" x t i) where
 mem:=by simp
 obj:=λi h st b hb=>by
  have e:b=it:=by simpa using hb
  subst e
  obtain⟨o,e,c,d⟩:=st
  exact⟨o,e,λv z=>by rw [d]at z;cases z⟩
 keep:=λi h h' st k=>let ⟨o,ho,r⟩:=st;⟨o,k it (by simp) o ho,r⟩
 item:=by
  intro X hP hw hK hc i pins s σ H E I hf st hg
  subst hP hw hK
  have hg:i < x.cps.size:=hg
  obtain⟨f0,f1,f2,f3,f4,f5⟩:=hf it (by simp)
  refine wpAny_pyNext_ascii_item st (c:=x.cps[i]) (by simp [hg]) λh' st' sb=>?_
  have I1:Inv X pins σ H { s with heap:=h',toks:=s.toks+1 }:=I.turned (λb o hb e=>(sb.2 b hb).trans e) f0 f1 f3 f4 f5
  obtain⟨o,e,c,d⟩:=id st'
  exact⟨_,rfl,lc (s:={ s with heap:=h',toks:=s.toks+1 }) e c d (by decide) ⟨.str ⟨#[x.cps[i]]⟩,H,I1,⟨_,rfl⟩,⟨rfl,_,by simp [hg],rfl⟩,st',λb hb=>(hf b hb).1⟩⟩
 done:=by
  intro X hP hw hK hc i pins s σ H E I hf st hg
  subst hP hw hK
  have hg:x.cps.size<=i:=hg
  obtain⟨f0,f1,f2,f3,f4,f5⟩:=hf it (by simp)
  exact wpAny_pyNext_ascii_end (I.ok.hd hc) st (by simp;omega) λh' eb=>⟨rfl,I.turned (t':=s.toks) (λb o hb e=>eb b o hb e) f0 f1 f3 f4 f5⟩
 self:=λ_ _ _ _ _ st h=>wpAny_pyIter_striter_ascii st h
theorem rN {P:Program}{w:World}{K:W.Frag}{tg:Expr} (x:Str) (t:Tok) (it:Addr):Turn P w K tg (Its x) [it] it (λi h=>h.IsStrIter it "str_iterator" x t i) where
 mem:=by simp
 obj:=λi h st b hb=>by
  have e:b=it:=by simpa using hb
  subst e
  obtain⟨o,e,c,d⟩:=st
  exact⟨o,e,λv z=>by rw [d]at z;cases z⟩
 keep:=λi h h' st k=>let ⟨o,ho,r⟩:=st;⟨o,k it (by simp) o ho,r⟩
 item:=by
  intro X hP hw hK hc i pins s σ H E I hf st hg
  subst hP hw hK
  have hg:i < x.cps.size:=hg
  obtain⟨f0,f1,f2,f3,f4,f5⟩:=hf it (by simp)
  refine wpAny_pyNext_wide_item st (c:=x.cps[i]) (by simp [hg]) λh' st' sb=>?_
  have I1:Inv X pins σ H { s with heap:=h',toks:=s.toks+1 }:=I.turned (λb o hb e=>(sb.2 b hb).trans e) f0 f1 f3 f4 f5
  obtain⟨o,e,c,d⟩:=id st'
  exact⟨_,rfl,lc (s:={ s with heap:=h',toks:=s.toks+1 }) e c d (by decide) ⟨.str ⟨#[x.cps[i]]⟩,H,I1,⟨_,rfl⟩,⟨rfl,_,by simp [hg],rfl⟩,st',λb hb=>(hf b hb).1⟩⟩
 done:=by
  intro X hP hw hK hc i pins s σ H E I hf st hg
  subst hP hw hK
  have hg:x.cps.size<=i:=hg
  obtain⟨f0,f1,f2,f3,f4,f5⟩:=hf it (by simp)
  exact wpAny_pyNext_wide_end (I.ok.hd hc) st (by simp;omega) λh' eb=>⟨rfl,I.turned (t':=s.toks) (λb o hb e=>eb b o hb e) f0 f1 f3 f4 f5⟩
 self:=λ_ _ _ _ _ st h=>wpAny_pyIter_striter_wide st h
noncomputable def BV (tl:TE):TI:=λσ H R=>tl σ H λv H1=>∃x,v=.str x/\R (Its x) H1
theorem AB {tg l:Expr}{tl:TE} (hl:PE X l tl):PI X tg l (BV tl):=by
 intro pins s σ H R I h
 refine thn (hl pins s σ H _ I h) λv s1 ⟨y,H1,I1,r1,q1⟩=>?_
 obtain⟨x,e,q⟩:=q1
 subst e
 obtain⟨t,rfl⟩:=r1
 have fp:∀b∈[s1.heap.objs.size],iJ X pins H1 b:=λb hb=>by
  have e:b=s1.heap.objs.size:=by simpa using hb
  subst e
  exact I1.fpOk (Nat.le_refl _) (I1.hok.fresh (Nat.le_refl _))
 cases ha:x.cps.all (· < 128)
 ·refine wpAny_pyIter_wide ha ?_
  exact⟨s1.heap.objs.size,[s1.heap.objs.size],_,_,H1,rfl,I1.kept (t':=s1.toks) λb o e=>zH0 _ e,rN x t _,⟨_,Heap.get?_push_size _ rfl,rfl,rfl⟩,fp,q⟩
 ·refine wpAny_pyIter_ascii ha ?_
  exact⟨s1.heap.objs.size,[s1.heap.objs.size],_,_,H1,rfl,I1.kept (t':=s1.toks) λb o e=>zH0 _ e,oQ x t _,⟨_,Heap.get?_push_size _ rfl,rfl,rfl⟩,fp,q⟩
theorem wL {x:Str}{D:Addr}{σ:St}{sub:List Nat}{tt:TT}{te:TE}{Q:VK}{H:Hp} (Pv:Nat->List V->Hp->Prop) (h0:Pv 0 [] (upd H D (.lst [])))
  (hs:∀i c ys H,x.cps[i]?=some c->Pv i ys H->tt (some (.str ⟨#[c]⟩)::bG sub σ) H λb H4=>if b=true then te (some (.str ⟨#[c]⟩)::bG sub σ) H4 λy H5=>H5 D=some (.lst ys)/\ys.length < sizeLine/\Pv (i+1) (ys++[y]) (upd H5 D (.lst (ys++[y]))) else Pv (i+1) ys H4)
  (hd:∀ys H,Pv x.cps.size ys H->Q (.ref D) H) :
  ∃W:Nat->Nat->List V->Hp->Prop,(∃m,W 0 m [] (upd H D (.lst [])))/\∀i m ys H2,W i m ys H2->
   ((Its x).stop i H2/\Q (.ref D) H2)\/((Its x).go i H2/\∃N:List V->Hp->Prop,(∀ys' H',N ys' H'->∃m',m' < m/\W (i+1) m' ys' H')/\∀v H3,(Its x).yld i H2 v H3->tt (some v::bG sub σ) H3 λb H4=>if b=true then
    te (some v::bG sub σ) H4 λy H5=>H5 D=some (.lst ys)/\ys.length < sizeLine/\N (ys++[y]) (upd H5 D (.lst (ys++[y])))
    else N ys H4):=by
 refine⟨λi m ys H=>m=x.cps.size - i/\i<=x.cps.size/\Pv i ys H,⟨_,rfl,Nat.zero_le _,h0⟩,?_⟩
 rintro i m ys H ⟨rfl,hi,p⟩
 by_cases hlt:i < x.cps.size
 ·refine .inr ⟨hlt,Pv (i+1),λys' H' p'=>⟨_,by omega,rfl,hlt,p'⟩,λv H' y=>?_⟩
  obtain⟨rfl,c,ec,rfl⟩:=y
  exact hs i c ys _ ec p
 ·have e:i=x.cps.size:=by omega
  subst e
  exact .inl ⟨Nat.le_refl _,hd ys H p⟩
end
section
variable {X:Cx}
theorem lr (hc:X.calm=true):cW X (.builtin "all") (λxs H Q=>∃(a:Addr) (bs:List Bool),xs=[.ref a]/\SqL X.K H a (bs.map V.bl)/\Q (.bl (bs.all id)) H):=by
 intro pins s σ H xs us Q I r h
 obtain⟨a,bs,rfl,hS,q⟩:=h
 obtain⟨u,rfl,ru⟩:=cB r
 cases (show u=Value.ref a from ru)
 obtain⟨its,rv,p,hz⟩:=I.list hS
 have hlen:=rv.length
 rw [List.length_map]at hlen
 have hne:a≠s.heap.objs.size:=λz=>by
  obtain⟨o,e,_⟩:=p.isList
  exact Nat.lt_irrefl _ (z ▸ Heap.lt_size e)
 obtain⟨f0,f1,f2,f3,f4,f5⟩:=I.fpOk (Nat.le_refl _) (I.hok.fresh (Nat.le_refl _))
 refine call_all_walk (wpAny_pyIter_list p.isList ?_)
 have I1:=λo=>I.kept (h':=s.heap.push o) (t':=s.toks) λb ob e=>zH0 _ e
 refine⟨s.heap.objs.size,_,_,_,_,_,λi=>bs.getD i false,rfl,Walks.list (A:=X.A.in1) (I.ok.hd hc) _ a hne its.toArray,⟨⟨_,Heap.get?_push_size _ rfl,rfl,rfl⟩,p.isList.at λo e=>zH0 _ e⟩,?_,λh' tk hk=>?_⟩
 ·intro i v s' Q' E' hv hQ
  have hv:its[i]?=some v:=by simpa using hv
  have hi:i < bs.length:=by rw [hlen];exact(List.getElem?_eq_some_iff.mp hv).1
  obtain⟨u',hu,ru'⟩:=rv.get (i:=i) (x:=V.bl bs[i]) (by rw [List.getElem?_map,List.getElem?_eq_getElem hi];rfl)
  rw [hv]at hu
  cases hu
  cases (show v=Value.bool bs[i] from ru')
  have e:bs.getD i false=bs[i]:=by rw [List.getD_eq_getElem?_getD,List.getElem?_eq_getElem hi];rfl
  have hQ:Q' (bs.getD i false) s':=hQ
  rw [e]at hQ
  exact wpAny_truthy_bool hQ
 ·refine⟨.bl _,H,(I1 _).turned (t':=tk) (λb o hb e=>hk b o (by simpa using hb) e) f0 f1 f3 f4 f5,rfl,?_⟩
  have e:(List.range its.toArray.size).all (λi=>bs.getD i false)=bs.all id:=by
   rw [List.size_toArray,<- hlen]
   rw [Bool.eq_iff_iff,List.all_eq_true,List.all_eq_true]
   constructor
   ·intro h b hb
    obtain⟨i,hi,rfl⟩:=List.getElem_of_mem hb
    have:=h i (List.mem_range.mpr hi)
    rw [List.getD_eq_getElem?_getD,List.getElem?_eq_getElem hi]at this
    exact this
   ·intro h i hi
    have hi:=List.mem_range.mp hi
    rw [List.getD_eq_getElem?_getD,List.getElem?_eq_getElem hi]
    exact h _ (List.getElem_mem hi)
  rw [e]
  exact q
theorem gt {α:Type}:∀{l:List (Str × α)}{z:Str}{k:α},l.lookup z=some k->∃p∈l,z=p.1/\p.2=k
 | [],_,_,e=>by cases e
 | (n,k')::r,z,k,e=>by
  rw [List.lookup_cons]at e
  split at e
  ·rename_i h
   cases e
   exact⟨(n,k'),List.mem_cons_self,eq_of_beq h,rfl⟩
  ·obtain⟨p,hp,q⟩:=gt e
   exact⟨p,List.mem_cons_of_mem _ hp,q⟩
theorem vg {elt iter:Expr}{x y:Str}{c:Addr}{i:Nat}{px pos:Pos}{ifs:List Expr}{scope:Scope}{wi:TI}{tt:TT}{te:TE}
  (hc:X.calm=true) (hi:PI X (.Name x px) iter wi) (hclos:closureFor scope X.env=pure [(y,c)]) (hkind:scope.kind=.function)
  (hall:∀p∈scope.names,p.2=.local\/(p.1=y/\p.2=.free)) (hnames:∀p∈scope.names,p.2=.local->scope.names.lookup p.1=some .local) (hx:scope.names.lookup x=some .local)
  (hxy:x≠y) (hN:X.N[i]?=some y) (hv:Vis X.env.scope y) (hk:X.env.kindOf y≠some .local)
  (hvis:(compEnvC scope [(y,c)] 0 X.env).kindOf y=some .cell\/(compEnvC scope [(y,c)] 0 X.env).kindOf y=some .free) (hcy:X.env.cells.lookup y=some c)
  (ht:∀C fp s H,PTs (cR X scope [(y,c)] [x,y] C fp s H) ifs tt) (he:∀C fp s H,PE (cR X scope [(y,c)] [x,y] C fp s H) elt te)
  (hs:∀x,foldedSetIterable iter X.env x=pure x:=by intro _;rfl):PE X (.ListComp elt [⟨.Name x px,iter,ifs,0⟩] scope pos) (kG wi [i] tt te):=by
 have one:∀{z c'},[(y,c)].lookup z=some c'->z=y/\c'=c:=λ{z c'} e=>by
  obtain⟨p,hp,e1,e2⟩:=gt e
  cases List.mem_singleton.mp hp
  exact⟨e1,e2.symm⟩
 have self:[(y,c)].lookup y=some c:=by rw [List.lookup_cons];simp
 refine fH ?_
 refine nJ (cl:=[(y,c)]) (fv:=[y]) hc hi hclos (λp hp z=>?_) hkind hnames hx ?_ rfl (λj k z e1 e2=>?_) (λz hz=>?_) (λz c' e=>?_) (λz hz=>?_) (λz hz=>?_) ht he hs
 ·rcases hall p hp with q | ⟨_,q⟩ <;> rw [q]at z <;> cases z
 ·exact List.nodup_cons.mpr ⟨λh=>hxy (List.mem_singleton.mp h),List.nodup_cons.mpr ⟨(λh=>nomatch h),List.nodup_nil⟩⟩
 ·cases j with
  | zero=>cases e1;cases e2;exact⟨hN,hv,hk⟩
  | succ j=>cases e1
 ·cases List.mem_singleton.mp hz
  exact hvis
 ·obtain⟨rfl,rfl⟩:=one e
  exact hcy
 ·cases List.mem_singleton.mp hz
  rw [self,hcy]
 ·have far:∀k,(k=.cell\/k=.free)->(compEnvC scope [(y,c)] 0 X.env).kindOf z=some k->∃c',[(y,c)].lookup z=some c':=λk hkk e=>by
   obtain⟨p,hp,e1,e2⟩:=gt (show (scope.names.map _).lookup z=some k from e)
   obtain⟨⟨n,kk⟩,hq,rfl⟩:=List.mem_map.mp hp
   rcases hall _ hq with q | ⟨q,_⟩
   ·have q:kk=.local:=q
    subst q
    have e2:NameKind.local=k:=e2
    rcases hkk with r | r <;> rw [r]at e2 <;> cases e2
   ·have q:n=y:=q
    subst q
    refine⟨c,?_⟩
    have:z=n:=by
     rw [e1]
     dsimp only
     split <;> rfl
    rw [this]
    exact self
  rcases hz with e | e
  ·exact far _ (.inl rfl) e
  ·exact far _ (.inr rfl) e
end
end L2
namespace Strip
section
variable {M:Type} [DecidableEq M]
end
end Strip
namespace L2
open PySem PySem.Spec PyProof.Rows
end L2
namespace Strip
open L2 PySem
end Strip
namespace L2
open PySem PySem.Spec PyProof.Rows
inductive Caps (X:Cx) (scope:Scope) (cl0:List (Str × Addr)):List (Str × Addr)->List Nat->Prop
 | nil:Caps X scope cl0 [] []
 | cons {y:Str}{c:Addr}{i:Nat}{cl:List (Str × Addr)}{sub:List Nat} (hN:X.N[i]?=some y) (hv:Vis X.env.scope y) (hk:X.env.kindOf y≠some .local)
   (hvis:(compEnvC scope cl0 0 X.env).kindOf y=some .cell\/(compEnvC scope cl0 0 X.env).kindOf y=some .free) (hc:X.env.cells.lookup y=some c) (t:Caps X scope cl0 cl sub):Caps X scope cl0 ((y,c)::cl) (i::sub)
section
variable {X:Cx}{scope:Scope}{cl0:List (Str × Addr)}
theorem Caps.len:∀{cl:List (Str × Addr)}{sub:List Nat},Caps X scope cl0 cl sub->sub.length=(cl.map (·.1)).length
 | _,_,.nil=>rfl
 | _,_,.cons _ _ _ _ _ t=>congrArg (· + 1) t.len
theorem Caps.at:∀{cl:List (Str × Addr)}{sub:List Nat},Caps X scope cl0 cl sub->∀(j i:Nat) (y:Str),sub[j]?=some i->(cl.map (·.1))[j]?=some y->X.N[i]?=some y/\Vis X.env.scope y/\X.env.kindOf y≠some .local
 | _,_,.nil,_,_,_,e,_=>by simp at e
 | _,_,.cons hN hv hk _ _ t,j,i,y,e1,e2=>by
  cases j with
  | zero=>
   simp at e1 e2
   subst e1 e2
   exact⟨hN,hv,hk⟩
  | succ j=>exact t.at j i y (by simpa using e1) (by simpa using e2)
theorem Caps.vis:∀{cl:List (Str × Addr)}{sub:List Nat},Caps X scope cl0 cl sub->∀y∈cl.map (·.1),(compEnvC scope cl0 0 X.env).kindOf y=some .cell\/(compEnvC scope cl0 0 X.env).kindOf y=some .free
 | _,_,.nil,_,h=>by simp at h
 | _,_,.cons _ _ _ hvis _ t,y,h=>by
  rcases List.mem_cons.mp h with e | h
  ·rw [e];exact hvis
  ·exact t.vis y h
theorem Caps.cell:∀{cl:List (Str × Addr)}{sub:List Nat},Caps X scope cl0 cl sub->∀y c,cl.lookup y=some c->X.env.cells.lookup y=some c
 | _,_,.nil,_,_,h=>by cases h
 | _,_,.cons (y:=z) (c:=d) _ _ _ _ hc t,y,c,h=>by
  rw [List.lookup_cons]at h
  split at h
  ·rename_i e
   cases h
   rw [eq_of_beq e]
   exact hc
  ·exact t.cell y c h
theorem gI {α:Type}:∀{l:List (Str × α)}{y:Str},y∈l.map (·.1)->∃c,l.lookup y=some c
 | [],_,h=>by simp at h
 | (n,k)::r,y,h=>by
  rw [List.lookup_cons]
  split
  ·exact⟨k,rfl⟩
  ·rename_i e
   rcases List.mem_cons.mp h with z | z
   ·rw [z]at e
    simp at e
   ·exact gI z
def gc (ys:List Str) (p:Str × NameKind):Prop:=p.2=.local\/p.2=.globalImplicit\/(p.1∈ys/\p.2=.free)
noncomputable instance (ys:List Str) (p:Str × NameKind):Decidable (gc ys p):=by unfold gc;exact inferInstance
theorem bz {elt iter:Expr}{x:Str}{cl:List (Str × Addr)}{sub:List Nat}{px pos:Pos}{ifs:List Expr}{wi:TI}{tt:TT}{te:TE}
  (hc:X.calm=true) (hi:PI X (.Name x px) iter wi) (hclos:closureFor scope X.env=pure cl) (hkind:scope.kind=.function)
  (hall:∀p∈scope.names,gc (cl.map (·.1)) p) (hnames:∀p∈scope.names,p.2=.local->scope.names.lookup p.1=some .local) (hx:scope.names.lookup x=some .local)
  (hnd:(x::cl.map (·.1)).Nodup) (caps:Caps X scope cl cl sub)
  (ht:∀C fp s H,PTs (cR X scope cl (x::cl.map (·.1)) C fp s H) ifs tt) (he:∀C fp s H,PE (cR X scope cl (x::cl.map (·.1)) C fp s H) elt te)
  (hs:∀x,foldedSetIterable iter X.env x=pure x:=by intro _;rfl):PEC X (.ListComp elt [⟨.Name x px,iter,ifs,0⟩] scope pos) iter scope (kG wi sub tt te):=by
 refine nJ (cl:=cl) (fv:=cl.map (·.1)) hc hi hclos (λp hp z=>?_) hkind hnames hx hnd caps.len caps.at caps.vis caps.cell (λy hy=>?_) (λz hz=>?_) ht he hs
 ·rcases hall p hp with q | q | ⟨_,q⟩ <;> rw [q]at z <;> cases z
 ·obtain⟨c,e⟩:=gI hy
  rw [e,caps.cell y c e]
 ·have far:∀k,(k=.cell\/k=.free)->(compEnvC scope cl 0 X.env).kindOf z=some k->∃c',cl.lookup z=some c':=λk hkk e=>by
   obtain⟨p,hp,e1,e2⟩:=gt (show (scope.names.map _).lookup z=some k from e)
   obtain⟨⟨n,kk⟩,hq,rfl⟩:=List.mem_map.mp hp
   rcases hall _ hq with q | q | ⟨q,_⟩
   ·have q:kk=.local:=q
    subst q
    have e2:NameKind.local=k:=e2
    rcases hkk with r | r <;> rw [r]at e2 <;> cases e2
   ·have q:kk=.globalImplicit:=q
    subst q
    have e2:NameKind.globalImplicit=k:=e2
    rcases hkk with r | r <;> rw [r]at e2 <;> cases e2
   ·have q:n∈cl.map (·.1):=q
    have:z=n:=by
     rw [e1]
     dsimp only
     split <;> rfl
    rw [this]
    exact gI q
  rcases hz with e | e
  ·exact far _ (.inl rfl) e
  ·exact far _ (.inr rfl) e
end
theorem ed {lo:Int}{n:Nat}{D:Addr}{σ:St}{sub:List Nat}{tt:TT}{te:TE}{Q:VK}{H:Hp} (Pv:Nat->List V->Hp->Prop) (h0:Pv 0 [] (upd H D (.lst [])))
  (hs:∀i ys H2,i < n->Pv i ys H2->tt (some (.int (lo+i))::bG sub σ) H2 λb H4=>if b=true then te (some (.int (lo+i))::bG sub σ) H4 λy H5=>H5 D=some (.lst ys)/\ys.length < sizeLine/\Pv (i+1) (ys++[y]) (upd H5 D (.lst (ys++[y]))) else Pv (i+1) ys H4)
  (hd:∀ys H2,Pv n ys H2->Q (.ref D) H2) :
  ∃W:Nat->Nat->List V->Hp->Prop,(∃m,W 0 m [] (upd H D (.lst [])))/\∀i m ys H2,W i m ys H2->
   ((Itr lo n).stop i H2/\Q (.ref D) H2)\/((Itr lo n).go i H2/\∃N:List V->Hp->Prop,(∀ys' H',N ys' H'->∃m',m' < m/\W (i+1) m' ys' H')/\∀v H3,(Itr lo n).yld i H2 v H3->tt (some v::bG sub σ) H3 λb H4=>if b=true then
    te (some v::bG sub σ) H4 λy H5=>H5 D=some (.lst ys)/\ys.length < sizeLine/\N (ys++[y]) (upd H5 D (.lst (ys++[y]))) else N ys H4):=by
 refine⟨λi m ys H2=>m=n - i/\i<=n/\Pv i ys H2,⟨n,by simp,Nat.zero_le _,h0⟩,?_⟩
 rintro i m ys H2 ⟨rfl,hi,p⟩
 by_cases hlt:i < n
 ·refine .inr ⟨hlt,Pv (i+1),λys' H' p'=>⟨n - (i+1),by omega,rfl,hlt,p'⟩,λv H3 y=>?_⟩
  obtain⟨e,e2⟩:=y
  subst e e2
  exact hs i ys _ hlt p
 ·have e:i=n:=by omega
  subst e
  exact .inl ⟨Nat.le_refl _,hd ys H2 p⟩
theorem lH:∀{zs:List Str}{us:List Value},aW (zs.map V.str) us->StrsAre us zs
 | [],_,r=>by cases r;exact .nil
 | z::zs,_,r=>by
  rw [List.map_cons]at r
  cases r with
  | cons a t=>
   obtain⟨tk,rfl⟩:=a
   exact .cons z tk (lH t)
theorem gq {X:Cx}:MtR X "str.join" (λx xs H Q=>∃i l zs,x=.str i/\xs=[.ref l]/\H l=some (.lst (zs.map V.str))/\(zs.map (·.length)).sum+zs.length * i.length<=16777216/\Q (.str (Txt.join i zs)) H):=by
 intro pins s σ H x xs v us Q I rx rv h
 obtain⟨i,l,zs,rfl,rfl,hl,hz,q⟩:=h
 obtain⟨t,rfl⟩:=rx
 obtain⟨u,rfl,ru⟩:=aW.one rv
 cases ru
 obtain⟨_,its,n,r,_,e⟩:=I.lstM hl
 exact join_list (items:=its.toArray) ⟨_,e,rfl,n,rfl⟩ (by simpa using lH r) hz λt' k=>⟨.str _,H,I.tok _,⟨_,rfl⟩,q⟩
section
variable {X:Cx}
variable {scope:Scope}{cl0:List (Str × Addr)}
end
end L2
namespace L2
open PySem PySem.Spec PyProof.Rows PySem.Builtin PySem.Builtin.ObjectAttr
section
variable {prog:Program}{w:World}{A:Around}{E:Value->Shared->Prop}{s:Shared}{K:W.Frag}{x C U:Addr}{ox:Obj}{od:Option Obj}{cd:ClassData}{name:Str}{v:Value}
end
section
variable {prog:Program}{w:World}{A:Around}{E:Value->Shared->Prop}{h:Heap}{g:Array GenState}{d:Drawn}{t:Nat}{os:OsState}
variable {nm q:Str}{C N f:Addr}{bs bm bmB bmN:List Value}{hdct:Bool}{sn:List Str}{sub:List Value}{ab:Bool}{col:Option Bool}{dd:Option Addr}{k0 k1 k2 k3 k5:Option Value}{B Bn newId nid initId inN:String}
end
end L2
namespace L2
open PySem PySem.Spec PyProof.Rows
section
variable {X:Cx}{pins:List (Addr × Obj)}{σ:St}{H:Hp}{s:Shared}
end
section
variable {X:Cx}
end
section
variable {M:Model}{A:Around}{E:Value->Shared->Prop}{s:Shared}
end
section
variable {M:Model}{A:Around}{E:Value->Shared->Prop}{env:Env}
end
section
variable {M:Model}{A:Around}{E:Value->Shared->Prop}{env:Env}
end
section
variable {P:Program}{w:World}{H:Hp}{h h':Heap}{l:List Env}{a C:Addr}{D:Option Addr}{n:Bool}
end
section
variable {P:Program}{w:World}{K:W.Frag}{mg:Str->Option Value}{base:Heap}{N:List Str}{qual:Str}{scope:Scope}{f:Addr}{cd:Value}{A:Around}{outer:List Env}{s:Shared}{H:Hp}{E:XK}
end
section
variable {M:Model}{A:Around}{E:Value->Shared->Prop}
end
section
variable {X:Cx}{pins:List (Addr × Obj)}{σ:St}{H:Hp}{s:Shared}{E:Value->Shared->Prop}{a:Addr}
end
section
variable {X:Cx}
end
end L2
namespace Kn
open PySem
end Kn
namespace L2
open PySem PySem.Spec PyProof.Rows
theorem gB {α β:Type} (f:α->β):∀(xs:List α) (j:Nat),(xs.map f).eraseIdx j=(xs.eraseIdx j).map f
 | [],j=>by simp
 | x::xs,0=>by simp
 | x::xs,j+1=>by simp [gB f xs j]
section
variable {prog:Program}{w:World}{K:Type} [DecidableEq K] {knd:HeapKind prog w K}{A:Around}{E:Value->Shared->Prop}{s:Shared}
end
section
variable {X:Cx}{pins:List (Addr × Obj)}{σ:St}{H:Hp}{s:Shared}{a b:Addr}{kvs:List (List Key × V)}{k:List Key}{A:Around}{E:Value->Shared->Prop}
end
section
variable {X:Cx}{o e f:Expr}{apos cpos:Pos}{td ty tx:TE}
end
end L2
namespace PySem.SeqAt
open AutoSeq1 (wpAny_loadPart')
open MeetsSeq MeetsSeq2 MeetsSeq3 SeqRoads2
end PySem.SeqAt
namespace L2
open PySem PySem.Spec PyProof.Rows
theorem jZ (n:Nat):((List.range n).all λ_=>true)=true:=List.all_eq_true.mpr λ_ _=>rfl
section
variable {X:Cx}
end
noncomputable def inS (zs:List Str) (i:Nat):Str->Bool:=λk=>decide (k∈zs.take i)
noncomputable def ik (zs:List Str):Nat->Nat
 | 0=>0
 | i+1=>match zs[i]? with
  | some z=>if inS zs i z=true then ik zs i else ik zs i+1
  | none=>ik zs i
theorem wS (zs:List Str):∀i,ik zs i<=i
 | 0=>Nat.le_refl _
 | i+1=>by
  have:=wS zs i
  unfold ik
  split
  ·split <;> omega
  ·omega
theorem B8 {zs:List Str} (nd:zs.Nodup){i:Nat}{z:Str} (ez:zs[i]?=some z):inS zs i z=false:=by
 refine decide_eq_false λq=>?_
 obtain⟨j,hj,e⟩:=List.getElem_of_mem q
 rw [List.length_take]at hj
 rw [List.getElem_take]at e
 have hi:=(List.getElem?_eq_some_iff.mp ez)
 exact(List.pairwise_iff_getElem.mp nd j i ‹1› hi.1 ‹1›) (e.trans hi.2.symm)
theorem ll {zs:List Str} (nd:zs.Nodup):∀i,i<=zs.length->ik zs i=i
 | 0,_=>rfl
 | i+1,h=>by
  have ez:zs[i]?=some (zs[i]'‹1›):=List.getElem?_eq_getElem ‹1›
  unfold ik
  rw [ez]
  simp only
  rw [B8 nd ez,ll nd i ‹1›]
  rfl
abbrev kf (P:Program) (w:World) (a:Addr) (zs:List Str) (i:Nat) (h:Heap):Prop:=h.SetOf (strKind P w) a (inS zs i) (ik zs i)
theorem kf.at {P:Program}{w:World}{a:Addr}{zs:List Str}{i:Nat}{h h':Heap} (x:kf P w a zs i h) (e:∀o,h.get? a=some o->h'.get? a=some o):kf P w a zs i h':=by
 obtain⟨o,es,ep,t,ho,r⟩:=x
 exact⟨o,es,ep,t,e o ho,r⟩
section
variable {prog:Program}{w:World}{A:Around}{R:Result->Shared->Prop}{it:Addr}{fp wr:List Addr}{G:Array GenState->Array GenState->Prop}{P:Nat->Value->Prop}{St:Nat->Shared->Prop}
theorem uk {zs:List Str} (W:WalksS prog w A.in1 it fp wr G zs.length P St) (S:Addr) (hS:S∉fp) (val:∀i v,P i v->∃z t,zs[i]?=some z/\v=.str z t) (hb:zs.length+1 < scanBound) :
  ∀(k i:Nat) (s:Shared),zs.length - i=k->i<=zs.length->St i s->kf prog w S zs i s.heap->
   (∀s',Moved (S::wr) G s s'->kf prog w S zs zs.length s'.heap->R (.ok (.ret .none)) s')->
   codeAny (model prog w) A (.builtin "set.update.loop" ⟨[.ref S,.ref it],[]⟩) R s:=by
 have nw:S∉wr:=λz=>hS (W.sub _ z)
 have up:∀b∈wr,b∈S::wr:=λb z=>List.mem_cons_of_mem _ z
 intro k
 induction k with
 | zero=>
  intro i s ek le st x fin
  have e:i=zs.length:=by omega
  subst e
  refine codeAny_builtin F.entry_set_update_loop ?_
  rw [Around.under_plainId F.plain_set_update_loop _]
  show wpAny _ A.in1 (pyNext (.ref it) >>= _) _ _ s
  refine zB0 (W.done s _ _ st λs' mv=>?_)
  exact zP0 (fin s' (mv.mono up) (x.at λo e=>mv.heap S o nw e))
 | succ k ih=>
  intro i s ek le st x fin
  refine codeAny_builtin F.entry_set_update_loop ?_
  rw [Around.under_plainId F.plain_set_update_loop _]
  show wpAny _ A.in1 (pyNext (.ref it) >>= _) _ _ s
  refine zB0 (W.item i s _ _ ‹1› st λv s' pv st' mv=>?_)
  obtain⟨z,t,ez,rfl⟩:=val i v pv
  have x':=x.at λo e=>mv.heap S o nw e
  show wpAny _ A.in1 (holding [Value.str z t] (setAdd S (.str z t)) >>= _) _ _ s'
  refine zB0 (wpAny_holding ?_)
  unfold setAdd
  refine wpAny_holding ?_
  refine zB0 ((strKind prog w).pyHash (k:=z) (strKind_is _ _ _ _) ?_)
  have hc:=wS zs i
  refine wpAny_setAddHashed_of (knd:=strKind prog w) (s:={ s' with toks:=s'.toks+1 }) (strKind_is _ _ _ _) rfl x' ‹1› λh' sb x2=>?_
  have x0:(match zs[i]? with | some z=>if inS zs i z=true then ik zs i else ik zs i+1 | none=>ik zs i)=ik zs (i+1):=rfl
  rw [ez]at x0
  have x3:kf prog w S zs (i+1) h':=SetOf_congr x2 (λk'=>by
   unfold inS
   rw [List.take_add_one,ez,Bool.eq_iff_iff]
   simp) x0
  refine zP0 ⟨plainId_quiet F.plain_set_update_loop _,ih (i+1) _ ‹1› ‹1› (W.frame _ s' _ _ st' (Nat.le_succ _) λb hb o e=>?_) x3 λs'' mv'' x4=>?_⟩
  ·rw [sb.2 b (λh:b=S=>hS (by rw [<- h];exact hb))];exact e
  ·refine fin s'' (Moved.trans W.gtrans ((mv.mono up).then_heap (Nat.le_succ _) λb o hb e=>?_) mv'') x4
   rw [sb.2 b (λh:b=S=>hb (by rw [h];exact List.mem_cons_self))];exact e
end
section
variable {prog:Program}{w:World}{A:Around}{E:Value->Shared->Prop}{s:Shared}
noncomputable abbrev bN (b:Bool):Obj:={ cls:=.type "set", dict:=none,data:=.set #[] 0 (.fresh 0 0 b) }
theorem qB:∀{vs:List Value}{zs:List Str},StrsAre vs zs->∀(i:Nat) (v:Value),vs[i]?=some v->∃z t,zs[i]?=some z/\v=.str z t
 | _,_,.nil,i,v,h=>by simp at h
 | _,_,.cons z t r,0,v,h=>⟨z,t,rfl,by simpa using h.symm⟩
 | _,_,.cons z t r,i+1,v,h=>by
  obtain⟨z',t',e1,e2⟩:=qB r i v (by simpa using h)
  exact⟨z',t',by simpa using e1,e2⟩
theorem ku {l:Addr}{its:Array Value}{zs:List Str}{Q:Value->Shared->Prop} (hh:A.handled=none) (hl:s.heap.IsList l its) (hs:StrsAre its.toList zs) (hb:zs.length+1 < scanBound)
  (q:∀(h':Heap) (tk:Nat),kf prog w s.heap.objs.size zs zs.length h'->(∀a o,a < s.heap.objs.size->s.heap.get? a=some o->h'.get? a=some o)->Q (.ref s.heap.objs.size) { s with heap:=h',toks:=tk }) :
  wpAny (model prog w) A (call (.type "set") [.ref l]) Q E s:=by
 have ft:=PySem.F.called_set
 obtain⟨c0,tl0,m0⟩:=ft.mro
 have m1:=ft.made
 have m2:=ft.sub
 have hlen:its.size=zs.length:=by
  have:=hs.length
  rw [Array.length_toList]at this
  exact this
 refine wpAny_call (codeAny_of_tree ?_)
 show wpAny _ _ (callAny (.type "set") _) _ _ _
 refine zP0 ⟨Code.quiet_builtin _ ‹0›,codeAny_builtin PySem.F.entry_type_call ?_⟩
 rw [Around.under_plain (weight_type_call_type "set" [.ref l] []) rfl]
 have m3:=ft.notType
 have m4:=ft.canCreate
 have m5:=PySem.F.typeCall_set_1 (.ref l)
 repeat (any_goals (first | assumption | wp_step))
 refine codeAny_mono (PySem.code_set_new_1 (.ref l) (E:=E) (Q₁:=λo s1=>∃b:Bool,o=.ref s.heap.objs.size/\s1={ s with heap:=s.heap.push (bN b) }) λb=>⟨b,rfl,rfl⟩) λr s1 hr=>?_
 cases r with
 | error e=>exact hr
 | ok fl=>
  cases fl with
  | ret o=>
   obtain⟨b,rfl,rfl⟩:=hr
   have hS:(s.heap.push (bN b)).get? s.heap.objs.size=some (bN b):=Heap.get?_push_size _ rfl
   have hT:Shared.TypeIs { s with heap:=s.heap.push (bN b) } (.ref s.heap.objs.size) "set":=⟨_,hS,rfl⟩
   have n1:=ft.init.lookup
   have n2:=ft.init.bind (.ref s.heap.objs.size)
   repeat (any_goals (first | assumption | wp_step))
   refine codeAny_mono (codeAny_call_builtin (R:=wants (λr s2=>r=.none/\∃h' tk,s2={ s with heap:=h',toks:=tk }/\kf prog w s.heap.objs.size zs zs.length h'/\∀a o,a < s.heap.objs.size->s.heap.get? a=some o->h'.get? a=some o) E) ft.init.plain PySem.F.entry_set_init (PySem.check_set_init_1 hT ?_)) λr2 s2 hr2=>?_
   ·obtain⟨ol,hol,hcl,nl,hdl⟩:=hl
    obtain⟨oc,od,oa,os⟩:=ol
    simp only at hcl hdl
    subst hcl;subst hdl
    have ho1:(s.heap.push (bN b)).get? l=some { cls:=.type "list", dict:=od,data:=.seq its nl,slots:=os }:=zH0 _ hol
    have k1:=PySem.F.sub_list_set
    have k2:=PySem.F.sub_list_frozenset
    have k3:(Value.type "list" == Value.type "dict")=false:=by decide
    have l1:(s.heap.push (bN b)).IsList l its:=⟨_,ho1,rfl,nl,rfl⟩
    have lS:l < s.heap.objs.size:=Heap.lt_size hol
    unfold Builtin.«set.__init__» noKeywords Builtin.Frozenset.updateFrom
    generalize eI:pyIter=PI
    wp_walk
    subst eI
    refine wpAny_pyIter_list l1 ?_
    refine zB0 (wpAny_runValue ?_)
    have zp:(s.heap.push (bN b)).objs.size=s.heap.objs.size+1:=Heap.size_push _ _
    have d1:l≠(s.heap.push (bN b)).objs.size:=by rw [zp];exact Nat.ne_of_lt (Nat.lt_succ_of_lt lS)
    have d2:s.heap.objs.size∉[(s.heap.push (bN b)).objs.size,l]:=by
     rw [zp]
     intro z
     rcases List.mem_cons.mp z with z | z
     ·exact Nat.ne_of_lt (Nat.lt_succ_self _) z
     ·exact Nat.ne_of_gt lS (List.mem_singleton.mp z)
    have W:=(Walks.list (prog:=prog) (w:=w) (A:=A.in1.in1.in1) (by simp [hh]) _ l d1 its).toS
    rw [hlen]at W
    refine uk W s.heap.objs.size d2 (λi v hv=>qB hs i v (by rw [Array.getElem?_toList];exact hv)) hb (zs.length - 0) 0 _ ‹1› (Nat.zero_le _) ⟨⟨_,Heap.get?_push_size _ rfl,rfl,rfl⟩,l1.push _⟩ ?s0 ?fin
    case s0=>
     exact SetOf_congr ((setObjOf_fresh (knd:=strKind prog w) b).setOf (zH0 _ hS) (by unfold scanBound;omega)) (λ_=>by unfold inS;simp) rfl
    case fin=>
     intro s' mv x
     obtain⟨h',g',d',tk',os'⟩:=s'
     obtain rfl:g'=s.gens:=mv.gens
     obtain rfl:d'=s.drawn:=mv.drawn
     obtain rfl:os'=s.os:=mv.os
     refine zP0 ?_
     show wpAny _ _ (ret Value.none) _ _ _
     refine zP0 ⟨rfl,h',tk',rfl,x,λa o ha e=>mv.heap a o (λz=>?_) (zH0 _ (zH0 _ e))⟩
     rcases List.mem_cons.mp z with z | z
     ·exact Nat.ne_of_lt ha z
     ·rw [zp]at z
      exact Nat.ne_of_lt (Nat.lt_succ_of_lt ha) (List.mem_singleton.mp z)
   ·cases r2 with
    | error e=>exact hr2
    | ok f2=>
     cases f2 with
     | ret r=>
      obtain⟨rfl,h',tk,rfl,x,kp⟩:=hr2
      repeat (any_goals (first | assumption | wp_step))
      exact q _ _ x kp
     | _=>exact hr2.elim
  | _=>exact hr.elim
end
theorem sW {X:Cx} (hc:X.calm=true):cW X (.type "set") (λxs H Q=>∃(a:Addr) (zs:List Str),xs=[.ref a]/\SqL X.K H a (zs.map V.str)/\zs.length<=1000/\∀p,H p=none->Q (.ref p) (upd H p (.ext (kf X.prog X.w p zs zs.length)))):=by
 intro pins s σ H xs us Q I r h
 obtain⟨a,zs,rfl,hS,hz,q⟩:=h
 obtain⟨u,rfl,ru⟩:=cB r
 cases (show u=Value.ref a from ru)
 obtain⟨its,rv,p,_⟩:=I.list hS
 refine ku (I.ok.hd hc) p.isList (by simpa using lH rv) (by unfold scanBound;omega) λh' tk x kp=>?_
 refine⟨.ref s.heap.objs.size,_,I.laid (o:=.ext (kf X.prog X.w s.heap.objs.size zs zs.length)) (t':=tk) (h':=h') (λb u e=>kp b u (Heap.lt_size e) e) (Nat.le_refl _) (by
  obtain⟨o,_,_,_,e,_⟩:=id x
  exact⟨x,⟨o,e⟩,λh1 h2 e k=>e.at k⟩),rfl,q _ (I.hok.fresh (Nat.le_refl _))⟩
theorem sZ {X:Cx}:cW X (.builtin "len") (λxs H Q=>∃(a:Addr) (zs:List Str),xs=[.ref a]/\H a=some (.ext (kf X.prog X.w a zs zs.length))/\Q (.int (ik zs zs.length)) H):=by
 intro pins s σ H xs us Q I r h
 obtain⟨a,zs,rfl,hS,q⟩:=h
 obtain⟨u,rfl,ru⟩:=cB r
 cases (show u=Value.ref a from ru)
 obtain⟨o,es,ep,t,ho,hex,hd,_,_,hb,hf,hn⟩:=(show bC X.prog X.w H s.heap a _ from I.hok a _ hS).1
 refine call_len_set ho hex hd hf (by unfold scanBound at hb;omega) ⟨.int (ik zs zs.length),H,I.tok _,⟨_,by rw [hn]⟩,q⟩
end L2
namespace PySem
open PySem PySem.Spec
section
variable {prog:Program}{w:World}{A:Around}{E:Value->Shared->Prop}{h:Heap}{g:Array GenState}{d:Drawn}{t:Nat}{os:OsState}{a:Addr}{o:Obj}
end
end PySem
namespace L2
open PySem PySem.Spec PyProof.Rows
section
variable {prog:Program}{w:World}{A:Around}{R:Result->Shared->Prop}{it:Addr}{fp wr:List Addr}{G:Array GenState->Array GenState->Prop}{P:Nat->Value->Prop}{St:Nat->Shared->Prop}
end
section
variable {prog:Program}{w:World}{A:Around}{E:Value->Shared->Prop}{s:Shared}
end
section
variable {P:Program}{w:World}{K:W.Frag}{mg:Str->Option Value}{base:Heap}
end
structure MC (P:Program) (w:World) (K:PySem.W.Frag) (mg:Str->Option Value) (base:Heap) (C:Addr) (m:Str) (k:Nat) (ps:List Str) (ds:List Value) (dvs:List V) (sp:Sp) (f:Addr) (fd:FuncData):Prop where
 cl:Cls K C
 mt:Meth K C m f
 ok:FnOk P w K mg base CX0 k f fd ps sp
 bd:bE K fd ps ds
 dv:aW dvs ds
section
variable {D:Ends}{σ:St}{H:Hp}{Q:VK}
theorem aB (h:D.nx σ H):yS D σ H:=h
theorem aA {te:TE} (h:te σ H D.rt):zM te D σ H:=h
theorem be {te:TE} (h:te σ H λ_ H1=>D.nx σ H1):yU te D σ H:=h
theorem af {t u:TS} (h:t { D with nx:=u D } σ H):xk t u D σ H:=h
theorem xN {ta tb:TE} (h:ta σ H λx H1=>∃c,x=.bl c/\if c=true then tb σ H1 Q else Q (.bl false) H1):yV ta tb σ H Q:=h
theorem uY {r:List V->Hp->VK->Prop}{t:TA} (h:t σ H λvs H1=>r vs H1 Q):tCB r t σ H Q:=h
theorem cJ {ta:TE}{tr:TA}{R:List V->Hp->Prop} (h:ta σ H λx H1=>tr σ H1 λxs H2=>R (x::xs) H2):cq ta tr σ H R:=h
theorem zi {r:R2}{ta tb:TE} (h:ta σ H λx H1=>tb σ H1 λy H2=>r x y H2 Q):tOp r ta tb σ H Q:=h
theorem zm {K:W.Frag}{T:String}{r:V->List V->Hp->VK->Prop}{to:TE}{t:TA} (h:to σ H λx H1=>tyV K T x H1/\t σ H1 λxs H2=>r x xs H2 Q):tBM K T r to t σ H Q:=h
theorem aw {te:TE}{g:TG} (h:te σ H λx H1=>g x σ H1 D.nx):xm te g D σ H:=h
end
theorem aE {c:TT}{t u:TS}{D:Ends}{σ:St}{H:Hp} (h:c σ H λb H1=>if b=true then t D σ H1 else u D σ H1):zQ c t u D σ H:=h
theorem BI {t:TS}{D:Ends}{H:Hp}{σ σ':St} (e:σ=σ') (h:t D σ' H):t D σ H:=by
 rw [e];exact h
theorem nB {c:TT}{tb:TS}{D:Ends}{σ:St}{H:Hp} (W:Nat->St->Hp->Prop){m:Nat} (h0:W m σ H) (h:∀m σ H,W m σ H->c σ H λb H1=>if b=true then ∃N:St->Hp->Prop,(∀σ' H',N σ' H'->∃m',m' < m/\W m' σ' H')/\tb { D with nx:=N,ct:=N,bk:=D.nx } σ H1 else D.nx σ H1):tS c tb D σ H:=
 ⟨W,⟨m,h0⟩,h⟩
section
variable {X:Cx}
end
section
variable {X:Cx}
end
section
variable {prog:Program}{w:World}{A:Around}{E:Value->Shared->Prop}
end
theorem zC {X:Cx}{pins:List (Addr × Obj)}{σ:St}{H:Hp}{s:Shared}{p:Addr}{xs:List V} (I:Inv X pins σ H s) (e:H p=some (.lst xs)):∃its:List Value,aW xs its/\s.heap.IsList p its.toArray:=by
 obtain⟨_,its,n,r,h1⟩:=(show bC X.prog X.w H s.heap p (.lst xs) from I.hok p _ e)
 exact⟨its,r,_,h1,rfl,n,rfl⟩
section
variable {X:Cx}
end
theorem Au {t u:TS}{D:Ends}{σ:St}{H:Hp} (Post:St->Hp->Prop) (h1:∀R:St->Hp->Prop,(∀σ' H',Post σ' H'->R σ' H')->t { D with nx:=R } σ H) (h2:∀σ' H',Post σ' H'->u D σ' H'):xk t u D σ H:=h1 _ h2
section
variable {prog:Program}{w:World}{A:Around}{s:Shared}{R:Result->Shared->Prop}{I:Addr}{fp wr:List Addr}{G:Array GenState->Array GenState->Prop}{n:Nat}{P:Nat->Value->Prop}{St:Nat->Shared->Prop}
end
section
variable {prog:Program}{w:World}{A:Around}{E:Value->Shared->Prop}{s:Shared}
end
def Cf (i j:Int):Prop:=0 < j/\j < 2 ^ 64
theorem vm {X:Cx}:OpR X (binaryOp .FloorDiv) (rI Cf λi j=>.int (i / j)):=opI λi j _ _ _ _ _ hc q=>by
 have h1:(0:Int) < j:=hc.1
 have h2:j.natAbs < 2 ^ 64:=by have:=hc.2;omega
 have h3:j.natAbs.log2 < 64:=(Nat.log2_lt ‹1›).mpr h2
 exact floordiv_int ‹1› (by rw [Int.fdiv_eq_ediv_of_nonneg i ‹1›];exact q) (.inl (PyProof.noPylong_of_log2 ‹1›))
section
variable {P:Program}{w:World}{K:W.Frag}{mg:Str->Option Value}{base:Heap}
end
section
variable {P:Program}{w:World}{K:W.Frag}{mg:Str->Option Value}{base:Heap}{N:List Str}{qual:Str}{scope:Scope}{f:Addr}{cd:Value}{A:Around}{outer:List Env}{s:Shared}{H:Hp}{E:XK}
end
section
variable {X:Cx}{pins:List (Addr × Obj)}{σ:St}{H:Hp}{s:Shared}
end
section
variable {X:Cx}
end
section
variable {X:Cx}
end
noncomputable def yW:Expr->Bool
 | .Starred _ _=>true
 | _=>false
theorem rS {e:Expr}{es:List Expr}{env:Env} (h:yW e=false):starEach (e::es) env=(false,eval e env)::starEach es env:=by
 cases e <;> first | (cases h;done) | (unfold starEach;rfl) | rfl
theorem aa {X:Cx}{e:Expr}{es:List Expr}{te:TE}{t:TA} (ha:PE X e te) (hr:PA X es t) (hs:yW e=false:=by rfl):PA X (e::es) (cq te t):=aC ha hr (rS hs)
section
variable {σ:St}{H:Hp}
end
theorem cN (x:Str):x.length=x.cps.toList.length:=by simp [Str.length]
theorem je (x y:Str):(x++y).cps.toList=x.cps.toList++y.cps.toList:=by
 show (x.cps++y.cps).toList=_
 rw [Array.toList_append]
theorem wj (zs:List Str):(Str.join ‹""› zs).cps.toList=(zs.map λz=>z.cps.toList).flatten:=by
 induction zs with
 | nil=>rfl
 | cons z zs ih=>
  cases zs with
  | nil=>simp [Str.join]
  | cons y ys=>
   show (z++‹""›++Str.join ‹""› (y::ys)).cps.toList=_
   rw [je,je,ih,List.map_cons (l:=y::ys),List.flatten_cons,show ‹""›.cps.toList=[] from rfl,List.append_nil]
theorem BS (zs:List Str):(Txt.join ‹""› zs).cps.toList=(zs.map λz=>z.cps.toList).flatten:=by
 show (Builtin.Str.glued ‹""› zs).cps.toList=_
 rw [StrLaws.glued_eq_join]
 exact wj zs
theorem dz {x y:Str} (h:x.cps.toList=y.cps.toList):x=y:=by
 cases x;cases y
 congr 1
 exact Array.toList_inj.mp h
theorem ig:∀ds:List Nat,((ds.map λd=>(⟨#[d]⟩:Str)).map λz=>z.cps.toList).flatten=ds
 | []=>rfl
 | d::ds=>by rw [List.map_cons,List.map_cons,List.flatten_cons,ig ds];rfl
theorem iL:∀ds:List Nat,((ds.map λd=>(⟨#[d]⟩:Str)).map (·.length)).sum=ds.length
 | []=>rfl
 | d::ds=>by rw [List.map_cons,List.map_cons,List.sum_cons,iL ds,List.length_cons];show 1+_=_;omega
def gb (J:It) (sub:List Nat) (tt:TT) (te:TE) (σ:St) (Q:VK) (H1:Hp):Prop:=∀D,H1 D=none->∃W:Nat->Nat->List V->Hp->Prop,(∃m,W 0 m [] (upd H1 D (.lst [])))/\∀i m ys H2,W i m ys H2->
 (J.stop i H2/\Q (.ref D) H2)\/(J.go i H2/\∃N:List V->Hp->Prop,(∀ys' H',N ys' H'->∃m',m' < m/\W (i+1) m' ys' H')/\∀v H3,J.yld i H2 v H3->tt (some v::bG sub σ) H3 λb H4=>if b=true then
  te (some v::bG sub σ) H4 λy H5=>H5 D=some (.lst ys)/\ys.length < sizeLine/\N (ys++[y]) (upd H5 D (.lst (ys++[y])))
  else N ys H4)
section
variable {wi:TI}{sub:List Nat}{tt:TT}{te:TE}{σ:St}{H:Hp}{Q:VK}{K:W.Frag}
theorem ce (h:wi σ H λJ H1=>gb J sub tt te σ Q H1):kG wi sub tt te σ H Q:=h
end
end L2
namespace Mine
open PySem L2
variable {P:Program}{w:World}{K:W.Frag}{mg:Str->Option Value}{base:Heap}
noncomputable def top (i:Nat):Stmt:=PySem.Challenge.pw_unsaybook_k36_whole_by_what_was_read_alo.main.body.getD i (.Pass ⟨0,0,0,0⟩)
noncomputable abbrev Aj:Stmt:=top 11
noncomputable abbrev uG:Stmt:=top 9
noncomputable abbrev mi:Stmt:=top 10
noncomputable abbrev jw:Stmt:=top 15
noncomputable abbrev uE:Stmt:=top 27
noncomputable abbrev uU:Stmt:=top 45
noncomputable abbrev Ag:Stmt:=top 46
noncomputable abbrev pN:Stmt:=top 47
noncomputable abbrev uD:Stmt:=top 48
noncomputable abbrev pD:Stmt:=top 49
noncomputable abbrev lZ:Stmt:=top 50
noncomputable abbrev uR:Stmt:=top 51
noncomputable abbrev ml:Stmt:=top 52
noncomputable abbrev uA:Stmt:=top 53
noncomputable abbrev pE:Stmt:=top 54
structure Cal (P:Program) (w:World) (K:PySem.W.Frag) (mg:Str->Option Value) (base:Heap) (x:Str) (k:Nat) (ps:List Str) (sp:Sp) (f:Addr) (fd:FuncData):Prop where
 ok:FnOk P w K mg base CX0 k f fd ps sp
 nm:mg x=some (.ref f)
 kp:PySem.W.keepIn K (.ref f)=true
 bd:bE K fd ps []
structure Free (mg:Str->Option Value):Prop where
 «len»:mg "len" = none
 «range»:mg "range" = none
 «sorted»:mg "sorted" = none
 «isinstance»:mg "isinstance" = none
 «int»:mg "int" = none
 «bool»:mg "bool" = none
 «str»:mg "str" = none
 «list»:mg "list" = none
 «tuple»:mg "tuple" = none
 «dict»:mg "dict" = none
 «set»:mg "set" = none
 «max»:mg "max" = none
 «min»:mg "min" = none
 «all»:mg "all" = none
 «enumerate»:mg "enumerate" = none
 «abs»:mg "abs" = none
 «reversed»:mg "reversed" = none
 «sum»:mg "sum" = none
def aZ (H H':Hp):Prop:=∀b o,H b=some o->H' b=some o
theorem aZ.refl {H:Hp}:aZ H H:=λ_ _ e=>e
theorem aZ.trans {H H1 H2:Hp} (g:aZ H H1) (g':aZ H1 H2):aZ H H2:=λb o e=>g' b o (g b o e)
theorem aZ.new {H:Hp}{a:Addr}{o:HO} (n:H a=none):aZ H (upd H a o):=λb o e=>by rw [ai (ao e n)];exact e
noncomputable def inZ (z:Str) (c:Nat):Bool:=decide (c∈z.cps.toList)
noncomputable def cH (x z:Str) (m:Int):Bool:=decide (1<=(x.length:Int)) && (decide ((x.length:Int)<=m) && x.cps.toList.all (inZ z))
noncomputable def uf:Sp:=λvs H Q _=>∃(x z:Str) (m:Int),vs=[.str x,.str z,.int m]/\x.length < sizeLine/\∀H',aZ H H'->Q (.bl (cH x z m)) H'
noncomputable abbrev dE:Str:=‹"abcdefghijklmnopqrstuvwxyz"›
noncomputable abbrev ij:Str:=‹"0123456789"›
structure Con (mg:Str->Option Value):Prop where
 letters:∃t,mg "LETTERS" = some (.str dE t)
 figures:∃t,mg "FIGURES" = some (.str ij t)
 eight:∃t,mg "MOST_LETTERS" = some (.int 8 t)
 twelve:∃t,mg "MOST_FIGURES" = some (.int 12 t)
 lastday:∃t,mg "LAST_DAY" = some (.int 399 t)
 keys:∃t,mg "MOST_KEYS" = some (.int 8 t)
 value:∃t,mg "MOST_VALUE" = some (.int 1000000000 t)
 opn:∃t,mg "MOST_OPEN" = some (.int 3 t)
 rank:∃t,mg "MOST_RANK" = some (.int 400 t)
theorem tO {σ:St}{H:Hp}{Q:VK}{x z:Str} (e0:σ[0]?=some (some (.str x))) (e1:σ[1]?=some (some (.str z))) (hl:x.length < sizeLine)
  (hq:∀(D:Addr) (H':Hp),H D=none->aZ H H'->H' D=some (.lst ((x.cps.toList.map (inZ z)).map V.bl))->Q (.ref D) H') :
  kG (BV (jh 0)) [1] (λ_ H Q=>Q true H) (tOp (λx y H Q=>∃i j,x=.str i/\y=.str j/\Q (.bl (!(Builtin.Str.occurrences j i 0 j.length 1).isEmpty)) H) (jh 0) (jh 1)) σ H Q:=by
 have es:bG [1] σ=[some (.str z)]:=by
  show [(σ[1]?).join]=_
  rw [e1];rfl
 refine⟨_,e0,x,rfl,λD nD=>wL (x:=x) (sub:=[1]) (tt:=λ_ H Q=>Q true H) (te:=tOp (λx y H Q=>∃i j,x=.str i/\y=.str j/\Q (.bl (!(Builtin.Str.occurrences j i 0 j.length 1).isEmpty)) H) (jh 0) (jh 1)) (Q:=Q) (σ:=σ)
  (λi ys H2=>ys=((x.cps.toList.take i).map (inZ z)).map V.bl/\H2=upd H D (.lst ys)) ⟨rfl,rfl⟩ (λi c ys H2 hi hh=>?_) λys H2 hh=>?_⟩
 ·obtain⟨rfl,rfl⟩:=hh
  rw [es]
  show (if true=true then _ else _)
  rw [if_pos rfl]
  have hi':x.cps.toList[i]?=some c:=by simpa using hi
  have hil:i < x.cps.size:=(Array.getElem?_eq_some_iff.mp hi).1
  refine⟨_,rfl,_,rfl,_,_,rfl,rfl,ar,?_,?_,?_⟩
  ·rw [List.length_map,List.length_map,List.length_take]
   have:x.length < sizeLine:=hl
   have e:x.cps.toList.length=x.length:=by simp [Str.length]
   rw [e]
   omega
  ·rw [List.take_add_one,hi',List.map_append,List.map_append,PySem.StrLaws.found_one]
   rfl
  ·rw [bv]
 ·obtain⟨rfl,rfl⟩:=hh
  refine hq D _ nD (aZ.new nD) ?_
  rw [ar,List.take_of_length_le (by simp)]
theorem BD:FnScope ["text", "signs", "most"] ["text", "signs", "most"] (aq Aj):=‹2›
theorem AO {f:Addr}{fd:FuncData} (F:Fun K "has_only" "has_only" Aj f fd) (N:Free mg):FnOk P w K mg base CX0 1 f fd ["text", "signs", "most"] uf:=by
 refine F.ok (k:=0) BD (λvs H Q E h=>?_) (λcdv A outer s H vs Q E hr h=>?_)
 ·obtain⟨x,z,m,rfl,_⟩:=h
  rfl
 ·obtain⟨x,z,m,rfl,hl,hq⟩:=h
  refine⟨_,ah (ax (fR (vh jE jE aj (aG il (by rfl) N.len PySem.boot_len (aC (pv 0) ac)) (pv 2))
   (fQ (aG (lr rfl) (by rfl) N.all PyProof.Rows.Boot.«all» (aC (vg (y:="signs") (i:=1) rfl (AB (pv 0)) rfl rfl (by decide) (by decide) rfl (by decide) rfl (.inr (.inl rfl)) (by show (some NameKind.cell)≠some NameKind.local;decide) (.inl rfl) rfl (λC fp s H=>cw) (λC fp s H=>cj sx (pv 0) (pv 1) (by with_unfolding_all rfl))) ac))))),?_⟩
  have gr:∀{b},cH x z m=b->Q (.bl b) H:=λ{b} e=>by rw [<- e];exact hq H aZ.refl
  refine⟨_,rfl,x,rfl,Nat.le_of_lt hl,_,_,rfl,rfl,_,rfl,dX (λh1=>?_) λh1=>⟨_,rfl,aS (gr ?_)⟩⟩
  ·refine⟨_,rfl,_,_,rfl,rfl,_,rfl,dX (λh2=>?_) λh2=>gr ?_⟩
   ·unfold tCB cq
    refine tO rfl rfl hl λD H' nD g hD=>⟨D,_,rfl,SqL.of hD,?_⟩
    have e:cH x z m=(x.cps.toList.map (inZ z)).all id:=by
     unfold cH
     rw [h1,h2,Bool.true_and,Bool.true_and,List.all_map];rfl
    rw [<- e]
    exact hq H' g
   ·unfold cH
    rw [Bool.eq_false_iff.mpr h2,Bool.false_and,Bool.and_false]
  ·unfold cH
   rw [Bool.eq_false_iff.mpr h1,Bool.false_and]
theorem laid {H:Hp}{p:Addr}{o:HO} (h:H p=none):aZ H (upd H p o)/\upd H p o p=some o:=⟨λb u e=>by rw [ai (ao e h)];exact e,ar⟩
noncomputable def uh (K:PySem.W.Frag):Sp:=λvs H Q _=>∃(a:Addr) (ns:List Int) (k:Int),vs=[.ref a,.int k]/\SqL K H a (ns.map V.int)/\0<=k/\k < 2 ^ 62/\∀n:Int,Q (.int n) H
noncomputable def u4:Sp:=λvs H Q _=>∃(c k:Int),vs=[.int c,.int k]/\∀n:Int,0<=n->n < 2147483587->Q (.int n) H
def SAt (H:Hp) (s:Addr):Prop:=∃a c k:Int,H s=some (.lst [.int a,.int c,.int k])/\0<=a
def Off (s:Addr) (H H':Hp):Prop:=∀b o,H b=some o->b≠s->H' b=some o
theorem Off.trans {s:Addr}{H H1 H2:Hp} (h:Off s H H1) (g:Off s H1 H2):Off s H H2:=λb o e n=>g _ _ (h _ _ e n) n
theorem Off.grow {s:Addr}{H H':Hp} (g:aZ H H'):Off s H H':=λb o e _=>g _ _ e
theorem SAt.keep {H H':Hp}{s:Addr} (h:SAt H s) (g:aZ H H'):SAt H' s:=let ⟨a,c,k,e,z⟩:=h;⟨a,c,k,g _ _ e,z⟩
noncomputable def lP:Sp:=λvs H Q _=>∃(c:Int),vs=[.int c]/\∀(p:Addr) (H':Hp),H p=none->aZ H H'->SAt H' p->Q (.ref p) H'
noncomputable def cZ:Sp:=λvs H Q _=>∃(s:Addr) (m:Int),vs=[.ref s,.int m]/\SAt H s/\0 < m/\m < 2 ^ 64/\∀(n:Int) (H':Hp),0<=n->n < m->Off s H H'->SAt H' s->Q (.int n) H'
theorem Ae:FnScope ["_law_script", "_law_k"] ["_law_script", "_law_k"] (aq uU):=‹2›
theorem ym {f:Addr}{fd:FuncData} (F:Fun K "_law_cell" "_law_cell" uU f fd) (N:Free mg):FnOk P w K mg base CX0 1 f fd ["_law_script", "_law_k"] (uh K):=by
 refine F.ok (k:=0) Ae (λvs H Q E h=>?_) (λcdv A outer s H vs Q E hr h=>?_)
 ·obtain⟨a,ns,k,rfl,_⟩:=h
  rfl
 ·obtain⟨a,ns,k,rfl,hS,hk,hk2,q⟩:=h
  have hu:=aK hr
  refine⟨_,(ae (ba (aI jD (pv 1) (aG aN (by rfl) N.len PySem.boot_len (aC (pv 0) ac)) (aP _)) (ah (ax (aU aO (pv 0) (pv 1) (λ_ _=>rfl)))) aF)
   (ah (ax (aL bx (aL eS aj (pv 1)) aj)))),?_⟩
  refine af (aE ⟨_,rfl,_,rfl,a,_,rfl,.inl hS,_,_,rfl,rfl,_,rfl,?_⟩)
  refine dX (λhlt=>?_) (λ_=>?_)
  ·have hlt:k < ((ns.map V.int).length:Int):=of_decide_eq_true hlt
   rw [List.length_map]at hlt
   obtain⟨j,rfl⟩:∃j:Nat,k=(j:Int):=⟨k.toNat,by omega⟩
   have hk2:j < ns.length:=by omega
   refine⟨_,rfl,_,rfl,a,_,(j:Int),.int ns[j],rfl,rfl,hS,dH ?_,q _⟩
   rw [List.getElem?_map,List.getElem?_eq_getElem hk2]
   rfl
  ·refine aB ?_
   exact⟨_,rfl,_,_,rfl,rfl,.inl ⟨by decide,by decide⟩,_,_,rfl,rfl,q _⟩
theorem ur:FnScope ["_law_cell_here", "_law_k", "_law_number"] ["_law_cell_here", "_law_k"] (aq Ag):=‹2›
theorem AJ {f:Addr}{fd:FuncData} (F:Fun K "_law_mix" "_law_mix" Ag f fd)  : FnOk P w K mg base CX0 1 f fd ["_law_cell_here", "_law_k"] u4:=by
 refine F.ok (k:=0) ur (λvs H Q E h=>?_) (λcdv A outer s H vs Q E hr h=>?_)
 ·obtain⟨c,k,rfl,_⟩:=h
  rfl
 ·obtain⟨c,k,rfl,q⟩:=h
  have hu:=aK hr
  refine⟨_,(ae (ay (i:=2) ur.nd rfl (Or.inl rfl) (aL fm (aL eS (aL bx (aL bx (aL fm (pv 0) aj) (aL eS aj (pv 1))) aj) aj) aj))
   (ae (ay (i:=2) ur.nd rfl (Or.inl rfl) (aL fm (aL bx (aL eS (pv 2) (pv 2)) (aL eS aj (pv 1))) aj))
   (ah (ax (aL fm (aL eS (pv 2) (aL bx (pv 2) aj)) aj))))),?_⟩
  have small:∀(x:Int){m:Int},0 < m->m < 2 ^ 64->-(2 ^ 64) < x % m/\x % m < 2 ^ 64:=λx m h1 h2=>by
   have a:=Int.emod_nonneg x (Int.ne_of_gt h1)
   have b:=Int.emod_lt_of_pos x h1
   omega
  refine⟨_,rfl,_,_,rfl,rfl,(by show (0:Int) < 2147483629;decide),_,rfl,_,_,rfl,rfl,.inl ⟨by decide,by decide⟩,_,_,rfl,rfl,_,_,rfl,rfl,_,_,rfl,rfl,.inr ⟨by decide,by decide⟩,_,_,rfl,rfl,(by show (0:Int) < 2147483647;decide),?_⟩
  refine⟨_,rfl,_,rfl,_,_,rfl,rfl,.inl (small _ (by decide) (by decide)),_,rfl,_,_,rfl,rfl,.inl ⟨by decide,by decide⟩,_,_,rfl,rfl,_,_,rfl,rfl,(by show (0:Int) < 2147483629;decide),?_⟩
  refine⟨_,rfl,_,rfl,_,_,rfl,rfl,_,_,rfl,rfl,.inl (small _ (by decide) (by decide)),_,_,rfl,rfl,(by show (0:Int) < 2147483587;decide),?_⟩
  exact q _ (Int.emod_nonneg _ (by decide)) (Int.emod_lt_of_pos _ (by decide))
theorem xI:FnScope ["_law_cell_here"] ["_law_cell_here"] (aq pN):=‹2›
theorem vP {f:Addr}{fd:FuncData} (F:Fun K "_law_begun" "_law_begun" pN f fd)  : FnOk P w K mg base CX0 1 f fd ["_law_cell_here"] lP:=by
 refine F.ok (k:=0) xI (λvs H Q E h=>?_) (λcdv A outer s H vs Q E hr h=>?_)
 ·obtain⟨c,rfl,_⟩:=h
  rfl
 ·obtain⟨c,rfl,q⟩:=h
  have hu:=aK hr
  refine⟨_,(ae (ba (aI zt (pv 0) (aL pV aj aj) (aP _)) (ah (ax (aR (aC (pv 0) (aC (pv 0) (aC aj ac)))))) aF)
   (ah (ax (aR (aC aj (aC (pv 0) (aC aj ac))))))),?_⟩
  refine af (aE ⟨_,rfl,_,_,rfl,rfl,⟨by decide,by decide,by decide⟩,_,_,rfl,rfl,_,rfl,dX (λhc=>?_) λ_=>?_⟩)
  ·have hc:c>=10 ^ Int.toNat 18:=of_decide_eq_true hc
   have h18:(10:Int) ^ Int.toNat 18=1000000000000000000:=by decide
   rw [h18]at hc
   exact⟨_,rfl,_,rfl,by show 3<=sizeLine;decide,λp np=>q p _ np (laid np).1 ⟨c,c,0,ar,by omega⟩⟩
  ·exact aB ⟨_,rfl,by show 3<=sizeLine;decide,λp np=>q p _ np (laid np).1 ⟨0,c,0,ar,by decide⟩⟩
theorem uo:FnScope ["_law_state", "_law_many", "_law_number"] ["_law_state", "_law_many"] (aq uD):=‹2›
theorem xZ {f f1:Addr}{fd:FuncData} (F:Fun K "_law_pull" "_law_pull" uD f fd){fd1:FuncData} (CM:Cal P w K mg base "_law_mix" 1 ["_law_cell_here", "_law_k"] u4 f1 fd1):FnOk P w K mg base CX0 2 f fd ["_law_state", "_law_many"] cZ:=by
 refine F.ok (k:=1) uo (λvs H Q E h=>?_) (λcdv A outer s H vs Q E hr h=>?_)
 ·obtain⟨s,m,rfl,_⟩:=h
  rfl
 ·obtain⟨s,m,rfl,⟨a,c,k,hs,ha⟩,hm,hm2,q⟩:=h
  have hu:=aK hr
  refine⟨_,(ae (ba (aI vk (aU aO (pv 0) aj (λ_ _=>rfl)) aj (aP _)) (ae (ay (i:=2) uo.nd rfl (Or.inl rfl) (aL fm (aU aO (pv 0) aj (λ_ _=>rfl)) (pv 1)))
   (ae (jz (aL vm (aU aO (pv 0) aj (λ_ _=>rfl)) (pv 1)) (ve (pv 0) aj nk))
   (ah (ax (pv 2))))) aF)
   (ae (jz (aL bx (aU aO (pv 0) aj (λ_ _=>rfl)) aj) (ve (pv 0) aj nk))
   (ah (ax (aL fm (av CM.ok (hr.mono (by decide)) rfl CM.nm CM.kp CM.bd .nil au (aC (aU aO (pv 0) aj (λ_ _=>rfl)) (aC (aU aO (pv 0) aj (λ_ _=>rfl)) ac))) (pv 1)))))),?_⟩
  have at0:SqL K H s [.int a,.int c,.int k]:=SqL.of hs
  refine af (aE ⟨_,rfl,s,_,0,_,rfl,rfl,at0,rfl,_,_,rfl,rfl,_,rfl,dX (λhc=>?_) λhc=>?_⟩)
  ·refine af (aw ⟨_,rfl,s,_,0,_,rfl,rfl,at0,rfl,_,rfl,_,_,rfl,rfl,hm,?_⟩)
   walk_at "d"
   refine af (aw ⟨_,rfl,s,_,0,_,rfl,rfl,at0,rfl,_,rfl,_,_,rfl,rfl,⟨hm,hm2⟩,?_⟩)
   refine⟨_,rfl,s,_,0,0,rfl,rfl,hs,rfl,aA ⟨_,rfl,?_⟩⟩
   exact q (a % m) _ (Int.emod_nonneg _ ‹1›) (Int.emod_lt_of_pos _ hm) (λb o e n=>by rw [ai n];exact e) ⟨a / m,c,k,ar,Int.ediv_nonneg ha ‹1›⟩
  ·refine aB ?_
   dsimp only
   refine af (aw ⟨_,rfl,s,_,2,_,rfl,rfl,at0,rfl,_,_,rfl,rfl,_,rfl,s,_,2,2,rfl,rfl,hs,rfl,?_⟩)
   walk_at "d"
   refine⟨_,rfl,s,_,1,_,rfl,rfl,SqL.of ar,rfl,_,rfl,s,_,2,_,rfl,rfl,SqL.of ar,rfl,c,k+1,rfl,λn n0 n1=>⟨_,rfl,_,_,rfl,rfl,hm,?_⟩⟩
   exact q (n % m) _ (Int.emod_nonneg _ ‹1›) (Int.emod_lt_of_pos _ hm) (λb o e n=>by rw [ai n];exact e) ⟨a,c,k+1,ar,ha⟩
noncomputable def mZ:Sp:=λvs H Q _=>∃(s:Addr),vs=[.ref s]/\SAt H s/\∀(t:Addr) (lo wd:Int) (H':Hp),Off s H H'->SAt H' s->H' t=some (.tup [.int lo,.int wd])->t≠s->0<=lo->1<=wd->lo+wd<=400->(wd<=40\/wd=400)->Q (.ref t) H'
noncomputable def oT:Sp:=λvs H Q _=>∃(s t:Addr) (lo wd:Int),vs=[.ref s,.ref t]/\SAt H s/\H t=some (.tup [.int lo,.int wd])/\t≠s/\0<=lo/\1<=wd/\lo+wd<=400/\∀(u:Addr) (f l:Int) (H':Hp),Off s H H'->SAt H' s->H' u=some (.tup [.int f,.int l])->lo<=f->f<=l->l < lo+wd->Q (.ref u) H'
noncomputable def gS:Sp:=λvs H Q _=>∃(s:Addr),vs=[.ref s]/\SAt H s/\∀(n:Int) (H':Hp),Off s H H'->SAt H' s->-1000000000<=n->n<=1000000000->Q (.int n) H'
theorem C0 {d:Int} (h0:0<=d) (h1:d < 4):∃m:Int,1<=m/\m<=400/\(m<=40\/m=400)/\atI [V.int 1,V.int 12,V.int 40,V.int 400] d=some (V.int m):=by
 rcases (show d=0\/d=1\/d=2\/d=3 by omega) with rfl | rfl | rfl | rfl
 ·exact⟨1,by decide,by decide,by decide,rfl⟩
 ·exact⟨12,by decide,by decide,by decide,rfl⟩
 ·exact⟨40,by decide,by decide,by decide,rfl⟩
 ·exact⟨400,by decide,by decide,by decide,rfl⟩
theorem SAt.ne {H:Hp}{s t:Addr}{xs:List V} (h:SAt H s) (e:H t=some (.tup xs)):t≠s:=λz=>by
 obtain⟨a,c,k,e',_⟩:=h
 rw [z,e']at e
 cases e
theorem ny:FnScope ["_law_state", "_law_wide"] ["_law_state"] (aq lZ):=‹2›
theorem sB {f f1:Addr}{fd:FuncData} (F:Fun K "_law_window" "_law_window" lZ f fd){fd1:FuncData} (CP:Cal P w K mg base "_law_pull" 2 ["_law_state", "_law_many"] cZ f1 fd1):FnOk P w K mg base CX0 3 f fd ["_law_state"] mZ:=by
 refine F.ok (k:=2) ny (λvs H Q E h=>?_) (λcdv A outer s H vs Q E hr h=>?_)
 ·obtain⟨s,rfl,_⟩:=h
  rfl
 ·obtain⟨s,rfl,hs,q⟩:=h
  have hu:=aK hr
  refine⟨_,(ae (ay (i:=1) ny.nd rfl (Or.inl rfl) (aU aO (aR (aC aj (aC aj (aC aj (aC aj ac))))) (av CP.ok (hr.mono (by decide)) rfl CP.nm CP.kp CP.bd .nil au (aC (pv 0) (aC aj ac))) (λ_ _=>rfl)))
   (ah (ax (bW (aC (av CP.ok (hr.mono (by decide)) rfl CP.nm CP.kp CP.bd .nil au (aC (pv 0) (aC (aL dn aj (pv 1)) ac))) (aC (pv 1) ac)))))),?_⟩
  refine af (aw ⟨by show 4<=sizeLine;decide,λl nl=>?_⟩)
  obtain⟨g1,e1⟩:=laid (o:=.lst [V.int 1,V.int 12,V.int 40,V.int 400]) nl
  have hs1:=hs.keep g1
  generalize upd H l _=H1 at g1 e1 hs1 ⊢
  refine⟨_,rfl,s,4,rfl,hs1,by decide,by decide,λn H2 n0 n1 o2 hs2=>?_⟩
  obtain⟨m,m1,m2,m3,em⟩:=C0 n0 n1
  have nls:l≠s:=λz=>by
   obtain⟨a,c,k,e',_⟩:=hs
   rw [z,e']at nl;cases nl
  refine⟨l,_,_,_,rfl,rfl,SqL.of (o2 _ _ e1 nls),em,?_⟩
  walk_at "d"
  refine aA ⟨_,rfl,_,rfl,_,_,rfl,rfl,s,401 - m,rfl,hs2,by omega,by omega,λlo H3 l0 l1 o3 hs3=>⟨_,rfl,by show 2<=sizeLine;decide,λt nt=>?_⟩⟩
  obtain⟨g4,e4⟩:=laid (o:=.tup [V.int lo,V.int m]) nt
  exact q t lo m _ (((Off.grow g1).trans o2).trans (o3.trans (Off.grow g4))) (hs3.keep g4) e4 (SAt.ne (hs3.keep g4) e4) l0 m1 ‹1› m3
theorem uv:FnScope ["_law_state", "_law_window_here", "_law_first"] ["_law_state", "_law_window_here"] (aq uR):=‹2›
theorem yj {f f1:Addr}{fd:FuncData} (F:Fun K "_law_days" "_law_days" uR f fd){fd1:FuncData} (CP:Cal P w K mg base "_law_pull" 2 ["_law_state", "_law_many"] cZ f1 fd1):FnOk P w K mg base CX0 3 f fd ["_law_state", "_law_window_here"] oT:=by
 refine F.ok (k:=2) uv (λvs H Q E h=>?_) (λcdv A outer s H vs Q E hr h=>?_)
 ·obtain⟨s,t,lo,wd,rfl,_⟩:=h
  rfl
 ·obtain⟨s,t,lo,wd,rfl,hs,et,nts,h0,h1,h2,q⟩:=h
  have hu:=aK hr
  refine⟨_,(ae (ay (i:=2) uv.nd rfl (Or.inl rfl) (aL bx (aU de (pv 1) aj (λ_ _=>rfl)) (av CP.ok (hr.mono (by decide)) rfl CP.nm CP.kp CP.bd .nil au (aC (pv 0) (aC (aU de (pv 1) aj (λ_ _=>rfl)) ac)))))
   (ah (ax (bW (aC (pv 2) (aC (aL bx (pv 2) (av CP.ok (hr.mono (by decide)) rfl CP.nm CP.kp CP.bd .nil au (aC (pv 0) (aC (aL dn (aL bx (aU de (pv 1) aj (λ_ _=>rfl)) (aU de (pv 1) aj (λ_ _=>rfl))) (pv 2)) ac)))) ac)))))),?_⟩
  refine af (aw ⟨_,rfl,t,_,0,_,rfl,rfl,SqT.of et,rfl,_,rfl,_,rfl,t,_,1,_,rfl,rfl,SqT.of et,rfl,s,wd,rfl,hs,by omega,by omega,λn H2 n0 n1 o2 hs2=>⟨_,_,rfl,rfl,?_⟩⟩)
  walk_at "d"
  have et2:=o2 _ _ et nts
  refine aA ⟨_,rfl,_,rfl,_,rfl,_,rfl,t,_,0,_,rfl,rfl,SqT.of et2,rfl,_,rfl,t,_,1,_,rfl,rfl,SqT.of et2,rfl,_,_,rfl,rfl,_,rfl,_,_,rfl,rfl,s,_,rfl,hs2,by omega,by omega,λm H3 m0 m1 o3 hs3=>⟨_,_,rfl,rfl,by show 2<=sizeLine;decide,λu nu=>?_⟩⟩
  obtain⟨g4,e4⟩:=laid (o:=.tup [V.int (lo+n),V.int (lo+n+m)]) nu
  exact q u (lo+n) (lo+n+m) _ (o2.trans (o3.trans (Off.grow g4))) (hs3.keep g4) e4 ‹1› ‹1› ‹1›
theorem nz:FnScope ["_law_state", "_law_way"] ["_law_state"] (aq ml):=‹2›
theorem sH {f f1:Addr}{fd:FuncData} (F:Fun K "_law_amount" "_law_amount" ml f fd){fd1:FuncData} (CP:Cal P w K mg base "_law_pull" 2 ["_law_state", "_law_many"] cZ f1 fd1):FnOk P w K mg base CX0 3 f fd ["_law_state"] gS:=by
 refine F.ok (k:=2) nz (λvs H Q E h=>?_) (λcdv A outer s H vs Q E hr h=>?_)
 ·obtain⟨s,rfl,_⟩:=h
  rfl
 ·obtain⟨s,rfl,hs,q⟩:=h
  have hu:=aK hr
  refine⟨_,(ae (ay (i:=1) nz.nd rfl (Or.inl rfl) (av CP.ok (hr.mono (by decide)) rfl CP.nm CP.kp CP.bd .nil au (aC (pv 0) (aC aj ac))))
   (ae (ba (aI jD (pv 1) aj (aP _)) (ah (ax (av CP.ok (hr.mono (by decide)) rfl CP.nm CP.kp CP.bd .nil au (aC (pv 0) (aC aj ac))))) aF)
   (ae (ba (aI bM (pv 1) aj (aP _)) (ah (ax (aL dn (av CP.ok (hr.mono (by decide)) rfl CP.nm CP.kp CP.bd .nil au (aC (pv 0) (aC aj ac))) aj))) aF)
   (ah (ax (aL dn (av CP.ok (hr.mono (by decide)) rfl CP.nm CP.kp CP.bd .nil au (aC (pv 0) (aC (aL bx (aL eS aj (aL pV aj aj)) aj) ac))) (aL pV aj aj))))))),?_⟩
  refine af (aw ⟨_,rfl,s,4,rfl,hs,by decide,by decide,λn H2 n0 n1 o2 hs2=>?_⟩)
  walk_at "d"
  refine af (aE ⟨_,rfl,_,_,rfl,rfl,_,rfl,dX (λ_=>?_) λ_=>aB ?_⟩)
  ·exact aA ⟨_,rfl,s,4,rfl,hs2,by decide,by decide,λm H3 m0 m1 o3 hs3=>q m H3 (o2.trans o3) hs3 ‹1› ‹1›⟩
  dsimp only
  refine af (aE ⟨_,rfl,rfl,_,rfl,dX (λ_=>?_) λ_=>aB ?_⟩)
  ·exact aA ⟨_,rfl,s,41,rfl,hs2,by decide,by decide,λm H3 m0 m1 o3 hs3=>⟨_,_,rfl,rfl,q (m - 20) H3 (o2.trans o3) hs3 ‹1› ‹1›⟩⟩
  dsimp only
  have h9:(10:Int) ^ Int.toNat 9=1000000000:=by decide
  refine aA ⟨_,rfl,_,_,rfl,rfl,⟨by decide,by decide,by decide⟩,_,_,rfl,rfl,.inl ⟨by decide,by decide⟩,_,_,rfl,rfl,s,_,rfl,hs2,by decide,by decide,λm H3 m0 m1 o3 hs3=>⟨_,_,rfl,rfl,⟨by decide,by decide,by decide⟩,_,_,rfl,rfl,?_⟩⟩
  rw [h9]at m1 ⊢
  exact q _ H3 (o2.trans o3) hs3 ‹1› ‹1›
theorem jR {α:Type}:∀(xs:List α) (j:Nat) (h:j < xs.length),(xs[j]::xs.eraseIdx j).Perm xs
 | x::xs,0,_=>.refl _
 | x::xs,j+1,h=>by
  have ih:=jR xs j (Nat.lt_of_succ_lt_succ h)
  rw [List.eraseIdx_cons_succ,List.getElem_cons_succ]
  exact(List.Perm.swap _ _ _).trans (ih.cons x)
noncomputable def tY:Sp:=λvs H Q _=>∃(s ln:Addr) (ss:List Str) (m:Int),vs=[.ref s,.ref ln,.int m]/\SAt H s/\H ln=some (.lst (ss.map V.str))/\ln≠s/\1<=m/\1<=ss.length/\ss.length<=100/\
 ∀(p:Addr) (xs ys:List Str) (H':Hp),H p=none->Off s H H'->SAt H' s->H' p=some (.lst (xs.map V.str))->xs≠[]->(xs++ys).Perm ss->(xs.length:Int)<=m->Q (.ref p) H'
inductive SoI (H:Hp) (s ln l p:Addr) (ss:List Str) (m:Int) (i:Nat) (σ:St) (H2:Hp):Prop
 | mk (xs ys:List Str) (v5:Option V) (h1:σ=[some (.ref s),some (.ref ln),some (.int m),some (.ref l),some (.ref p),v5]) (h2:Off s H H2) (h3:SAt H2 s) (h4:H2 l=some (.lst (ys.map V.str))) (h5:H2 p=some (.lst (xs.map V.str))) (h6:(xs++ys).Perm ss) (h7:xs.length=i):SoI H s ln l p ss m i σ H2
theorem SAt.lst {H:Hp}{s:Addr} (h:SAt H s):∃xs,H s=some (.lst xs):=let ⟨_,_,_,e,_⟩:=h;⟨_,e⟩
theorem SAt.off {H H':Hp}{s b:Addr} (h:SAt H s) (n:b≠s) (g:∀b' o,H b'=some o->b'≠b->H' b'=some o):SAt H' s:=let ⟨a,c,k,e,z⟩:=h;⟨a,c,k,g _ _ e (Ne.symm n),z⟩
theorem lV:FnScope ["_law_state", "_law_names_here", "_law_most", "_law_left", "_law_found", "_law_k"] ["_law_state", "_law_names_here", "_law_most"] (aq uA):=‹2›
theorem xX {f f1:Addr}{fd:FuncData} (F:Fun K "_law_some" "_law_some" uA f fd) (N:Free mg){fd1:FuncData} (CP:Cal P w K mg base "_law_pull" 2 ["_law_state", "_law_many"] cZ f1 fd1):FnOk P w K mg base CX0 3 f fd ["_law_state", "_law_names_here", "_law_most"] tY:=by
 refine F.ok (k:=2) lV (λvs H Q E h=>?_) (λcdv A outer s H vs Q E hr h=>?_)
 ·obtain⟨s,ln,ss,m,rfl,_⟩:=h
  rfl
 ·obtain⟨s,ln,ss,m,rfl,hs,el,nls,m1,m2,h100,q⟩:=h
  have hu:=aK hr
  refine⟨_,(ae (ay (i:=3) lV.nd rfl (Or.inl rfl) (aX fB (by rfl) N.list PyProof.Rows.Boot.«list» (aa (pv 1) ac)))
   (ae (ay (i:=4) lV.nd rfl (Or.inl rfl) (aR ac))
   (ae (cA PassesOwn.never rfl (cC rfl N.range (aa (aL bx aj (av CP.ok (hr.mono (by decide)) rfl CP.nm CP.kp CP.bd .nil au (aa (pv 0) (aa (aG (iH rfl) (by rfl) N.min PyProof.Rows.Boot.«min» (aa (pv 2) (aa (aG aN (by rfl) N.len PySem.boot_len (aa (pv 1) ac)) ac))) ac)))) ac)) (bi (i:=5) lV.nd rfl (Or.inl rfl))
   (ah (bg (cM PySem.F.plainAttrs_list PySem.F.slot_list_append PySem.F.type_list_append dM (pv 4) (aa (cM PySem.F.plainAttrs_list PySem.F.slot_list_pop PySem.F.type_list_pop vW (pv 3) (aa (av CP.ok (hr.mono (by decide)) rfl CP.nm CP.kp CP.bd .nil au (aa (pv 0) (aa (aG aN (by rfl) N.len PySem.boot_len (aa (pv 3) ac)) ac))) ac)) ac)))))
   (ah (ax (pv 4)))))),?_⟩
  refine af (aw ⟨_,rfl,ln,_,rfl,.inl (SqL.of el),λl nl=>?_⟩)
  walk_at "d"
  obtain⟨g1,e1⟩:=laid (o:=.lst (ss.map V.str)) nl
  have hs1:=hs.keep g1
  have nl2:l≠s:=λz=>by obtain⟨xs,e⟩:=hs.lst;rw [z,e]at nl;cases nl
  generalize upd H l _=H1 at g1 e1 hs1 ⊢
  refine af (aw ⟨by show 0<=sizeLine;decide,λp np=>?_⟩)
  walk_at "d"
  obtain⟨g2,e2⟩:=laid (o:=.lst []) np
  have np0:H p=none:=by
   cases e:H p with
   | none=>rfl
   | some o=>rw [g1 _ _ e]at np;cases np
  have nl0:H l=none:=nl
  have hs2:=hs1.keep g2
  have np2:p≠s:=λz=>by obtain⟨xs,e⟩:=hs1.lst;rw [z,e]at np;cases np
  have npl:p≠l:=λz=>by rw [z,e1]at np;cases np
  have e1:=g2 _ _ e1
  have g12:=g1.trans g2
  generalize upd H1 p _=H2 at g2 e2 hs2 e1 g12 ⊢
  have hle:(ss.length:Int)<=100:=by omega
  obtain⟨mm,emm,mm1,mm2,mm3⟩:∃mm:Int,mm=(if ((ss.map V.str).length:Int) < m then ((ss.map V.str).length:Int) else m)/\1<=mm/\mm<=m/\mm<=ss.length:=by
   rw [List.length_map]
   refine⟨_,rfl,?_⟩
   split <;> omega
  refine af ⟨_,rfl,_,rfl,_,rfl,ln,_,rfl,.inl (SqL.of (g12 _ _ el)),m,_,rfl,?_⟩
  rw [<- emm]
  refine⟨s,mm,rfl,hs2,by omega,by omega,λr H3 r0 r1 o3 hs3=>⟨_,_,rfl,rfl,_,rfl,by omega,by omega,cE (n:=(1+r).toNat) (SoI H s ln l p ss m) ⟨[],ss,none,rfl,(Off.grow g12).trans o3,hs3,o3 _ _ e1 nl2,o3 _ _ e2 np2,.refl _,rfl⟩ (λi σ H4 hi hh=>?_) λσ H4 hh=>?_⟩⟩
  ·obtain⟨xs,ys,v5,rfl,o4,hs4,el4,ep4,pm,hl⟩:=hh
   walk_at "d"
   have hlen:=pm.length_eq
   rw [List.length_append]at hlen
   have hys:0 < ys.length:=by omega
   refine be ⟨_,rfl,.inl ⟨rfl,_,SqL.of ep4⟩,_,rfl,.inl ⟨rfl,_,SqL.of el4⟩,_,rfl,_,rfl,l,_,rfl,.inl (SqL.of el4),s,_,rfl,hs4,?_,?_,λj H5 j0 j1 o5 hs5=>?_⟩
   ·rw [List.length_map];omega
   ·rw [List.length_map];omega
   ·rw [List.length_map]at j1
    have el5:=o5 _ _ el4 nl2
    have ep5:=o5 _ _ ep4 np2
    obtain⟨jn,rfl⟩:∃jn:Nat,j=(jn:Int):=⟨j.toNat,by omega⟩
    have hj:jn < ys.length:=by omega
    refine⟨l,_,_,jn,.str ys[jn],rfl,rfl,el5,by omega,by omega,by rw [PySem.StrLaws.seqIndex_nonneg ‹1› (by rw [List.length_map];omega)];rfl,by rw [List.getElem?_map,List.getElem?_eq_getElem hj];rfl,?_⟩
    have o6:∀b o,H5 b=some o->b≠l->upd H5 l (.lst ((ys.map V.str).eraseIdx jn)) b=some o:=λb o e n=>by rw [ai n];exact e
    refine⟨p,_,_,rfl,rfl,o6 _ _ ep5 npl,by rw [List.length_map];exact bh ‹1›,xs++[ys[jn]],ys.eraseIdx jn,_,rfl,λb o e n=>?_,?_,?_,?_,?_,by rw [List.length_append,hl];rfl⟩
    ·rw [ai (ao e np0)]
     exact o6 _ _ ((o4.trans o5) _ _ e n) (ao e nl0)
    ·refine(hs5.off nl2 o6).off np2 λb o e n=>?_
     rw [ai n];exact e
    ·rw [ai (Ne.symm npl),ar,gB]
    ·rw [ar,List.map_append];rfl
    ·have e9:(ys[jn]::ys.eraseIdx jn).Perm ys:=jR ys jn hj
     rw [List.append_assoc]
     exact((List.Perm.refl xs).append e9).trans pm
  ·obtain⟨xs,ys,v5,rfl,o4,hs4,el4,ep4,pm,hl⟩:=hh
   refine aA ⟨_,rfl,q p xs ys _ np0 o4 hs4 ep4 ?_ pm ?_⟩
   ·intro z
    rw [z]at hl
    have:(1+r).toNat=0:=hl.symm
    omega
   ·rw [hl];omega
theorem AX {i:Int} (h0:0<=i) (h1:i < 26):atI dE.cps.toList i=some (97+i.toNat):=by
 obtain⟨j,rfl⟩:∃j:Nat,i=(j:Int):=⟨i.toNat,by omega⟩
 refine dH ?_
 have hj:j < 26:=by omega
 rw [Int.toNat_natCast]
 have:∀j,j < 26->dE.cps.toList[j]?=some (97+j):=‹0›
 exact this j hj
def yM (c:Nat):Prop:=97<=c/\c<=122
theorem yu {c:Nat} (h:yM c):inZ dE c=true:=by
 unfold inZ
 refine decide_eq_true ?_
 have:∀c,c < 123->97<=c->c∈dE.cps.toList:=‹0›
 exact this c (by unfold yM at h;omega) h.1
noncomputable abbrev w12:List Str:=[‹"number"›, ‹"value"›, ‹"sum"›, ‹"count"›, ‹"least"›, ‹"since"›, ‹"part"›, ‹"change"›, ‹"plus"›, ‹"less"›, ‹"same"›, ‹"minus"›]
theorem yt {k:Str} (h1:1<=k.length) (h2:k.length<=8) (hc:∀c∈k.cps.toList,yM c):cH k dE 8=true:=by
 unfold cH
 rw [decide_eq_true (show (1:Int)<=k.length by omega),decide_eq_true (show (k.length:Int)<=8 by omega),Bool.true_and,Bool.true_and,List.all_eq_true]
 exact λc hcc=>yu (hc c hcc)
def Nms (ss:List Str):Prop:=ss.length=8/\ss.Nodup/\∀x∈ss,cH x dE 8=true
noncomputable def rot (j:Nat):List Str:=((w12.drop j)++(w12.take j)).take 8
theorem Am:∀j:Fin 12,(rot j.val).length=8/\(rot j.val).Nodup/\∀x∈rot j.val,cH x dE 8=true:=‹0›
theorem xL:∀j:Fin 12,dZ (dZ (w12.map V.str) (some (j.val:Int)) none++dZ (w12.map V.str) none (some (j.val:Int))) none (some 8)=(rot j.val).map V.str:=‹0›
theorem wO {sub:List Nat}{te:TE}{σ:St}{H:Hp}{Q:VK}{n:Nat}{s:Addr} (hs:SAt H s) (hn:n<=1000) (P:Int->Prop) (hte:∀(i:Nat) (H2:Hp) (R:VK),i < n->SAt H2 s->(∀x H3,P x->Off s H2 H3->SAt H3 s->R (.int x) H3)->te (some (.int (0+(i:Int)))::bG sub σ) H2 R)
  (hq:∀(D:Addr) (bs:List Int) (H':Hp),H D=none->Off s H H'->SAt H' s->H' D=some (.lst (bs.map V.int))->bs.length=n->(∀x∈bs,P x)->Q (.ref D) H'):gb (Itr 0 n) sub (λ_ H Q=>Q true H) te σ Q H:=by
 intro D nD
 have nDs:D≠s:=λz=>by obtain⟨xs,e⟩:=hs.lst;rw [z,e]at nD;cases nD
 refine ed (lo:=0) (n:=n) (sub:=sub) (tt:=λ_ H Q=>Q true H) (te:=te) (Q:=Q) (σ:=σ) (λi ys H2=>∃bs:List Int,ys=bs.map V.int/\bs.length=i/\H2 D=some (.lst ys)/\Off s H H2/\SAt H2 s/\∀x∈bs,P x) ⟨[],rfl,rfl,ar,Off.grow (laid nD).1,hs.keep (laid nD).1,(λ_ z=>nomatch z)⟩ (λi ys H2 hi hh=>?_) λys H2 hh=>?_
 ·obtain⟨bs,rfl,hl,e2,o2,s2,h2⟩:=hh
  refine bb (hte i _ _ hi s2 λx H3 hx o3 s3=>⟨o3 _ _ e2 nDs,by rw [List.length_map];exact bh ‹1›,bs++[x],by rw [List.map_append];rfl,by rw [List.length_append,hl];rfl,ar,λb o e nb=>by rw [ai (ao e nD)];exact o3 _ _ (o2 _ _ e nb) nb,s3.off nDs (λb o e nb=>by rw [ai nb];exact e),λy hy=>?_⟩)
  rcases List.mem_append.mp hy with hy | hy
  ·exact h2 y hy
  ·rw [List.mem_singleton.mp hy];exact hx
 ·obtain⟨bs,rfl,hl,e2,o2,s2,h2⟩:=hh
  exact hq D bs H2 nD o2 s2 e2 hl h2
theorem wM {K:W.Frag}{la:Addr}{zs:List Int}{sub:List Nat}{te:TE}{σ:St}{Q:VK}{H:Hp} (g:Int->Str) (hn:zs.length < 1000) (ha:H la=some (.lst (zs.map V.int))) (hte:∀(z:Int) (H2:Hp) (R:VK),R (.str (g z)) H2->te (some (.int z)::bG sub σ) H2 R)
  (hq:∀(D:Addr),H D=none->Q (.ref D) (upd H D (.lst ((zs.map g).map V.str)))):gb (Itl K la) sub (λ_ H Q=>Q true H) te σ Q H:=by
 intro D nD
 have nl:la≠D:=ao ha nD
 refine fe (K:=K) (a:=la) (xs:=zs.map V.int) (sub:=sub) (tt:=λ_ H Q=>Q true H) (te:=te) (Q:=Q) (σ:=σ) (λi ys H2=>ys=((zs.take i).map g).map V.str/\H2=upd H D (.lst ys)) ⟨by rw [List.take_zero];rfl,rfl⟩ (λi ys H2 _ hh=>?_) (λi x ys H2 hi hh=>?_) λys H2 hh=>?_
 ·obtain⟨_,rfl⟩:=hh
  exact SqL.of (by rw [ai nl];exact ha)
 ·obtain⟨rfl,rfl⟩:=hh
  rw [List.getElem?_map]at hi
  obtain⟨z,hz,rfl⟩:=Option.map_eq_some_iff.mp hi
  refine bb (hte z _ _ ⟨ar,?_,?_,bv⟩)
  ·rw [List.length_map,List.length_map,List.length_take];exact bh ‹1›
  ·rw [List.take_add_one,hz,List.map_append,List.map_append];rfl
 ·obtain⟨rfl,rfl⟩:=hh
  rw [List.length_map,List.take_length]
  exact hq D nD
theorem wP {sub:List Nat}{te:TE}{σ:St}{H:Hp}{Q:VK}{n:Nat} (f:Nat->V) (hn:n<=1000) (hte:∀(i:Nat) (H2:Hp) (R:VK),i < n->aZ H H2->R (f i) H2->te (some (.int (0+(i:Int)))::bG sub σ) H2 R)
  (hq:∀D,H D=none->Q (.ref D) (upd H D (.lst ((List.range n).map f)))):gb (Itr 0 n) sub (λ_ H Q=>Q true H) te σ Q H:=by
 intro D nD
 refine ed (lo:=0) (n:=n) (sub:=sub) (tt:=λ_ H Q=>Q true H) (te:=te) (Q:=Q) (σ:=σ) (λi ys H2=>ys=(List.range i).map f/\H2=upd H D (.lst ys)) ⟨rfl,rfl⟩ (λi ys H2 hi hh=>?_) λys H2 hh=>?_
 ·obtain⟨rfl,rfl⟩:=hh
  refine bb (hte i _ _ hi (laid nD).1 ⟨ar,by rw [List.length_map,List.length_range];exact bh ‹1›,by rw [List.range_succ,List.map_append];rfl,bv⟩)
 ·obtain⟨rfl,rfl⟩:=hh
  exact hq D nD
noncomputable def sgE (bs:List Int) (at_:Int) (k j:Nat):Int:=bs.getD j 0+3 * (k:Int) * (if (j:Int)=at_ then 1 else 0)
noncomputable def gZ (z:Int):Str:=⟨#[97+(z % 26).toNat]⟩
noncomputable def nmK (bs:List Int) (at_ sz:Int) (k:Nat):Str:=Txt.join ‹""› (((List.range sz.toNat).map (sgE bs at_ k)).map gZ)
theorem wx (xs:List Int):xs.map gZ=(xs.map λz=>97+(z % 26).toNat).map λd=>(⟨#[d]⟩:Str):=by rw [List.map_map];rfl
theorem Bc (xs:List Int):((xs.map gZ).map (·.length)).sum=xs.length:=by rw [wx,iL,List.length_map]
theorem j6 (bs:List Int) (at_ sz:Int) (k:Nat):(nmK bs at_ sz k).cps.toList=(List.range sz.toNat).map λj=>97+(sgE bs at_ k j % 26).toNat:=by
 unfold nmK
 rw [wx,BS,ig,List.map_map]
 rfl
theorem AS {bs:List Int}{at_ sz:Int} (h1:1<=sz) (h8:sz<=8) (a0:0<=at_) (a1:at_ < sz):Nms ((List.range 8).map (nmK bs at_ sz)):=by
 refine⟨by rw [List.length_map,List.length_range],?_,λx hx=>?_⟩
 ·refine List.pairwise_map.mpr (List.Pairwise.imp_of_mem (λ{i j} hi hj hlt e=>?_) List.pairwise_lt_range)
  have hi:=List.mem_range.mp hi
  have hj:=List.mem_range.mp hj
  have e:=congrArg (λx:Str=>x.cps.toList[at_.toNat]?) e
  have ht:at_.toNat < sz.toNat:=by omega
  rw [j6,j6,List.getElem?_map,List.getElem?_map,List.getElem?_range ht]at e
  have e:97+(sgE bs at_ i at_.toNat % 26).toNat=97+(sgE bs at_ j at_.toNat % 26).toNat:=Option.some.inj e
  have z:((at_.toNat:Nat):Int)=at_:=by omega
  unfold sgE at e
  rw [if_pos z]at e
  generalize bs.getD at_.toNat 0=b at e
  omega
 ·obtain⟨k,_,rfl⟩:=List.mem_map.mp hx
  have hl:(nmK bs at_ sz k).length=sz.toNat:=by rw [cN,j6,List.length_map,List.length_range]
  refine yt ‹1› ‹1› λc hc=>?_
  rw [j6]at hc
  obtain⟨j,_,rfl⟩:=List.mem_map.mp hc
  have:=Int.emod_nonneg (sgE bs at_ k j) (show (26:Int)≠0 by decide)
  have:=Int.emod_lt_of_pos (sgE bs at_ k j) (show (0:Int) < 26 by decide)
  unfold yM
  omega
inductive NmI (H:Hp) (c:Int) (lw s D p:Addr) (at_ sz:Int) (bs:List Int) (k:Nat) (σ:St) (H2:Hp):Prop
 | mk (v7 v8:Option V) (h1:σ=[some (.int c),some (.ref lw),some (.ref s),some (.int at_),some (.int sz),some (.ref D),some (.ref p),v7,v8]) (h2:aZ H H2) (h3:H2 D=some (.lst (bs.map V.int))) (h4:H2 p=some (.lst (((List.range k).map (nmK bs at_ sz)).map V.str))):NmI H c lw s D p at_ sz bs k σ H2
noncomputable def qD:Sp:=λvs H Q _=>∃(c:Int),vs=[.int c]/\∀(p:Addr) (ss:List Str) (H':Hp),H p=none->aZ H H'->H' p=some (.lst (ss.map V.str))->Nms ss->Q (.ref p) H'
theorem df:FnScope ["_law_cell_here", "_law_some_here", "_law_state", "_law_at", "_law_size", "_law_base", "_law_names_here", "_law_k", "_law_signs"] ["_law_cell_here"] (aq pD):=‹2›
theorem vG {f f1 f2:Addr}{fd:FuncData} (F:Fun K "_law_names" "_law_names" pD f fd) (N:Free mg){fd1:FuncData} (CB:Cal P w K mg base "_law_begun" 1 ["_law_cell_here"] lP f1 fd1){fd2:FuncData} (CP:Cal P w K mg base "_law_pull" 2 ["_law_state", "_law_many"] cZ f2 fd2):FnOk P w K mg base CX0 3 f fd ["_law_cell_here"] qD:=by
 refine F.ok (k:=2) df (λvs H Q E h=>?_) (λcdv A outer s H vs Q E hr h=>?_)
 ·obtain⟨c,rfl,_⟩:=h
  rfl
 ·obtain⟨c,rfl,q⟩:=h
  have hu:=aK hr
  refine⟨_,(@ae _ _ _ _ _ (@ay (i:=1) _ _ _ _ _ _ df.nd rfl (Or.inl rfl) (@aR _ _ _ _ (@aa _ _ _ _ _ aD (@aa _ _ _ _ _ aD (@aa _ _ _ _ _ aD (@aa _ _ _ _ _ aD (@aa _ _ _ _ _ aD (@aa _ _ _ _ _ aD (@aa _ _ _ _ _ aD (@aa _ _ _ _ _ aD (@aa _ _ _ _ _ aD (@aa _ _ _ _ _ aD (@aa _ _ _ _ _ aD (@aa _ _ _ _ _ aD ac rfl) rfl) rfl) rfl) rfl) rfl) rfl) rfl) rfl) rfl) rfl) rfl)) (by rfl) (by first | exact .inl rfl | exact .inr rfl))
   (ae (ay (i:=2) df.nd rfl (Or.inr rfl) (av CB.ok (hr.mono (by decide)) rfl CB.nm CB.kp CB.bd .nil au (aa (pv 0) ac)))
   (ae (ba (aI bM (av CP.ok (hr.mono (by decide)) rfl CP.nm CP.kp CP.bd .nil au (aa (pv 2) (aa aj ac))) aj (aP _)) (ae (ay (i:=3) df.nd rfl (Or.inr rfl) (av CP.ok (hr.mono (by decide)) rfl CP.nm CP.kp CP.bd .nil au (aa (pv 2) (aa aj ac))))
   (ah (ax (eW iY (aL jF (eW iY (pv 1) (gi (pv 3)) gj) (eW iY (pv 1) gj (gi (pv 3)))) gj (gi aj))))) aF)
   (ae (ay (i:=4) df.nd rfl (Or.inl rfl) (aL bx aj (av CP.ok (hr.mono (by decide)) rfl CP.nm CP.kp CP.bd .nil au (aa (pv 2) (aa aj ac)))))
   (ae (ay (i:=3) df.nd rfl (Or.inr rfl) (av CP.ok (hr.mono (by decide)) rfl CP.nm CP.kp CP.bd .nil au (aa (pv 2) (aa (pv 4) ac))))
   (ae (ay (i:=5) df.nd rfl (Or.inr rfl) (fH (bz rfl (cC rfl N.range (aa (pv 4) ac)) rfl rfl (by show ∀p∈_,gc [‹"_law_state"›] p;decide) (by decide) rfl (by show ([‹"_law_k"›, ‹"_law_state"›]:List Str).Nodup;decide) (.cons (i:=2) rfl (.inr (.inl rfl)) (by show (some NameKind.cell)≠some NameKind.local;decide) (.inl rfl) rfl .nil) (λC fp s H=>cw) (λC fp s H=>(av CP.ok (hr.mono (by decide)) rfl CP.nm CP.kp CP.bd .nil au (aa (pv 1) (aa aj ac)))))))
   (ae (ay (i:=6) df.nd rfl (Or.inl rfl) (aR ac))
   (ae (cA PassesOwn.never rfl (cC rfl N.range (aa aj ac)) (bi (i:=7) df.nd rfl (Or.inr rfl))
   (ae (mq (i:=8) df.nd rfl (Or.inl rfl) (bz rfl (cC rfl N.range (aa (pv 4) ac)) rfl rfl (by show ∀p∈_,gc [‹"_law_k"›, ‹"_law_base"›, ‹"_law_at"›] p;decide) (by decide) rfl (by show ([‹"_law_j"›, ‹"_law_k"›, ‹"_law_base"›, ‹"_law_at"›]:List Str).Nodup;decide) (.cons (i:=7) rfl (.inr (.inl rfl)) (by show (some NameKind.cell)≠some NameKind.local;decide) (.inl rfl) rfl (.cons (i:=5) rfl (.inr (.inl rfl)) (by show (some NameKind.cell)≠some NameKind.local;decide) (.inl rfl) rfl (.cons (i:=3) rfl (.inr (.inl rfl)) (by show (some NameKind.cell)≠some NameKind.local;decide) (.inl rfl) rfl .nil))) (λC fp s H=>cw) (λC fp s H=>(aL bx (aU (r:=xO K) aO (pv 2) (pv 0) (λ_ _=>rfl)) (aL eS (aL eS aj (pv 1)) (aX lq (by rfl) N.int PyProof.Rows.Boot.«int» (aa (cj bM (pv 0) (pv 3) (aP _)) ac)))))))
   (ah (bg (cM PySem.F.plainAttrs_list PySem.F.slot_list_append PySem.F.type_list_append dM (pv 6) (aa (cM PySem.F.plainAttrs_str PySem.F.slot_str_join PySem.F.type_str_join gq aD (aa (fH (bz rfl (cg (pv 8)) rfl rfl (by show ∀p∈_,gc [] p;decide) (by decide) rfl (by show ([‹"_law_sign"›]:List Str).Nodup;decide) .nil (λC fp s H=>cw) (λC fp s H=>(aU B2 aD (aL fm (pv 0) aj) (λ_ _=>rfl))))) ac)) ac))))))
   (ah (ax (pv 6))))))))))),?_⟩
  refine af (aw ⟨by show 12<=sizeLine;decide,λlw nlw=>?_⟩)
  obtain⟨g1,e1⟩:=laid (o:=.lst (w12.map V.str)) nlw
  walk_at "d"
  change xk _ _ _ _ (upd H lw (.lst (w12.map V.str)))
  generalize upd H lw (.lst (w12.map V.str))=H1 at g1 e1 ⊢
  refine af (aw ⟨_,rfl,c,rfl,λs H2 ns g2 hs2=>?_⟩)
  walk_at "d"
  have ns0:H s=none:=by
   cases e:H s with
   | none=>rfl
   | some o=>rw [g1 _ _ e]at ns;cases ns
  have nlws:lw≠s:=ao e1 ns
  have g12:=g1.trans g2
  have e1:=g2 _ _ e1
  have og:∀{X Y:Hp},aZ H X->Off s X Y->aZ H Y:=λ{X Y} g o b u e=>o _ _ (g _ _ e) (ao e ns0)
  refine af (aE ⟨_,rfl,s,4,rfl,hs2,by decide,by decide,λn H3 n0 n1 o3 hs3=>⟨rfl,_,rfl,dX (λ_=>?_) λ_=>aB ?_⟩⟩)
  ·refine af (aw ⟨_,rfl,s,12,rfl,hs3,by decide,by decide,λat_ H4 a0 a1 o4 hs4=>?_⟩)
   walk_at "d"
   obtain⟨j,rfl⟩:∃j:Nat,at_=(j:Int):=⟨at_.toNat,by omega⟩
   have hj:j < 12:=by omega
   have e4:=o4 _ _ (o3 _ _ e1 nlws) nlws
   have g4:=og (og g12 o3) o4
   refine aA ⟨_,rfl,_,rfl,_,rfl,lw,_,rfl,SqL.of e4,λl1 nl1=>?_⟩
   obtain⟨g5,e5⟩:=laid (o:=.lst (dZ (w12.map V.str) (some (j:Int)) none)) nl1
   generalize upd H4 l1 _=H5 at g5 e5 ⊢
   refine⟨_,rfl,_,rfl,_,rfl,lw,_,rfl,SqL.of (g5 _ _ e4),λl2 nl2=>?_⟩
   obtain⟨g6,e6⟩:=laid (o:=.lst (dZ (w12.map V.str) none (some (j:Int)))) nl2
   generalize upd H5 l2 _=H6 at g6 e6 ⊢
   have c1:=eL (w12.map V.str) (some (j:Int)) none
   have c2:=eL (w12.map V.str) none (some (j:Int))
   have c3:(w12.map V.str).length=12:=rfl
   refine⟨l1,l2,_,_,rfl,rfl,g6 _ _ e5,e6,Nat.le_of_lt (bh ‹1›),λl3 nl3=>⟨_,rfl,l3,_,rfl,SqL.of ar,λp np=>?_⟩⟩
   obtain⟨g7,_⟩:=laid (o:=.lst (dZ (w12.map V.str) (some (j:Int)) none++dZ (w12.map V.str) none (some (j:Int)))) nl3
   obtain⟨g8,e8⟩:=laid (o:=.lst (dZ (dZ (w12.map V.str) (some (j:Int)) none++dZ (w12.map V.str) none (some (j:Int))) none (some 8))) np
   have gg:=g4.trans (g5.trans (g6.trans (g7.trans g8)))
   refine q p (rot j) _ ?_ gg (by rw [e8,xL ⟨j,hj⟩]) (Am ⟨j,hj⟩)
   cases e:H p with
   | none=>rfl
   | some o=>rw [(g4.trans (g5.trans (g6.trans g7))) _ _ e]at np;cases np
  ·dsimp only
   refine af (aw ⟨_,rfl,s,8,rfl,hs3,by decide,by decide,λn2 H4 m0 m1 o4 hs4=>⟨_,_,rfl,rfl,?_⟩⟩)
   walk_at "d"
   refine af (aw ⟨_,rfl,_,rfl,s,1+n2,rfl,hs4,by omega,by omega,λat_ H5 a0 a1 o5 hs5=>?_⟩)
   walk_at "d"
   have g5:=og (og (og g12 o3) o4) o5
   refine af (aw (ce ⟨_,rfl,_,rfl,by omega,by omega,wO (n:=(1+n2).toNat) hs5 ‹1› (λx=>0<=x/\x < 26) (λi H6 R hi hs6 hR=>?_) λD bs H6 nD o6 hs6 eD hbl hbs=>?_⟩))
   ·exact⟨_,rfl,s,26,rfl,hs6,by decide,by decide,λx H7 x0 x1 o7 hs7=>hR x H7 ⟨x0,x1⟩ o7 hs7⟩
   ·walk_at "d"
    have g6:=og g5 o6
    refine af (aw ⟨by show 0<=sizeLine;decide,λp np=>?_⟩)
    walk_at "d"
    obtain⟨g7,e7⟩:=laid (o:=.lst []) np
    have np0:H p=none:=by
     cases e:H p with
     | none=>rfl
     | some o=>rw [g6 _ _ e]at np;cases np
    have eD7:=g7 _ _ eD
    have npD:p≠D:=λz=>by rw [z,eD]at np;cases np
    have g67:=g6.trans g7
    generalize upd H6 p _=H7 at g7 e7 eD7 g67 ⊢
    have hsz:((1+n2).toNat:Int)=1+n2:=by omega
    refine af ⟨8,rfl,by decide,by decide,cE (n:=8) (NmI H c lw s D p at_ (1+n2) bs) ⟨none,none,rfl,g67,eD7,e7⟩ (λk σ H8 hk hh=>?_) λσ H8 hh=>?_⟩
    ·obtain⟨v7,v8,rfl,g8,eD8,ep8⟩:=hh
     walk_at "d"
     rw [Int.zero_add]
     refine af (aw (ce ⟨_,rfl,_,rfl,by omega,by omega,wP (n:=(1+n2).toNat) (λj=>V.int (sgE bs at_ k j)) ‹1› (λj H9 R hj g9 hR=>?_) λD2 nD2=>?_⟩))
     ·rw [Int.zero_add]
      have hjb:j < bs.length:=by omega
      refine⟨_,rfl,_,rfl,D,_,_,.int bs[j],rfl,rfl,SqL.of (g9 _ _ eD8),dH (by rw [List.getElem?_map,List.getElem?_eq_getElem hjb];rfl),_,rfl,_,_,rfl,rfl,.inl ⟨by decide,by decide⟩,_,rfl,_,rfl,rfl,.inr ⟨_,rfl,_,_,rfl,rfl,.inl ⟨by omega,by omega⟩,_,_,rfl,rfl,?_⟩⟩
      have e9:bs[j]+3 * (k:Int) * (if decide (V.int (j:Int)=V.int at_)=true then 1 else 0)=sgE bs at_ k j:=by
       unfold sgE
       rw [List.getD_eq_getElem?_getD,List.getElem?_eq_getElem hjb]
       by_cases z:(j:Int)=at_
       ·rw [if_pos z,if_pos (decide_eq_true (congrArg V.int z))];rfl
       ·rw [if_neg z,if_neg (λy=>z (V.int.inj (of_decide_eq_true y)))];rfl
      rw [e9]
      exact hR
     ·rw [show ((List.range (1+n2).toNat).map λj=>V.int (sgE bs at_ k j))=((List.range (1+n2).toNat).map (sgE bs at_ k)).map V.int from by rw [List.map_map];rfl]
      obtain⟨g9,e9⟩:=laid (o:=.lst (((List.range (1+n2).toNat).map (sgE bs at_ k)).map V.int)) nD2
      walk_at "d"
      generalize upd H8 D2 _=H9 at g9 e9 ⊢
      have hzl:((List.range (1+n2).toNat).map (sgE bs at_ k)).length < 1000:=by rw [List.length_map,List.length_range];omega
      refine be (zm ⟨_,rfl,.inl ⟨rfl,_,SqL.of (g9 _ _ ep8)⟩,cJ (zm ⟨rfl,cJ (ce ⟨_,rfl,D2,rfl,⟨_,SqL.of e9⟩,wM gZ hzl e9 (λz H2 R hR=>?_) λD3 nD3=>?_⟩)⟩)⟩)
      ·exact⟨_,rfl,_,_,rfl,rfl,(by show (0:Int) < 26;decide),dE,z % 26,_,rfl,rfl,by decide,AX (Int.emod_nonneg _ (by decide)) (Int.emod_lt_of_pos _ (by decide)),hR⟩
      ·obtain⟨ga,ea⟩:=laid (o:=.lst ((((List.range (1+n2).toNat).map (sgE bs at_ k)).map gZ).map V.str)) nD3
       generalize upd H9 D3 _=Ha at ga ea ⊢
       have epa:=ga _ _ (g9 _ _ ep8)
       have eDa:=ga _ _ (g9 _ _ eD8)
       refine⟨‹""›, D3,_,rfl,rfl,ea,?_,p,_,_,rfl,rfl,epa,?_,_,_,rfl,λb o e=>?_,?_,?_⟩
       ·rw [Bc,show ‹""›.length=0 from rfl,Nat.mul_zero];exact Nat.le_trans (Nat.le_of_lt hzl) (by decide)
       ·rw [List.length_map,List.length_map,List.length_range];exact bh ‹1›
       ·rw [ai (ao e np0)];exact ga _ _ (g9 _ _ (g8 _ _ e))
       ·rw [ai (Ne.symm npD)];exact eDa
       ·rw [ar,List.range_succ,List.map_append,List.map_append];rfl
    ·obtain⟨v7,v8,rfl,g8,eD8,ep8⟩:=hh
     dsimp only
     exact aA ⟨_,rfl,q p _ _ np0 g8 ep8 (AS ‹1› ‹1› a0 a1)⟩
open PySem.W PySem.W.KIN PySem.NumText
noncomputable def jm (K:PySem.W.Frag):Sp:=λvs H Q _=>∃v:V,vs=[v]/\((∃x:Str,v=.str x/\x.length < sizeLine/\∀H',aZ H H'->Q (.bl (cH x dE 8)) H')\/∃n:String,TyOf K H v (.type n)/\PySem.W.kitOne K (.type n) (.type "str")=some false/\Q (.bl false) H)
theorem A2:FnScope ["thing"] ["thing"] (aq uG):=‹2›
theorem y8 {f f1:Addr}{fd fd1:FuncData} (F:Fun K "is_name" "is_name" uG f fd) (N:Free mg) (C:Con mg) (CH:Cal P w K mg base "has_only" 1 ["text", "signs", "most"] uf f1 fd1):FnOk P w K mg base CX0 2 f fd ["thing"] (jm K):=by
 obtain⟨t1,c1⟩:=C.letters
 obtain⟨t2,c2⟩:=C.eight
 refine F.ok (k:=1) A2 (λvs H Q E h=>?_) (λcdv A outer s H vs Q E hr h=>?_)
 ·obtain⟨v,rfl,_⟩:=h
  rfl
 ·obtain⟨v,rfl,h⟩:=h
  refine⟨_,ah (ax (fR (aG cF (by rfl) N.isinstance PyProof.Rows.Boot.«isinstance» (aC (pv 0) (aC (gk (v:=.ty "str") (by rfl) N.str PyProof.Rows.Boot.«str» rfl) ac))) (fQ (av CH.ok hr rfl CH.nm CH.kp CH.bd .nil au (aC (pv 0) (aC (bI (v:=.str dE) (by rfl) c1 ⟨_,rfl⟩) (aC (bI (v:=.int 8) (by rfl) c2 ⟨_,rfl⟩) ac))))))),?_⟩
  rcases h with⟨x,rfl,hl,hq⟩ | ⟨n,ty,e,q⟩
  ·exact⟨_,rfl,.str x,"str", _,true,rfl,.str x,by rfl,_,rfl,bb ⟨_,rfl,x,dE,8,rfl,hl,hq⟩⟩
  ·exact⟨_,rfl,v,"str", _,false,rfl,ty,e,_,rfl,aS q⟩
noncomputable def jI (x:Str):Bool:=decide (x.cps.toList.head?=some 45)
noncomputable def figs (x:Str):List Nat:=if jI x=true then x.cps.toList.tail else x.cps.toList
noncomputable def bV (x:Str):Int:=if jI x=true then -((digitsVal (figs x):Nat):Int) else ((digitsVal (figs x):Nat):Int)
theorem rH:∀{cs:List Nat},AllDigits cs->(cs.map Char.ofNat).map Char.toNat=cs
 | [],_=>rfl
 | c::r,h=>by
  rw [List.map_cons,List.map_cons,rH h.tail]
  have hc:=h.head
  have:∀d:Nat,48<=d->d<=57->(Char.ofNat d).toNat=d:=by
   intro d h1 h2
   have:d=48\/d=49\/d=50\/d=51\/d=52\/d=53\/d=54\/d=55\/d=56\/d=57:=by omega
   rcases this with h | h | h | h | h | h | h | h | h | h <;> subst h <;> rfl
  rw [this c hc.1 hc.2]
noncomputable def eU (cs:List Nat):List Nat:=(Nat.toDigits 10 (digitsVal cs)).map Char.toNat
theorem fN {c:Nat}{r:List Nat} (h:AllDigits (c::r)) (hc:c≠48):eU (c::r)=c::r:=by
 unfold eU
 have hh:=h.head
 rw [toDigits_digitsVal r.length (c::r) rfl h (.inr ⟨c,r,rfl,by omega⟩)]
 exact rH h
theorem oW:eU [48]=[48]:=by decide
theorem iM:∀{r:List Nat},AllDigits r->(eU r).length<=r.length+(if r=[] then 1 else 0)
 | [],_=>by decide
 | c::r,h=>by
  by_cases hc:c=48
  ·subst hc
   have e:eU (48::r)=eU r:=by unfold eU;rw [digitsVal_zero]
   rw [e]
   have:=iM h.tail
   by_cases hr:r=[]
   ·subst hr;decide
   ·rw [if_neg hr]at this
    rw [if_neg (by simp),List.length_cons]
    omega
  ·rw [fN h hc,if_neg (by simp)]
   exact Nat.le_refl _
theorem kN {r:List Nat} (h:AllDigits (48::r)) (hr:r≠[]):eU (48::r)≠48::r:=λz=>by
 have e:eU (48::r)=eU r:=by unfold eU;rw [digitsVal_zero]
 rw [e]at z
 have:=iM h.tail
 rw [z,if_neg hr,List.length_cons]at this
 omega
theorem ge (m:Nat):(Str.ofString (toString ((m:Nat):Int))).cps.toList=(Nat.toDigits 10 m).map Char.toNat:=signs_num m
theorem gF (m:Nat) (h:0 < m):(Str.ofString (toString (-((m:Nat):Int)))).cps.toList=45::(Nat.toDigits 10 m).map Char.toNat:=by
 obtain⟨k,rfl⟩:∃k,m=k+1:=⟨m - 1,by omega⟩
 rw [PyProof.Rows.signs_ofString]
 show (toString (Int.negSucc k)).toList.map Char.toNat=_
 show ("-"++Nat.repr (k+1)).toList.map Char.toNat=_
 rw [String.toList_append,List.map_append,Nat.toList_repr]
 rfl
theorem kQ {x:Str} (h:AllDigits (figs x)) (h1:figs x≠[]):Str.ofString (toString (bV x))=x↔¬((figs x).head?=some 48/\x.cps.toList≠[48]):=by
 cases hn:jI x with
 | false=>
  have ef:figs x=x.cps.toList:=by unfold figs;rw [hn];rfl
  have ev:bV x=((digitsVal (figs x):Nat):Int):=by unfold bV;rw [hn];rfl
  have e:Str.ofString (toString (bV x))=x↔eU (figs x)=figs x:=by
   rw [ev]
   constructor
   ·intro z
    have:=congrArg (λy:Str=>y.cps.toList) z
    simp only [ge]at this
    rw [<- ef]at this
    exact this
   ·intro z
    refine dz ?_
    rw [ge,<- ef]
    exact z
  rw [e]
  rw [<- ef]
  generalize figs x=cs at *
  cases cs with
  | nil=>exact absurd rfl h1
  | cons c r=>
   by_cases hc:c=48
   ·subst hc
    by_cases hr:r=[]
    ·subst hr
     exact⟨λ_ z=>z.2 rfl,λ_=>oW⟩
    ·refine⟨λz=>absurd z (kN h hr),λz=>absurd ⟨rfl,λw=>hr ?_⟩ z⟩
     injection w
   ·refine⟨λ_ z=>hc ?_,λ_=>fN h hc⟩
    injection z.1
 | true=>
  have hh:x.cps.toList.head?=some 45:=of_decide_eq_true hn
  have ef:figs x=x.cps.toList.tail:=by unfold figs;rw [hn];rfl
  have ev:bV x = -((digitsVal (figs x):Nat):Int):=by unfold bV;rw [hn];rfl
  have ex:x.cps.toList=45::figs x:=by
   rw [ef]
   cases q:x.cps.toList with
   | nil=>rw [q]at hh;cases hh
   | cons a t=>rw [q]at hh;cases hh;rfl
  have r2:x.cps.toList≠[48]:=by rw [ex];intro z;injection z with z _;cases z
  have e:Str.ofString (toString (bV x))=x↔(0 < digitsVal (figs x)/\eU (figs x)=figs x):=by
   rw [ev]
   by_cases hm:0 < digitsVal (figs x)
   ·constructor
    ·intro z
     have:=congrArg (λy:Str=>y.cps.toList) z
     simp only [gF _ hm]at this
     rw [ex]at this
     injection this with _ this
     exact⟨hm,this⟩
    ·intro z
     refine dz ?_
     rw [gF _ hm,ex]
     exact congrArg (45::·) z.2
   ·have hz:digitsVal (figs x)=0:=by omega
    refine⟨λz=>?_,λz=>absurd z.1 hm⟩
    have:=congrArg (λy:Str=>y.cps.toList) z
    rw [hz]at this
    have t0:(Str.ofString (toString (-((0:Nat):Int)))).cps.toList=[48]:=by decide
    rw [t0,ex]at this
    injection this with this _
    cases this
  rw [e]
  generalize figs x=cs at *
  cases cs with
  | nil=>exact absurd rfl h1
  | cons c r=>
   by_cases hc:c=48
   ·subst hc
    refine⟨λz=>?_,λz=>absurd ⟨rfl,r2⟩ z⟩
    by_cases hr:r=[]
    ·subst hr;exact absurd z.1 (by decide)
    ·exact absurd z.2 (kN h hr)
   ·refine⟨λ_ z=>hc ?_,λ_=>⟨?_,fN h hc⟩⟩
    ·injection z.1
    ·have:=h.head
     exact digitsVal_pos ‹1›
theorem mX (x:Str) (c:Nat):Txt.startswith x ⟨#[c]⟩=decide (x.cps.toList.head?=some c):=by
 unfold Txt.startswith
 rw [Bool.eq_iff_iff,decide_eq_true_eq,List.head?_eq_getElem?]
 rw [Bool.and_eq_true,decide_eq_true_eq]
 exact StrLaws.subAt_one x c 0
theorem xp {x:Str} (h:1<=x.length):(Txt.slice x (some 1) none).cps.toList=x.cps.toList.tail:=by
 rw [PyProof.Rows.slice_from_eq (x:=x) (i:=1) (b:=x.length) (by decide) ‹1› rfl]
 have e:x.length=x.cps.toList.length:=by simp [Str.length]
 show (x.cps.toList.drop 1).take _=_
 rw [List.take_of_length_le (by rw [List.length_drop];omega),List.drop_one]
theorem lI (x:Str):Txt.startswith x ‹"-"›=jI x:=by
 rw [show ‹"-"› = ⟨#[45]⟩ from by decide]
 exact mX x 45
theorem gz (x:Str):Txt.startswith x ‹"0"›=decide (x.cps.toList.head?=some 48):=by
 rw [show ‹"0"› = ⟨#[48]⟩ from by decide]
 exact mX x 48
noncomputable def qk (x:Str):Str:=⟨(figs x).toArray⟩
theorem oy {x:Str} (h:jI x=true):Txt.slice x (some 1) none=qk x:=by
 refine dz ?_
 have hl:1<=x.length:=by
  have z:=of_decide_eq_true h
  have e:x.length=x.cps.toList.length:=by simp [Str.length]
  cases q:x.cps.toList with
  | nil=>rw [q]at z;cases z
  | cons a t=>rw [e,q,List.length_cons];omega
 rw [xp hl]
 show _=figs x
 unfold figs
 rw [h];rfl
theorem wB {x:Str} (h:jI x=false):x=qk x:=by
 refine dz ?_
 show _=figs x
 unfold figs
 rw [h];rfl
noncomputable def gA (x:Str):Bool:=cH (qk x) ij 12
theorem jQ (x:Str):(qk x).length=(figs x).length:=by
 show (figs x).toArray.size=_
 rw [List.size_toArray]
theorem mK {x:Str} (h:gA x=true):AllDigits (figs x)/\figs x≠[]/\(figs x).length<=12:=by
 unfold gA cH at h
 rw [Bool.and_eq_true,Bool.and_eq_true]at h
 obtain⟨h1,h2,h3⟩:=h
 have h1:=of_decide_eq_true h1
 have h2:=of_decide_eq_true h2
 rw [jQ]at h1 h2
 refine⟨λc hc=>?_,λz=>?_,by omega⟩
 ·have:=List.all_eq_true.mp h3 c hc
  have m:c∈ij.cps.toList:=of_decide_eq_true this
  rw [show ij.cps.toList=[48,49,50,51,52,53,54,55,56,57] from by decide]at m
  simp only [List.mem_cons,List.not_mem_nil,or_false]at m
  omega
 ·rw [z]at h1
  exact absurd h1 (by decide)
theorem fV {x:Str} (h:(figs x).length<=12):x.length<=640:=by
 have e:x.length=x.cps.toList.length:=by simp [Str.length]
 unfold figs at h
 split at h
 ·rw [List.length_tail]at h;omega
 ·omega
theorem mJ {x:Str} (h:gA x=true):PySem.intText? x=some (bV x):=by
 obtain⟨d,n,l⟩:=mK h
 have hl:=fV l
 cases q:jI x with
 | false=>
  have ef:figs x=x.cps.toList:=by unfold figs;rw [q];rfl
  have:=intText_digits (x:=x) (ef ▸ d) (ef ▸ n) ‹1›
  rw [this]
  unfold bV
  rw [q,ef];rfl
 | true=>
  have hh:x.cps.toList.head?=some 45:=of_decide_eq_true q
  have ef:figs x=x.cps.toList.tail:=by unfold figs;rw [q];rfl
  have ex:x.cps.toList=45::figs x:=by
   rw [ef]
   cases r:x.cps.toList with
   | nil=>rw [r]at hh;cases hh
   | cons a t=>rw [r]at hh;cases hh;rfl
  rw [intText_neg ex d n ‹1›]
  unfold bV
  rw [q];rfl
noncomputable def i0 (x:Str) (lo hi:Int):V:=if (gA x=true/\Str.ofString (toString (bV x))=x)/\(lo<=bV x/\bV x<=hi) then .int (bV x) else .non
noncomputable def ni:Sp:=λvs H Q _=>∃(x:Str) (lo hi:Int),vs=[.str x,.int lo,.int hi]/\x.length < sizeLine/\∀H',aZ H H'->Q (i0 x lo hi) H'
theorem jv:FnScope ["text", "low", "high", "figures", "number"] ["text", "low", "high"] (aq mi):=‹2›
theorem sE {f f1:Addr}{fd fd1:FuncData} (F:Fun K "number_of" "number_of" mi f fd) (N:Free mg) (C:Con mg) (CH:Cal P w K mg base "has_only" 1 ["text", "signs", "most"] uf f1 fd1):FnOk P w K mg base CX0 2 f fd ["text", "low", "high"] ni:=by
 obtain⟨t1,c1⟩:=C.figures
 obtain⟨t2,c2⟩:=C.twelve
 refine F.ok (k:=1) jv (λvs H Q E h=>?_) (λcdv A outer s H vs Q E hr h=>?_)
 ·obtain⟨x,lo,hi,rfl,_⟩:=h
  rfl
 ·obtain⟨x,lo,hi,rfl,hl,hq⟩:=h
  refine⟨_,ae (ay (i:=3) jv.nd rfl (Or.inl rfl) (dQ (dl (cM PySem.F.plainAttrs_str PySem.F.slot_str_startswith PySem.F.type_str_startswith mt_startswith (pv 0) (aC aD ac))) (eW zY (pv 0) (gi aj) gj) (pv 0)))
   (ae (ba (eR (dl (av CH.ok hr rfl CH.nm CH.kp CH.bd .nil au (aC (pv 3) (aC (bI (v:=.str ij) (by rfl) c1 ⟨_,rfl⟩) (aC (bI (v:=.int 12) (by rfl) c2 ⟨_,rfl⟩) ac)))))) (ah (ax dm)) aF)
   (ae (ba (PW.pt (pQ (dl (cM PySem.F.plainAttrs_str PySem.F.slot_str_startswith PySem.F.type_str_startswith mt_startswith (pv 3) (aC aD ac))) (qO (aI qT (pv 0) aD (aP _))))) (ah (ax dm)) aF)
   (ae (ay (i:=4) jv.nd rfl (Or.inl rfl) (aX kx (by rfl) N.int PyProof.Rows.Boot.«int» (aC (pv 0) ac)))
   (ah (ax (dQ (nG jE jE (pv 1) (pv 4) (pv 2)) (pv 4) dm)))))),?_⟩
  have hfl:(qk x).length < sizeLine:=by
   refine Nat.lt_of_le_of_lt ?_ hl
   rw [jQ]
   have e:x.length=x.cps.toList.length:=by simp [Str.length]
   unfold figs
   split
   ·rw [List.length_tail];omega
   ·omega
  refine⟨_,rfl,rfl,x,_,rfl,rfl,_,rfl,?_⟩
  rw [lI]
  refine dX (λh1=>⟨_,rfl,_,rfl,x,rfl,Nat.le_of_lt hl,?_⟩) λh1=>⟨_,rfl,?_⟩
  ·have e:(Txt.slice x (some 1) none)=qk x:=oy h1
   have eb:cH (Txt.slice x (some 1) none) ij 12=gA x:=congrArg (λz=>cH z ij 12) e
   have eh:(Txt.slice x (some 1) none).cps.toList.head?=(figs x).head?:=congrArg (λz:Str=>z.cps.toList.head?) e
   refine⟨_,rfl,(Txt.slice x (some 1) none),ij,12,rfl,(by rw [oy h1];exact hfl),λH1 g1=>⟨_,rfl,?_⟩⟩
   have hq:=hq H1 g1
   rw [eb]
   cases hg:gA x with
   | false=>
    refine bb ?_
    have:i0 x lo hi=.non:=if_neg λz=>by rw [hg]at z;cases z.1.1
    rw [this]at hq
    exact hq
   | true=>
    refine aS ?_
    obtain⟨gd,gn,gl⟩:=mK hg
    have pi:=kQ gd gn
    have no:¬Str.ofString (toString (bV x))=x->Q .non H1:=λz=>by
     have:i0 x lo hi=.non:=if_neg λy=>z y.1.2
     rw [this]at hq
     exact hq
    have yes:Str.ofString (toString (bV x))=x->∀b:Bool,(b=true↔(lo<=bV x/\bV x<=hi))->Q (if b=true then .int (bV x) else .non) H1:=λz b hb=>by
     have:i0 x lo hi=if b=true then .int (bV x) else .non:=by
      unfold i0
      cases b with
      | true=>rw [if_pos ⟨⟨hg,z⟩,hb.mp rfl⟩];rfl
      | false=>rw [if_neg λy=>by have:=hb.mpr y.2;cases this];rfl
     rw [this]at hq
     exact hq
    refine⟨_,rfl,rfl,(Txt.slice x (some 1) none),_,rfl,rfl,_,rfl,?_⟩
    rw [gz,eh]
    have z0:x=‹"0"›↔x.cps.toList=[48]:=⟨λz=>by rw [z];decide,λz=>dz (z.trans (by decide))⟩
    refine dX (λh2=>⟨_,rfl,rfl,_,rfl,dX (λh3=>?_) λh3=>?_⟩) λh2=>aS ?_
    ·refine no λz=>pi.mp z ⟨of_decide_eq_true h2,λw=>?_⟩
     rw [z0.mpr w]at h3
     exact absurd h3 (by decide)
    ·have hp:Str.ofString (toString (bV x))=x:=pi.mpr λz=>h3 (by
      rw [Bool.not_eq_true',decide_eq_false_iff_not]
      intro w
      injection w with w
      exact z.2 (z0.mp w))
     have yes:=yes hp
     refine⟨_,rfl,x,bV x,rfl,mJ hg,fV gl,?_⟩
     refine⟨_,rfl,_,rfl,_,_,rfl,rfl,_,rfl,dX (λh4=>⟨_,rfl,_,_,rfl,rfl,_,rfl,dX (λh5=>⟨_,rfl,?_⟩) λh5=>?_⟩) λh4=>⟨_,rfl,aS ?_⟩⟩
     ·exact yes true ⟨λ_=>⟨of_decide_eq_true h4,of_decide_eq_true h5⟩,λ_=>rfl⟩
     ·exact yes false ⟨(λz=>by cases z),λz=>absurd (decide_eq_true z.2) h5⟩
     ·exact yes false ⟨(λz=>by cases z),λz=>absurd (decide_eq_true z.1) h4⟩
    ·have hp:Str.ofString (toString (bV x))=x:=pi.mpr λz=>h2 (decide_eq_true z.1)
     have yes:=yes hp
     refine⟨_,rfl,x,bV x,rfl,mJ hg,fV gl,?_⟩
     refine⟨_,rfl,_,rfl,_,_,rfl,rfl,_,rfl,dX (λh4=>⟨_,rfl,_,_,rfl,rfl,_,rfl,dX (λh5=>⟨_,rfl,?_⟩) λh5=>?_⟩) λh4=>⟨_,rfl,aS ?_⟩⟩
     ·exact yes true ⟨λ_=>⟨of_decide_eq_true h4,of_decide_eq_true h5⟩,λ_=>rfl⟩
     ·exact yes false ⟨(λz=>by cases z),λz=>absurd (decide_eq_true z.2) h5⟩
     ·exact yes false ⟨(λz=>by cases z),λz=>absurd (decide_eq_true z.1) h4⟩
  ·have e:x=qk x:=wB (Bool.eq_false_iff.mpr h1)
   have eb:cH x ij 12=gA x:=congrArg (λz=>cH z ij 12) e
   have eh:x.cps.toList.head?=(figs x).head?:=congrArg (λz:Str=>z.cps.toList.head?) e
   refine⟨_,rfl,x,ij,12,rfl,hl,λH1 g1=>⟨_,rfl,?_⟩⟩
   have hq:=hq H1 g1
   rw [eb]
   cases hg:gA x with
   | false=>
    refine bb ?_
    have:i0 x lo hi=.non:=if_neg λz=>by rw [hg]at z;cases z.1.1
    rw [this]at hq
    exact hq
   | true=>
    refine aS ?_
    obtain⟨gd,gn,gl⟩:=mK hg
    have pi:=kQ gd gn
    have no:¬Str.ofString (toString (bV x))=x->Q .non H1:=λz=>by
     have:i0 x lo hi=.non:=if_neg λy=>z y.1.2
     rw [this]at hq
     exact hq
    have yes:Str.ofString (toString (bV x))=x->∀b:Bool,(b=true↔(lo<=bV x/\bV x<=hi))->Q (if b=true then .int (bV x) else .non) H1:=λz b hb=>by
     have:i0 x lo hi=if b=true then .int (bV x) else .non:=by
      unfold i0
      cases b with
      | true=>rw [if_pos ⟨⟨hg,z⟩,hb.mp rfl⟩];rfl
      | false=>rw [if_neg λy=>by have:=hb.mpr y.2;cases this];rfl
     rw [this]at hq
     exact hq
    refine⟨_,rfl,rfl,x,_,rfl,rfl,_,rfl,?_⟩
    rw [gz,eh]
    have z0:x=‹"0"›↔x.cps.toList=[48]:=⟨λz=>by rw [z];decide,λz=>dz (z.trans (by decide))⟩
    refine dX (λh2=>⟨_,rfl,rfl,_,rfl,dX (λh3=>?_) λh3=>?_⟩) λh2=>aS ?_
    ·refine no λz=>pi.mp z ⟨of_decide_eq_true h2,λw=>?_⟩
     rw [z0.mpr w]at h3
     exact absurd h3 (by decide)
    ·have hp:Str.ofString (toString (bV x))=x:=pi.mpr λz=>h3 (by
      rw [Bool.not_eq_true',decide_eq_false_iff_not]
      intro w
      injection w with w
      exact z.2 (z0.mp w))
     have yes:=yes hp
     refine⟨_,rfl,x,bV x,rfl,mJ hg,fV gl,?_⟩
     refine⟨_,rfl,_,rfl,_,_,rfl,rfl,_,rfl,dX (λh4=>⟨_,rfl,_,_,rfl,rfl,_,rfl,dX (λh5=>⟨_,rfl,?_⟩) λh5=>?_⟩) λh4=>⟨_,rfl,aS ?_⟩⟩
     ·exact yes true ⟨λ_=>⟨of_decide_eq_true h4,of_decide_eq_true h5⟩,λ_=>rfl⟩
     ·exact yes false ⟨(λz=>by cases z),λz=>absurd (decide_eq_true z.2) h5⟩
     ·exact yes false ⟨(λz=>by cases z),λz=>absurd (decide_eq_true z.1) h4⟩
    ·have hp:Str.ofString (toString (bV x))=x:=pi.mpr λz=>h2 (decide_eq_true z.1)
     have yes:=yes hp
     refine⟨_,rfl,x,bV x,rfl,mJ hg,fV gl,?_⟩
     refine⟨_,rfl,_,rfl,_,_,rfl,rfl,_,rfl,dX (λh4=>⟨_,rfl,_,_,rfl,rfl,_,rfl,dX (λh5=>⟨_,rfl,?_⟩) λh5=>?_⟩) λh4=>⟨_,rfl,aS ?_⟩⟩
     ·exact yes true ⟨λ_=>⟨of_decide_eq_true h4,of_decide_eq_true h5⟩,λ_=>rfl⟩
     ·exact yes false ⟨(λz=>by cases z),λz=>absurd (decide_eq_true z.2) h5⟩
     ·exact yes false ⟨(λz=>by cases z),λz=>absurd (decide_eq_true z.1) h4⟩
noncomputable def kL:Sp:=λvs H Q _=>∃(a:Addr) (ks:List Str),vs=[.ref a]/\H a=some (.lst (ks.map V.str))/\1<=ks.length/\ks.length<=8/\ks.Nodup/\(∀k∈ks,cH k dE 8=true/\k.length < sizeLine)/\∀H',aZ H H'->Q (.bl true) H'
theorem mW {K:W.Frag}{E:XK}{σ:St}{H:Hp}{Q:VK}{a:Addr}{ks:List Str} (e0:σ[0]?=some (some (.ref a))) (ha:H a=some (.lst (ks.map V.str))) (hk:∀k∈ks,cH k dE 8=true/\k.length < sizeLine) (hl:ks.length<=8)
  (hq:∀(D:Addr) (H':Hp),H D=none->aZ H H'->H' D=some (.lst ((List.replicate ks.length true).map V.bl))->Q (.ref D) H') :
  kG (zD K (jh 0)) [] (λ_ H Q=>Q true H) (kH (jm K) [] E (cq (jh 0) gC)) σ H Q:=by
 refine⟨_,e0,a,rfl,⟨_,SqL.of ha⟩,λD nD=>fe (K:=K) (a:=a) (xs:=ks.map V.str) (sub:=[]) (tt:=λ_ H Q=>Q true H) (te:=kH (jm K) [] E (cq (jh 0) gC)) (Q:=Q) (σ:=σ)
  (λi ys H2=>ys=(List.replicate i true).map V.bl/\aZ H H2/\H2 D=some (.lst ys)) ⟨rfl,aZ.new nD,ar⟩ (λi ys H2 _ hh=>?_) (λi x ys H2 hi hh=>?_) λys H2 hh=>?_⟩
 ·exact SqL.of (hh.2.1 _ _ ha)
 ·obtain⟨rfl,g,hD⟩:=hh
  rw [List.getElem?_map]at hi
  cases ek:ks[i]? with
  | none=>rw [ek]at hi;cases hi
  | some k=>
   rw [ek]at hi
   cases hi
   have hil:=(List.getElem?_eq_some_iff.mp ek).1
   obtain⟨k1,k2⟩:=hk k (List.mem_of_getElem? ek)
   refine bb ⟨_,rfl,.str k,rfl,.inl ⟨k,rfl,k2,λH3 g3=>⟨g3 _ _ hD,?_,?_,?_,?_⟩⟩⟩
   ·rw [List.length_map,List.length_replicate]
    exact bh ‹1›
   ·rw [k1,List.replicate_succ',List.map_append];rfl
   ·intro b o e
    rw [ai (ao e nD)]
    exact g3 _ _ (g _ _ e)
   ·exact ar
 ·obtain⟨rfl,g,hD⟩:=hh
  rw [List.length_map]at hD
  exact hq D H2 nD g hD
theorem rX:FnScope ["thing"] ["thing"] (aq jw):=‹2›
theorem pY {f f1:Addr}{fd:FuncData} (F:Fun K "are_keys" "are_keys" jw f fd) (N:Free mg) (C:Con mg){fd1:FuncData} (CN:Cal P w K mg base "is_name" 2 ["thing"] (jm K) f1 fd1):FnOk P w K mg base CX0 3 f fd ["thing"] kL:=by
 obtain⟨t1,c1⟩:=C.keys
 refine F.ok (k:=2) rX (λvs H Q E h=>?_) (λcdv A outer s H vs Q E hr h=>?_)
 ·obtain⟨a,ks,rfl,_⟩:=h
  rfl
 ·obtain⟨a,ks,rfl,ha,k1,k8,nd,hk,hq⟩:=h
  have hu:=aK hr
  refine⟨_,(ae (ba (PW.pt (nF (eR (dl (aG cF (by rfl) N.isinstance PyProof.Rows.Boot.«isinstance» (aC (pv 0) (aC (gk (v:=.ty "list") (by rfl) N.list PyProof.Rows.Boot.«list» rfl) ac))))) (jy (eR (nG jE jE aj (aG aN (by rfl) N.len PySem.boot_len (aC (pv 0) ac)) (bI (v:=.int 8) (by rfl) c1 ⟨_,rfl⟩)))))) (ah (ax jC)) aF)
   (ah (ax (fR (aG (lr rfl) (by rfl) N.all PyProof.Rows.Boot.«all» (aC (fH (bz rfl (cg (pv 0)) rfl rfl (by show ∀p∈_,gc [] p;decide) (by decide) rfl (by show ([‹"key"›]:List Str).Nodup;decide) .nil (λC fp s H=>cw) (λC fp s H=>(av CN.ok (hr.mono (by decide)) rfl CN.nm CN.kp CN.bd .nil au (aC (pv 0) ac))))) ac)) (fQ (cj bM (aG sZ (by rfl) N.len PySem.boot_len (aC (aX (sW rfl) (by rfl) N.set PyProof.Rows.Boot.«set» (aC (pv 0) ac)) ac)) (aG aN (by rfl) N.len PySem.boot_len (aC (pv 0) ac)) (aP _))))))),?_⟩
  have hS:SqL K H a (ks.map V.str):=SqL.of ha
  refine⟨_,rfl,.ref a,"list", _,true,rfl,.lst ha,by rfl,_,rfl,aS ?_⟩
  refine⟨_,rfl,a,_,rfl,.inl hS,_,_,rfl,rfl,_,rfl,?_⟩
  rw [List.length_map,decide_eq_true (show (1:Int)<=ks.length by omega)]
  refine bb ⟨_,_,rfl,rfl,_,rfl,?_⟩
  rw [decide_eq_true (show (ks.length:Int)<=8 by omega)]
  refine aS ?_
  refine aB ?_
  dsimp only
  refine aA (xN (uY (cJ ?_)))
  refine mW rfl ha hk k8 ?_
  intro D H' nD g hD
  refine⟨D,_,rfl,SqL.of hD,_,rfl,?_⟩
  rw [show (List.replicate ks.length true).all id=true from by simp]
  refine bb ?_
  refine⟨_,rfl,a,ks,rfl,SqL.of (g _ _ ha),by omega,λp np=>?_⟩
  refine⟨p,ks,rfl,ar,_,rfl,a,_,rfl,.inl (SqL.of (by rw [ai (ao (g _ _ ha) np)];exact g _ _ ha)),rfl,?_⟩
  rw [List.length_map,ll nd _ (Nat.le_refl _),decide_eq_true rfl]
  exact hq _ (g.trans (aZ.new np))
noncomputable def aY (ks:List Str):List Str:=ks.foldl (λacc k=>if k∈acc then acc else acc++[k]) []
theorem gp (ks:List Str) (k:Str):aY (ks++[k])=if k∈aY ks then aY ks else aY ks++[k]:=by
 unfold aY
 rw [List.foldl_append]
 rfl
theorem dS:∀(n:Nat) (ks:List Str),ks.length=n->(aY ks).length<=n
 | 0,ks,h=>by rw [List.length_eq_zero_iff.mp h];exact Nat.le_refl _
 | n+1,ks,h=>by
  obtain⟨xs,x,rfl⟩:∃xs x,ks=xs++[x]:=⟨ks.dropLast,ks.getLast (by intro z;rw [z]at h;cases h),(List.dropLast_concat_getLast _).symm⟩
  rw [List.length_append,List.length_singleton]at h
  have ih:=dS n xs ‹1›
  rw [gp]
  split
  ·omega
  ·rw [List.length_append,List.length_singleton];omega
theorem bL (k:Str) (xs:List Str):inV (.str k) (xs.map V.str)=decide (k∈xs):=by
 unfold inV
 rw [List.any_map,Bool.eq_iff_iff,List.any_eq_true,decide_eq_true_iff]
 constructor
 ·rintro⟨y,hy,e⟩
  have e:(y == k)=true:=e
  rw [<- eq_of_beq e];exact hy
 ·intro h
  exact⟨k,h,beq_self_eq_true k⟩
noncomputable def u3 (K:PySem.W.Frag):Sp:=λvs H Q _=>∃(a:Addr) (ks:List Str),vs=[.ref a]/\SqL K H a (ks.map V.str)/\ks.length<=900/\∀p,H p=none->Q (.ref p) (upd H p (.lst ((aY ks).map V.str)))
theorem tW {K:W.Frag}{H:Hp}{a p:Addr}{xs:List V}{o:HO} (h:SqL K H a xs) (np:H p=none):SqL K (upd H p o) a xs:=by
 rcases h with(e | ⟨u,e⟩) | e
 ·exact .inl (.inl (by rw [ai (ao e np)];exact e))
 ·exact .inl (.inr ⟨u,by rw [ai (ao e np)];exact e⟩)
 ·exact .inr e
theorem oZ:FnScope ["keys", "once", "key"] ["keys"] (aq uE):=‹2›
theorem y4 {f:Addr}{fd:FuncData} (F:Fun K "each_once" "each_once" uE f fd)  : FnOk P w K mg base CX0 1 f fd ["keys"] (u3 K):=by
 refine F.ok (k:=0) oZ (λvs H Q E h=>?_) (λcdv A outer s H vs Q E hr h=>?_)
 ·obtain⟨a,ks,rfl,_⟩:=h
  rfl
 ·obtain⟨a,ks,rfl,ha,hl,q⟩:=h
  have hu:=aK hr
  refine⟨_,(ae (ay (i:=1) oZ.nd rfl (Or.inl rfl) (aR ac))
   (ae (cA PassesOwn.never rfl (cg (pv 0)) (bi (i:=2) oZ.nd rfl (Or.inl rfl))
   (ah (ba (aI my (pv 2) (pv 1) (by with_unfolding_all rfl)) (ah (bg (cM PySem.F.plainAttrs_list PySem.F.slot_list_append PySem.F.type_list_append dM (pv 1) (aa (pv 2) ac)))) aF)))
   (ah (ax (pv 1))))),?_⟩
  refine af (aw ⟨by show 0<=sizeLine;decide,λp np=>?_⟩)
  walk_at "d"
  refine af ⟨_,rfl,a,rfl,⟨_,tW ha np⟩,fb (K:=K) (a:=a) (xs:=ks.map V.str) (λi σ H2=>H2=upd H p (.lst ((aY (ks.take i)).map V.str))/\∃v2,σ=[some (.ref a),some (.ref p),v2]) ⟨rfl,none,rfl⟩ (λi σ H2 _ hh=>?_) (λi x σ H2 hi hh=>?_) λσ H2 hh=>?_⟩
  ·obtain⟨rfl,v2,rfl⟩:=hh
   exact tW ha np
  ·obtain⟨rfl,v2,rfl⟩:=hh
   rw [List.getElem?_map]at hi
   obtain⟨k,hk,rfl⟩:=Option.map_eq_some_iff.mp hi
   have hik:=(List.getElem?_eq_some_iff.mp hk).1
   walk_at "d"
   have hol:(aY (ks.take i)).length<=i:=dS i _ (by rw [List.length_take];omega)
   have et:ks.take (i+1)=ks.take i++[k]:=by rw [List.take_add_one,hk];rfl
   refine aE ⟨_,rfl,_,rfl,p,_,rfl,.inl (SqL.of ar),rfl,?_,?_⟩
   ·rw [List.all_map,List.all_eq_true];intro _ _;rfl
   rw [if_pos rfl,bL]
   refine⟨_,rfl,?_⟩
   by_cases z:k∈aY (ks.take i)
   ·rw [decide_eq_true z]
    refine aS (aB ⟨?_,_,rfl⟩)
    rw [et,gp,if_pos z]
   ·rw [decide_eq_false z]
    refine bb (be ⟨_,rfl,.inl ⟨rfl,_,SqL.of ar⟩,_,rfl,p,_,_,rfl,rfl,ar,by rw [List.length_map];exact bh ‹1›,?_,_,rfl⟩)
    rw [bv,et,gp,if_neg z,List.map_append];rfl
  ·obtain⟨rfl,v2,rfl⟩:=hh
   rw [List.length_map,List.take_length]
   exact aA ⟨_,rfl,q p np⟩
end Mine
namespace L2
open PySem PySem.Spec PyProof.Rows
theorem kD:∀l:List (Str × Tok),aW ((l.map (·.1)).map V.str) (strValues l)
 | []=>.nil
 | p::l=>.cons ⟨p.2,rfl⟩ (kD l)
inductive rSplit (x:V) (xs:List V) (H:Hp) (Q:VK):Prop
 | mk (i j) (h1:x=.str i) (h2:xs=[.str j]) (h3:(j.length == 0)=false) (h4:i.length<=sizeLine) (h5:(Txt.split i j).length<=sizeLine) (h6:∀l,H l=none->Q (.ref l) (upd H l (.lst ((Txt.split i j).map V.str)))):rSplit x xs H Q
theorem nX {X:Cx}:MtR X "str.split" rSplit:=by
 intro pins s σ H x xs v us Q I rx rv h
 obtain⟨i,j,rfl,rfl,hj,hi,hl,q⟩:=h
 obtain⟨t,rfl⟩:=rx
 obtain⟨u,rfl,ru⟩:=aW.one rv
 obtain⟨t2,rfl⟩:=ru
 have fin:∀(l:List (Str × Tok)) (tk c:Nat),l.map (·.1)=Txt.split i j->EP X pins σ Q (.ref s.heap.objs.size) { s with toks:=tk,heap:=s.heap.push { cls:=.type "list", data:=.seq (strValues l).toArray c } }:=λl tk c e=>by
  have vv:=kD l
  rw [e]at vv
  exact⟨.ref s.heap.objs.size,_,I.laid (t':=tk) (λb o eb=>zH0 _ eb) (Nat.le_refl _) (show bC X.prog X.w _ _ _ (.lst ((Txt.split i j).map V.str)) from ⟨by rw [List.length_map];exact hl,strValues l,c,vv,Heap.get?_push_size _ rfl⟩),rfl,q _ (I.hok.fresh (Nat.le_refl _))⟩
 cases c1:(decide (i.length < j.length) || decide (Builtin.Str.strKind i < Builtin.Str.strKind j)) with
 | true=>
  refine call_meets F.slot_str_split (typeIs_str _ _ _) F.entry_str_split (F.args_str_split_2 _ _) (meets_str_split_cannot_occur i j t t2 c1) ?_
  exact fin [(i,t)] s.toks _ (if_pos c1).symm
 | false=>
  cases c2:(Builtin.Str.occurrences i j 0 i.length (i.length+1)).isEmpty with
  | true=>
   refine call_meets F.slot_str_split (typeIs_str _ _ _) F.entry_str_split (F.args_str_split_2 _ _) (meets_str_split_not_found i j t t2 c1 hj c2) ?_
   exact fin [(i,t)] s.toks _ ((if_neg (ne_true_of_eq_false c1)).trans (if_pos c2)).symm
  | false=>
   have es:Txt.split i j=Builtin.Str.partsBetween i (Builtin.Str.occurrences i j 0 i.length (i.length+1)) j.length:=(if_neg (ne_true_of_eq_false c1)).trans (if_neg (ne_true_of_eq_false c2))
   refine call_meets F.slot_str_split (typeIs_str _ _ _) F.entry_str_split (F.args_str_split_2 _ _) (meets_str_split_sep i j t t2 c1 hj c2 hi (by rw [<- es];exact hl)) ?_
   rw [strsFrom_eq]
   exact fin (numbered s.toks _) _ _ ((numbered_texts _ _).trans es.symm)
theorem oC {c:Nat}{A B:List Nat}:∀{p q:List Nat},c∉p->c∉q->p++c::A=q++c::B->p=q/\A=B
 | [],[],_,_,h=>⟨rfl,(List.cons.inj h).2⟩
 | [],y::q,_,hq,h=>absurd (List.mem_cons.mpr (.inl (List.cons.inj h).1)) hq
 | x::p,[],hp,_,h=>absurd (List.mem_cons.mpr (.inl (List.cons.inj h).1.symm)) hp
 | x::p,y::q,hp,hq,h=>by
  obtain⟨h1,h2⟩:=List.cons.inj h
  obtain⟨e1,e2⟩:=oC (λz=>hp (List.mem_cons_of_mem _ z)) (λz=>hq (List.mem_cons_of_mem _ z)) h2
  exact⟨by rw [h1,e1],e2⟩
theorem fX (c:Nat) (x y:Str) (zs:List Str):(Str.join ⟨#[c]⟩ (x::y::zs)).cps.toList=x.cps.toList++c::(Str.join ⟨#[c]⟩ (y::zs)).cps.toList:=by
 show (x++(⟨#[c]⟩:Str)++Str.join ⟨#[c]⟩ (y::zs)).cps.toList=_
 rw [je,je,List.append_assoc]
 rfl
theorem on {c:Nat}:∀{ps qs:List Str},ps≠[]->qs≠[]->(∀w∈ps,c∉w.cps.toList)->(∀w∈qs,c∉w.cps.toList)->Str.join ⟨#[c]⟩ ps=Str.join ⟨#[c]⟩ qs->ps=qs
 | [],_,h,_,_,_,_=>absurd rfl h
 | _,[],_,h,_,_,_=>absurd rfl h
 | [p],[q],_,_,_,_,h=>by
  have h:p=q:=h
  rw [h]
 | [p],q::q'::qs,_,_,hp,_,h=>by
  have h:p=Str.join ⟨#[c]⟩ (q::q'::qs):=h
  have e:=congrArg (λx:Str=>x.cps.toList) h
  rw [fX]at e
  exact absurd (by rw [e];exact List.mem_append_right _ List.mem_cons_self) (hp p List.mem_cons_self)
 | p::p'::ps,[q],_,_,_,hq,h=>by
  have h:Str.join ⟨#[c]⟩ (p::p'::ps)=q:=h
  have e:=congrArg (λx:Str=>x.cps.toList) h
  rw [fX]at e
  exact absurd (by rw [<- e];exact List.mem_append_right _ List.mem_cons_self) (hq q List.mem_cons_self)
 | p::p'::ps,q::q'::qs,_,_,hp,hq,h=>by
  have e:=congrArg (λx:Str=>x.cps.toList) h
  rw [fX,fX]at e
  obtain⟨e1,e2⟩:=oC (hp p List.mem_cons_self) (hq q List.mem_cons_self) e
  rw [dz e1,on (ps:=p'::ps) (qs:=q'::qs) (by simp) (by simp) (λw hw=>hp w (List.mem_cons_of_mem _ hw)) (λw hw=>hq w (List.mem_cons_of_mem _ hw)) (dz e2)]
theorem jk {ws:List Str}{c:Nat} (hne:ws≠[]) (hf:∀w∈ws,c∉w.cps.toList):Txt.split (Txt.join ⟨#[c]⟩ ws) ⟨#[c]⟩=ws:=by
 have e:Txt.join ⟨#[c]⟩ ws=Str.join ⟨#[c]⟩ ws:=by
  show Builtin.Str.glued ⟨#[c]⟩ ws=_
  exact StrLaws.glued_eq_join _ _
 rw [e]
 refine on (λz=>?_) hne (StrLaws.split_free _ _) hf (StrLaws.join_split _ _)
 have:=PyProof.Rows.split_pos (Str.join ⟨#[c]⟩ ws) ⟨#[c]⟩
 rw [z]at this
 cases this
end L2
namespace Mine
open PySem L2
variable {P:Program}{w:World}{K:W.Frag}{mg:Str->Option Value}{base:Heap}
noncomputable abbrev uP:Stmt:=aM (top 39) 1
noncomputable abbrev sGo:Stmt:=aM (top 39) 2
structure RdC (K:PySem.W.Frag) (R:Addr):Prop where
 cl:Cls K R
 n1:NoAttr K R "words"
 n2:NoAttr K R "place"
 n3:NoAttr K R "opened"
noncomputable def eV (lw:Addr) (pl op:Int):List (Str × V):=[("words", V.ref lw),("place", V.int pl),("opened", V.int op)]
theorem An (lw:Addr) (pl op:Int):(eV lw pl op).lookup ("words" : Str)=some (.ref lw):=rfl
theorem xM (lw:Addr) (pl op:Int):(eV lw pl op).lookup ("place" : Str)=some (.int pl):=by
 unfold eV
 rw [List.lookup_cons,show (("place" : Str) == ("words" : Str))=false from ‹0›]
 rfl
theorem Ao (lw:Addr) (pl op pl':Int):db "place" (.int pl') (eV lw pl op)=eV lw pl' op:=by
 rfl
structure RdAt (R:Addr) (H:Hp) (r lw:Addr) (ws:List Str) (pl:Nat) (op:Int):Prop where
 ob:∃dx,H r=some (.ins R dx (eV lw pl op))
 wd:H lw=some (.lst (ws.map V.str))
noncomputable def gD (R:Addr):Sp:=λvs H Q _=>∃(r lw:Addr) (ws:List Str) (pl:Nat) (op:Int) (w:Str),vs=[.ref r]/\RdAt R H r lw ws pl op/\ws[pl]?=some w/\Q (.str w) H
noncomputable def oS (R:Addr):Sp:=λvs H Q _=>∃(r lw:Addr) (ws:List Str) (pl:Nat) (op:Int),vs=[.ref r,.bl true]/\RdAt R H r lw ws pl op/\∀H',(∀b o,H b=some o->b≠r->H' b=some o)->RdAt R H' r lw ws (pl+1) op->Q .non H'
theorem Ab:FnScope ["self"] ["self"] (aq uP):=‹2›
theorem yh {f R:Addr}{fd:FuncData} (F:Fun K "here" "Reader.here" uP f fd) (N:Free mg) (T:RdC K R):FnOk P w K mg base CX0 1 f fd ["self"] (gD R):=by
 refine F.ok (k:=0) Ab (λvs H Q E h=>?_) (λcdv A outer s H vs Q E hr h=>?_)
 ·obtain⟨r,lw,ws,pl,op,w,rfl,_⟩:=h
  rfl
 ·obtain⟨r,lw,ws,pl,op,w,rfl,⟨⟨dx,ho⟩,hw⟩,hx,q⟩:=h
  have hu:=aK hr
  refine⟨_,(ae (ba (aI bM (aV (pv 0) rfl) (aG aN (by rfl) N.len PySem.boot_len (aa (aV (pv 0) rfl) ac)) (aP _)) (ah hE) aF)
   (ah (ax (aU aO (aV (pv 0) rfl) (aV (pv 0) rfl) (λ_ _=>rfl))))),?_⟩
  have hlt:=(List.getElem?_eq_some_iff.mp hx).1
  have at0:SqL K H lw (ws.map V.str):=SqL.of hw
  refine af (aE ⟨_,rfl,r,R,dx,_,_,rfl,ho,T.cl,T.n2,xM _ _ _,_,rfl,r,R,dx,_,_,rfl,ho,T.cl,T.n1,An _ _ _,lw,_,rfl,.inl at0,rfl,_,rfl,?_⟩)
  rw [List.length_map,decide_eq_false (λz=>by have:=V.int.inj z;omega)]
  refine aS (aB ?_)
  dsimp only
  exact aA ⟨_,rfl,r,R,dx,_,_,rfl,ho,T.cl,T.n1,An _ _ _,_,rfl,r,R,dx,_,_,rfl,ho,T.cl,T.n2,xM _ _ _,lw,_,_,.str w,rfl,rfl,at0,dH (by rw [List.getElem?_map,hx];rfl),q⟩
theorem Ct:FnScope ["self", "can_stand"] ["self", "can_stand"] (aq sGo):=‹2›
theorem BQ {f R:Addr}{fd:FuncData} (F:Fun K "go_on" "Reader.go_on" sGo f fd) (N:Free mg) (T:RdC K R):FnOk P w K mg base CX0 1 f fd ["self", "can_stand"] (oS R):=by
 refine F.ok (k:=0) Ct (λvs H Q E h=>?_) (λcdv A outer s H vs Q E hr h=>?_)
 ·obtain⟨r,lw,ws,pl,op,rfl,_⟩:=h
  rfl
 ·obtain⟨r,lw,ws,pl,op,rfl,⟨⟨dx,ho⟩,hw⟩,q⟩:=h
  have hu:=aK hr
  refine⟨_,(ae (ba (eR (dl (pv 1))) (ah hE) aF)
   (ah (iu (pv 0) aj wp))),?_⟩
  refine af (aE ⟨_,rfl,_,rfl,aS (aB ?_)⟩)
  dsimp only
  refine⟨_,rfl,r,R,dx,_,_,rfl,ho,T.cl,T.n2,xM _ _ _,_,_,rfl,rfl,dx,_,ho,by show 3 < 1000;decide,?_⟩
  rw [Ao]
  have hlr:lw≠r:=dw hw ho (λz=>nomatch z)
  exact q _ (λb o e n=>by rw [ai n];exact e) ⟨⟨dx,ar⟩,by rw [ai hlr];exact hw⟩
noncomputable abbrev uF:Stmt:=aM (top 39) 4
noncomputable abbrev uy:Stmt:=aM (top 39) 5
noncomputable abbrev uS:Stmt:=aM (top 39) 6
noncomputable abbrev uI:Stmt:=aM (top 39) 7
theorem bu (lw:Addr) (pl op:Int){m:Str} (h1:decide (m = "words")=false) (h2:decide (m = "place")=false) (h3:decide (m = "opened")=false):(eV lw pl op).lookup m=none:=by
 unfold eV
 rw [List.lookup_cons,beq_eq_false_iff_ne.mpr (of_decide_eq_false h1),List.lookup_cons,beq_eq_false_iff_ne.mpr (of_decide_eq_false h2),List.lookup_cons,beq_eq_false_iff_ne.mpr (of_decide_eq_false h3)]
 rfl
theorem RdAt.keep {R:Addr}{H H':Hp}{r lw:Addr}{ws:List Str}{pl:Nat}{op:Int} (h:RdAt R H r lw ws pl op) (g:aZ H H'):RdAt R H' r lw ws pl op:=⟨let ⟨dx,e⟩:=h.ob;⟨dx,g _ _ e⟩,g _ _ h.wd⟩
def Ofr (r:Addr) (H H':Hp):Prop:=∀b o,H b=some o->b≠r->H' b=some o
noncomputable def lL (R:Addr):Sp:=λvs H Q _=>∃(r lw:Addr) (ws:List Str) (pl:Nat) (op lo hi v:Int) (w:Str),vs=[.ref r,.int lo,.int hi]/\RdAt R H r lw ws pl op/\ws[pl]?=some w/\w.length < sizeLine/\i0 w lo hi=.int v/\∀H',Ofr r H H'->RdAt R H' r lw ws (pl+1) op->Q (.int v) H'
noncomputable def tX (R:Addr):Sp:=λvs H Q _=>∃(r lw:Addr) (ws:List Str) (pl:Nat) (op v:Int) (w:Str),vs=[.ref r]/\RdAt R H r lw ws pl op/\ws[pl]?=some w/\w.length < sizeLine/\i0 w (-1000000000) 1000000000=.int v/\∀H',Ofr r H H'->RdAt R H' r lw ws (pl+1) op->Q (.int v) H'
noncomputable def jq (R:Addr):Sp:=λvs H Q _=>∃(r lw:Addr) (ws:List Str) (pl:Nat) (op lo v:Int) (w:Str),vs=[.ref r,.int lo]/\RdAt R H r lw ws pl op/\ws[pl]?=some w/\w.length < sizeLine/\i0 w lo 399=.int v/\∀H',Ofr r H H'->RdAt R H' r lw ws (pl+1) op->Q (.int v) H'
noncomputable def u9 (R:Addr):Sp:=λvs H Q _=>∃(r lw:Addr) (ws:List Str) (pl:Nat) (op:Int) (w:Str),vs=[.ref r]/\RdAt R H r lw ws pl op/\ws[pl]?=some w/\w.length < sizeLine/\cH w dE 8=true/\∀H',Ofr r H H'->RdAt R H' r lw ws (pl+1) op->Q (.str w) H'
theorem uq:FnScope ["self", "low", "high", "number"] ["self", "low", "high"] (aq uF):=‹2›
theorem y6 {f f1 f2 f3 R:Addr}{fd:FuncData} (F:Fun K "number_here" "Reader.number_here" uF f fd) (N:Free mg) (T:RdC K R){fd1:FuncData} (MH:MC P w K mg base R "here" 1 ["self"] [] [] (gD R) f1 fd1){fd2:FuncData} (MG:MC P w K mg base R "go_on" 1 ["self", "can_stand"] [] [] (oS R) f2 fd2){fd3:FuncData} (CO:Cal P w K mg base "number_of" 2 ["text", "low", "high"] ni f3 fd3):FnOk P w K mg base CX0 3 f fd ["self", "low", "high"] (lL R):=by
 refine F.ok (k:=2) uq (λvs H Q E h=>?_) (λcdv A outer s H vs Q E hr h=>?_)
 ·obtain⟨r,lw,ws,pl,op,lo,hi,v,w,rfl,_⟩:=h
  rfl
 ·obtain⟨r,lw,ws,pl,op,lo,hi,v,w,rfl,h,hx,hl,hv,q⟩:=h
  have hu:=aK hr
  refine⟨_,(ae (ay (i:=3) uq.nd rfl (Or.inl rfl) (av CO.ok (hr.mono (by decide)) rfl CO.nm CO.kp CO.bd .nil au (aa (bp (pv 0) MH.cl MH.mt MH.ok (hr.mono (by decide)) MH.bd MH.dv au) (aa (pv 1) (aa (pv 2) ac)))))
   (ae (bg (bF (pv 0) MG.cl MG.mt MG.ok (hr.mono (by decide)) MG.bd MG.dv au (aa (mw (hX (pv 3))) ac)))
   (ah (ax (pv 3))))),?_⟩
  obtain⟨dx,ho⟩:=h.ob
  refine af (aw ⟨_,rfl,r,dx,_,rfl,ho,bu _ _ _ ‹0› ‹0› ‹0›,r,lw,ws,pl,op,w,rfl,h,hx,_,rfl,_,rfl,w,lo,hi,rfl,hl,λH1 g1=>?_⟩)
  rw [hv]
  walk_at "d"
  have h1:=h.keep g1
  obtain⟨dx1,ho1⟩:=h1.ob
  refine af (be ⟨_,rfl,r,dx1,_,rfl,ho1,bu _ _ _ ‹0› ‹0› ‹0›,_,rfl,r,lw,ws,pl,op,rfl,h1,λH2 o2 h2=>?_⟩)
  dsimp only
  exact aA ⟨_,rfl,q H2 (λb o e n=>o2 _ _ (g1 _ _ e) n) h2⟩
theorem ut:FnScope ["self", "key"] ["self"] (aq uI):=‹2›
theorem ya {f f1 f2 f3 R:Addr}{fd:FuncData} (F:Fun K "key_here" "Reader.key_here" uI f fd) (N:Free mg) (T:RdC K R){fd1:FuncData} (MH:MC P w K mg base R "here" 1 ["self"] [] [] (gD R) f1 fd1){fd2:FuncData} (MG:MC P w K mg base R "go_on" 1 ["self", "can_stand"] [] [] (oS R) f2 fd2){fd3:FuncData} (CN:Cal P w K mg base "is_name" 2 ["thing"] (jm K) f3 fd3):FnOk P w K mg base CX0 3 f fd ["self"] (u9 R):=by
 refine F.ok (k:=2) ut (λvs H Q E h=>?_) (λcdv A outer s H vs Q E hr h=>?_)
 ·obtain⟨r,lw,ws,pl,op,w,rfl,_⟩:=h
  rfl
 ·obtain⟨r,lw,ws,pl,op,w,rfl,h,hx,hl,hv,q⟩:=h
  have hu:=aK hr
  refine⟨_,(ae (ay (i:=1) ut.nd rfl (Or.inl rfl) (bp (pv 0) MH.cl MH.mt MH.ok (hr.mono (by decide)) MH.bd MH.dv au))
   (ae (bg (bF (pv 0) MG.cl MG.mt MG.ok (hr.mono (by decide)) MG.bd MG.dv au (aa (av CN.ok (hr.mono (by decide)) rfl CN.nm CN.kp CN.bd .nil au (aa (pv 1) ac)) ac)))
   (ah (ax (pv 1))))),?_⟩
  obtain⟨dx,ho⟩:=h.ob
  refine af (aw ⟨_,rfl,r,dx,_,rfl,ho,bu _ _ _ ‹0› ‹0› ‹0›,r,lw,ws,pl,op,w,rfl,h,hx,?_⟩)
  walk_at "d"
  refine af (be ⟨_,rfl,r,dx,_,rfl,ho,bu _ _ _ ‹0› ‹0› ‹0›,_,rfl,.str w,rfl,.inl ⟨w,rfl,hl,λH1 g1=>?_⟩⟩)
  rw [hv]
  exact⟨r,lw,ws,pl,op,rfl,h.keep g1,λH2 o2 h2=>aA ⟨_,rfl,q H2 (λb o e n=>o2 _ _ (g1 _ _ e) n) h2⟩⟩
theorem A0:FnScope ["self"] ["self"] (aq uy):=‹2›
theorem xV {f f1 R:Addr}{fd:FuncData} (F:Fun K "value_here" "Reader.value_here" uy f fd) (N:Free mg) (Z:Con mg) (T:RdC K R){fd1:FuncData} (MN:MC P w K mg base R "number_here" 3 ["self", "low", "high"] [] [] (lL R) f1 fd1):FnOk P w K mg base CX0 4 f fd ["self"] (tX R):=by
 obtain⟨t1,c1⟩:=Z.value
 refine F.ok (k:=3) A0 (λvs H Q E h=>?_) (λcdv A outer s H vs Q E hr h=>?_)
 ·obtain⟨r,lw,ws,pl,op,v,w,rfl,_⟩:=h
  rfl
 ·obtain⟨r,lw,ws,pl,op,v,w,rfl,h,hx,hl,hv,q⟩:=h
  have hu:=aK hr
  refine⟨_,(ah (ax (bF (pv 0) MN.cl MN.mt MN.ok (hr.mono (by decide)) MN.bd MN.dv au (aa (zo tI (bI (v:=.int 1000000000) (by rfl) c1 ⟨_,rfl⟩)) (aa (bI (v:=.int 1000000000) (by rfl) c1 ⟨_,rfl⟩) ac))))),?_⟩
  obtain⟨dx,ho⟩:=h.ob
  exact⟨_,rfl,r,dx,_,rfl,ho,bu _ _ _ ‹0› ‹0› ‹0›,_,rfl,r,lw,ws,pl,op,-1000000000,1000000000,v,w,rfl,h,hx,hl,hv,q⟩
theorem Ac:FnScope ["self", "earliest"] ["self", "earliest"] (aq uS):=‹2›
theorem yk {f f1 R:Addr}{fd:FuncData} (F:Fun K "day_here" "Reader.day_here" uS f fd) (N:Free mg) (Z:Con mg) (T:RdC K R){fd1:FuncData} (MN:MC P w K mg base R "number_here" 3 ["self", "low", "high"] [] [] (lL R) f1 fd1):FnOk P w K mg base CX0 4 f fd ["self", "earliest"] (jq R):=by
 obtain⟨t1,c1⟩:=Z.lastday
 refine F.ok (k:=3) Ac (λvs H Q E h=>?_) (λcdv A outer s H vs Q E hr h=>?_)
 ·obtain⟨r,lw,ws,pl,op,lo,v,w,rfl,_⟩:=h
  rfl
 ·obtain⟨r,lw,ws,pl,op,lo,v,w,rfl,h,hx,hl,hv,q⟩:=h
  have hu:=aK hr
  refine⟨_,(ah (ax (bF (pv 0) MN.cl MN.mt MN.ok (hr.mono (by decide)) MN.bd MN.dv au (aa (pv 1) (aa (bI (v:=.int 399) (by rfl) c1 ⟨_,rfl⟩) ac))))),?_⟩
  obtain⟨dx,ho⟩:=h.ob
  exact⟨_,rfl,r,dx,_,rfl,ho,bu _ _ _ ‹0› ‹0› ‹0›,_,rfl,r,lw,ws,pl,op,lo,399,v,w,rfl,h,hx,hl,hv,q⟩
noncomputable abbrev pF:Stmt:=aM (top 39) 8
noncomputable abbrev pB:Stmt:=aM (top 39) 9
noncomputable abbrev mj:Stmt:=aM (top 39) 10
noncomputable abbrev Ak:Stmt:=aM (top 39) 11
theorem Ap (lw:Addr) (pl op:Int):(eV lw pl op).lookup ("opened" : Str)=some (.int op):=by
 unfold eV
 rw [List.lookup_cons,show (("opened" : Str) == ("words" : Str))=false from ‹0›,List.lookup_cons,show (("opened" : Str) == ("place" : Str))=false from ‹0›]
 rfl
theorem qL (lw:Addr) (pl op op':Int):db "opened" (.int op') (eV lw pl op)=eV lw pl op':=by rfl
noncomputable def iU (R:Addr):Sp:=λvs H Q _=>∃(r lw:Addr) (ws:List Str) (pl:Nat) (op:Int),vs=[.ref r]/\RdAt R H r lw ws pl op/\ws[pl]?=some ‹"("›/\op < 3/\∀H',Ofr r H H'->RdAt R H' r lw ws (pl+1) (op+1)->Q .non H'
noncomputable def gR (R:Addr):Sp:=λvs H Q _=>∃(r lw:Addr) (ws:List Str) (pl:Nat) (op:Int),vs=[.ref r]/\RdAt R H r lw ws pl op/\ws[pl]?=some ‹")"›/\∀H',Ofr r H H'->RdAt R H' r lw ws (pl+1) (op - 1)->Q .non H'
noncomputable def zb (R:Addr):Sp:=λvs H Q _=>∃(r lw:Addr) (ws:List Str) (op:Int),vs=[.ref r]/\RdAt R H r lw ws ws.length op/\Q .non H
theorem xC:FnScope ["self"] ["self"] (aq pB):=‹2›
theorem vF {f f1 f2 R:Addr}{fd:FuncData} (F:Fun K "bracket_opens" "Reader.bracket_opens" pB f fd) (N:Free mg) (Z:Con mg) (T:RdC K R){fd1:FuncData} (MH:MC P w K mg base R "here" 1 ["self"] [] [] (gD R) f1 fd1){fd2:FuncData} (MG:MC P w K mg base R "go_on" 1 ["self", "can_stand"] [] [] (oS R) f2 fd2):FnOk P w K mg base CX0 2 f fd ["self"] (iU R):=by
 obtain⟨t1,c1⟩:=Z.opn
 refine F.ok (k:=1) xC (λvs H Q E h=>?_) (λcdv A outer s H vs Q E hr h=>?_)
 ·obtain⟨r,lw,ws,pl,op,rfl,_⟩:=h
  rfl
 ·obtain⟨r,lw,ws,pl,op,rfl,h,hx,h3,q⟩:=h
  have hu:=aK hr
  refine⟨_,(ae (bg (bF (pv 0) MG.cl MG.mt MG.ok (hr.mono (by decide)) MG.bd MG.dv au (aa (fR (cj bM (bp (pv 0) MH.cl MH.mt MH.ok (hr.mono (by decide)) MH.bd MH.dv au) aD (aP _)) (fQ (cj jD (aV (pv 0) rfl) (bI (v:=.int 3) (by rfl) c1 ⟨_,rfl⟩) (aP _)))) ac)))
   (ah (iu (pv 0) aj wp))),?_⟩
  obtain⟨dx,ho⟩:=h.ob
  refine af (be ⟨_,rfl,r,dx,_,rfl,ho,bu _ _ _ ‹0› ‹0› ‹0›,_,rfl,r,dx,_,rfl,ho,bu _ _ _ ‹0› ‹0› ‹0›,r,lw,ws,pl,op,_,rfl,h,hx,rfl,_,rfl,bb ?_⟩)
  refine⟨_,rfl,r,R,dx,_,_,rfl,ho,T.cl,T.n3,Ap _ _ _,_,_,rfl,rfl,?_⟩
  rw [decide_eq_true h3]
  refine⟨r,lw,ws,pl,op,rfl,h,λH1 o1 h1=>?_⟩
  obtain⟨dx1,ho1⟩:=h1.ob
  refine⟨_,rfl,r,R,dx1,_,_,rfl,ho1,T.cl,T.n3,Ap _ _ _,_,_,rfl,rfl,dx1,_,ho1,by show 3 < 1000;decide,?_⟩
  rw [qL]
  have hlr:lw≠r:=dw h1.wd ho1 (λz=>nomatch z)
  exact q _ (λb o e n=>by rw [ai n];exact o1 _ _ e n) ⟨⟨dx1,ar⟩,by rw [ai hlr];exact h1.wd⟩
theorem uw:FnScope ["self"] ["self"] (aq mj):=‹2›
theorem sG {f f1 f2 R:Addr}{fd:FuncData} (F:Fun K "bracket_closes" "Reader.bracket_closes" mj f fd) (N:Free mg) (T:RdC K R){fd1:FuncData} (MH:MC P w K mg base R "here" 1 ["self"] [] [] (gD R) f1 fd1){fd2:FuncData} (MG:MC P w K mg base R "go_on" 1 ["self", "can_stand"] [] [] (oS R) f2 fd2):FnOk P w K mg base CX0 2 f fd ["self"] (gR R):=by
 refine F.ok (k:=1) uw (λvs H Q E h=>?_) (λcdv A outer s H vs Q E hr h=>?_)
 ·obtain⟨r,lw,ws,pl,op,rfl,_⟩:=h
  rfl
 ·obtain⟨r,lw,ws,pl,op,rfl,h,hx,q⟩:=h
  have hu:=aK hr
  refine⟨_,(ae (bg (bF (pv 0) MG.cl MG.mt MG.ok (hr.mono (by decide)) MG.bd MG.dv au (aa (cj bM (bp (pv 0) MH.cl MH.mt MH.ok (hr.mono (by decide)) MH.bd MH.dv au) aD (aP _)) ac)))
   (ah (iu (pv 0) aj B7))),?_⟩
  obtain⟨dx,ho⟩:=h.ob
  refine af (be ⟨_,rfl,r,dx,_,rfl,ho,bu _ _ _ ‹0› ‹0› ‹0›,_,rfl,r,dx,_,rfl,ho,bu _ _ _ ‹0› ‹0› ‹0›,r,lw,ws,pl,op,_,rfl,h,hx,rfl,r,lw,ws,pl,op,rfl,h,λH1 o1 h1=>?_⟩)
  obtain⟨dx1,ho1⟩:=h1.ob
  refine⟨_,rfl,r,R,dx1,_,_,rfl,ho1,T.cl,T.n3,Ap _ _ _,_,_,rfl,rfl,dx1,_,ho1,by show 3 < 1000;decide,?_⟩
  rw [qL]
  have hlr:lw≠r:=dw h1.wd ho1 (λz=>nomatch z)
  exact q _ (λb o e n=>by rw [ai n];exact o1 _ _ e n) ⟨⟨dx1,ar⟩,by rw [ai hlr];exact h1.wd⟩
theorem sT {k:Str} (h:cH k dE 8=true):44∉k.cps.toList:=λz=>by
 unfold cH at h
 rw [Bool.and_eq_true,Bool.and_eq_true]at h
 have:=List.all_eq_true.mp h.2.2 44 z
 exact absurd this ‹0›
theorem oF:‹","› = (⟨#[44]⟩:Str):=‹0›
noncomputable def iV (R:Addr):Sp:=λvs H Q _=>∃(r lw:Addr) (ws:List Str) (pl:Nat) (op:Int) (ks:List Str),vs=[.ref r]/\RdAt R H r lw ws pl op/\ws[pl]?=some (Txt.join ‹","› ks)/\(Txt.join ‹","› ks).length<=sizeLine/\1<=ks.length/\ks.length<=8/\ks.Nodup/\(∀k∈ks,cH k dE 8=true/\k.length < sizeLine)/\∀(p:Addr) (H':Hp),H p=none->Ofr r H H'->H' p=some (.lst (ks.map V.str))->RdAt R H' r lw ws (pl+1) op->Q (.ref p) H'
theorem qK:FnScope ["self", "keys"] ["self"] (aq pF):=‹2›
theorem vI {f f1 f2 f3 R:Addr}{fd:FuncData} (F:Fun K "keys_here" "Reader.keys_here" pF f fd) (N:Free mg) (T:RdC K R){fd1:FuncData} (MH:MC P w K mg base R "here" 1 ["self"] [] [] (gD R) f1 fd1){fd2:FuncData} (MG:MC P w K mg base R "go_on" 1 ["self", "can_stand"] [] [] (oS R) f2 fd2){fd3:FuncData} (CK:Cal P w K mg base "are_keys" 3 ["thing"] kL f3 fd3):FnOk P w K mg base CX0 4 f fd ["self"] (iV R):=by
 refine F.ok (k:=3) qK (λvs H Q E h=>?_) (λcdv A outer s H vs Q E hr h=>?_)
 ·obtain⟨r,lw,ws,pl,op,ks,rfl,_⟩:=h
  rfl
 ·obtain⟨r,lw,ws,pl,op,ks,rfl,h,hx,hl,k1,k8,nd,hk,q⟩:=h
  have hu:=aK hr
  refine⟨_,(ae (ay (i:=1) qK.nd rfl (Or.inl rfl) (cM PySem.F.plainAttrs_str PySem.F.slot_str_split PySem.F.type_str_split nX (bp (pv 0) MH.cl MH.mt MH.ok (hr.mono (by decide)) MH.bd MH.dv au) (aa aD ac)))
   (ae (bg (bF (pv 0) MG.cl MG.mt MG.ok (hr.mono (by decide)) MG.bd MG.dv au (aa (av CK.ok (hr.mono (by decide)) rfl CK.nm CK.kp CK.bd .nil au (aa (pv 1) ac)) ac)))
   (ah (ax (pv 1))))),?_⟩
  obtain⟨dx,ho⟩:=h.ob
  have es:Txt.split (Txt.join ‹","› ks) ‹","›=ks:=by
   rw [oF]
   exact jk (λz=>by rw [z]at k1;cases k1) λw hw=>sT (hk w hw).1
  refine af (aw ⟨_,rfl,r,dx,_,rfl,ho,bu _ _ _ ‹0› ‹0› ‹0›,r,lw,ws,pl,op,_,rfl,h,hx,rfl,_,_,rfl,rfl,by rfl,hl,by rw [es];exact Nat.le_of_lt (bh ‹1›),λp np=>?_⟩)
  rw [es]
  obtain⟨g1,e1⟩:=laid (o:=.lst (ks.map V.str)) np
  walk_at "d"
  generalize upd H p _=H1 at g1 e1 ⊢
  have h1:=h.keep g1
  obtain⟨dx1,ho1⟩:=h1.ob
  have npr:p≠r:=λz=>by rw [z,ho]at np;cases np
  refine af (be ⟨_,rfl,r,dx1,_,rfl,ho1,bu _ _ _ ‹0› ‹0› ‹0›,_,rfl,p,ks,rfl,e1,k1,k8,nd,hk,λH2 g2=>⟨r,lw,ws,pl,op,rfl,h1.keep g2,λH3 o3 h3=>?_⟩⟩)
  exact aA ⟨_,rfl,q p H3 np (λb o e n=>o3 _ _ (g2 _ _ (g1 _ _ e)) n) (o3 _ _ (g2 _ _ e1) npr) h3⟩
theorem BE:FnScope ["self"] ["self"] (aq Ak):=‹2›
theorem AQ {f R:Addr}{fd:FuncData} (F:Fun K "check_end" "Reader.check_end" Ak f fd) (N:Free mg) (T:RdC K R):FnOk P w K mg base CX0 1 f fd ["self"] (zb R):=by
 refine F.ok (k:=0) BE (λvs H Q E h=>?_) (λcdv A outer s H vs Q E hr h=>?_)
 ·obtain⟨r,lw,ws,op,rfl,_⟩:=h
  rfl
 ·obtain⟨r,lw,ws,op,rfl,⟨⟨dx,ho⟩,hw⟩,q⟩:=h
  have hu:=aK hr
  refine⟨_,(ah (ba (aI jD (aV (pv 0) rfl) (aG aN (by rfl) N.len PySem.boot_len (aa (aV (pv 0) rfl) ac)) (aP _)) (ah hE) aF)),?_⟩
  have at0:SqL K H lw (ws.map V.str):=SqL.of hw
  refine aE ⟨_,rfl,r,R,dx,_,_,rfl,ho,T.cl,T.n2,xM _ _ _,_,rfl,r,R,dx,_,_,rfl,ho,T.cl,T.n1,An _ _ _,lw,_,rfl,.inl at0,_,_,rfl,rfl,_,rfl,?_⟩
  rw [List.length_map,decide_eq_false ‹1›]
  exact aS (aB q)
noncomputable abbrev pG:Stmt:=aM (top 39) 0
theorem mY:‹" "› = (⟨#[32]⟩:Str):=‹0›
theorem Aq (lw:Addr) (pl op:Int):db "opened" (.int op) (db "place" (.int pl) (db "words" (.ref lw) []))=eV lw pl op:=rfl
noncomputable def qF (R:Addr):Sp:=λvs H Q _=>∃(x dx:Addr) (ws:List Str),vs=[.ref x,.str (Txt.join ‹" "› ws)]/\H x=some (.ins R dx [])/\ws≠[]/\ws.length<=900/\(∀w∈ws,32∉w.cps.toList)/\(Txt.join ‹" "› ws).length<=sizeLine/\∀(lw:Addr) (H':Hp),H lw=none->(∀b o,H b=some o->b≠x->H' b=some o)->RdAt R H' x lw ws 0 0->Q .non H'
theorem xE:FnScope ["self", "text"] ["self", "text"] (aq pG):=‹2›
theorem vJ {f R:Addr}{fd:FuncData} (F:Fun K "__init__" "Reader.__init__" pG f fd) (N:Free mg) (T:RdC K R):FnOk P w K mg base CX0 1 f fd ["self", "text"] (qF R):=by
 refine F.ok (k:=0) xE (λvs H Q E h=>?_) (λcdv A outer s H vs Q E hr h=>?_)
 ·obtain⟨x,dx,ws,rfl,_⟩:=h
  rfl
 ·obtain⟨x,dx,ws,rfl,hx,hne,hl,hf,hs,q⟩:=h
  have hu:=aK hr
  refine⟨_,(ae (bw (pv 0) (cM PySem.F.plainAttrs_str PySem.F.slot_str_split PySem.F.type_str_split nX (pv 1) (aa aD ac)) rfl)
   (ae (bw (pv 0) aj rfl)
   (ah (bw (pv 0) aj rfl)))),?_⟩
  have es:Txt.split (Txt.join ‹" "› ws) ‹" "›=ws:=by
   rw [mY]
   exact jk hne hf
  refine af ⟨_,rfl,rfl,_,_,rfl,rfl,by rfl,hs,by rw [es];exact Nat.le_of_lt (bh ‹1›),λlw nlw=>?_⟩
  rw [es]
  obtain⟨g1,e1⟩:=laid (o:=.lst (ws.map V.str)) nlw
  have hx1:=g1 _ _ hx
  have hlx:lw≠x:=λz=>by rw [z,hx]at nlw;cases nlw
  generalize upd H lw _=H1 at g1 e1 hx1 ⊢
  refine⟨_,rfl,x,R,dx,_,rfl,hx1,T.cl,T.n1,(by show 0 < 1000;decide),?_⟩
  refine af ⟨_,rfl,x,R,dx,_,rfl,ar,T.cl,T.n2,(by show 1 < 1000;decide),?_⟩
  refine⟨_,rfl,x,R,dx,_,rfl,ar,T.cl,T.n3,(by show 2 < 1000;decide),?_⟩
  rw [bv,bv,Aq]
  exact q lw _ nlw (λb o e n=>by rw [ai n];exact g1 _ _ e) ⟨⟨dx,ar⟩,by rw [ai hlx];exact e1⟩
noncomputable abbrev Al:Stmt:=aM (top 39) 3
noncomputable abbrev iQ:List Str:=[‹"number"›, ‹"value"›, ‹"since"›, ‹"part"›, ‹"change"›]
noncomputable abbrev fK:List Str:=[‹"sum"›, ‹"count"›, ‹"least"›, ‹"greatest"›]
noncomputable abbrev bA:List Str:=[‹"plus"›, ‹"minus"›]
noncomputable abbrev eF:List Str:=[‹"less"›, ‹"same"›]
structure ConT (K:PySem.W.Frag) (mg:Str->Option Value):Prop where
 sgl:∃a,mg "SINGLE" = some (.ref a)/\∀H,SqT K H a (iQ.map V.str)
 gth:∃a,mg "GATHERING" = some (.ref a)/\∀H,SqT K H a (fK.map V.str)
 rck:∃a,mg "RECKONING" = some (.ref a)/\∀H,SqT K H a (bA.map V.str)
 chc:∃a,mg "CHOICE" = some (.ref a)/\∀H,SqT K H a (eF.map V.str)
noncomputable def qH (R:Addr):Sp:=λvs H Q _=>∃(r lw:Addr) (ws:List Str) (pl:Nat) (op:Int) (w:Str),vs=[.ref r]/\RdAt R H r lw ws pl op/\ws[pl]?=some w/\(w∈iQ\/w∈fK\/w∈bA\/w∈eF)/\∀H',Ofr r H H'->RdAt R H' r lw ws (pl+1) op->Q (.str w) H'
theorem bt (xs:List Str):(xs.map V.str).all ii=true:=by
 rw [List.all_map,List.all_eq_true];intro _ _;rfl
theorem zh:FnScope ["self", "word"] ["self"] (aq Al):=‹2›
theorem AR {f f1 f2 R:Addr}{fd:FuncData} (F:Fun K "beginning_here" "Reader.beginning_here" Al f fd) (N:Free mg) (ZT:ConT K mg) (T:RdC K R){fd1:FuncData} (MH:MC P w K mg base R "here" 1 ["self"] [] [] (gD R) f1 fd1){fd2:FuncData} (MG:MC P w K mg base R "go_on" 1 ["self", "can_stand"] [] [] (oS R) f2 fd2):FnOk P w K mg base CX0 2 f fd ["self"] (qH R):=by
 obtain⟨a1,c1,q1⟩:=ZT.sgl
 obtain⟨a2,c2,q2⟩:=ZT.gth
 obtain⟨a3,c3,q3⟩:=ZT.rck
 obtain⟨a4,c4,q4⟩:=ZT.chc
 refine F.ok (k:=1) zh (λvs H Q E h=>?_) (λcdv A outer s H vs Q E hr h=>?_)
 ·obtain⟨r,lw,ws,pl,op,w,rfl,_⟩:=h
  rfl
 ·obtain⟨r,lw,ws,pl,op,w,rfl,h,hx,hw,q⟩:=h
  have hu:=aK hr
  refine⟨_,(ae (ay (i:=1) zh.nd rfl (Or.inl rfl) (bp (pv 0) MH.cl MH.mt MH.ok (hr.mono (by decide)) MH.bd MH.dv au))
   (ae (bg (bF (pv 0) MG.cl MG.mt MG.ok (hr.mono (by decide)) MG.bd MG.dv au (aa (vf (cj cD (pv 1) (bI (v:=.ref a1) (by rfl) c1 rfl) (by with_unfolding_all rfl)) (vf (cj cD (pv 1) (bI (v:=.ref a2) (by rfl) c2 rfl) (by with_unfolding_all rfl)) (vf (cj cD (pv 1) (bI (v:=.ref a3) (by rfl) c3 rfl) (by with_unfolding_all rfl)) (fQ (cj cD (pv 1) (bI (v:=.ref a4) (by rfl) c4 rfl) (by with_unfolding_all rfl)))))) ac)))
   (ah (ax (pv 1))))),?_⟩
  obtain⟨dx,ho⟩:=h.ob
  refine af (aw ⟨_,rfl,r,dx,_,rfl,ho,bu _ _ _ ‹0› ‹0› ‹0›,r,lw,ws,pl,op,w,rfl,h,hx,?_⟩)
  walk_at "d"
  refine af (be ⟨_,rfl,r,dx,_,rfl,ho,bu _ _ _ ‹0› ‹0› ‹0›,_,rfl,a1,_,rfl,.inr (q1 _),rfl,bt _,?_⟩)
  rw [if_neg Bool.false_ne_true,bL]
  refine⟨_,rfl,?_⟩
  by_cases z1:w∈iQ
  ·rw [decide_eq_true z1]
   refine bb ?_
   exact⟨r,lw,ws,pl,op,rfl,h,λH1 o1 h1=>aA ⟨_,rfl,q H1 o1 h1⟩⟩
  rw [decide_eq_false z1]
  refine aS ⟨_,rfl,a2,_,rfl,.inr (q2 _),rfl,bt _,?_⟩
  rw [if_neg Bool.false_ne_true,bL]
  refine⟨_,rfl,?_⟩
  by_cases z2:w∈fK
  ·rw [decide_eq_true z2]
   refine bb ?_
   exact⟨r,lw,ws,pl,op,rfl,h,λH1 o1 h1=>aA ⟨_,rfl,q H1 o1 h1⟩⟩
  rw [decide_eq_false z2]
  refine aS ⟨_,rfl,a3,_,rfl,.inr (q3 _),rfl,bt _,?_⟩
  rw [if_neg Bool.false_ne_true,bL]
  refine⟨_,rfl,?_⟩
  by_cases z3:w∈bA
  ·rw [decide_eq_true z3]
   refine bb ?_
   exact⟨r,lw,ws,pl,op,rfl,h,λH1 o1 h1=>aA ⟨_,rfl,q H1 o1 h1⟩⟩
  rw [decide_eq_false z3]
  have z4:w∈eF:=((hw.resolve_left z1).resolve_left z2).resolve_left z3
  refine aS ⟨_,rfl,a4,_,rfl,.inr (q4 _),rfl,bt _,?_⟩
  rw [if_neg Bool.false_ne_true,bL,decide_eq_true z4]
  exact⟨r,lw,ws,pl,op,rfl,h,λH1 o1 h1=>aA ⟨_,rfl,q H1 o1 h1⟩⟩
end Mine
namespace L2
open PySem PySem.Spec PyProof.Rows
theorem dD {X:Cx}{CX:CXT}{cn m:Str}{C f:Addr}{mc:Value}{k:Nat}{fd:FuncData}{ps:List Str}{sp:Sp}{ds:List Value}{dvs:List V}{E:XK}{e:Expr}{es:List Expr}{t:TA}{p apos pos:Pos}{pl:Sem Bool} (hg:Gl X cn) (hmg:X.mg cn=some (.ref C))
  (h1:PySem.W.specialIn X.K (.ref C) "__getattribute__" = some (some (.builtin "type.__getattribute__"))) (h2:PySem.W.readsIn X.K C mc=true) (h3:PySem.W.findCls X.K (.ref C) mc m=some (.val (.ref f))) (h4:PySem.W.handedIn (.ref f)=true)
  (F:FnOk X.prog X.w X.K X.mg X.base CX k f fd ps sp) (hr:Room k X.A) (hk:PySem.W.keepIn X.K (.ref f)=true) (hb:bE X.K fd ps ds) (hd:aW dvs ds) (hx:eC CX X E) (ha:PA X (e::es) t)
  (hst:starEach (e::es) X.env=(false,eval e X.env)::starEach es X.env:=by rfl) (hpl:(backTo pos (starEach es X.env)).any (·.1)=false:=by rfl)
  (ht:eval (.Call (.Attribute (.Name cn p) m apos) (e::es) [] pos) X.env=(do
   let ov <- eval (.Name cn p) X.env
   standAt apos.atName
   let (f,first) <- holding [ov] (getMethod ov m pl)
   callWith pos f first (backTo pos (starEach (e::es) X.env)) (backToKw pos (keywordEach [] X.env))):=by rfl)
  (hdb:(cn == ("__debug__" : Str))=false:=by decide):PE X (.Call (.Attribute (.Name cn p) m apos) (e::es) [] pos) (kH sp dvs E t):=by
 intro pins s σ H Q I h
 refine PySem.W.methodCall_KW (pl:=pl) (j7 I hg hmg ?_ hdb) ht
 refine PySem.W.method_cls I.kIn h1 (PySem.W.cls_value I.kIn h2 h3 h4 ?_)
 refine PySem.W.callWith_K (first:=[]) (h₀:=X.base) I.ok.mod.kin hk (thn (ha pos pins _ σ H _ (I.tok (s.toks+1)) h) λus s2 ⟨vs,H2,I2,r,q2⟩=>⟨I2.kIn,?_⟩) hst hpl
 exact ir F hr hb hd hx I2 r q2
end L2
namespace Mine
open PySem L2
variable {P:Program}{w:World}{K:W.Frag}{mg:Str->Option Value}{base:Heap}
noncomputable abbrev pH:Stmt:=aM (top 17) 0
noncomputable def cK:List Str:=[‹"written"›, ‹"names"›, ‹"levels"›, ‹"number"›, ‹"key"›, ‹"day"›, ‹"word"›, ‹"first"›, ‹"last"›, ‹"bound"›, ‹"one"›, ‹"other"›, ‹"rank"›, ‹"inner"›]
structure QuC (K:PySem.W.Frag) (C:Addr):Prop where
 cl:Cls K C
 no:∀f∈cK,NoAttr K C f
theorem QuC.a_written {K:W.Frag}{C:Addr} (T:QuC K C):NoAttr K C "written":=T.no _ ‹0›
theorem QuC.a_names {K:W.Frag}{C:Addr} (T:QuC K C):NoAttr K C "names":=T.no _ ‹0›
theorem QuC.a_levels {K:W.Frag}{C:Addr} (T:QuC K C):NoAttr K C "levels":=T.no _ ‹0›
theorem QuC.a_number {K:W.Frag}{C:Addr} (T:QuC K C):NoAttr K C "number":=T.no _ ‹0›
theorem QuC.a_key {K:W.Frag}{C:Addr} (T:QuC K C):NoAttr K C "key":=T.no _ ‹0›
theorem QuC.a_day {K:W.Frag}{C:Addr} (T:QuC K C):NoAttr K C "day":=T.no _ ‹0›
theorem QuC.a_word {K:W.Frag}{C:Addr} (T:QuC K C):NoAttr K C "word":=T.no _ ‹0›
theorem QuC.a_first {K:W.Frag}{C:Addr} (T:QuC K C):NoAttr K C "first":=T.no _ ‹0›
theorem QuC.a_last {K:W.Frag}{C:Addr} (T:QuC K C):NoAttr K C "last":=T.no _ ‹0›
theorem QuC.a_bound {K:W.Frag}{C:Addr} (T:QuC K C):NoAttr K C "bound":=T.no _ ‹0›
theorem QuC.a_one {K:W.Frag}{C:Addr} (T:QuC K C):NoAttr K C "one":=T.no _ ‹0›
theorem QuC.a_other {K:W.Frag}{C:Addr} (T:QuC K C):NoAttr K C "other":=T.no _ ‹0›
theorem QuC.a_rank {K:W.Frag}{C:Addr} (T:QuC K C):NoAttr K C "rank":=T.no _ ‹0›
theorem QuC.a_inner {K:W.Frag}{C:Addr} (T:QuC K C):NoAttr K C "inner":=T.no _ ‹0›
noncomputable def bP (K:PySem.W.Frag):Sp:=λvs H Q _=>∃(x C dx lw lk:Addr) (fs:List (Str × V)) (ws ks:List Str) (d:Int),vs=[.ref x,.ref lw,.ref lk,.int d]/\QuC K C/\H x=some (.ins C dx fs)/\fs.length < 100/\H lw=some (.lst (ws.map V.str))/\SqL K H lk (ks.map V.str)/\ks.length<=900/\(ws.map (·.length)).sum+ws.length * ‹" "›.length<=16777216/\
 ∀(ln:Addr) (H':Hp),H ln=none->(∀b o,H b=some o->b≠x->H' b=some o)->H' ln=some (.lst ((aY ks).map V.str))->H' x=some (.ins C dx (db "levels" (.int d) (db "names" (.ref ln) (db "written" (.str (Txt.join ‹" "› ws)) fs))))->Q .non H'
theorem xo {K:W.Frag}{H:Hp}{a x C dx:Addr}{xs:List V}{fs fs':List (Str × V)} (h:SqL K H a xs) (hx:H x=some (.ins C dx fs)):SqL K (upd H x (.ins C dx fs')) a xs:=by
 rcases h with(e | ⟨u,e⟩) | e
 ·exact .inl (.inl (by rw [ai (dw e hx (λz=>nomatch z))];exact e))
 ·exact .inl (.inr ⟨u,by rw [ai (dw e hx (λz=>nomatch z))];exact e⟩)
 ·exact .inr e
theorem xF:FnScope ["self", "words", "keys", "depth"] ["self", "words", "keys", "depth"] (aq pH):=‹2›
theorem vK {f f1:Addr}{fd:FuncData} (F:Fun K "__init__" "Question.__init__" pH f fd) (N:Free mg){fd1:FuncData} (CO:Cal P w K mg base "each_once" 1 ["keys"] (u3 K) f1 fd1):FnOk P w K mg base CX0 2 f fd ["self", "words", "keys", "depth"] (bP K):=by
 refine F.ok (k:=1) xF (λvs H Q E h=>?_) (λcdv A outer s H vs Q E hr h=>?_)
 ·obtain⟨x,C,dx,lw,lk,fs,ws,ks,d,rfl,_⟩:=h
  rfl
 ·obtain⟨x,C,dx,lw,lk,fs,ws,ks,d,rfl,T,hx,hfs,hlw,hlk,hks,hsum,q⟩:=h
  have hu:=aK hr
  refine⟨_,(ae (bw (pv 0) (cM PySem.F.plainAttrs_str PySem.F.slot_str_join PySem.F.type_str_join gq aD (aa (pv 1) ac)) rfl)
   (ae (bw (pv 0) (av CO.ok (hr.mono (by decide)) rfl CO.nm CO.kp CO.bd .nil au (aa (pv 2) ac)) rfl)
   (ah (bw (pv 0) (pv 3) rfl)))),?_⟩
  refine af ⟨rfl,_,rfl,_,lw,ws,rfl,rfl,hlw,hsum,_,rfl,x,C,dx,_,rfl,hx,T.cl,T.a_written,by omega,?_⟩
  dsimp only
  have l1:=eK "written" (.str (Txt.join ‹" "› ws)) fs
  refine af ⟨_,rfl,lk,ks,rfl,xo hlk hx,hks,λln nln=>?_⟩
  have nlx:ln≠x:=λz=>by rw [z,ar]at nln;cases nln
  have nl0:H ln=none:=by rw [ai nlx]at nln;exact nln
  have l2:=eK "names" (.ref ln) (db "written" (.str (Txt.join ‹" "› ws)) fs)
  refine⟨_,rfl,x,C,dx,db "written" (.str (Txt.join ‹" "› ws)) fs,rfl,by rw [ai (Ne.symm nlx),ar],T.cl,T.a_names,by omega,?_⟩
  dsimp only
  refine⟨_,rfl,_,rfl,x,C,dx,_,rfl,ar,T.cl,T.a_levels,by omega,?_⟩
  refine q ln _ nl0 (λb o e n=>?_) ?_ ar
  ·rw [ai n,ai n,ai (ao e nl0),ai n];exact e
  ·rw [ai nlx,ai nlx,ar]
end Mine
namespace L2
open PySem PySem.Spec PyProof.Rows
theorem yP:∀{ns:List Int}{us:List Value},aW (ns.map V.int) us->∃xs:List (Int × Tok),us=xs.map (λp=>Value.int p.1 p.2)/\xs.map (·.1)=ns
 | [],_,r=>by
  cases r
  exact⟨[],rfl,rfl⟩
 | n::ns,_,r=>by
  cases r with
  | cons a t=>
   obtain⟨tk,rfl⟩:=a
   obtain⟨xs,rfl,rfl⟩:=yP t
   exact⟨(n,tk)::xs,rfl,rfl⟩
section
variable {X:Cx}
theorem j9 {pins:List (Addr × Obj)}{σ:St}{H:Hp}{s:Shared}{a:Addr}{ns:List Int} (I:Inv X pins σ H s) (hS:SqL X.K H a (ns.map V.int)):∃ys:Array (Int × Tok),s.heap.IsList a (intItems ys)/\ys.toList.map (·.1)=ns:=by
 obtain⟨its,rv,p,hz⟩:=I.list hS
 obtain⟨ys,rfl,e⟩:=yP rv
 refine⟨ys.toArray,?_,e⟩
 have h:=p.isList
 rw [<- List.map_toArray]at h
 exact h
theorem jH {ys:Array (Int × Tok)}{ns:List Int} (e:ys.toList.map (·.1)=ns):ys.size=ns.length:=by rw [<- e,List.length_map,Array.length_toList]
inductive rMaxL (K:PySem.W.Frag) (xs:List V) (H:Hp) (Q:VK):Prop
 | mk (a:Addr) (ns:List Int) (h1:xs=[.ref a]) (h2:SqL K H a (ns.map V.int)) (h3:ns≠[]) (h4:∀M,M∈ns->(∀x∈ns,x<=M)->Q (.int M) H):rMaxL K xs H Q
theorem sX (hc:X.calm=true):cW X (.builtin "max") (rMaxL X.K):=by
 intro pins s σ H xs us Q I r h
 obtain⟨a,ns,rfl,hS,hne,q⟩:=h
 obtain⟨u,rfl,ru⟩:=cB r
 cases (show u=Value.ref a from ru)
 obtain⟨ys,hl,e⟩:=j9 I hS
 have hn:=List.length_pos_iff.mpr hne
 have hy:=jH e
 refine max_intList (I.ok.hd hc) hl ‹1› λv h' tk hv hk=>?_
 obtain⟨t,rfl⟩:=intItems_at hv
 obtain⟨h1,h2⟩:=argBest_gt (numAt ys) (ys.size - 1)
 refine⟨.int _,H,I.kept hk,⟨_,rfl⟩,q _ ?_ λx hx=>?_⟩
 ·rw [numAt_eq,e];exact getD_mem ‹1›
 ·obtain⟨j,hj,rfl⟩:=mem_getD hx
  have:=h2 j ‹1›
  rw [numAt_eq,e]at this
  exact this
inductive rStrA (xs:List V) (H:Hp) (Q:VK):Prop
 | int (i:Int) (h1:xs=[.int i]) (h2:i.natAbs.log2 < 1920) (h3:Q (.str (Str.ofString (toString i))) H):rStrA xs H Q
 | str (x:Str) (h1:xs=[.str x]) (h3:Q (.str x) H):rStrA xs H Q
theorem sV:cW X (.type "str") rStrA:=by
 intro pins s σ H xs us Q I r h
 rcases h with⟨i,rfl,hz,q⟩ | ⟨x,rfl,q⟩
 ·obtain⟨u,rfl,t,rfl⟩:=cB r
  exact PySem.P.str_of_int hz ⟨.str _,H,I.tok _,⟨_,rfl⟩,q⟩
 ·obtain⟨u,rfl,t,rfl⟩:=cB r
  exact PySem.P.str_of_str ⟨.str x,H,I,⟨t,rfl⟩,q⟩
end
structure MV (P:Program) (w:World) (K:PySem.W.Frag) (mg:Str->Option Value) (base:Heap) (CX:CXT) (m:Str) (k:Nat) (ps:List Str) (sp:Sp) (C:Addr):Prop where
 cl:Cls K C
 ex:∃f fd,Meth K C m f/\FnOk P w K mg base CX k f fd ps sp/\bE K fd ps []
noncomputable def zP (V:Addr->Prop) (m:Str) (sp:Sp) (E:XK) (ta:TE) (t:TA):TE:=λσ H Q=>ta σ H λx H1=>∃a C dx fs,x=.ref a/\H1 a=some (.ins C dx fs)/\V C/\fs.lookup m=none/\
 t σ H1 λvs H2=>sp (x::vs) H2 Q E
section
variable {X:Cx}{CX:CXT}{k:Nat}{ps:List Str}{sp:Sp}{E:XK}{m:Str}{pos apos:Pos}{e o:Expr}{es:List Expr}{ta:TE}{t:TA}
theorem iw {V:Addr->Prop}{pl:Sem Bool} (hV:∀C,V C->MV X.prog X.w X.K X.mg X.base CX m k ps sp C) (he:PE X o ta) (hr:Room k X.A) (hx:eC CX X E)
  (ht:eval (.Call (.Attribute o m apos) [] [] pos) X.env=(do
   let ov <- eval o X.env
   standAt apos.atName
   let (f,first) <- holding [ov] (getMethod ov m pl)
   callWith pos f first (backTo pos (starEach [] X.env)) (backToKw pos (keywordEach [] X.env))):=by rfl) :
  PE X (.Call (.Attribute o m apos) [] [] pos) (zP V m sp E ta gC):=by
 intro pins s σ H Q I h
 refine PySem.W.methodCall_KW (pl:=pl) (thn (he pins s σ H _ I h) λu s1 ⟨x,H1,I1,rx,a,C,dx,fs,ex,ea,vc,l,q⟩=>?_) ht
 obtain⟨c,f,fd,hm,F,hb⟩:=hV C vc
 subst ex
 obtain rfl:u=Value.ref a:=rx
 refine fq I1 ea c hm l ?_
 exact PySem.W.callWith_K0 (first:=[.ref a]) I1.kIn hm.kp (ir (us:=[.ref a]) (vs:=[.ref a]) (dvs:=[]) F hr hb .nil hx I1 (.cons rfl .nil) q)
end
section
variable {X:Cx}{T:String}{name:Str}{id:String}{r:V->List V->Hp->VK->Prop}{o e:Expr}{es:List Expr}{to:TE}{t:TA}{apos cpos:Pos}
theorem AE {K:W.Frag} (hK:X.K=K) (pa:PlainAttrs T) (slot:Slot T name id) (hty:typeOf (.builtin id)=pure (.type "method_descriptor")) (hm:MtR X id r) (ho:PE X o to) (ha:PA X (e::es) t)
  (hbase:attributeBase o name X.env (eval o X.env)=eval o X.env:=by rfl)
  (hfew:((backTo cpos (starEach (e::es) X.env)).all (λx=>!x.1) && (backToKw cpos (keywordEach [] X.env)).all (λx=>x.1.isSome)
   && decide ((e::es).length+([]:List Keyword).length+(if ([]:List Keyword).isEmpty then 0 else 1) < 30))=true:=by rfl)
  (hline:(apos.endLine == cpos.line)=true:=by rfl) (hs:starEach (e::es) X.env=(false,eval e X.env)::starEach es X.env:=by rfl) (hplain:(backTo cpos (starEach es X.env)).any (·.1)=false:=by rfl) :
  PE X (.Call (.Attribute o name apos) (e::es) [] cpos) (tBM K T r to t):=by
 subst hK
 exact cM pa slot hty hm ho ha hbase hfew hline hs hplain
end
noncomputable def rIs (K:PySem.W.Frag):List V->Hp->VK->Prop:=λxs H Q=>∃x n t b,xs=[x,.ty n]/\TyOf K H x t/\PySem.W.kitOne K t (.type n)=some b/\Q (.bl b) H
theorem FnOk.ex {P:Program}{w:World}{K:W.Frag}{mg:Str->Option Value}{base:Heap}{CX:CXT}{k:Nat}{f:Addr}{fd:FuncData}{ps:List Str}{sp:Nat->Sp}{N:Nat} (h:∀n,n<=N->FnOk P w K mg base CX k f fd ps (sp n)):FnOk P w K mg base CX k f fd ps (λvs H Q E=>∃n,n<=N/\sp n vs H Q E):=
 ⟨λvs H Q E ⟨n,hn,q⟩=>(h n hn).len vs H Q E q,λA outer s H args us vs Q E hr he hb hv ⟨n,hn,q⟩=>(h n hn).run A outer s H args us vs Q E hr he hb hv q⟩
theorem FnOk.no {P:Program}{w:World}{K:W.Frag}{mg:Str->Option Value}{base:Heap}{CX:CXT}{k:Nat}{f:Addr}{fd:FuncData}{ps:List Str}{sp:Sp} (h:∀vs H Q E,¬sp vs H Q E):FnOk P w K mg base CX k f fd ps sp:=
 ⟨λvs H Q E q=>absurd q (h vs H Q E),λA outer s H args us vs Q E hr he hb hv q=>absurd q (h vs H Q E)⟩
structure CMc (P:Program) (w:World) (K:PySem.W.Frag) (mg:Str->Option Value) (base:Heap) (cn m:Str) (k:Nat) (ps:List Str) (sp:Sp) (C f:Addr) (fd:FuncData) (mc:Value):Prop where
 nm:mg cn=some (.ref C)
 h1:PySem.W.specialIn K (.ref C) "__getattribute__" = some (some (.builtin "type.__getattribute__"))
 h2:PySem.W.readsIn K C mc=true
 h3:PySem.W.findCls K (.ref C) mc m=some (.val (.ref f))
 ok:FnOk P w K mg base CX0 k f fd ps sp
 kp:PySem.W.keepIn K (.ref f)=true
 bd:bE K fd ps []
theorem wK {K:W.Frag}{a D:Addr}{xs:List V}{σ:St}{sub:List Nat}{tt:TT}{te:TE}{Q:VK}{H:Hp} (Pv:Nat->List V->Hp->Prop) (h0:Pv 0 [] (upd H D (.lst []))) (hl:∀i ys H,i<=xs.length->Pv i ys H->SqT K H a xs)
  (hs:∀i x ys H,xs[i]?=some x->Pv i ys H->tt (some x::bG sub σ) H λb H4=>if b=true then te (some x::bG sub σ) H4 λy H5=>H5 D=some (.lst ys)/\ys.length < sizeLine/\Pv (i+1) (ys++[y]) (upd H5 D (.lst (ys++[y]))) else Pv (i+1) ys H4)
  (hd:∀ys H,Pv xs.length ys H->Q (.ref D) H) :
  ∃W:Nat->Nat->List V->Hp->Prop,(∃m,W 0 m [] (upd H D (.lst [])))/\∀i m ys H2,W i m ys H2->
   ((Itt K a).stop i H2/\Q (.ref D) H2)\/((Itt K a).go i H2/\∃N:List V->Hp->Prop,(∀ys' H',N ys' H'->∃m',m' < m/\W (i+1) m' ys' H')/\∀v H3,(Itt K a).yld i H2 v H3->tt (some v::bG sub σ) H3 λb H4=>if b=true then
    te (some v::bG sub σ) H4 λy H5=>H5 D=some (.lst ys)/\ys.length < sizeLine/\N (ys++[y]) (upd H5 D (.lst (ys++[y])))
    else N ys H4):=by
 refine⟨λi m ys H=>m=xs.length - i/\i<=xs.length/\Pv i ys H,⟨xs.length,rfl,Nat.zero_le _,h0⟩,?_⟩
 rintro i m ys H ⟨rfl,hi,p⟩
 have q:=hl i ys H hi p
 by_cases hlt:i < xs.length
 ·refine .inr ⟨⟨xs,xs[i],q,by simp [hlt]⟩,Pv (i+1),λys' H' p'=>⟨xs.length - (i+1),by omega,rfl,hlt,p'⟩,λx H' y=>?_⟩
  obtain⟨e,y⟩:=y
  subst e
  exact hs i x ys _ (y xs q) p
 ·have e:i=xs.length:=by omega
  subst e
  exact .inl ⟨⟨xs,q,Nat.le_refl _⟩,hd ys H p⟩
theorem qp {K:W.Frag}{ta:Addr}{xs:List V}{sub:List Nat}{te:TE}{σ:St}{Q:VK}{H:Hp} (g:V->V) (hn:xs.length < 1000) (ha:H ta=some (.tup xs)) (hte:∀(x:V) (H2:Hp) (R:VK),x∈xs->(∀b o,H b=some o->H2 b=some o)->R (g x) H2->te (some x::bG sub σ) H2 R)
  (hq:∀(D:Addr),H D=none->Q (.ref D) (upd H D (.lst (xs.map g)))):gb (Itt K ta) sub (λ_ H Q=>Q true H) te σ Q H:=by
 intro D nD
 have nl:ta≠D:=ao ha nD
 refine wK (K:=K) (a:=ta) (xs:=xs) (sub:=sub) (tt:=λ_ H Q=>Q true H) (te:=te) (Q:=Q) (σ:=σ) (λi ys H2=>ys=(xs.take i).map g/\H2=upd H D (.lst ys)) ⟨by rw [List.take_zero];rfl,rfl⟩ (λi ys H2 _ hh=>?_) (λi x ys H2 hi hh=>?_) λys H2 hh=>?_
 ·obtain⟨_,rfl⟩:=hh
  exact SqT.of (by rw [ai nl];exact ha)
 ·obtain⟨rfl,rfl⟩:=hh
  refine bb (hte x _ _ (List.mem_of_getElem? hi) (λb o e=>by rw [ai (ao e nD)];exact e) ⟨ar,?_,?_,bv⟩)
  ·rw [List.length_map,List.length_take];exact bh ‹1›
  ·rw [List.take_add_one,hi,List.map_append];rfl
 ·obtain⟨rfl,rfl⟩:=hh
  rw [List.take_length]
  exact hq D nD
end L2
namespace Mine
open PySem L2
variable {P:Program}{w:World}{K:W.Frag}{mg:Str->Option Value}{base:Heap}
open PySem.W PySem.W.KIN PySem.NumText
noncomputable abbrev si (i:Int):Str:=Str.ofString (toString i)
theorem jd (m:Nat):AllDigits ((Nat.toDigits 10 m).map Char.toNat):=λc hc=>by
 obtain⟨ch,hch,e⟩:=List.mem_map.mp hc
 rw [<- e]
 exact PyProof.Rows.digit_range (Nat.isDigit_of_mem_toDigits (by decide) (by decide) hch)
theorem ql (m:Nat):(Nat.toDigits 10 m).map Char.toNat≠[]:=λe=>by
 have h:=Nat.length_toDigits_pos (b:=10) (n:=m)
 rw [List.map_eq_nil_iff.mp e]at h
 exact absurd h (by decide)
theorem rn {m:Nat} (h:m < 10 ^ 10):((Nat.toDigits 10 m).map Char.toNat).length<=10:=by
 have:=KT.len_num (n:=(m:Int)) ‹1› ‹1›
 rw [cN,ge]at this
 exact this
theorem Bf {c:Nat} (h:48<=c/\c<=57):inZ ij c=true:=by
 rcases (show c=48\/c=49\/c=50\/c=51\/c=52\/c=53\/c=54\/c=55\/c=56\/c=57 by omega) with rfl | rfl | rfl | rfl | rfl | rfl | rfl | rfl | rfl | rfl <;> decide +kernel
theorem lU {z:Int} (h0 : -1000000000<=z) (h1:z<=1000000000):figs (si z)=(Nat.toDigits 10 z.natAbs).map Char.toNat/\bV (si z)=z/\((si z).cps.toList=(Nat.toDigits 10 z.natAbs).map Char.toNat\/(si z).cps.toList=45::(Nat.toDigits 10 z.natAbs).map Char.toNat):=by
 by_cases hz:0<=z
 ·obtain⟨m,rfl⟩:=Int.eq_ofNat_of_zero_le hz
  have e:=ge m
  have hn:jI (si (m:Int))=false:=by
   unfold jI
   rw [e]
   cases hd:(Nat.toDigits 10 m).map Char.toNat with
   | nil=>exact absurd hd (ql m)
   | cons c r=>
    have:=jd m c (by rw [hd];exact List.mem_cons_self)
    refine decide_eq_false λz=>?_
    have:c=45:=Option.some.inj z
    omega
  have ef:figs (si (m:Int))=(Nat.toDigits 10 m).map Char.toNat:=by unfold figs;rw [hn,<- e];rfl
  refine⟨ef,?_,.inl e⟩
  unfold bV
  rw [hn,ef,val_back]
  rfl
 ·obtain⟨m,rfl⟩:∃m:Nat,z = -(m:Int):=⟨z.natAbs,by omega⟩
  have hm:0 < m:=by omega
  have e:=gF m hm
  have hn:jI (si (-(m:Int)))=true:=by
   unfold jI
   rw [e]
   rfl
  have ea:(-(m:Int)).natAbs=m:=by omega
  have ef:figs (si (-(m:Int)))=(Nat.toDigits 10 m).map Char.toNat:=by unfold figs;rw [hn,e];rfl
  rw [ea]
  refine⟨ef,?_,.inr e⟩
  unfold bV
  rw [hn,ef,val_back]
  rfl
theorem xq {z:Int} (h0 : -1000000000<=z) (h1:z<=1000000000):gA (si z)=true:=by
 obtain⟨ef,_,_⟩:=lU h0 h1
 have hl:=rn (m:=z.natAbs) ‹1›
 have hp:=List.length_pos_iff.mpr (ql z.natAbs)
 unfold gA cH
 rw [jQ,ef,decide_eq_true ‹1›,decide_eq_true ‹1›,Bool.true_and,Bool.true_and]
 show ((figs (si z)).toArray.toList.all (inZ ij))=true
 rw [List.toList_toArray,ef]
 exact List.all_eq_true.mpr λc hc=>Bf (jd _ c hc)
theorem dk {z lo hi:Int} (h0 : -1000000000<=z) (h1:z<=1000000000) (h2:lo<=z) (h3:z<=hi):i0 (si z) lo hi=.int z:=by
 obtain⟨_,ev,_⟩:=lU h0 h1
 unfold i0
 rw [ev,if_pos ⟨⟨xq h0 h1,rfl⟩,h2,h3⟩]
def Sgn (c:Nat):Prop:=c=44\/c=45\/(48<=c/\c<=57)\/(97<=c/\c<=122)
structure Wd (w:Str):Prop where
 lo:1<=w.length
 hi:w.length<=79
 sg:∀c∈w.cps.toList,Sgn c
theorem cV {z:Int} (h0 : -1000000000<=z) (h1:z<=1000000000):Wd (si z):=by
 obtain⟨_,_,e⟩:=lU h0 h1
 have hl:=rn (m:=z.natAbs) ‹1›
 have hp:=List.length_pos_iff.mpr (ql z.natAbs)
 rcases e with e | e
 ·refine⟨by rw [cN,e];omega,by rw [cN,e];omega,λc hc=>?_⟩
  rw [e]at hc
  exact .inr (.inr (.inl (jd _ c hc)))
 ·refine⟨by rw [cN,e,List.length_cons];omega,by rw [cN,e,List.length_cons];omega,λc hc=>?_⟩
  rw [e]at hc
  rcases List.mem_cons.mp hc with z | hc
  ·exact .inr (.inl z)
  ·exact .inr (.inr (.inl (jd _ c hc)))
theorem AW:∀c∈dE.cps.toList,97<=c/\c<=122:=‹0›
theorem kS {k:Str} (h:cH k dE 8=true):1<=k.length/\k.length<=8/\∀c∈k.cps.toList,97<=c/\c<=122:=by
 unfold cH at h
 rw [Bool.and_eq_true,Bool.and_eq_true]at h
 obtain⟨h1,h2,h3⟩:=h
 have h1:=of_decide_eq_true h1
 have h2:=of_decide_eq_true h2
 exact⟨by omega,by omega,λc hc=>AW c (of_decide_eq_true (List.all_eq_true.mp h3 c hc))⟩
theorem kR {k:Str} (h:cH k dE 8=true):Wd k:=by
 obtain⟨h1,h2,h3⟩:=kS h
 exact⟨h1,by omega,λc hc=>.inr (.inr (.inr (h3 c hc)))⟩
theorem Wd.free {w:Str} (h:Wd w):32∉w.cps.toList:=λz=>by
 have:=h.sg _ z
 unfold Sgn at this
 omega
noncomputable def fl (c:Nat) (ws:List Str):List Nat:=(ws.map λw=>c::w.cps.toList).flatten
theorem jO (c:Nat) (us vs:List Str):fl c (us++vs)=fl c us++fl c vs:=by
 unfold fl
 rw [List.map_append,List.flatten_append]
theorem fu (c:Nat) (u:Str) (vs:List Str):fl c (u::vs)=(c::u.cps.toList)++fl c vs:=rfl
theorem mL {α:Type} (c:Nat) (g:α->List Str):∀xs:List α,fl c (xs.flatMap g)=xs.flatMap λx=>fl c (g x)
 | []=>rfl
 | x::xs=>by rw [List.flatMap_cons,List.flatMap_cons,jO,mL c g xs]
theorem mG {c:Nat}:∀{ws:List Str},ws≠[]->c::(Txt.join ⟨#[c]⟩ ws).cps.toList=fl c ws
 | [],h=>absurd rfl h
 | [x],_=>by
  rw [fu]
  show c::x.cps.toList=(c::x.cps.toList)++[]
  rw [List.append_nil]
 | x::y::zs,_=>by
  have e:Txt.join ⟨#[c]⟩ (x::y::zs)=Str.join ⟨#[c]⟩ (x::y::zs):=StrLaws.glued_eq_join _ _
  have e2:Txt.join ⟨#[c]⟩ (y::zs)=Str.join ⟨#[c]⟩ (y::zs):=StrLaws.glued_eq_join _ _
  have ih:=mG (c:=c) (ws:=y::zs) (by simp)
  rw [e,fX,fu,<- ih,e2]
  rfl
noncomputable abbrev jn (ws:List Str):Str:=Txt.join ‹" "› ws
noncomputable abbrev jc (ws:List Str):Str:=Txt.join ‹","› ws
theorem re {ws:List Str} (h:ws≠[]):32::(jn ws).cps.toList=fl 32 ws:=by
 have:=mG (c:=32) h
 rw [<- mY]at this
 exact this
theorem BU {ws:List Str} (h:ws≠[]):44::(jc ws).cps.toList=fl 44 ws:=by
 have:=mG (c:=44) h
 rw [<- oF]at this
 exact this
theorem BT {us vs:List Str} (hu:us≠[]) (hv:vs≠[]) (h:fl 32 us=fl 32 vs):jn us=jn vs:=by
 rw [<- re hu,<- re hv]at h
 exact dz (List.cons.inj h).2
theorem C4 {ws:List Str} (h:ws≠[]):fl 32 [jn ws]=fl 32 ws:=by
 rw [fu,<- re h]
 exact List.append_nil _
theorem qj (c m:Nat):∀ws:List Str,(∀w∈ws,w.length<=m)->(fl c ws).length<=(m+1) * ws.length
 | [],_=>by rw [List.length_nil];exact Nat.zero_le _
 | w::ws,h=>by
  have:=qj c m ws λx hx=>h x (List.mem_cons_of_mem _ hx)
  have h1:=h w List.mem_cons_self
  rw [cN]at h1
  rw [fu,List.length_append,List.length_cons,List.length_cons,Nat.mul_succ]
  omega
theorem zA {ks:List Str} (h1:1<=ks.length) (h8:ks.length<=8) (hk:∀k∈ks,cH k dE 8=true):Wd (jc ks):=by
 have hne:ks≠[]:=λz=>by rw [z]at h1;cases h1
 have e:=BU hne
 have hl:=qj 44 8 ks λw hw=>(kS (hk w hw)).2.1
 rw [<- e,List.length_cons]at hl
 refine⟨?_,by rw [cN];omega,λc hc=>?_⟩
 ·cases ks with
  | nil=>exact absurd rfl hne
  | cons k r=>
   have h0:=(kS (hk k List.mem_cons_self)).1
   have:=congrArg List.length e
   rw [fu,List.length_cons,List.length_append,List.length_cons,<- cN,<- cN]at this
   omega
 ·have:c∈fl 44 ks:=by rw [<- e];exact List.mem_cons_of_mem _ hc
  unfold fl at this
  obtain⟨l,hl,hc⟩:=List.mem_flatten.mp this
  obtain⟨k,hk',rfl⟩:=List.mem_map.mp hl
  rcases List.mem_cons.mp hc with z | hc
  ·exact .inl z
  ·exact .inr (.inr (.inr ((kS (hk k hk')).2.2 c hc)))
theorem lG (m:Nat):∀ws:List Str,(∀w∈ws,w.length<=m)->(ws.map (·.length)).sum<=m * ws.length
 | [],_=>Nat.zero_le _
 | w::ws,h=>by
  have:=lG m ws λx hx=>h x (List.mem_cons_of_mem _ hx)
  have h1:=h w List.mem_cons_self
  rw [List.map_cons,List.sum_cons,List.length_cons,Nat.mul_succ]
  omega
theorem j8 {ws:List Str} (h:∀w∈ws,w.length<=15000) (hl:ws.length<=1000):(ws.map (·.length)).sum+ws.length * ‹" "›.length<=16777216:=by
 have:=lG 15000 ws h
 rw [show ‹" "›.length=1 from ‹0›,Nat.mul_one]
 omega
theorem mH {ws:List Str}{m:Nat} (h:∀w∈ws,w.length<=m):(jn ws).length<=(m+1) * ws.length:=by
 cases ws with
 | nil=>exact Nat.le_trans (Nat.le_of_eq (show (jn []).length=0 from ‹0›)) (Nat.zero_le _)
 | cons w r=>
  have e:=congrArg List.length (re (ws:=w::r) (by simp))
  have hl:=qj 32 m (w::r) h
  rw [List.length_cons]at e
  rw [cN]
  omega
noncomputable def onF (acc ks:List Str):List Str:=ks.foldl (λacc k=>if k∈acc then acc else acc++[k]) acc
theorem nM (acc ks:List Str) (k:Str):onF acc (ks++[k])=if k∈onF acc ks then onF acc ks else onF acc ks++[k]:=by
 unfold onF
 rw [List.foldl_append]
 rfl
theorem mz {x:Str}:∀{ks acc:List Str},x∈onF acc ks↔x∈acc\/x∈ks
 | [],acc=>by
  show x∈acc↔_
  simp
 | k::ks,acc=>by
  show x∈onF (if k∈acc then acc else acc++[k]) ks↔_
  rw [mz]
  by_cases h:k∈acc
  ·rw [if_pos h,List.mem_cons]
   constructor
   ·rintro(a | a)
    ·exact .inl a
    ·exact .inr (.inr a)
   ·rintro(a | a | a)
    ·exact .inl a
    ·exact .inl (by rw [a];exact h)
    ·exact .inr a
  ·rw [if_neg h,List.mem_append,List.mem_singleton,List.mem_cons,or_assoc]
theorem jG {x:Str}{ks:List Str}:x∈aY ks↔x∈ks:=by
 rw [show aY ks=onF [] ks from rfl,mz]
 simp
theorem nN (acc:List Str):∀(n:Nat) (ks:List Str),ks.length=n->onF acc (aY ks)=onF acc ks
 | 0,ks,h=>by rw [List.length_eq_zero_iff.mp h];rfl
 | n+1,ks,h=>by
  obtain⟨xs,x,rfl⟩:∃xs x,ks=xs++[x]:=⟨ks.dropLast,ks.getLast (by intro z;rw [z]at h;cases h),(List.dropLast_concat_getLast _).symm⟩
  rw [List.length_append,List.length_singleton]at h
  have ih:=nN acc n xs ‹1›
  rw [gp,nM]
  by_cases z:x∈aY xs
  ·rw [if_pos z,ih,if_pos (mz.mpr (.inr (jG.mp z)))]
  ·rw [if_neg z,nM,ih]
theorem nO {α:Type} (g:α->List Str):∀(xs:List α) (acc:List Str),onF acc (xs.flatMap λx=>aY (g x))=onF acc (xs.flatMap g)
 | [],_=>rfl
 | x::xs,acc=>by
  have ap:∀a b c:List Str,onF a (b++c)=onF (onF a b) c:=λa b c=>by unfold onF;rw [List.foldl_append]
  rw [List.flatMap_cons,List.flatMap_cons,ap,ap,nN _ _ _ rfl,nO g xs]
theorem sA {α:Type} (g:α->List Str) (xs:List α):aY (xs.flatMap λx=>aY (g x))=aY (xs.flatMap g):=nO g xs []
inductive Lf
 | num (z:Int) | val (k:Str) (d:Int) | gth (w:Str) (ks:List Str) (f l:Int) | snc (k:Str) (b f l:Int) | prt (a b:Str) (f l:Int) | chg (r:Int) (k:Str) (f l:Int)
inductive Nd
 | leaf (l:Lf) | brk (w:Str) (xs:List Nd)
noncomputable def b9:Lf->List Str
 | .num z=>[‹"number"›, si z]
 | .val k d=>[‹"value"›, k,si d]
 | .gth w ks f l=>[w,jc ks,si f,si l]
 | .snc k b f l=>[‹"since"›, k,si b,si f,si l]
 | .prt a b f l=>[‹"part"›, a,b,si f,si l]
 | .chg r k f l=>[‹"change"›, si r,k,si f,si l]
noncomputable def bQ:Lf->List Str
 | .num _=>[]
 | .val k _=>[k]
 | .gth _ ks _ _=>ks
 | .snc k _ _ _=>[k]
 | .prt a b _ _=>[a,b]
 | .chg _ k _ _=>[k]
def kB (f l:Int):Prop:=0<=f/\f<=l/\l<=399
def Big (z:Int):Prop:=-1000000000<=z/\z<=1000000000
def mS (k:Str):Prop:=cH k dE 8=true
noncomputable def du:Lf->Prop
 | .num z=>Big z
 | .val k d=>mS k/\0<=d/\d<=399
 | .gth w ks f l=>w∈fK/\(1<=ks.length/\ks.length<=8/\ks.Nodup/\∀k∈ks,mS k)/\kB f l
 | .snc k b f l=>mS k/\Big b/\kB f l
 | .prt a b f l=>mS a/\mS b/\kB f l
 | .chg r k f l=>(1<=r/\r<=400)/\mS k/\kB f l
noncomputable abbrev opS:Str:=‹"("›
noncomputable abbrev clS:Str:=‹")"›
noncomputable def aQ:Nat->Nd->List Str
 | 0,.leaf l=>b9 l
 | 0,.brk _ _=>[]
 | _+1,.leaf l=>b9 l
 | n+1,.brk w xs=>w::xs.flatMap λc=>opS::(aQ n c++[clS])
noncomputable def dW:Nat->Nd->List Str
 | 0,.leaf l=>bQ l
 | 0,.brk _ _=>[]
 | _+1,.leaf l=>bQ l
 | n+1,.brk w xs=>xs.flatMap (dW n)
noncomputable def xc (ns:List Int):Int:=ns.foldl (λa b=>if b > a then b else a) 0
noncomputable def dY:Nat->Nd->Int
 | 0,_=>0
 | _+1,.leaf _=>0
 | n+1,.brk _ xs=>1+xc (xs.map (dY n))
noncomputable def cI:Nat->Nd->Prop
 | 0,.leaf l=>du l
 | 0,.brk _ _=>False
 | _+1,.leaf l=>du l
 | n+1,.brk w xs=>((w∈bA/\xs.length=2)\/(w∈eF/\xs.length=4))/\∀x∈xs,cI n x
theorem fh (n:Nat) (l:Lf):aQ n (.leaf l)=b9 l:=by cases n <;> rfl
theorem yw (n:Nat) (l:Lf):dW n (.leaf l)=bQ l:=by cases n <;> rfl
theorem yC (n:Nat) (l:Lf):dY n (.leaf l)=0:=by cases n <;> rfl
theorem cy {n:Nat}{l:Lf} (h:cI n (.leaf l)):du l:=by cases n <;> exact h
theorem Ba:∀w∈fK,1<=w.length/\w.length<=79/\∀c∈w.cps.toList,97<=c/\c<=122:=‹0›
theorem Av:∀w∈bA,1<=w.length/\w.length<=79/\∀c∈w.cps.toList,97<=c/\c<=122:=‹0›
theorem Bm:∀w∈eF,1<=w.length/\w.length<=79/\∀c∈w.cps.toList,97<=c/\c<=122:=‹0›
theorem jt:∀w∈iQ,1<=w.length/\w.length<=79/\∀c∈w.cps.toList,97<=c/\c<=122:=‹0›
theorem iK {w:Str} (h:1<=w.length/\w.length<=79/\∀c∈w.cps.toList,97<=c/\c<=122):Wd w:=⟨h.1,h.2.1,λc hc=>.inr (.inr (.inr (h.2.2 c hc)))⟩
theorem fG {P:Str->Prop}:∀w∈([]:List Str),P w:=λ_ h=>nomatch h
theorem all_cons {P:Str->Prop}{x:Str}{xs:List Str} (h:P x) (t:∀w∈xs,P w):∀w∈x::xs,P w:=λw hw=>(List.mem_cons.mp hw).elim (λe=>e ▸ h) (t w)
theorem eN {f l:Int} (h:kB f l):Wd (si f)/\Wd (si l):=by
 obtain⟨h1,h2,h3⟩:=h
 exact⟨cV ‹1› ‹1›,cV ‹1› ‹1›⟩
theorem qY:∀{l:Lf},du l->∀w∈b9 l,Wd w
 | .num z,h=>all_cons (iK (jt _ ‹0›)) (all_cons (cV h.1 h.2) fG)
 | .val k d,⟨h1,h2,h3⟩=>all_cons (iK (jt _ ‹0›)) (all_cons (kR h1) (all_cons (cV ‹1› ‹1›) fG))
 | .gth w ks f l,⟨h1,⟨h2,h3,_,h4⟩,h5⟩=>all_cons (iK (Ba _ h1)) (all_cons (zA h2 h3 h4) (all_cons (eN h5).1 (all_cons (eN h5).2 fG)))
 | .snc k b f l,⟨h1,h2,h5⟩=>all_cons (iK (jt _ ‹0›)) (all_cons (kR h1) (all_cons (cV h2.1 h2.2) (all_cons (eN h5).1 (all_cons (eN h5).2 fG))))
 | .prt a b f l,⟨h1,h2,h5⟩=>all_cons (iK (jt _ ‹0›)) (all_cons (kR h1) (all_cons (kR h2) (all_cons (eN h5).1 (all_cons (eN h5).2 fG))))
 | .chg r k f l,⟨h1,h2,h5⟩=>all_cons (iK (jt _ ‹0›)) (all_cons (cV ‹1› ‹1›) (all_cons (kR h2) (all_cons (eN h5).1 (all_cons (eN h5).2 fG))))
theorem iA (l:Lf):2<=(b9 l).length/\(b9 l).length<=5:=by cases l <;> exact⟨Nat.le_of_ble_eq_true rfl,Nat.le_of_ble_eq_true rfl⟩
def WdB (w:Str):Prop:=Wd w\/w=opS\/w=clS
theorem WdB.len {w:Str} (h:WdB w):w.length<=79:=by
 rcases h with h | rfl | rfl
 ·exact h.hi
 ·exact ‹0›
 ·exact ‹0›
theorem WdB.free {w:Str} (h:WdB w):32∉w.cps.toList:=by
 rcases h with h | rfl | rfl
 ·exact h.free
 ·exact ‹0›
 ·exact ‹0›
theorem wW {w:Str}{m:Nat} (h:(w∈bA/\m=2)\/(w∈eF/\m=4)):Wd w:=by
 rcases h with⟨h,_⟩ | ⟨h,_⟩
 ·exact iK (Av _ h)
 ·exact iK (Bm _ h)
theorem fL:∀{n:Nat}{nd:Nd},cI n nd->∀w∈aQ n nd,WdB w
 | 0,.leaf l,h=>λw hw=>.inl (qY (show du l from h) w hw)
 | 0,.brk _ _,h=>(show False from h).elim
 | n+1,.leaf l,h=>λw hw=>.inl (qY (show du l from h) w hw)
 | n+1,.brk w xs,h=>λv hv=>by
  obtain⟨h1,h2⟩:_/\_:=h
  rcases List.mem_cons.mp hv with z | hv
  ·rw [z];exact .inl (wW h1)
  ·obtain⟨c,hc,hv⟩:=List.mem_flatMap.mp hv
   rcases List.mem_cons.mp hv with z | hv
   ·exact .inr (.inl z)
   ·rcases List.mem_append.mp hv with hv | hv
    ·exact fL (h2 c hc) v hv
    ·exact .inr (.inr (List.mem_singleton.mp hv))
theorem mT (n:Nat):∀{nd:Nd},cI n nd->aQ n nd≠[]:=by
 intro nd h z
 cases nd with
 | leaf l=>
  rw [fh]at z
  have:=(iA l).1
  rw [z]at this
  exact absurd this (by decide)
 | brk w xs=>
  cases n with
  | zero=>exact h
  | succ n=>exact absurd z (by unfold aQ;simp)
noncomputable def Wn:Nat->Nat
 | 0=>5
 | n+1=>4 * (Wn n+2)+1
theorem dh {α:Type}{g:α->List Str}{m:Nat}:∀xs:List α,(∀x∈xs,(g x).length<=m)->(xs.flatMap g).length<=m * xs.length
 | [],_=>Nat.zero_le _
 | x::xs,h=>by
  have:=dh xs λy hy=>h y (List.mem_cons_of_mem _ hy)
  have h1:=h x List.mem_cons_self
  rw [List.flatMap_cons,List.length_append,List.length_cons,Nat.mul_succ]
  omega
theorem zG:∀n,5<=Wn n
 | 0=>Nat.le_refl _
 | n+1=>by have:=zG n;show 5<=4 * (Wn n+2)+1;omega
theorem fE {w:Str}{m:Nat} (h:(w∈bA/\m=2)\/(w∈eF/\m=4)):2<=m/\m<=4:=by
 rcases h with⟨_,h⟩ | ⟨_,h⟩ <;> omega
theorem cX:∀{n:Nat}{nd:Nd},cI n nd->(aQ n nd).length<=Wn n
 | 0,.leaf l,_=>(iA l).2
 | 0,.brk _ _,h=>(show False from h).elim
 | n+1,.leaf l,_=>Nat.le_trans (iA l).2 (zG _)
 | n+1,.brk w xs,h=>by
  obtain⟨h1,h2⟩:_/\_:=h
  have hl:=fE h1
  have:=dh (g:=λc=>opS::(aQ n c++[clS])) (m:=Wn n+2) xs λc hc=>by
   have:=cX (h2 c hc)
   rw [List.length_cons,List.length_append,List.length_singleton]
   omega
  show (w::xs.flatMap _).length<=4 * (Wn n+2)+1
  rw [List.length_cons]
  have h4:(Wn n+2) * xs.length<=(Wn n+2) * 4:=Nat.mul_le_mul_left _ hl.2
  omega
theorem oK {n:Nat} (h:n<=3):Wn n<=509:=by
 rcases (show n=0\/n=1\/n=2\/n=3 by omega) with rfl | rfl | rfl | rfl <;> decide
noncomputable def Kn:Nat->Nat
 | 0=>8
 | n+1=>4 * Kn n
theorem zI:∀n,8<=Kn n
 | 0=>Nat.le_refl _
 | n+1=>by have:=zI n;show 8<=4 * Kn n;omega
theorem mE:∀{l:Lf},du l->(bQ l).length<=8
 | .num _,_=>Nat.le_of_ble_eq_true rfl
 | .val _ _,_=>Nat.le_of_ble_eq_true rfl
 | .gth _ _ _ _,h=>h.2.1.2.1
 | .snc _ _ _ _,_=>Nat.le_of_ble_eq_true rfl
 | .prt _ _ _ _,_=>Nat.le_of_ble_eq_true rfl
 | .chg _ _ _ _,_=>Nat.le_of_ble_eq_true rfl
theorem ib:∀{n:Nat}{nd:Nd},cI n nd->(dW n nd).length<=Kn n
 | 0,.leaf l,h=>mE (show du l from h)
 | 0,.brk _ _,h=>(show False from h).elim
 | n+1,.leaf l,h=>Nat.le_trans (mE (show du l from h)) (zI _)
 | n+1,.brk w xs,h=>by
  obtain⟨h1,h2⟩:_/\_:=h
  have hl:=fE h1
  have:=dh (g:=dW n) (m:=Kn n) xs λc hc=>ib (h2 c hc)
  show (xs.flatMap _).length<=4 * Kn n
  have h4:Kn n * xs.length<=Kn n * 4:=Nat.mul_le_mul_left _ hl.2
  omega
theorem Cc {n:Nat} (h:n<=3):Kn n<=512:=by
 rcases (show n=0\/n=1\/n=2\/n=3 by omega) with rfl | rfl | rfl | rfl <;> decide
def At (ws:List Str) (pl:Nat) (vs:List Str):Prop:=vs <+: ws.drop pl
theorem At.hd {ws vs:List Str}{pl:Nat}{v:Str} (h:At ws pl (v::vs)):ws[pl]?=some v:=by
 obtain⟨t,e⟩:=h
 have:(ws.drop pl)[0]?=some v:=by rw [<- e];rfl
 rw [List.getElem?_drop]at this
 exact this
theorem At.app {ws us vs:List Str}{pl:Nat} (h:At ws pl (us++vs)):At ws pl us/\At ws (pl+us.length) vs:=by
 obtain⟨t,e⟩:=h
 refine⟨⟨vs++t,by rw [<- List.append_assoc];exact e⟩,t,?_⟩
 rw [<- List.drop_drop,<- e,List.append_assoc,List.drop_left]
theorem At.tl {ws vs:List Str}{pl:Nat}{v:Str} (h:At ws pl (v::vs)):At ws (pl+1) vs:=(At.app (us:=[v]) h).2
theorem At.all (ws:List Str):At ws 0 ws:=List.prefix_refl _
noncomputable abbrev uM:Stmt:=aM (top 18) 0
noncomputable abbrev uJ:Stmt:=aM (top 19) 0
noncomputable abbrev uN:Stmt:=aM (top 20) 0
noncomputable abbrev uK:Stmt:=aM (top 21) 0
noncomputable abbrev uL:Stmt:=aM (top 22) 0
noncomputable abbrev uO:Stmt:=aM (top 23) 0
noncomputable abbrev uz:Stmt:=aM (top 17) 1
noncomputable abbrev pO:Stmt:=aM (top 17) 2
noncomputable abbrev pM:Stmt:=aM (top 17) 3
noncomputable def qf3 (tx:Str) (ln:Addr) (d:Int):List (Str × V):=[("written", V.str tx),("names", V.ref ln),("levels", V.int d)]
noncomputable def w8:Lf->List (Str × V)
 | .num z=>[("number", .int z)]
 | .val k d=>[("key", .str k),("day", .int d)]
 | .gth w _ f l=>[("word", .str w),("first", .int f),("last", .int l)]
 | .snc k b f l=>[("key", .str k),("bound", .int b),("first", .int f),("last", .int l)]
 | .prt a b f l=>[("one", .str a),("other", .str b),("first", .int f),("last", .int l)]
 | .chg r k f l=>[("rank", .int r),("key", .str k),("first", .int f),("last", .int l)]
noncomputable def wa (l:Lf) (ln:Addr):List (Str × V):=qf3 (jn (b9 l)) ln 0++w8 l
theorem q_w (tx:Str) (ln:Addr) (d:Int) (r:List (Str × V)):(qf3 tx ln d++r).lookup ("written" : Str)=some (.str tx):=rfl
theorem q_n (tx:Str) (ln:Addr) (d:Int) (r:List (Str × V)):(qf3 tx ln d++r).lookup ("names" : Str)=some (.ref ln):=by
 show (((("written" : Str),V.str tx)::(("names" : Str),V.ref ln)::_)).lookup _=_
 rw [List.lookup_cons,show (("names" : Str) == ("written" : Str))=false from ‹0›]
 rfl
theorem q_l (tx:Str) (ln:Addr) (d:Int) (r:List (Str × V)):(qf3 tx ln d++r).lookup ("levels" : Str)=some (.int d):=by
 show (((("written" : Str),V.str tx)::(("names" : Str),V.ref ln)::_)).lookup _=_
 rw [List.lookup_cons,show (("levels" : Str) == ("written" : Str))=false from ‹0›,List.lookup_cons,show (("levels" : Str) == ("names" : Str))=false from ‹0›]
 rfl
theorem xR {m:Str} (hm:m∉cK):∀{fs:List (Str × V)},(∀p∈fs,p.1∈cK)->fs.lookup m=none
 | [],_=>rfl
 | (k,v)::fs,h=>by
  rw [List.lookup_cons,beq_eq_false_iff_ne.mpr (λz:m=k=>hm (by rw [z];exact h (k,v) List.mem_cons_self))]
  exact xR hm λp hp=>h p (List.mem_cons_of_mem _ hp)
theorem oi (l:Lf) (ln:Addr):∀p∈wa l ln,p.1∈cK:=by
 have key:∀{fs:List (Str × V)}{ks:List Str},fs.map (·.1)=ks->(∀k∈ks,k∈cK)->∀p∈fs,p.1∈cK:=λe h p hp=>h _ (by rw [<- e];exact List.mem_map_of_mem hp)
 cases l
 ·exact key (ks:=[‹"written"›, ‹"names"›, ‹"levels"›, ‹"number"›]) rfl ‹0›
 ·exact key (ks:=[‹"written"›, ‹"names"›, ‹"levels"›, ‹"key"›, ‹"day"›]) rfl ‹0›
 ·exact key (ks:=[‹"written"›, ‹"names"›, ‹"levels"›, ‹"word"›, ‹"first"›, ‹"last"›]) rfl ‹0›
 ·exact key (ks:=[‹"written"›, ‹"names"›, ‹"levels"›, ‹"key"›, ‹"bound"›, ‹"first"›, ‹"last"›]) rfl ‹0›
 ·exact key (ks:=[‹"written"›, ‹"names"›, ‹"levels"›, ‹"one"›, ‹"other"›, ‹"first"›, ‹"last"›]) rfl ‹0›
 ·exact key (ks:=[‹"written"›, ‹"names"›, ‹"levels"›, ‹"rank"›, ‹"key"›, ‹"first"›, ‹"last"›]) rfl ‹0›
theorem ck {z:Int} (h0 : -1000000000<=z) (h1:z<=1000000000):z.natAbs.log2 < 1920:=by
 by_cases e:z.natAbs=0
 ·rw [e];decide
 ·exact Nat.lt_trans ((Nat.log2_lt e).mpr (show z.natAbs < 2 ^ 30 by omega)) (by decide)
inductive LfI (K:PySem.W.Frag) (C x dx:Addr) (l:Lf) (H:Hp) (Q:VK):Prop
 | mk (T:QuC K C) (hx:H x=some (.ins C dx [])) (ok:du l) (q:∀ln H',H ln=none->Ofr x H H'->H' ln=some (.lst ((aY (bQ l)).map V.str))->H' x=some (.ins C dx (wa l ln))->Q .non H'):LfI K C x dx l H Q
theorem kT {K:W.Frag}{C x dx p1 p2:Addr}{l:Lf}{H H2:Hp}{Q:VK}{E:XK} (T:QuC K C) (hx:H x=some (.ins C dx [])) (ok:du l) (g:aZ H H2) (e1:H2 p1=some (.lst ((b9 l).map V.str))) (e2:SqL K H2 p2 ((bQ l).map V.str))
  (q:∀ln H',H ln=none->Ofr x H H'->H' ln=some (.lst ((aY (bQ l)).map V.str))->H' x=some (.ins C dx (qf3 (jn (b9 l)) ln 0))->Q .non H'):bP K [.ref x,.ref p1,.ref p2,.int 0] H2 Q E:=by
 refine⟨x,C,dx,p1,p2,[],b9 l,bQ l,0,rfl,T,g _ _ hx,by decide,e1,e2,Nat.le_trans (mE ok) (by decide),j8 (λw hw=>Nat.le_trans (qY ok w hw).hi (by decide)) (Nat.le_trans (iA l).2 (by decide)),λln H' nl o el ex=>?_⟩
 refine q ln H' ?_ (λb u e n=>o _ _ (g _ _ e) n) el ex
 cases e:H ln with
 | none=>rfl
 | some u=>rw [g _ _ e]at nl;cases nl
structure QAt (H:Hp) (x C ln:Addr) (tx:Str) (ks:List Str) (d:Int):Prop where
 ob:∃dx r,H x=some (.ins C dx (qf3 tx ln d++r))/\∀p∈qf3 tx ln d++r,p.1∈cK
 nm:H ln=some (.lst (ks.map V.str))
noncomputable def oR (K:PySem.W.Frag):Sp:=λvs H Q _=>∃(x C ln:Addr) (tx:Str) (ks:List Str) (d:Int),vs=[.ref x]/\QuC K C/\QAt H x C ln tx ks d/\Q (.str tx) H
noncomputable def jp (K:PySem.W.Frag):Sp:=λvs H Q _=>∃(x C ln:Addr) (tx:Str) (ks:List Str) (d:Int),vs=[.ref x]/\QuC K C/\QAt H x C ln tx ks d/\Q (.int d) H
noncomputable def lQ (K:PySem.W.Frag):Sp:=λvs H Q _=>∃(x C ln:Addr) (tx:Str) (ks:List Str) (d:Int),vs=[.ref x]/\QuC K C/\QAt H x C ln tx ks d/\∀p,H p=none->Q (.ref p) (upd H p (.lst (ks.map V.str)))
theorem A1:FnScope ["self"] ["self"] (aq uz):=‹2›
theorem xW {f:Addr}{fd:FuncData} (F:Fun K "text" "Question.text" uz f fd)  : FnOk P w K mg base CX0 1 f fd ["self"] (oR K):=by
 refine F.ok (k:=0) A1 (λvs H Q E h=>?_) (λcdv A outer s H vs Q E hr h=>?_)
 ·obtain⟨x,C,ln,tx,ks,d,rfl,_⟩:=h
  rfl
 ·obtain⟨x,C,ln,tx,ks,d,rfl,T,⟨⟨dx,r,hx,_⟩,hn⟩,q⟩:=h
  have hu:=aK hr
  refine⟨_,(ah (ax (aV (pv 0) rfl))),?_⟩
  exact⟨_,rfl,x,C,dx,_,_,rfl,hx,T.cl,T.a_written,q_w _ _ _ _,q⟩
theorem uu:FnScope ["self"] ["self"] (aq pM):=‹2›
theorem sF {f:Addr}{fd:FuncData} (F:Fun K "depth" "Question.depth" pM f fd)  : FnOk P w K mg base CX0 1 f fd ["self"] (jp K):=by
 refine F.ok (k:=0) uu (λvs H Q E h=>?_) (λcdv A outer s H vs Q E hr h=>?_)
 ·obtain⟨x,C,ln,tx,ks,d,rfl,_⟩:=h
  rfl
 ·obtain⟨x,C,ln,tx,ks,d,rfl,T,⟨⟨dx,r,hx,_⟩,hn⟩,q⟩:=h
  have hu:=aK hr
  refine⟨_,(ah (ax (aV (pv 0) rfl))),?_⟩
  exact⟨_,rfl,x,C,dx,_,_,rfl,hx,T.cl,T.a_levels,q_l _ _ _ _,q⟩
theorem xJ:FnScope ["self"] ["self"] (aq pO):=‹2›
theorem vQ {f:Addr}{fd:FuncData} (F:Fun K "asked_keys" "Question.asked_keys" pO f fd) (N:Free mg):FnOk P w K mg base CX0 1 f fd ["self"] (lQ K):=by
 refine F.ok (k:=0) xJ (λvs H Q E h=>?_) (λcdv A outer s H vs Q E hr h=>?_)
 ·obtain⟨x,C,ln,tx,ks,d,rfl,_⟩:=h
  rfl
 ·obtain⟨x,C,ln,tx,ks,d,rfl,T,⟨⟨dx,r,hx,_⟩,hn⟩,q⟩:=h
  have hu:=aK hr
  refine⟨_,(ah (ax (aX fB (by rfl) N.list PyProof.Rows.Boot.«list» (aa (aV (pv 0) rfl) ac)))),?_⟩
  exact⟨_,rfl,x,C,dx,_,_,rfl,hx,T.cl,T.a_names,q_n _ _ _ _,ln,_,rfl,.inl (SqL.of hn),λp np=>q p np⟩
noncomputable def ud (K:PySem.W.Frag):Sp:=λvs H Q _=>∃(x C dx:Addr) (z:Int),vs=[.ref x,.int z]/\LfI K C x dx (.num z) H Q
theorem A8:FnScope ["self", "number"] ["self", "number"] (aq uM):=‹2›
theorem ye {f f1:Addr}{fd:FuncData} (F:Fun K "__init__" "Number.__init__" uM f fd) (N:Free mg){fd1:FuncData}{CQ:Addr}{mc:Value} (CI:CMc P w K mg base "Question" "__init__" 2 ["self", "words", "keys", "depth"] (bP K) CQ f1 fd1 mc):FnOk P w K mg base CX0 3 f fd ["self", "number"] (ud K):=by
 refine F.ok (k:=2) A8 (λvs H Q E h=>?_) (λcdv A outer s H vs Q E hr h=>?_)
 ·obtain⟨x,C,dx,z,rfl,_⟩:=h
  rfl
 ·obtain⟨x,C,dx,z,rfl,⟨T,hx,ok,q⟩⟩:=h
  have hu:=aK hr
  refine⟨_,(ae (bg (dD rfl CI.nm CI.h1 CI.h2 CI.h3 rfl CI.ok (hr.mono (by decide)) CI.kp CI.bd .nil au (aa (pv 0) (aa (aR (aa aD (aa (aX bj (by rfl) N.str PyProof.Rows.Boot.«str» (aa (pv 1) ac)) ac))) (aa (aR ac) (aa aj ac))))))
   (ah (bw (pv 0) (pv 1) rfl))),?_⟩
  have hz:=id ok
  refine af (be ⟨_,rfl,_,rfl,_,rfl,ck hz.1 hz.2,by show 2<=sizeLine;decide,λp1 np1=>?_⟩)
  obtain⟨g1,e1⟩:=laid (o:=.lst ((b9 (.num z)).map V.str)) np1
  change cq _ _ _ (upd H p1 (.lst ((b9 (.num z)).map V.str))) _
  generalize upd H p1 _=H1 at g1 e1 ⊢
  refine⟨by show 0<=sizeLine;decide,λp2 np2=>?_⟩
  obtain⟨g2,e2⟩:=laid (o:=.lst ((bQ (.num z)).map V.str)) np2
  dsimp only [cq,tC,gC,List.append_nil,List.cons_append,List.nil_append]
  show bP K [.ref x,.ref p1,.ref p2,.int 0] (upd H1 p2 (.lst ((bQ (.num z)).map V.str))) _ _
  refine kT (l:=.num z) T hx ok (g1.trans g2) (g2 _ _ e1) (SqL.of e2) λln H3 nl o3 el ex=>?_
  have nlx:ln≠x:=λz=>by rw [z,hx]at nl;cases nl
  refine⟨_,rfl,_,rfl,x,C,dx,_,rfl,ex,T.cl,T.a_number,(by show 3 < 1000;decide),?_⟩
  exact q ln _ nl (λb o e n=>by rw [ai n];exact o3 _ _ e n) (by rw [ai nlx];exact el) ar
noncomputable def ua (K:PySem.W.Frag):Sp:=λvs H Q _=>∃(x C dx:Addr) (k:Str) (d:Int),vs=[.ref x,.str k,.int d]/\LfI K C x dx (.val k d) H Q
theorem A5:FnScope ["self", "key", "day"] ["self", "key", "day"] (aq uJ):=‹2›
theorem yb {f f1:Addr}{fd:FuncData} (F:Fun K "__init__" "Value.__init__" uJ f fd) (N:Free mg){fd1:FuncData}{CQ:Addr}{mc:Value} (CI:CMc P w K mg base "Question" "__init__" 2 ["self", "words", "keys", "depth"] (bP K) CQ f1 fd1 mc):FnOk P w K mg base CX0 3 f fd ["self", "key", "day"] (ua K):=by
 refine F.ok (k:=2) A5 (λvs H Q E h=>?_) (λcdv A outer s H vs Q E hr h=>?_)
 ·obtain⟨x,C,dx,k,d,rfl,_⟩:=h
  rfl
 ·obtain⟨x,C,dx,k,d,rfl,⟨T,hx,ok,q⟩⟩:=h
  have hu:=aK hr
  refine⟨_,(ae (bg (dD rfl CI.nm CI.h1 CI.h2 CI.h3 rfl CI.ok (hr.mono (by decide)) CI.kp CI.bd .nil au (aa (pv 0) (aa (aR (aa aD (aa (pv 1) (aa (aX bj (by rfl) N.str PyProof.Rows.Boot.«str» (aa (pv 2) ac)) ac)))) (aa (aR (aa (pv 1) ac)) (aa aj ac))))))
   (ae (bw (pv 0) (pv 1) rfl)
   (ah (bw (pv 0) (pv 2) rfl)))),?_⟩
  obtain⟨_,d0,d1⟩:=id ok
  refine af (be ⟨_,rfl,_,rfl,_,rfl,_,rfl,ck ‹1› ‹1›,by show 3<=sizeLine;decide,λp1 np1=>?_⟩)
  obtain⟨g1,e1⟩:=laid (o:=.lst ((b9 (.val k d)).map V.str)) np1
  change cq _ _ _ (upd H p1 (.lst ((b9 (.val k d)).map V.str))) _
  generalize upd H p1 _=H1 at g1 e1 ⊢
  refine⟨_,rfl,by show 1<=sizeLine;decide,λp2 np2=>?_⟩
  obtain⟨g2,e2⟩:=laid (o:=.lst ((bQ (.val k d)).map V.str)) np2
  dsimp only [cq,tC,gC,List.append_nil,List.cons_append,List.nil_append]
  show bP K [.ref x,.ref p1,.ref p2,.int 0] (upd H1 p2 (.lst ((bQ (.val k d)).map V.str))) _ _
  refine kT (l:=.val k d) T hx ok (g1.trans g2) (g2 _ _ e1) (SqL.of e2) λln H3 nl o3 el ex=>?_
  have nlx:ln≠x:=λz=>by rw [z,hx]at nl;cases nl
  refine af ⟨_,rfl,_,rfl,x,C,dx,_,rfl,ex,T.cl,T.a_key,(by show 3 < 1000;decide),?_⟩
  refine⟨_,rfl,_,rfl,x,C,dx,_,rfl,ar,T.cl,T.a_day,(by show 4 < 1000;decide),?_⟩
  rw [bv]
  exact q ln _ nl (λb o e n=>by rw [ai n];exact o3 _ _ e n) (by rw [ai nlx];exact el) ar
noncomputable def lO (K:PySem.W.Frag):Sp:=λvs H Q _=>∃(x C dx:Addr) (gw:Str) (lk:Addr) (f0:Int) (l0:Int) (ks:List Str),vs=[.ref x,.str gw,.ref lk,.int f0,.int l0]/\H lk=some (.lst (ks.map V.str))/\LfI K C x dx (.gth gw ks f0 l0) H Q
theorem A9:FnScope ["self", "word", "keys", "first", "last"] ["self", "word", "keys", "first", "last"] (aq uN):=‹2›
theorem yf {f f1:Addr}{fd:FuncData} (F:Fun K "__init__" "Gathering.__init__" uN f fd) (N:Free mg){fd1:FuncData}{CQ:Addr}{mc:Value} (CI:CMc P w K mg base "Question" "__init__" 2 ["self", "words", "keys", "depth"] (bP K) CQ f1 fd1 mc):FnOk P w K mg base CX0 3 f fd ["self", "word", "keys", "first", "last"] (lO K):=by
 refine F.ok (k:=2) A9 (λvs H Q E h=>?_) (λcdv A outer s H vs Q E hr h=>?_)
 ·obtain⟨x,C,dx,gw,lk,f0,l0,ks,rfl,_⟩:=h
  rfl
 ·obtain⟨x,C,dx,gw,lk,f0,l0,ks,rfl,hlk,⟨T,hx,ok,q⟩⟩:=h
  have hu:=aK hr
  refine⟨_,(ae (bg (dD rfl CI.nm CI.h1 CI.h2 CI.h3 rfl CI.ok (hr.mono (by decide)) CI.kp CI.bd .nil au (aa (pv 0) (aa (aR (aa (pv 1) (aa (cM PySem.F.plainAttrs_str PySem.F.slot_str_join PySem.F.type_str_join gq aD (aa (pv 2) ac)) (aa (aX bj (by rfl) N.str PyProof.Rows.Boot.«str» (aa (pv 3) ac)) (aa (aX bj (by rfl) N.str PyProof.Rows.Boot.«str» (aa (pv 4) ac)) ac))))) (aa (pv 2) (aa aj ac))))))
   (ae (bw (pv 0) (pv 1) rfl)
   (ae (bw (pv 0) (pv 3) rfl)
   (ah (bw (pv 0) (pv 4) rfl))))),?_⟩
  obtain⟨hg,⟨k1,k8,_,hk⟩,h1,h2,h3⟩:=id ok
  refine af (be ⟨_,rfl,_,rfl,rfl,_,rfl,_,lk,ks,rfl,rfl,hlk,?fit,_,rfl,_,rfl,ck ‹1› ‹1›,_,rfl,_,rfl,ck ‹1› ‹1›,by show 4<=sizeLine;decide,λp1 np1=>?_⟩)
  case fit=>
   have:=lG 8 ks λw hw=>(kS (hk w hw)).2.1
   rw [show ‹","›.length=1 from ‹0›]
   omega
  obtain⟨g1,e1⟩:=laid (o:=.lst ((b9 (.gth gw ks f0 l0)).map V.str)) np1
  change cq _ _ _ (upd H p1 (.lst ((b9 (.gth gw ks f0 l0)).map V.str))) _
  generalize upd H p1 _=H1 at g1 e1 ⊢
  refine⟨_,rfl,?_⟩
  dsimp only [cq,tC,gC,List.append_nil,List.cons_append,List.nil_append]
  show bP K [.ref x,.ref p1,.ref lk,.int 0] H1 _ _
  refine kT (l:=.gth gw ks f0 l0) T hx ok g1 e1 (SqL.of (g1 _ _ hlk)) λln H3 nl o3 el ex=>?_
  have nlx:ln≠x:=λz=>by rw [z,hx]at nl;cases nl
  refine af ⟨_,rfl,_,rfl,x,C,dx,_,rfl,ex,T.cl,T.a_word,(by show 3 < 1000;decide),?_⟩
  refine af ⟨_,rfl,_,rfl,x,C,dx,_,rfl,ar,T.cl,T.a_first,(by show 4 < 1000;decide),?_⟩
  refine⟨_,rfl,_,rfl,x,C,dx,_,rfl,ar,T.cl,T.a_last,(by show 5 < 1000;decide),?_⟩
  rw [bv,bv]
  exact q ln _ nl (λb o e n=>by rw [ai n];exact o3 _ _ e n) (by rw [ai nlx];exact el) ar
noncomputable def ub (K:PySem.W.Frag):Sp:=λvs H Q _=>∃(x C dx:Addr) (k:Str) (b0:Int) (f0:Int) (l0:Int),vs=[.ref x,.str k,.int b0,.int f0,.int l0]/\LfI K C x dx (.snc k b0 f0 l0) H Q
theorem A6:FnScope ["self", "key", "bound", "first", "last"] ["self", "key", "bound", "first", "last"] (aq uK):=‹2›
theorem yc {f f1:Addr}{fd:FuncData} (F:Fun K "__init__" "Since.__init__" uK f fd) (N:Free mg){fd1:FuncData}{CQ:Addr}{mc:Value} (CI:CMc P w K mg base "Question" "__init__" 2 ["self", "words", "keys", "depth"] (bP K) CQ f1 fd1 mc):FnOk P w K mg base CX0 3 f fd ["self", "key", "bound", "first", "last"] (ub K):=by
 refine F.ok (k:=2) A6 (λvs H Q E h=>?_) (λcdv A outer s H vs Q E hr h=>?_)
 ·obtain⟨x,C,dx,k,b0,f0,l0,rfl,_⟩:=h
  rfl
 ·obtain⟨x,C,dx,k,b0,f0,l0,rfl,⟨T,hx,ok,q⟩⟩:=h
  have hu:=aK hr
  refine⟨_,(ae (bg (dD rfl CI.nm CI.h1 CI.h2 CI.h3 rfl CI.ok (hr.mono (by decide)) CI.kp CI.bd .nil au (aa (pv 0) (aa (aR (aa aD (aa (pv 1) (aa (aX bj (by rfl) N.str PyProof.Rows.Boot.«str» (aa (pv 2) ac)) (aa (aX bj (by rfl) N.str PyProof.Rows.Boot.«str» (aa (pv 3) ac)) (aa (aX bj (by rfl) N.str PyProof.Rows.Boot.«str» (aa (pv 4) ac)) ac)))))) (aa (aR (aa (pv 1) ac)) (aa aj ac))))))
   (ae (bw (pv 0) (pv 1) rfl)
   (ae (bw (pv 0) (pv 2) rfl)
   (ae (bw (pv 0) (pv 3) rfl)
   (ah (bw (pv 0) (pv 4) rfl)))))),?_⟩
  obtain⟨_,hb,h1,h2,h3⟩:=id ok
  refine af (be ⟨_,rfl,_,rfl,_,rfl,_,rfl,ck hb.1 hb.2,_,rfl,_,rfl,ck ‹1› ‹1›,_,rfl,_,rfl,ck ‹1› ‹1›,by show 5<=sizeLine;decide,λp1 np1=>?_⟩)
  obtain⟨g1,e1⟩:=laid (o:=.lst ((b9 (.snc k b0 f0 l0)).map V.str)) np1
  change cq _ _ _ (upd H p1 (.lst ((b9 (.snc k b0 f0 l0)).map V.str))) _
  generalize upd H p1 _=H1 at g1 e1 ⊢
  refine⟨_,rfl,by show 1<=sizeLine;decide,λp2 np2=>?_⟩
  obtain⟨g2,e2⟩:=laid (o:=.lst ((bQ (.snc k b0 f0 l0)).map V.str)) np2
  dsimp only [cq,tC,gC,List.append_nil,List.cons_append,List.nil_append]
  show bP K [.ref x,.ref p1,.ref p2,.int 0] (upd H1 p2 (.lst ((bQ (.snc k b0 f0 l0)).map V.str))) _ _
  refine kT (l:=.snc k b0 f0 l0) T hx ok (g1.trans g2) (g2 _ _ e1) (SqL.of e2) λln H3 nl o3 el ex=>?_
  have nlx:ln≠x:=λz=>by rw [z,hx]at nl;cases nl
  refine af ⟨_,rfl,_,rfl,x,C,dx,_,rfl,ex,T.cl,T.a_key,(by show 3 < 1000;decide),?_⟩
  refine af ⟨_,rfl,_,rfl,x,C,dx,_,rfl,ar,T.cl,T.a_bound,(by show 4 < 1000;decide),?_⟩
  refine af ⟨_,rfl,_,rfl,x,C,dx,_,rfl,ar,T.cl,T.a_first,(by show 5 < 1000;decide),?_⟩
  refine⟨_,rfl,_,rfl,x,C,dx,_,rfl,ar,T.cl,T.a_last,(by show 6 < 1000;decide),?_⟩
  rw [bv,bv,bv]
  exact q ln _ nl (λb o e n=>by rw [ai n];exact o3 _ _ e n) (by rw [ai nlx];exact el) ar
noncomputable def uc (K:PySem.W.Frag):Sp:=λvs H Q _=>∃(x C dx:Addr) (k:Str) (k2:Str) (f0:Int) (l0:Int),vs=[.ref x,.str k,.str k2,.int f0,.int l0]/\LfI K C x dx (.prt k k2 f0 l0) H Q
theorem A7:FnScope ["self", "one", "other", "first", "last"] ["self", "one", "other", "first", "last"] (aq uL):=‹2›
theorem yd {f f1:Addr}{fd:FuncData} (F:Fun K "__init__" "Part.__init__" uL f fd) (N:Free mg){fd1:FuncData}{CQ:Addr}{mc:Value} (CI:CMc P w K mg base "Question" "__init__" 2 ["self", "words", "keys", "depth"] (bP K) CQ f1 fd1 mc):FnOk P w K mg base CX0 3 f fd ["self", "one", "other", "first", "last"] (uc K):=by
 refine F.ok (k:=2) A7 (λvs H Q E h=>?_) (λcdv A outer s H vs Q E hr h=>?_)
 ·obtain⟨x,C,dx,k,k2,f0,l0,rfl,_⟩:=h
  rfl
 ·obtain⟨x,C,dx,k,k2,f0,l0,rfl,⟨T,hx,ok,q⟩⟩:=h
  have hu:=aK hr
  refine⟨_,(ae (bg (dD rfl CI.nm CI.h1 CI.h2 CI.h3 rfl CI.ok (hr.mono (by decide)) CI.kp CI.bd .nil au (aa (pv 0) (aa (aR (aa aD (aa (pv 1) (aa (pv 2) (aa (aX bj (by rfl) N.str PyProof.Rows.Boot.«str» (aa (pv 3) ac)) (aa (aX bj (by rfl) N.str PyProof.Rows.Boot.«str» (aa (pv 4) ac)) ac)))))) (aa (aR (aa (pv 1) (aa (pv 2) ac))) (aa aj ac))))))
   (ae (bw (pv 0) (pv 1) rfl)
   (ae (bw (pv 0) (pv 2) rfl)
   (ae (bw (pv 0) (pv 3) rfl)
   (ah (bw (pv 0) (pv 4) rfl)))))),?_⟩
  obtain⟨_,_,h1,h2,h3⟩:=id ok
  refine af (be ⟨_,rfl,_,rfl,_,rfl,_,rfl,_,rfl,ck ‹1› ‹1›,_,rfl,_,rfl,ck ‹1› ‹1›,by show 5<=sizeLine;decide,λp1 np1=>?_⟩)
  obtain⟨g1,e1⟩:=laid (o:=.lst ((b9 (.prt k k2 f0 l0)).map V.str)) np1
  change cq _ _ _ (upd H p1 (.lst ((b9 (.prt k k2 f0 l0)).map V.str))) _
  generalize upd H p1 _=H1 at g1 e1 ⊢
  refine⟨_,rfl,_,rfl,by show 2<=sizeLine;decide,λp2 np2=>?_⟩
  obtain⟨g2,e2⟩:=laid (o:=.lst ((bQ (.prt k k2 f0 l0)).map V.str)) np2
  dsimp only [cq,tC,gC,List.append_nil,List.cons_append,List.nil_append]
  show bP K [.ref x,.ref p1,.ref p2,.int 0] (upd H1 p2 (.lst ((bQ (.prt k k2 f0 l0)).map V.str))) _ _
  refine kT (l:=.prt k k2 f0 l0) T hx ok (g1.trans g2) (g2 _ _ e1) (SqL.of e2) λln H3 nl o3 el ex=>?_
  have nlx:ln≠x:=λz=>by rw [z,hx]at nl;cases nl
  refine af ⟨_,rfl,_,rfl,x,C,dx,_,rfl,ex,T.cl,T.a_one,(by show 3 < 1000;decide),?_⟩
  refine af ⟨_,rfl,_,rfl,x,C,dx,_,rfl,ar,T.cl,T.a_other,(by show 4 < 1000;decide),?_⟩
  refine af ⟨_,rfl,_,rfl,x,C,dx,_,rfl,ar,T.cl,T.a_first,(by show 5 < 1000;decide),?_⟩
  refine⟨_,rfl,_,rfl,x,C,dx,_,rfl,ar,T.cl,T.a_last,(by show 6 < 1000;decide),?_⟩
  rw [bv,bv,bv]
  exact q ln _ nl (λb o e n=>by rw [ai n];exact o3 _ _ e n) (by rw [ai nlx];exact el) ar
noncomputable def ue (K:PySem.W.Frag):Sp:=λvs H Q _=>∃(x C dx:Addr) (r0:Int) (k:Str) (f0:Int) (l0:Int),vs=[.ref x,.int r0,.str k,.int f0,.int l0]/\LfI K C x dx (.chg r0 k f0 l0) H Q
theorem Aa:FnScope ["self", "rank", "key", "first", "last"] ["self", "rank", "key", "first", "last"] (aq uO):=‹2›
theorem yg {f f1:Addr}{fd:FuncData} (F:Fun K "__init__" "Change.__init__" uO f fd) (N:Free mg){fd1:FuncData}{CQ:Addr}{mc:Value} (CI:CMc P w K mg base "Question" "__init__" 2 ["self", "words", "keys", "depth"] (bP K) CQ f1 fd1 mc):FnOk P w K mg base CX0 3 f fd ["self", "rank", "key", "first", "last"] (ue K):=by
 refine F.ok (k:=2) Aa (λvs H Q E h=>?_) (λcdv A outer s H vs Q E hr h=>?_)
 ·obtain⟨x,C,dx,r0,k,f0,l0,rfl,_⟩:=h
  rfl
 ·obtain⟨x,C,dx,r0,k,f0,l0,rfl,⟨T,hx,ok,q⟩⟩:=h
  have hu:=aK hr
  refine⟨_,(ae (bg (dD rfl CI.nm CI.h1 CI.h2 CI.h3 rfl CI.ok (hr.mono (by decide)) CI.kp CI.bd .nil au (aa (pv 0) (aa (aR (aa aD (aa (aX bj (by rfl) N.str PyProof.Rows.Boot.«str» (aa (pv 1) ac)) (aa (pv 2) (aa (aX bj (by rfl) N.str PyProof.Rows.Boot.«str» (aa (pv 3) ac)) (aa (aX bj (by rfl) N.str PyProof.Rows.Boot.«str» (aa (pv 4) ac)) ac)))))) (aa (aR (aa (pv 2) ac)) (aa aj ac))))))
   (ae (bw (pv 0) (pv 1) rfl)
   (ae (bw (pv 0) (pv 2) rfl)
   (ae (bw (pv 0) (pv 3) rfl)
   (ah (bw (pv 0) (pv 4) rfl)))))),?_⟩
  obtain⟨⟨r1,r2⟩,_,h1,h2,h3⟩:=id ok
  refine af (be ⟨_,rfl,_,rfl,_,rfl,ck ‹1› ‹1›,_,rfl,_,rfl,_,rfl,ck ‹1› ‹1›,_,rfl,_,rfl,ck ‹1› ‹1›,by show 5<=sizeLine;decide,λp1 np1=>?_⟩)
  obtain⟨g1,e1⟩:=laid (o:=.lst ((b9 (.chg r0 k f0 l0)).map V.str)) np1
  change cq _ _ _ (upd H p1 (.lst ((b9 (.chg r0 k f0 l0)).map V.str))) _
  generalize upd H p1 _=H1 at g1 e1 ⊢
  refine⟨_,rfl,by show 1<=sizeLine;decide,λp2 np2=>?_⟩
  obtain⟨g2,e2⟩:=laid (o:=.lst ((bQ (.chg r0 k f0 l0)).map V.str)) np2
  dsimp only [cq,tC,gC,List.append_nil,List.cons_append,List.nil_append]
  show bP K [.ref x,.ref p1,.ref p2,.int 0] (upd H1 p2 (.lst ((bQ (.chg r0 k f0 l0)).map V.str))) _ _
  refine kT (l:=.chg r0 k f0 l0) T hx ok (g1.trans g2) (g2 _ _ e1) (SqL.of e2) λln H3 nl o3 el ex=>?_
  have nlx:ln≠x:=λz=>by rw [z,hx]at nl;cases nl
  refine af ⟨_,rfl,_,rfl,x,C,dx,_,rfl,ex,T.cl,T.a_rank,(by show 3 < 1000;decide),?_⟩
  refine af ⟨_,rfl,_,rfl,x,C,dx,_,rfl,ar,T.cl,T.a_key,(by show 4 < 1000;decide),?_⟩
  refine af ⟨_,rfl,_,rfl,x,C,dx,_,rfl,ar,T.cl,T.a_first,(by show 5 < 1000;decide),?_⟩
  refine⟨_,rfl,_,rfl,x,C,dx,_,rfl,ar,T.cl,T.a_last,(by show 6 < 1000;decide),?_⟩
  rw [bv,bv,bv]
  exact q ln _ nl (λb o e n=>by rw [ai n];exact o3 _ _ e n) (by rw [ai nlx];exact el) ar
noncomputable abbrev pK:Stmt:=aM (top 24) 0
noncomputable abbrev pI:Stmt:=aM (top 25) 0
noncomputable abbrev pJ:Stmt:=aM (top 26) 0
structure Cs where
 num:Addr
 val:Addr
 gth:Addr
 snc:Addr
 prt:Addr
 chg:Addr
 rck:Addr
 chc:Addr
noncomputable def Cs.all (c:Cs):List Addr:=[c.num,c.val,c.gth,c.snc,c.prt,c.chg,c.rck,c.chc]
noncomputable def lfC (c:Cs):Lf->Addr
 | .num _=>c.num
 | .val _ _=>c.val
 | .gth _ _ _ _=>c.gth
 | .snc _ _ _ _=>c.snc
 | .prt _ _ _ _=>c.prt
 | .chg _ _ _ _=>c.chg
noncomputable def brC (c:Cs) (w:Str):Addr:=if w∈bA then c.rck else c.chc
theorem dc (c:Cs) (l:Lf):lfC c l∈c.all:=by
 cases l <;> simp [lfC,Cs.all]
theorem fF (c:Cs) (w:Str):brC c w∈c.all:=by
 unfold brC
 split <;> simp [Cs.all]
inductive LfX (c:Cs) (l:Lf) (H:Hp) (x:Addr):Prop
 | mk (dx ln:Addr) (h1:H x=some (.ins (lfC c l) dx (wa l ln))) (h2:H ln=some (.lst ((aY (bQ l)).map V.str))):LfX c l H x
noncomputable def yI (n:Nat) (w:Str) (xs:List Nd) (ln li:Addr):List (Str × V):=qf3 (jn (aQ (n+1) (.brk w xs))) ln (dY (n+1) (.brk w xs))++([("word", V.str w),("inner", V.ref li)]:List (Str × V))
inductive BrX (c:Cs) (n:Nat) (w:Str) (xs:List Nd) (F:Addr->Nd->Prop) (H:Hp) (x:Addr):Prop
 | mk (dx ln li:Addr) (as:List Addr) (h1:H x=some (.ins (brC c w) dx (yI n w xs ln li))) (h2:H ln=some (.lst ((aY (dW (n+1) (.brk w xs))).map V.str))) (h3:H li=some (.lst (as.map V.ref))) (h4:Paired F as xs):BrX c n w xs F H x
noncomputable def bc (c:Cs):Nat->Nd->Hp->Addr->Prop
 | 0,.leaf l,H,x=>LfX c l H x
 | 0,.brk _ _,_,_=>False
 | _+1,.leaf l,H,x=>LfX c l H x
 | n+1,.brk w xs,H,x=>BrX c n w xs (λa q=>bc c n q H a) H x
theorem gh {c:Cs}{n:Nat}{l:Lf}{H:Hp}{x:Addr}:bc c n (.leaf l) H x↔LfX c l H x:=by cases n <;> exact Iff.rfl
def Kq (c:Cs) (H H':Hp):Prop:=(∀b C dx fs,H b=some (.ins C dx fs)->C∈c.all->H' b=some (.ins C dx fs))/\∀b xs,H b=some (.lst xs)->(∀v∈xs,v=.non\/(∃z,v=.str z)\/∃a,v=.ref a)->H' b=some (.lst xs)
theorem LfX.keep {c:Cs}{l:Lf}{H H':Hp}{x:Addr} (h:LfX c l H x) (g:Kq c H H'):LfX c l H' x:=by
 obtain⟨dx,ln,h1,h2⟩:=h
 refine⟨dx,ln,g.1 _ _ _ _ h1 (dc c l),g.2 _ _ h2 λv hv=>?_⟩
 obtain⟨z,_,rfl⟩:=List.mem_map.mp hv
 exact .inr (.inl ⟨z,rfl⟩)
theorem bc.keep {c:Cs}{H H':Hp} (g:Kq c H H'):∀{n:Nat}{nd:Nd}{x:Addr},bc c n nd H x->bc c n nd H' x
 | 0,.leaf l,x,h=>LfX.keep (show LfX c l H x from h) g
 | 0,.brk _ _,_,h=>(show False from h).elim
 | _+1,.leaf l,x,h=>LfX.keep (show LfX c l H x from h) g
 | n+1,.brk w xs,x,h=>by
  obtain⟨dx,ln,li,as,h1,h2,h3,h4⟩:BrX c n w xs (λa q=>bc c n q H a) H x:=h
  refine BrX.mk dx ln li as (g.1 _ _ _ _ h1 (fF c w)) (g.2 _ _ h2 λv hv=>?_) (g.2 _ _ h3 λv hv=>?_) (Paired.mono (λa q h=>bc.keep g h) h4)
  ·obtain⟨z,_,rfl⟩:=List.mem_map.mp hv
   exact .inr (.inl ⟨z,rfl⟩)
  ·obtain⟨z,_,rfl⟩:=List.mem_map.mp hv
   exact .inr (.inr ⟨z,rfl⟩)
theorem Kq.grow {c:Cs}{H H':Hp} (g:aZ H H'):Kq c H H':=⟨λ_ _ _ _ e _=>g _ _ e,λ_ _ e _=>g _ _ e⟩
theorem oI (n:Nat) (w:Str) (xs:List Nd) (ln li:Addr):∀p∈yI n w xs ln li,p.1∈cK:=by
 have key:∀{fs:List (Str × V)}{ks:List Str},fs.map (·.1)=ks->(∀k∈ks,k∈cK)->∀p∈fs,p.1∈cK:=λe h p hp=>h _ (by rw [<- e];exact List.mem_map_of_mem hp)
 exact key (ks:=[‹"written"›, ‹"names"›, ‹"levels"›, ‹"word"›, ‹"inner"›]) rfl ‹0›
theorem bc.at {c:Cs}{H:Hp}{n:Nat}{nd:Nd}{x:Addr} (h:bc c n nd H x):∃C ln,C∈c.all/\QAt H x C ln (jn (aQ n nd)) (aY (dW n nd)) (dY n nd):=by
 cases nd with
 | leaf l=>
  obtain⟨dx,ln,h1,h2⟩:=gh.mp h
  rw [fh,yw,yC]
  exact⟨_,ln,dc c l,⟨dx,w8 l,h1,oi l ln⟩,h2⟩
 | brk w xs=>
  cases n with
  | zero=>exact(show False from h).elim
  | succ n=>
   obtain⟨dx,ln,li,as,h1,h2,h3,h4⟩:BrX c n w xs (λa q=>bc c n q H a) H x:=h
   exact⟨_,ln,fF c w,⟨dx,_,h1,oI n w xs ln li⟩,h2⟩
theorem QAt.ob' {H:Hp}{x C ln:Addr}{tx:Str}{ks:List Str}{d:Int} (h:QAt H x C ln tx ks d){m:Str} (hm:m∉cK):∃dx fs,H x=some (.ins C dx fs)/\fs.lookup m=none:=by
 obtain⟨dx,r,e,k⟩:=h.ob
 exact⟨dx,_,e,xR hm k⟩
theorem dR {α β:Type}{F:α->β->Prop}:∀{xs:List α}{ys:List β}{i:Nat}{x:α},Paired F xs ys->xs[i]?=some x->∃y,ys[i]?=some y/\F x y
 | _,_,0,_,.cons a _,h=>by
  cases h
  exact⟨_,rfl,a⟩
 | _,_,i+1,_,.cons _ t,h=>dR (i:=i) t h
 | _,_,0,_,.nil,h=>nomatch h
 | _,_,_+1,_,.nil,h=>nomatch h
theorem ca {α β:Type}{F:α->β->Prop}:∀{xs:List α}{ys:List β},Paired F xs ys->xs.length=ys.length
 | _,_,.nil=>rfl
 | _,_,.cons _ t=>by rw [List.length_cons,List.length_cons,ca t]
theorem lF:∀(ns:List Int) (a:Int),a<=ns.foldl (λa b=>if b > a then b else a) a/\∀x∈ns,x<=ns.foldl (λa b=>if b > a then b else a) a
 | [],a=>⟨Int.le_refl _,λ_ h=>nomatch h⟩
 | n::ns,a=>by
  obtain⟨h1,h2⟩:=lF ns (if n > a then n else a)
  have hn:a<=(if n > a then n else a)/\n<=(if n > a then n else a):=by
   split <;> omega
  refine⟨Int.le_trans hn.1 h1,λx hx=>?_⟩
  rcases List.mem_cons.mp hx with z | hx
  ·rw [z];exact Int.le_trans hn.2 h1
  ·exact h2 x hx
theorem qz:∀(ns:List Int) (a m:Int),a<=m->(∀x∈ns,x<=m)->ns.foldl (λa b=>if b > a then b else a) a<=m
 | [],a,m,h,_=>h
 | n::ns,a,m,h,hn=>qz ns _ m (by have:=hn n List.mem_cons_self;show (if n > a then n else a)<=m;split <;> omega) λx hx=>hn x (List.mem_cons_of_mem _ hx)
theorem zL {ns:List Int}{M:Int} (h0:0<=M) (h1:M∈ns) (h2:∀x∈ns,x<=M):M=xc ns:=
 Int.le_antisymm ((lF ns 0).2 M h1) (qz ns 0 M h0 h2)
theorem wH:∀(n:Nat) (nd:Nd),0<=dY n nd
 | 0,_=>Int.le_refl _
 | _+1,.leaf _=>Int.le_refl _
 | n+1,.brk _ xs=>by
  have:=(lF (xs.map (dY n)) 0).1
  show 0<=1+xc (xs.map (dY n))
  unfold xc
  omega
theorem qq {K:W.Frag}{la:Addr}{xs ys0:List V}{sub:List Nat}{te:TE}{σ:St}{Q:VK}{H:Hp} (hn:xs.length < 1000) (hl:ys0.length=xs.length) (ha:H la=some (.lst xs)) (hte:∀(i:Nat) (x y:V) (H2:Hp) (R:VK),xs[i]?=some x->ys0[i]?=some y->aZ H H2->R y H2->te (some x::bG sub σ) H2 R)
  (hq:∀(D:Addr),H D=none->Q (.ref D) (upd H D (.lst ys0))):gb (Itl K la) sub (λ_ H Q=>Q true H) te σ Q H:=by
 intro D nD
 have nl:la≠D:=ao ha nD
 refine fe (K:=K) (a:=la) (xs:=xs) (sub:=sub) (tt:=λ_ H Q=>Q true H) (te:=te) (Q:=Q) (σ:=σ) (λi ys H2=>ys=ys0.take i/\H2=upd H D (.lst ys)) ⟨by rw [List.take_zero],rfl⟩ (λi ys H2 _ hh=>?_) (λi x ys H2 hi hh=>?_) λys H2 hh=>?_
 ·obtain⟨_,rfl⟩:=hh
  exact SqL.of (by rw [ai nl];exact ha)
 ·obtain⟨rfl,rfl⟩:=hh
  have hil:=(List.getElem?_eq_some_iff.mp hi).1
  have hy:ys0[i]?=some ys0[i]:=List.getElem?_eq_getElem ‹1›
  refine bb (hte i x _ _ _ hi hy (laid nD).1 ⟨ar,?_,?_,bv⟩)
  ·rw [List.length_take];exact bh ‹1›
  ·rw [List.take_add_one,hy];rfl
 ·obtain⟨rfl,rfl⟩:=hh
  rw [<- hl,List.take_length]
  exact hq D nD
theorem tJ {n:Nat}{nd:Nd} (h:cI n nd) (h3:n<=2):(jn (aQ n nd)).length<=15000:=by
 have:=mH (ws:=aQ n nd) (m:=79) λw hw=>(fL h w hw).len
 have hl:=cX h
 have hW:Wn n<=125:=by
  rcases (show n=0\/n=1\/n=2 by omega) with rfl | rfl | rfl <;> decide
 omega
theorem jN {α:Type}{f g:α->List Nat}:∀{xs:List α},(∀x∈xs,f x=g x)->xs.flatMap f=xs.flatMap g
 | [],_=>rfl
 | x::xs,h=>by rw [List.flatMap_cons,List.flatMap_cons,h x List.mem_cons_self,jN λy hy=>h y (List.mem_cons_of_mem _ hy)]
noncomputable def brP (n:Nat) (w:Str) (xs:List Nd):List Str:=w::xs.flatMap λq=>[opS,jn (aQ n q),clS]
theorem Bp {n:Nat}{w:Str}{xs:List Nd} (h:∀q∈xs,cI n q):jn (brP n w xs)=jn (aQ (n+1) (.brk w xs)):=by
 refine BT (by unfold brP;simp) (by unfold aQ;simp) ?_
 show fl 32 (w::xs.flatMap λq=>[opS,jn (aQ n q),clS])=fl 32 (w::xs.flatMap λc=>opS::(aQ n c++[clS]))
 rw [fu,fu,mL,mL]
 congr 1
 refine jN λq hq=>?_
 show fl 32 ([opS]++[jn (aQ n q)]++[clS])=fl 32 ([opS]++aQ n q++[clS])
 rw [jO,jO,jO,jO,C4 (mT n (h q hq))]
inductive BrI (H:Hp) (x:Addr) (w:Str) (li lw lk:Addr) (n:Nat) (xs:List Nd) (i:Nat) (σ:St) (H2:Hp):Prop
 | mk (v5:Option V) (h1:σ=[some (.ref x),some (.str w),some (.ref li),some (.ref lw),some (.ref lk),v5]) (h2:aZ H H2) (h3:H2 lw=some (.lst ((brP n w (xs.take i)).map V.str))) (h4:H2 lk=some (.lst (((xs.take i).flatMap λq=>aY (dW n q)).map V.str))):BrI H x w li lw lk n xs i σ H2
noncomputable def lN (K:PySem.W.Frag) (c:Cs):Sp:=λvs H Q _=>∃(x C dx li:Addr) (w:Str) (n:Nat) (as:List Addr) (xs:List Nd),vs=[.ref x,.str w,.ref li]/\QuC K C/\H x=some (.ins C dx [])/\H li=some (.lst (as.map V.ref))/\Paired (λa q=>bc c n q H a) as xs/\cI (n+1) (.brk w xs)/\n<=2/\
 ∀(ln lj:Addr) (H':Hp),H ln=none->H lj=none->Ofr x H H'->H' ln=some (.lst ((aY (dW (n+1) (.brk w xs))).map V.str))->H' lj=some (.lst (as.map V.ref))->H' x=some (.ins C dx (yI n w xs ln lj))->Q .non H'
theorem bX {H H':Hp} (g:aZ H H'){a:Addr} (h:H' a=none):H a=none:=by
 cases e:H a with
 | none=>rfl
 | some o=>rw [g _ _ e]at h;cases h
theorem j4:FnScope ["self", "word", "inner", "words", "keys", "question"] ["self", "word", "inner"] (aq pK):=‹2›
theorem vN {c:Cs}{f f1:Addr}{fd:FuncData} (F:Fun K "__init__" "Bracketed.__init__" pK f fd) (N:Free mg){fd1:FuncData}{CQ:Addr}{mc:Value} (CI:CMc P w K mg base "Question" "__init__" 2 ["self", "words", "keys", "depth"] (bP K) CQ f1 fd1 mc) (VQ:∀C∈c.all,QuC K C) (VT:∀C∈c.all,MV P w K mg base CX0 "text" 1 ["self"] (oR K) C) (VA:∀C∈c.all,MV P w K mg base CX0 "asked_keys" 1 ["self"] (lQ K) C) (VD:∀C∈c.all,MV P w K mg base CX0 "depth" 1 ["self"] (jp K) C):FnOk P w K mg base CX0 3 f fd ["self", "word", "inner"] (lN K c):=by
 refine F.ok (k:=2) j4 (λvs H Q E h=>?_) (λcdv A outer s H vs Q E hr h=>?_)
 ·obtain⟨x,C,dx,li,w,n,as,xs,rfl,_⟩:=h
  rfl
 ·obtain⟨x,C,dx,li,w,n,as,xs,rfl,T,hx,hli,hp,ok,h2,q⟩:=h
  have hu:=aK hr
  refine⟨_,(ae (ay (i:=3) j4.nd rfl (Or.inl rfl) (aR (aa (pv 1) ac)))
   (ae (ay (i:=4) j4.nd rfl (Or.inl rfl) (aR ac))
   (ae (cA PassesOwn.never rfl (cg (pv 2)) (bi (i:=5) j4.nd rfl (Or.inl rfl))
   (ae (bg (cM PySem.F.plainAttrs_list PySem.F.slot_list_extend PySem.F.type_list_extend iy (pv 3) (aa (aR (aa aD (aa (iw VT (pv 5) (hr.mono (by decide)) au) (aa aD ac)))) ac)))
   (ah (bg (cM PySem.F.plainAttrs_list PySem.F.slot_list_extend PySem.F.type_list_extend iy (pv 4) (aa (iw VA (pv 5) (hr.mono (by decide)) au) ac))))))
   (ae (bg (dD rfl CI.nm CI.h1 CI.h2 CI.h3 rfl CI.ok (hr.mono (by decide)) CI.kp CI.bd .nil au (aa (pv 0) (aa (pv 3) (aa (pv 4) (aa (aL bx aj (aG (sX rfl) (by rfl) N.max PyProof.Rows.Boot.«max» (aa (fH (bz rfl (cg (pv 2)) rfl rfl (by show ∀p∈_,gc [] p;decide) (by decide) rfl (by show ([‹"question"›]:List Str).Nodup;decide) .nil (λC fp s H=>cw) (λC fp s H=>(iw VD (pv 0) (hr.mono (by decide)) au)))) ac))) ac))))))
   (ae (bw (pv 0) (pv 1) rfl)
   (ah (bw (pv 0) (aX fB (by rfl) N.list PyProof.Rows.Boot.«list» (aa (pv 2) ac)) rfl))))))),?_⟩
  obtain⟨hw,hxs⟩:_/\_:=ok
  have hl4:=fE hw
  have hal:=ca hp
  refine af (aw ⟨_,rfl,by show 1<=sizeLine;decide,λlw nlw=>?_⟩)
  walk_at "d"
  obtain⟨g1,e1⟩:=laid (o:=.lst [V.str w]) nlw
  generalize upd H lw _=H1 at g1 e1 ⊢
  refine af (aw ⟨by show 0<=sizeLine;decide,λlk nlk=>?_⟩)
  walk_at "d"
  have nwk:lw≠lk:=ao e1 nlk
  have nlk0:=bX g1 nlk
  obtain⟨g2,e2⟩:=laid (o:=.lst []) nlk
  have e1:=g2 _ _ e1
  have g12:=g1.trans g2
  generalize upd H1 lk _=H2 at g12 e1 e2 ⊢
  refine af ⟨_,rfl,li,rfl,⟨_,SqL.of (g12 _ _ hli)⟩,fb (K:=K) (a:=li) (xs:=as.map V.ref) (BrI H x w li lw lk n xs) ⟨none,rfl,g12,e1,e2⟩ (λi σ H3 _ hh=>?_) (λi v σ H3 hi hh=>?_) λσ H3 hh=>?_⟩
  ·obtain⟨v5,rfl,g3,_,_⟩:=hh
   exact SqL.of (g3 _ _ hli)
  ·obtain⟨v5,rfl,g3,ew,ek⟩:=hh
   rw [List.getElem?_map]at hi
   obtain⟨a,ha,rfl⟩:=Option.map_eq_some_iff.mp hi
   obtain⟨q0,hq0,hqa⟩:=dR hp ha
   have hqx:=List.mem_of_getElem? hq0
   have hil:=(List.getElem?_eq_some_iff.mp hq0).1
   have et:xs.take (i+1)=xs.take i++[q0]:=by rw [List.take_add_one,hq0];rfl
   walk_at "d"
   obtain⟨C1,ln1,hC1,qa⟩:=(bc.keep (Kq.grow g3) hqa).at
   obtain⟨dx1,fs1,ex1,ef1⟩:=qa.ob' (m:="text") ‹0›
   refine af (be ⟨_,rfl,.inl ⟨rfl,_,SqL.of ew⟩,?_⟩)
   refine⟨_,rfl,a,C1,dx1,fs1,rfl,ex1,hC1,ef1,a,C1,ln1,_,_,_,rfl,VQ C1 hC1,qa,by show 3<=sizeLine;decide,λp np=>?_⟩
   obtain⟨g4,e4⟩:=laid (o:=.lst [V.str opS,V.str (jn (aQ n q0)),V.str clS]) np
   have npw:lw≠p:=ao ew np
   have npk:lk≠p:=ao ek np
   have ew4:=g4 _ _ ew
   have ek4:=g4 _ _ ek
   have g34:=g3.trans g4
   have hbl:(brP n w (xs.take i)).length<=100:=by
    have h5:=dh (g:=λq=>[opS,jn (aQ n q),clS]) (m:=3) (xs.take i) (λ_ _=>Nat.le_refl _)
    rw [List.length_take]at h5
    show (w::_).length<=100
    rw [List.length_cons]
    omega
   refine⟨lw,p,_,_,rfl,rfl,ew4,e4,?_,?_⟩
   ·rw [List.length_map]
    have h3:(brP n w (xs.take i)).length+3<=1000:=by omega
    exact Nat.le_of_lt (bh h3)
   have qa5:=(bc.keep (Kq.grow (g3.trans g4)) hqa).at
   generalize hH5:upd (upd H3 p _) lw _=H5
   have gw:∀b o,H b=some o->H5 b=some o:=λb o e=>by
    rw [<- hH5,ai (ao e nlw)];exact g34 _ _ e
   have ew5:H5 lw=some (.lst ((brP n w (xs.take (i+1))).map V.str)):=by
    rw [<- hH5,ar,et]
    show some (HO.lst ((w::(xs.take i).flatMap _).map V.str++_))=some (HO.lst ((w::(xs.take i++[q0]).flatMap _).map V.str))
    rw [List.flatMap_append,List.map_cons,List.map_cons,List.map_append,List.flatMap_cons,List.flatMap_nil,List.append_nil]
    rfl
   have ek5:H5 lk=some (.lst (((xs.take i).flatMap λq=>aY (dW n q)).map V.str)):=by rw [<- hH5,ai (Ne.symm nwk)];exact ek4
   obtain⟨C1,ln1,hC1,qa⟩:=(bc.keep (Kq.grow gw) hqa).at
   obtain⟨dx1,fs1,ex1,ef1⟩:=qa.ob' (m:="asked_keys") ‹0›
   dsimp only
   refine be ⟨_,rfl,.inl ⟨rfl,_,SqL.of ek5⟩,?_⟩
   refine⟨_,rfl,a,C1,dx1,fs1,rfl,ex1,hC1,ef1,a,C1,ln1,_,_,_,rfl,VQ C1 hC1,qa,λp2 np2=>?_⟩
   obtain⟨g6,e6⟩:=laid (o:=.lst ((aY (dW n q0)).map V.str)) np2
   have hkn:=Nat.le_trans (ib (hxs q0 hqx)) (Cc (show n<=3 by omega))
   have ho:(aY (dW n q0)).length<=512:=Nat.le_trans (dS _ _ rfl) hkn
   have hks:=dh (g:=λq=>aY (dW n q)) (m:=128) (xs.take i) λq hq=>by
    have:=ib (hxs q (List.mem_of_mem_take hq))
    have h8:Kn n<=128:=by rcases (show n=0\/n=1\/n=2 by omega) with rfl | rfl | rfl <;> decide
    exact Nat.le_trans (dS _ _ rfl) ‹1›
   rw [List.length_take]at hks
   refine⟨lk,p2,_,_,rfl,rfl,g6 _ _ ek5,e6,?_,?_⟩
   ·rw [List.length_map,List.length_map]
    exact Nat.le_trans (show _<=2000 by omega) (by decide)
   refine⟨_,rfl,λb o e=>?_,?_,?_⟩
   ·rw [ai (ao e nlk0)];exact g6 _ _ (gw _ _ e)
   ·rw [ai nwk];exact g6 _ _ ew5
   ·rw [ar,et,List.flatMap_append,List.map_append,List.flatMap_cons,List.flatMap_nil,List.append_nil]
  ·obtain⟨v5,rfl,g3,ew,ek⟩:=hh
   rw [List.length_map,hal,List.take_length]at ew ek
   walk_at "d"
   have hli3:=g3 _ _ hli
   refine af (be ⟨_,rfl,_,rfl,_,rfl,cJ (zi ?_)⟩)
   dsimp only [tC]
   refine uY (cJ (ce ⟨_,rfl,li,rfl,⟨_,SqL.of hli3⟩,qq (ys0:=(xs.map (dY n)).map V.int) (by rw [List.length_map];omega) (by rw [List.length_map,List.length_map,List.length_map];omega) hli3 (λi v y H4 R hi hy g4 hR=>?_) λD nD=>?_⟩))
   ·rw [List.getElem?_map]at hi
    obtain⟨a,ha,rfl⟩:=Option.map_eq_some_iff.mp hi
    obtain⟨q0,hq0,hqa⟩:=dR hp ha
    rw [List.getElem?_map,List.getElem?_map,hq0]at hy
    cases (show some (V.int (dY n q0))=some y from hy)
    obtain⟨C1,ln1,hC1,qa⟩:=(bc.keep (Kq.grow (g3.trans g4)) hqa).at
    obtain⟨dx1,fs1,ex1,ef1⟩:=qa.ob' (m:="depth") ‹0›
    exact⟨_,rfl,a,C1,dx1,fs1,rfl,ex1,hC1,ef1,a,C1,ln1,_,_,_,rfl,VQ C1 hC1,qa,hR⟩
   obtain⟨g4,e4⟩:=laid (o:=.lst ((xs.map (dY n)).map V.int)) nD
   generalize upd H3 D _=H4 at g4 e4 ⊢
   refine⟨D,_,rfl,SqL.of e4,λz=>?_,λM hM1 hM2=>?_⟩
   ·rw [List.map_eq_nil_iff]at z
    rw [z]at hl4
    exact absurd hl4.1 (by decide)
   have hM0:0<=M:=by
    obtain⟨q0,_,e⟩:=List.mem_map.mp hM1
    rw [<- e];exact wH n q0
   have eM:=zL hM0 hM1 hM2
   refine⟨_,_,rfl,rfl,?_⟩
   dsimp only [cq,tC,gC,List.append_nil,List.cons_append,List.nil_append]
   have eD:1+M=dY (n+1) (.brk w xs):=by rw [eM];rfl
   rw [eD]
   have gH4:=g3.trans g4
   have hkl:=dh (g:=λq=>aY (dW n q)) (m:=128) xs λq hq=>by
    have:=ib (hxs q hq)
    have h8:Kn n<=128:=by rcases (show n=0\/n=1\/n=2 by omega) with rfl | rfl | rfl <;> decide
    exact Nat.le_trans (dS _ _ rfl) ‹1›
   have hbl:=dh (g:=λq=>[opS,jn (aQ n q),clS]) (m:=3) xs (λ_ _=>Nat.le_refl _)
   refine⟨x,C,dx,lw,lk,[],brP n w xs,xs.flatMap λq=>aY (dW n q),_,rfl,T,gH4 _ _ hx,by decide,g4 _ _ ew,SqL.of (g4 _ _ ek),by omega,j8 (λv hv=>?_) ?_,λln H5 nl o5 el ex=>?_⟩
   ·rcases List.mem_cons.mp hv with z | hv
    ·rw [z];exact Nat.le_trans (wW hw).hi (by decide)
    ·obtain⟨q0,hq0,hv⟩:=List.mem_flatMap.mp hv
     refine(all_cons (P:=λv=>v.length<=15000) ‹0› (all_cons (tJ (hxs q0 hq0) h2) (all_cons ‹0› fG))) v hv
   ·show (w::_).length<=1000
    rw [List.length_cons];omega
   have ej:=Bp (w:=w) hxs
   unfold jn at ej
   rw [ej]at ex
   rw [sA]at el
   have nl0:=bX gH4 nl
   have nlx:ln≠x:=λz=>by rw [z,hx]at nl0;cases nl0
   refine af ⟨_,rfl,_,rfl,x,C,dx,_,rfl,ex,T.cl,T.a_word,(by show 3 < 1000;decide),?_⟩
   have hli5:=o5 _ _ (g4 _ _ hli3) (dw hli hx (λz=>nomatch z))
   have nlix:li≠x:=dw hli hx (λz=>nomatch z)
   refine⟨_,rfl,li,_,rfl,.inl (SqL.of (by rw [ai nlix];exact hli5)),λlj nj=>?_⟩
   have njx:lj≠x:=λz=>by rw [z,ar]at nj;cases nj
   have nj5:H5 lj=none:=by rw [ai njx]at nj;exact nj
   have nlj:ln≠lj:=ao el nj5
   have nj0:H lj=none:=by
    cases e:H lj with
    | none=>rfl
    | some o=>rw [o5 _ _ (gH4 _ _ e) njx]at nj5;cases nj5
   refine⟨_,rfl,x,C,dx,_,rfl,by rw [ai (Ne.symm njx),ar],T.cl,T.a_inner,(by show 4 < 1000;decide),?_⟩
   refine q ln lj _ nl0 nj0 (λb o e nb=>?_) ?_ ?_ ar
   ·rw [ai nb,ai (ao e nj0),ai nb];exact o5 _ _ (gH4 _ _ e) nb
   ·rw [ai nlx,ai nlj,ai nlx];exact el
   ·rw [ai njx,ar]
inductive KidI (K:PySem.W.Frag) (c:Cs) (x C dx:Addr) (n:Nat) (w:Str) (as:List Addr) (xs:List Nd) (H:Hp) (Q:VK):Prop
 | mk (T:QuC K C) (hx:H x=some (.ins C dx [])) (hp:Paired (λa q=>bc c n q H a) as xs) (ok:cI (n+1) (.brk w xs)) (h2:n<=2) (q:∀(ln lj:Addr) (H':Hp),H ln=none->H lj=none->Ofr x H H'->H' ln=some (.lst ((aY (dW (n+1) (.brk w xs))).map V.str))->H' lj=some (.lst (as.map V.ref))->H' x=some (.ins C dx (yI n w xs ln lj))->Q .non H'):KidI K c x C dx n w as xs H Q
noncomputable def iW (K:PySem.W.Frag) (c:Cs):Sp:=λvs H Q _=>∃(x C dx a1 a2:Addr) (w:Str) (n:Nat) (xs:List Nd),vs=[.ref x,.str w,.ref a1,.ref a2]/\KidI K c x C dx n w [a1,a2] xs H Q
noncomputable def iX (K:PySem.W.Frag) (c:Cs):Sp:=λvs H Q _=>∃(x C dx a1 a2 a3 a4:Addr) (w:Str) (n:Nat) (xs:List Nd),vs=[.ref x,.str w,.ref a1,.ref a2,.ref a3,.ref a4]/\KidI K c x C dx n w [a1,a2,a3,a4] xs H Q
theorem xG:FnScope ["self", "word", "one", "other"] ["self", "word", "one", "other"] (aq pI):=‹2›
theorem vL {c:Cs}{f f1:Addr}{fd:FuncData} (F:Fun K "__init__" "Reckoning.__init__" pI f fd) (N:Free mg){fd1:FuncData}{CB:Addr}{mc:Value} (CI:CMc P w K mg base "Bracketed" "__init__" 3 ["self", "word", "inner"] (lN K c) CB f1 fd1 mc):FnOk P w K mg base CX0 4 f fd ["self", "word", "one", "other"] (iW K c):=by
 refine F.ok (k:=3) xG (λvs H Q E h=>?_) (λcdv A outer s H vs Q E hr h=>?_)
 ·obtain⟨x,C,dx,a1,a2,w,n,xs,rfl,_⟩:=h
  rfl
 ·obtain⟨x,C,dx,a1,a2,w,n,xs,rfl,T,hx,hp,ok,h2,q⟩:=h
  have hu:=aK hr
  refine⟨_,(ah (bg (dD rfl CI.nm CI.h1 CI.h2 CI.h3 rfl CI.ok (hr.mono (by decide)) CI.kp CI.bd .nil au (aa (pv 0) (aa (pv 1) (aa (aR (aa (pv 2) (aa (pv 3) ac))) ac)))))),?_⟩
  refine be ⟨_,rfl,_,rfl,_,rfl,_,rfl,by show 2<=sizeLine;decide,λp np=>?_⟩
  obtain⟨g1,e1⟩:=laid (o:=.lst ([a1,a2].map V.ref)) np
  refine⟨x,C,dx,p,w,n,[a1,a2],xs,rfl,T,g1 _ _ hx,e1,Paired.mono (λa q0 h=>bc.keep (Kq.grow g1) h) hp,ok,h2,λln lj H' nl nj o el ej ex=>?_⟩
  exact q ln lj H' (bX g1 nl) (bX g1 nj) (λb u e n=>o _ _ (g1 _ _ e) n) el ej ex
theorem xH:FnScope ["self", "word", "one", "other", "chosen", "otherwise"] ["self", "word", "one", "other", "chosen", "otherwise"] (aq pJ):=‹2›
theorem vM {c:Cs}{f f1:Addr}{fd:FuncData} (F:Fun K "__init__" "Choice.__init__" pJ f fd) (N:Free mg){fd1:FuncData}{CB:Addr}{mc:Value} (CI:CMc P w K mg base "Bracketed" "__init__" 3 ["self", "word", "inner"] (lN K c) CB f1 fd1 mc):FnOk P w K mg base CX0 4 f fd ["self", "word", "one", "other", "chosen", "otherwise"] (iX K c):=by
 refine F.ok (k:=3) xH (λvs H Q E h=>?_) (λcdv A outer s H vs Q E hr h=>?_)
 ·obtain⟨x,C,dx,a1,a2,a3,a4,w,n,xs,rfl,_⟩:=h
  rfl
 ·obtain⟨x,C,dx,a1,a2,a3,a4,w,n,xs,rfl,T,hx,hp,ok,h2,q⟩:=h
  have hu:=aK hr
  refine⟨_,(ah (bg (dD rfl CI.nm CI.h1 CI.h2 CI.h3 rfl CI.ok (hr.mono (by decide)) CI.kp CI.bd .nil au (aa (pv 0) (aa (pv 1) (aa (aR (aa (pv 2) (aa (pv 3) (aa (pv 4) (aa (pv 5) ac))))) ac)))))),?_⟩
  refine be ⟨_,rfl,_,rfl,_,rfl,_,rfl,_,rfl,_,rfl,by show 4<=sizeLine;decide,λp np=>?_⟩
  obtain⟨g1,e1⟩:=laid (o:=.lst ([a1,a2,a3,a4].map V.ref)) np
  refine⟨x,C,dx,p,w,n,[a1,a2,a3,a4],xs,rfl,T,g1 _ _ hx,e1,Paired.mono (λa q0 h=>bc.keep (Kq.grow g1) h) hp,ok,h2,λln lj H' nl nj o el ej ex=>?_⟩
  exact q ln lj H' (bX g1 nl) (bX g1 nj) (λb u e n=>o _ _ (g1 _ _ e) n) el ej ex
noncomputable abbrev m8:Stmt:=top 42
noncomputable abbrev sQh:Stmt:=top 41
noncomputable abbrev uC:Stmt:=top 43
noncomputable abbrev Af:Stmt:=top 40
structure MkC (P:Program) (w:World) (K:PySem.W.Frag) (mg:Str->Option Value) (base:Heap) (cn:Str) (k:Nat) (ps:List Str) (sp:Sp) (C f:Addr) (fd:FuncData):Prop where
 km:Mk K C f
 ok:FnOk P w K mg base CX0 k f fd ps sp
 nm:mg cn=some (.ref C)
 bd:bE K fd ps []
theorem Ofr.trans {r:Addr}{H H1 H2:Hp} (h:Ofr r H H1) (g:Ofr r H1 H2):Ofr r H H2:=λb o e n=>g _ _ (h _ _ e n) n
theorem Ofr.refl {r:Addr}{H:Hp}:Ofr r H H:=λ_ _ e _=>e
theorem RdAt.free {R:Addr}{H H1:Hp}{r lw x:Addr}{ws:List Str}{pl:Nat}{op:Int} (h1:RdAt R H1 r lw ws pl op) (o1:Ofr r H H1) (nx:H1 x=none):H x=none:=by
 cases e:H x with
 | none=>rfl
 | some o=>
  by_cases z:x=r
  ·obtain⟨d,er⟩:=h1.ob
   rw [z,er]at nx;cases nx
  ·rw [o1 _ _ e z]at nx;cases nx
theorem RdAt.made {R:Addr}{H1 H':Hp}{r lw x dx C:Addr}{ws:List Str}{pl:Nat}{op:Int} (h1:RdAt R H1 r lw ws pl op) (nx:H1 x=none) (nd:H1 dx=none) (o:Ofr x (upd (upd H1 dx (.own x)) x (.ins C dx [])) H'):aZ H1 H'/\RdAt R H' r lw ws pl op:=by
 have g:aZ H1 H':=λb u e=>o _ _ (by rw [ai (ao e nx),ai (ao e nd)];exact e) (ao e nx)
 exact⟨g,h1.keep g⟩
noncomputable def wo (H0 H:Hp):Hp:=λb=>match H0 b with
 | none=>H b
 | some _=>none
theorem dO {H0 H:Hp}{b:Addr} (h:H0 b=none):wo H0 H b=H b:=by unfold wo;rw [h]
theorem oM {H0 H:Hp}{b:Addr}{o:HO} (h:wo H0 H b=some o):H0 b=none/\H b=some o:=by
 unfold wo at h
 cases e:H0 b with
 | none=>rw [e]at h;exact⟨rfl,h⟩
 | some _=>rw [e]at h;cases h
theorem tu {H0 H:Hp}:aZ (wo H0 H) H:=λb o e=>(oM e).2
theorem fg {H0 H H':Hp} (g:∀b o,H0 b=none->H b=some o->H' b=some o):aZ (wo H0 H) (wo H0 H'):=λb o e=>by
 obtain⟨h1,h2⟩:=oM e
 rw [dO h1];exact g _ _ h1 h2
theorem eO {H0 H1 H:Hp} (g:∀b,H1 b=none->H0 b=none):aZ (wo H1 H) (wo H0 H):=λb o e=>by
 obtain⟨h1,h2⟩:=oM e
 rw [dO (g _ h1)];exact h2
theorem gs {K:W.Frag}{c:Cs}{R:Addr}{H H1:Hp}{r lw x dx:Addr}{ws:List Str}{pl:Nat}{op:Int}{l:Lf}{Q:VK} (VQ:∀C∈c.all,QuC K C) (ok:du l) (o1:Ofr r H H1) (h1:RdAt R H1 r lw ws pl op) (nx:H1 x=none) (nd:H1 dx=none)
  (q:∀x H',H x=none->Ofr r H H'->RdAt R H' r lw ws pl op->LfX c l (wo H H') x->Q (.ref x) H'):LfI K (lfC c l) x dx l (upd (upd H1 dx (.own x)) x (.ins (lfC c l) dx [])) (λv H2=>v=.non/\Q (.ref x) H2):=by
 refine⟨VQ _ (dc c l),ar,ok,λln H' nl o el ex=>⟨rfl,?_⟩⟩
 obtain⟨g,h'⟩:=h1.made nx nd o
 have nl1:H1 ln=none:=by
  cases e:H1 ln with
  | none=>rfl
  | some u=>rw [ai (ao e nx),ai (ao e nd),e]at nl;cases nl
 exact q x H' (h1.free o1 nx) (λb u e n=>g _ _ (o1 _ _ e n)) h' ⟨dx,ln,by rw [dO (h1.free o1 nx)];exact ex,by rw [dO (h1.free o1 nl1)];exact el⟩
noncomputable def rL:Lf->Prop
 | .gth _ _ _ _=>True
 | _=>False
noncomputable def gO (l:Lf):List Str:=(b9 l).tail
noncomputable def cS (l:Lf):Str:=(b9 l).headD ‹""›
theorem tG (l:Lf):b9 l=cS l::gO l:=by cases l <;> rfl
inductive SgI (c:Cs) (R:Addr) (l:Lf) (r:Addr) (H:Hp) (Q:VK):Prop
 | mk (lw:Addr) (ws:List Str) (pl:Nat) (op:Int) (ok:du l) (ng:¬rL l) (h:RdAt R H r lw ws pl op) (hat:At ws pl (gO l)) (q:∀x H',H x=none->Ofr r H H'->RdAt R H' r lw ws (pl+(gO l).length) op->LfX c l (wo H H') x->Q (.ref x) H'):SgI c R l r H Q
noncomputable def gQ (c:Cs) (R:Addr):Sp:=λvs H Q _=>∃(r:Addr) (l:Lf),vs=[.ref r,.str (cS l)]/\SgI c R l r H Q
theorem wl {w:Str} (h:Wd w):w.length < sizeLine:=Nat.lt_of_le_of_lt h.hi (by decide)
theorem nl {w:Str} (h:mS w):w.length < sizeLine:=wl (kR h)
theorem c9:FnScope ["reader", "word", "key", "bound", "first", "one", "other", "rank"] ["reader", "word"] (aq m8):=‹2›
theorem sC {c:Cs}{f f1 f2 f3 f4 f5 f6 f7 f8 f9 R:Addr}{fd:FuncData} (F:Fun K "single_here" "single_here" m8 f fd) (N:Free mg) (Z:Con mg) (VQ:∀C∈c.all,QuC K C){fd1:FuncData} (MV_:MC P w K mg base R "value_here" 4 ["self"] [] [] (tX R) f1 fd1){fd2:FuncData} (MD:MC P w K mg base R "day_here" 4 ["self", "earliest"] [] [] (jq R) f2 fd2){fd3:FuncData} (MK:MC P w K mg base R "key_here" 3 ["self"] [] [] (u9 R) f3 fd3){fd4:FuncData} (MN:MC P w K mg base R "number_here" 3 ["self", "low", "high"] [] [] (lL R) f4 fd4){fd5:FuncData} (KNum:MkC P w K mg base "Number" 3 ["self", "number"] (ud K) c.num f5 fd5){fd6:FuncData} (KVal:MkC P w K mg base "Value" 3 ["self", "key", "day"] (ua K) c.val f6 fd6){fd7:FuncData} (KSnc:MkC P w K mg base "Since" 3 ["self", "key", "bound", "first", "last"] (ub K) c.snc f7 fd7){fd8:FuncData} (KPrt:MkC P w K mg base "Part" 3 ["self", "one", "other", "first", "last"] (uc K) c.prt f8 fd8){fd9:FuncData} (KChg:MkC P w K mg base "Change" 3 ["self", "rank", "key", "first", "last"] (ue K) c.chg f9 fd9):FnOk P w K mg base CX0 5 f fd ["reader", "word"] (gQ c R):=by
 obtain⟨t1,c1⟩:=Z.rank
 refine F.ok (k:=4) c9 (λvs H Q E h=>?_) (λcdv A outer s H vs Q E hr h=>?_)
 ·obtain⟨r,l,rfl,_⟩:=h
  rfl
 ·obtain⟨r,l,rfl,lw,ws,pl,op,ok,ng,h,hat,q⟩:=h
  have hu:=aK hr
  refine⟨_,(ae (ba (aI bM (pv 1) aD (aP _)) (ah (ax (dC KNum.km KNum.ok (hr.mono (by decide)) rfl KNum.nm KNum.bd .nil au (aa (bp (pv 0) MV_.cl MV_.mt MV_.ok (hr.mono (by decide)) MV_.bd MV_.dv au) ac)))) aF)
   (ae (ba (aI bM (pv 1) aD (aP _)) (ae (ay (i:=2) c9.nd rfl (Or.inl rfl) (bp (pv 0) MK.cl MK.mt MK.ok (hr.mono (by decide)) MK.bd MK.dv au))
   (ah (ax (dC KVal.km KVal.ok (hr.mono (by decide)) rfl KVal.nm KVal.bd .nil au (aa (pv 2) (aa (bF (pv 0) MD.cl MD.mt MD.ok (hr.mono (by decide)) MD.bd MD.dv au (aa aj ac)) ac)))))) aF)
   (ae (ba (aI bM (pv 1) aD (aP _)) (ae (ay (i:=2) c9.nd rfl (Or.inl rfl) (bp (pv 0) MK.cl MK.mt MK.ok (hr.mono (by decide)) MK.bd MK.dv au))
   (ae (ay (i:=3) c9.nd rfl (Or.inl rfl) (bp (pv 0) MV_.cl MV_.mt MV_.ok (hr.mono (by decide)) MV_.bd MV_.dv au))
   (ae (ay (i:=4) c9.nd rfl (Or.inl rfl) (bF (pv 0) MD.cl MD.mt MD.ok (hr.mono (by decide)) MD.bd MD.dv au (aa aj ac)))
   (ah (ax (dC KSnc.km KSnc.ok (hr.mono (by decide)) rfl KSnc.nm KSnc.bd .nil au (aa (pv 2) (aa (pv 3) (aa (pv 4) (aa (bF (pv 0) MD.cl MD.mt MD.ok (hr.mono (by decide)) MD.bd MD.dv au (aa (pv 4) ac)) ac)))))))))) aF)
   (ae (ba (aI bM (pv 1) aD (aP _)) (ae (ay (i:=5) c9.nd rfl (Or.inl rfl) (bp (pv 0) MK.cl MK.mt MK.ok (hr.mono (by decide)) MK.bd MK.dv au))
   (ae (ay (i:=6) c9.nd rfl (Or.inl rfl) (bp (pv 0) MK.cl MK.mt MK.ok (hr.mono (by decide)) MK.bd MK.dv au))
   (ae (ay (i:=4) c9.nd rfl (Or.inl rfl) (bF (pv 0) MD.cl MD.mt MD.ok (hr.mono (by decide)) MD.bd MD.dv au (aa aj ac)))
   (ah (ax (dC KPrt.km KPrt.ok (hr.mono (by decide)) rfl KPrt.nm KPrt.bd .nil au (aa (pv 5) (aa (pv 6) (aa (pv 4) (aa (bF (pv 0) MD.cl MD.mt MD.ok (hr.mono (by decide)) MD.bd MD.dv au (aa (pv 4) ac)) ac)))))))))) aF)
   (ae (ay (i:=7) c9.nd rfl (Or.inl rfl) (bF (pv 0) MN.cl MN.mt MN.ok (hr.mono (by decide)) MN.bd MN.dv au (aa aj (aa (bI (v:=.int 400) (by rfl) c1 ⟨_,rfl⟩) ac))))
   (ae (ay (i:=2) c9.nd rfl (Or.inl rfl) (bp (pv 0) MK.cl MK.mt MK.ok (hr.mono (by decide)) MK.bd MK.dv au))
   (ae (ay (i:=4) c9.nd rfl (Or.inl rfl) (bF (pv 0) MD.cl MD.mt MD.ok (hr.mono (by decide)) MD.bd MD.dv au (aa aj ac)))
   (ah (ax (dC KChg.km KChg.ok (hr.mono (by decide)) rfl KChg.nm KChg.bd .nil au (aa (pv 7) (aa (pv 2) (aa (pv 4) (aa (bF (pv 0) MD.cl MD.mt MD.ok (hr.mono (by decide)) MD.bd MD.dv au (aa (pv 4) ac)) ac)))))))))))))),?_⟩
  cases l with
  | gth w ks f0 l0=>exact absurd True.intro ng
  | num z=>
   refine af (aE ⟨_,rfl,rfl,_,rfl,?_⟩)
   refine bb ?_
   have hz:=id ok
   have o0:Ofr r H H:=Ofr.refl
   obtain⟨dx0,ho0⟩:=h.ob
   have hx0:=hat.hd
   refine aA ⟨_,rfl,r,dx0,_,rfl,ho0,bu _ _ _ ‹0› ‹0› ‹0›,r,lw,ws,_,op,z,_,rfl,h,hx0,wl (cV hz.1 hz.2),dk hz.1 hz.2 hz.1 hz.2,λH9 p9 h9=>?_⟩
   intro x dx nx nd _
   exact⟨x,_,dx,z,rfl,gs (l:=.num z) VQ ok (o0.trans p9) h9 nx nd q⟩
  | val k d=>
   refine af (aE ⟨_,rfl,rfl,_,rfl,?_⟩)
   rw [show decide (V.str (cS (.val k d))=V.str ‹"number"›)=false from (show decide (V.str ‹"value"›=V.str ‹"number"›)=false from ‹0›)]
   refine aS (aB ?_)
   dsimp only
   refine af (aE ⟨_,rfl,rfl,_,rfl,?_⟩)
   refine bb ?_
   obtain⟨hk,d0,d1⟩:=id ok
   have o0:Ofr r H H:=Ofr.refl
   obtain⟨dx0,ho0⟩:=h.ob
   have hx0:=hat.hd
   have at0:=hat.tl
   refine af (aw ⟨_,rfl,r,dx0,_,rfl,ho0,bu _ _ _ ‹0› ‹0› ‹0›,r,lw,ws,_,op,k,rfl,h,hx0,nl hk,hk,λH0 p0 h0_=>?_⟩)
   walk_at "d"
   have o1:=o0.trans p0
   obtain⟨dx1,ho1⟩:=h0_.ob
   have hx1:=at0.hd
   refine aA ⟨_,rfl,_,rfl,r,dx1,_,rfl,ho1,bu _ _ _ ‹0› ‹0› ‹0›,r,lw,ws,_,op,0,d,_,rfl,h0_,hx1,wl (cV ‹1› ‹1›),dk ‹1› ‹1› ‹1› ‹1›,λH9 p9 h9=>?_⟩
   intro x dx nx nd _
   exact⟨x,_,dx,k,d,rfl,gs (l:=.val k d) VQ ok (o1.trans p9) h9 nx nd q⟩
  | snc k b0 f0 l0=>
   refine af (aE ⟨_,rfl,rfl,_,rfl,?_⟩)
   rw [show decide (V.str (cS (.snc k b0 f0 l0))=V.str ‹"number"›)=false from (show decide (V.str ‹"since"›=V.str ‹"number"›)=false from ‹0›)]
   refine aS (aB ?_)
   dsimp only
   refine af (aE ⟨_,rfl,rfl,_,rfl,?_⟩)
   rw [show decide (V.str (cS (.snc k b0 f0 l0))=V.str ‹"value"›)=false from (show decide (V.str ‹"since"›=V.str ‹"value"›)=false from ‹0›)]
   refine aS (aB ?_)
   dsimp only
   refine af (aE ⟨_,rfl,rfl,_,rfl,?_⟩)
   refine bb ?_
   obtain⟨hk,hb,h1,h2,h3⟩:=id ok
   have o0:Ofr r H H:=Ofr.refl
   obtain⟨dx0,ho0⟩:=h.ob
   have hx0:=hat.hd
   have at0:=hat.tl
   refine af (aw ⟨_,rfl,r,dx0,_,rfl,ho0,bu _ _ _ ‹0› ‹0› ‹0›,r,lw,ws,_,op,k,rfl,h,hx0,nl hk,hk,λH0 p0 h0_=>?_⟩)
   walk_at "d"
   have o1:=o0.trans p0
   obtain⟨dx1,ho1⟩:=h0_.ob
   have hx1:=at0.hd
   have at1:=at0.tl
   refine af (aw ⟨_,rfl,r,dx1,_,rfl,ho1,bu _ _ _ ‹0› ‹0› ‹0›,r,lw,ws,_,op,b0,_,rfl,h0_,hx1,wl (cV hb.1 hb.2),dk hb.1 hb.2 hb.1 hb.2,λH1 p1 h1_=>?_⟩)
   walk_at "d"
   have o2:=o1.trans p1
   obtain⟨dx2,ho2⟩:=h1_.ob
   have hx2:=at1.hd
   have at2:=at1.tl
   refine af (aw ⟨_,rfl,r,dx2,_,rfl,ho2,bu _ _ _ ‹0› ‹0› ‹0›,r,lw,ws,_,op,0,f0,_,rfl,h1_,hx2,wl (cV ‹1› ‹1›),dk ‹1› ‹1› ‹1› ‹1›,λH2 p2 h2_=>?_⟩)
   walk_at "d"
   have o3:=o2.trans p2
   obtain⟨dx3,ho3⟩:=h2_.ob
   have hx3:=at2.hd
   refine aA ⟨_,rfl,_,rfl,_,rfl,_,rfl,r,dx3,_,rfl,ho3,bu _ _ _ ‹0› ‹0› ‹0›,_,rfl,r,lw,ws,_,op,f0,l0,_,rfl,h2_,hx3,wl (cV ‹1› ‹1›),dk ‹1› ‹1› ‹1› ‹1›,λH9 p9 h9=>?_⟩
   intro x dx nx nd _
   exact⟨x,_,dx,k,b0,f0,l0,rfl,gs (l:=.snc k b0 f0 l0) VQ ok (o3.trans p9) h9 nx nd q⟩
  | prt k k2 f0 l0=>
   refine af (aE ⟨_,rfl,rfl,_,rfl,?_⟩)
   rw [show decide (V.str (cS (.prt k k2 f0 l0))=V.str ‹"number"›)=false from (show decide (V.str ‹"part"›=V.str ‹"number"›)=false from ‹0›)]
   refine aS (aB ?_)
   dsimp only
   refine af (aE ⟨_,rfl,rfl,_,rfl,?_⟩)
   rw [show decide (V.str (cS (.prt k k2 f0 l0))=V.str ‹"value"›)=false from (show decide (V.str ‹"part"›=V.str ‹"value"›)=false from ‹0›)]
   refine aS (aB ?_)
   dsimp only
   refine af (aE ⟨_,rfl,rfl,_,rfl,?_⟩)
   rw [show decide (V.str (cS (.prt k k2 f0 l0))=V.str ‹"since"›)=false from (show decide (V.str ‹"part"›=V.str ‹"since"›)=false from ‹0›)]
   refine aS (aB ?_)
   dsimp only
   refine af (aE ⟨_,rfl,rfl,_,rfl,?_⟩)
   refine bb ?_
   obtain⟨hk,hk2,h1,h2,h3⟩:=id ok
   have o0:Ofr r H H:=Ofr.refl
   obtain⟨dx0,ho0⟩:=h.ob
   have hx0:=hat.hd
   have at0:=hat.tl
   refine af (aw ⟨_,rfl,r,dx0,_,rfl,ho0,bu _ _ _ ‹0› ‹0› ‹0›,r,lw,ws,_,op,k,rfl,h,hx0,nl hk,hk,λH0 p0 h0_=>?_⟩)
   walk_at "d"
   have o1:=o0.trans p0
   obtain⟨dx1,ho1⟩:=h0_.ob
   have hx1:=at0.hd
   have at1:=at0.tl
   refine af (aw ⟨_,rfl,r,dx1,_,rfl,ho1,bu _ _ _ ‹0› ‹0› ‹0›,r,lw,ws,_,op,k2,rfl,h0_,hx1,nl hk2,hk2,λH1 p1 h1_=>?_⟩)
   walk_at "d"
   have o2:=o1.trans p1
   obtain⟨dx2,ho2⟩:=h1_.ob
   have hx2:=at1.hd
   have at2:=at1.tl
   refine af (aw ⟨_,rfl,r,dx2,_,rfl,ho2,bu _ _ _ ‹0› ‹0› ‹0›,r,lw,ws,_,op,0,f0,_,rfl,h1_,hx2,wl (cV ‹1› ‹1›),dk ‹1› ‹1› ‹1› ‹1›,λH2 p2 h2_=>?_⟩)
   walk_at "d"
   have o3:=o2.trans p2
   obtain⟨dx3,ho3⟩:=h2_.ob
   have hx3:=at2.hd
   refine aA ⟨_,rfl,_,rfl,_,rfl,_,rfl,r,dx3,_,rfl,ho3,bu _ _ _ ‹0› ‹0› ‹0›,_,rfl,r,lw,ws,_,op,f0,l0,_,rfl,h2_,hx3,wl (cV ‹1› ‹1›),dk ‹1› ‹1› ‹1› ‹1›,λH9 p9 h9=>?_⟩
   intro x dx nx nd _
   exact⟨x,_,dx,k,k2,f0,l0,rfl,gs (l:=.prt k k2 f0 l0) VQ ok (o3.trans p9) h9 nx nd q⟩
  | chg r0 k f0 l0=>
   refine af (aE ⟨_,rfl,rfl,_,rfl,?_⟩)
   rw [show decide (V.str (cS (.chg r0 k f0 l0))=V.str ‹"number"›)=false from (show decide (V.str ‹"change"›=V.str ‹"number"›)=false from ‹0›)]
   refine aS (aB ?_)
   dsimp only
   refine af (aE ⟨_,rfl,rfl,_,rfl,?_⟩)
   rw [show decide (V.str (cS (.chg r0 k f0 l0))=V.str ‹"value"›)=false from (show decide (V.str ‹"change"›=V.str ‹"value"›)=false from ‹0›)]
   refine aS (aB ?_)
   dsimp only
   refine af (aE ⟨_,rfl,rfl,_,rfl,?_⟩)
   rw [show decide (V.str (cS (.chg r0 k f0 l0))=V.str ‹"since"›)=false from (show decide (V.str ‹"change"›=V.str ‹"since"›)=false from ‹0›)]
   refine aS (aB ?_)
   dsimp only
   refine af (aE ⟨_,rfl,rfl,_,rfl,?_⟩)
   rw [show decide (V.str (cS (.chg r0 k f0 l0))=V.str ‹"part"›)=false from (show decide (V.str ‹"change"›=V.str ‹"part"›)=false from ‹0›)]
   refine aS (aB ?_)
   dsimp only
   obtain⟨⟨r1,r2⟩,hk,h1,h2,h3⟩:=id ok
   have o0:Ofr r H H:=Ofr.refl
   obtain⟨dx0,ho0⟩:=h.ob
   have hx0:=hat.hd
   have at0:=hat.tl
   refine af (aw ⟨_,rfl,r,dx0,_,rfl,ho0,bu _ _ _ ‹0› ‹0› ‹0›,r,lw,ws,_,op,1,400,r0,_,rfl,h,hx0,wl (cV ‹1› ‹1›),dk ‹1› ‹1› ‹1› ‹1›,λH0 p0 h0_=>?_⟩)
   walk_at "d"
   have o1:=o0.trans p0
   obtain⟨dx1,ho1⟩:=h0_.ob
   have hx1:=at0.hd
   have at1:=at0.tl
   refine af (aw ⟨_,rfl,r,dx1,_,rfl,ho1,bu _ _ _ ‹0› ‹0› ‹0›,r,lw,ws,_,op,k,rfl,h0_,hx1,nl hk,hk,λH1 p1 h1_=>?_⟩)
   walk_at "d"
   have o2:=o1.trans p1
   obtain⟨dx2,ho2⟩:=h1_.ob
   have hx2:=at1.hd
   have at2:=at1.tl
   refine af (aw ⟨_,rfl,r,dx2,_,rfl,ho2,bu _ _ _ ‹0› ‹0› ‹0›,r,lw,ws,_,op,0,f0,_,rfl,h1_,hx2,wl (cV ‹1› ‹1›),dk ‹1› ‹1› ‹1› ‹1›,λH2 p2 h2_=>?_⟩)
   walk_at "d"
   have o3:=o2.trans p2
   obtain⟨dx3,ho3⟩:=h2_.ob
   have hx3:=at2.hd
   refine aA ⟨_,rfl,_,rfl,_,rfl,_,rfl,r,dx3,_,rfl,ho3,bu _ _ _ ‹0› ‹0› ‹0›,_,rfl,r,lw,ws,_,op,f0,l0,_,rfl,h2_,hx3,wl (cV ‹1› ‹1›),dk ‹1› ‹1› ‹1› ‹1›,λH9 p9 h9=>?_⟩
   intro x dx nx nd _
   exact⟨x,_,dx,r0,k,f0,l0,rfl,gs (l:=.chg r0 k f0 l0) VQ ok (o3.trans p9) h9 nx nd q⟩
theorem zy {K:W.Frag}{c:Cs}{R C:Addr}{H H1:Hp}{r lw x dx:Addr}{ws:List Str}{pl:Nat}{op:Int}{n:Nat}{w:Str}{as:List Addr}{xs:List Nd}{Q:VK} (VQ:∀C∈c.all,QuC K C) (hC:C=brC c w) (hp:Paired (λa q=>bc c n q (wo H H1) a) as xs) (ok:cI (n+1) (.brk w xs)) (h2:n<=2) (o1:Ofr r H H1) (h1:RdAt R H1 r lw ws pl op) (nx:H1 x=none) (nd:H1 dx=none)
  (q:∀x H',H x=none->Ofr r H H'->RdAt R H' r lw ws pl op->bc c (n+1) (.brk w xs) (wo H H') x->Q (.ref x) H'):KidI K c x C dx n w as xs (upd (upd H1 dx (.own x)) x (.ins C dx [])) (λv H2=>v=.non/\Q (.ref x) H2):=by
 have gu:aZ H1 (upd (upd H1 dx (.own x)) x (.ins C dx [])):=λb u e=>by rw [ai (ao e nx),ai (ao e nd)];exact e
 refine⟨by rw [hC];exact VQ _ (fF c w),ar,Paired.mono (λa q0 h=>bc.keep (Kq.grow (aZ.trans tu gu)) h) hp,ok,h2,λln lj H' nl nj o el ej ex=>⟨rfl,?_⟩⟩
 obtain⟨g,h'⟩:=h1.made nx nd o
 have f0:∀b,upd (upd H1 dx (.own x)) x (.ins C dx []) b=none->H b=none:=λb hb=>h1.free o1 (bX gu hb)
 rw [hC]at ex
 exact q x H' (h1.free o1 nx) (λb u e n=>g _ _ (o1 _ _ e n)) h' (BrX.mk dx ln lj as (by rw [dO (h1.free o1 nx)];exact ex) (by rw [dO (f0 _ nl)];exact el) (by rw [dO (f0 _ nj)];exact ej) (Paired.mono (λa q0 h=>bc.keep (Kq.grow (fg λb u _ e=>g _ _ e)) h) hp))
noncomputable def dF (n:Nat) (q:Nd):List Str:=opS::(aQ n q++[clS])
inductive QhI (c:Cs) (R:Addr) (n:Nat) (nd:Nd) (r:Addr) (H:Hp) (Q:VK):Prop
 | mk (lw:Addr) (ws:List Str) (pl:Nat) (op:Int) (ok:cI n nd) (h:RdAt R H r lw ws pl op) (hat:At ws pl (aQ n nd)) (hop:op+n<=3) (hn:n<=3) (q:∀x H',H x=none->Ofr r H H'->RdAt R H' r lw ws (pl+(aQ n nd).length) op->bc c n nd (wo H H') x->Q (.ref x) H'):QhI c R n nd r H Q
noncomputable def u0 (c:Cs) (R:Addr) (n:Nat):Sp:=λvs H Q _=>∃(r:Addr) (nd:Nd),vs=[.ref r]/\QhI c R n nd r H Q
inductive QsI (c:Cs) (R:Addr) (n:Nat) (xs:List Nd) (r:Addr) (H:Hp) (Q:VK):Prop
 | mk (m:Nat) (lw:Addr) (ws:List Str) (pl:Nat) (op:Int) (hm:n=m+1) (ok:∀x∈xs,cI m x) (h4:xs.length<=4) (h:RdAt R H r lw ws pl op) (hat:At ws pl (xs.flatMap (dF m))) (hop:op+n<=3) (hn:n<=3) (q:∀li as H',H li=none->Ofr r H H'->RdAt R H' r lw ws (pl+(xs.flatMap (dF m)).length) op->H' li=some (.lst (as.map V.ref))->Paired (λa q=>bc c m q (wo H H') a) as xs->Q (.ref li) H'):QsI c R n xs r H Q
noncomputable def nh (c:Cs) (R:Addr) (n:Nat):Sp:=λvs H Q _=>∃(r:Addr) (xs:List Nd),vs=[.ref r,.int (xs.length:Int)]/\QsI c R n xs r H Q
theorem ot {l:Lf} (h:¬rL l):cS l∉fK/\cS l∉bA/\cS l∉eF/\cS l∈iQ:=by
 cases l with
 | gth=>exact absurd True.intro h
 | num=>exact⟨(by show ‹"number"›∉fK;decide +kernel),(by show ‹"number"›∉bA;decide +kernel),(by show ‹"number"›∉eF;decide +kernel),(by show ‹"number"›∈iQ;decide +kernel)⟩
 | val=>exact⟨(by show ‹"value"›∉fK;decide +kernel),(by show ‹"value"›∉bA;decide +kernel),(by show ‹"value"›∉eF;decide +kernel),(by show ‹"value"›∈iQ;decide +kernel)⟩
 | snc=>exact⟨(by show ‹"since"›∉fK;decide +kernel),(by show ‹"since"›∉bA;decide +kernel),(by show ‹"since"›∉eF;decide +kernel),(by show ‹"since"›∈iQ;decide +kernel)⟩
 | prt=>exact⟨(by show ‹"part"›∉fK;decide +kernel),(by show ‹"part"›∉bA;decide +kernel),(by show ‹"part"›∉eF;decide +kernel),(by show ‹"part"›∈iQ;decide +kernel)⟩
 | chg=>exact⟨(by show ‹"change"›∉fK;decide +kernel),(by show ‹"change"›∉bA;decide +kernel),(by show ‹"change"›∉eF;decide +kernel),(by show ‹"change"›∈iQ;decide +kernel)⟩
theorem qr:(∀w∈bA,w∉fK)/\(∀w∈eF,w∉fK/\w∉bA):=‹0›
theorem rW:FnScope ["reader", "word", "keys", "first", "inner"] ["reader"] (aq sQh):=‹2›
theorem zu {c:Cs}{n:Nat}{f f1 f2 f3 f4 f5 f6 f7 f8 R:Addr}{fd:FuncData} (F:Fun K "question_here" "question_here" sQh f fd) (N:Free mg) (ZT:ConT K mg) (VQ:∀C∈c.all,QuC K C){fd1:FuncData} (MB:MC P w K mg base R "beginning_here" 2 ["self"] [] [] (qH R) f1 fd1){fd2:FuncData} (MD:MC P w K mg base R "day_here" 4 ["self", "earliest"] [] [] (jq R) f2 fd2){fd3:FuncData} (ME:MC P w K mg base R "keys_here" 4 ["self"] [] [] (iV R) f3 fd3){fd4:FuncData} (CS:Cal P w K mg base "questions_here" (2 * n+5) ["reader", "count"] (nh c R n) f4 fd4){fd5:FuncData} (CG:Cal P w K mg base "single_here" 5 ["reader", "word"] (gQ c R) f5 fd5){fd6:FuncData} (KGth:MkC P w K mg base "Gathering" 3 ["self", "word", "keys", "first", "last"] (lO K) c.gth f6 fd6){fd7:FuncData} (KRck:MkC P w K mg base "Reckoning" 4 ["self", "word", "one", "other"] (iW K c) c.rck f7 fd7){fd8:FuncData} (KChc:MkC P w K mg base "Choice" 4 ["self", "word", "one", "other", "chosen", "otherwise"] (iX K c) c.chc f8 fd8):FnOk P w K mg base CX0 (2 * n+6) f fd ["reader"] (u0 c R n):=by
 obtain⟨a2,c2,q2⟩:=ZT.gth
 obtain⟨a3,c3,q3⟩:=ZT.rck
 obtain⟨a4,c4,q4⟩:=ZT.chc
 refine F.ok (k:=2 * n+5) rW (λvs H Q E h=>?_) (λcdv A outer s H vs Q E hr h=>?_)
 ·obtain⟨r,nd,rfl,_⟩:=h
  rfl
 ·obtain⟨r,nd,rfl,lw,ws,pl,op,ok,h,hat,hop,hn,q⟩:=h
  have hu:=aK hr
  refine⟨_,(ae (ay (i:=1) rW.nd rfl (Or.inl rfl) (bp (pv 0) MB.cl MB.mt MB.ok (hr.mono ‹1›) MB.bd MB.dv au))
   (ae (ba (aI cD (pv 1) (bI (v:=.ref a2) (by rfl) c2 rfl) (by with_unfolding_all rfl)) (ae (ay (i:=2) rW.nd rfl (Or.inl rfl) (bp (pv 0) ME.cl ME.mt ME.ok (hr.mono ‹1›) ME.bd ME.dv au))
   (ae (ay (i:=3) rW.nd rfl (Or.inl rfl) (bF (pv 0) MD.cl MD.mt MD.ok (hr.mono ‹1›) MD.bd MD.dv au (aa aj ac)))
   (ah (ax (dC KGth.km KGth.ok (hr.mono ‹1›) rfl KGth.nm KGth.bd .nil au (aa (pv 1) (aa (pv 2) (aa (pv 3) (aa (bF (pv 0) MD.cl MD.mt MD.ok (hr.mono ‹1›) MD.bd MD.dv au (aa (pv 3) ac)) ac))))))))) aF)
   (ae (ba (aI cD (pv 1) (bI (v:=.ref a3) (by rfl) c3 rfl) (by with_unfolding_all rfl)) (ae (ay (i:=4) rW.nd rfl (Or.inl rfl) (av CS.ok (hr.mono ‹1›) rfl CS.nm CS.kp CS.bd .nil au (aa (pv 0) (aa aj ac))))
   (ah (ax (dC KRck.km KRck.ok (hr.mono ‹1›) rfl KRck.nm KRck.bd .nil au (aa (pv 1) (aa (aU aO (pv 4) aj (λ_ _=>rfl)) (aa (aU aO (pv 4) aj (λ_ _=>rfl)) ac))))))) aF)
   (ae (ba (aI cD (pv 1) (bI (v:=.ref a4) (by rfl) c4 rfl) (by with_unfolding_all rfl)) (ae (ay (i:=4) rW.nd rfl (Or.inl rfl) (av CS.ok (hr.mono ‹1›) rfl CS.nm CS.kp CS.bd .nil au (aa (pv 0) (aa aj ac))))
   (ah (ax (dC KChc.km KChc.ok (hr.mono ‹1›) rfl KChc.nm KChc.bd .nil au (aa (pv 1) (aa (aU aO (pv 4) aj (λ_ _=>rfl)) (aa (aU aO (pv 4) aj (λ_ _=>rfl)) (aa (aU aO (pv 4) aj (λ_ _=>rfl)) (aa (aU aO (pv 4) aj (λ_ _=>rfl)) ac))))))))) aF)
   (ah (ax (av CG.ok (hr.mono ‹1›) rfl CG.nm CG.kp CG.bd .nil au (aa (pv 0) (aa (pv 1) ac))))))))),?_⟩
  obtain⟨dx0,ho0⟩:=h.ob
  have hw:∃w0 r0,aQ n nd=w0::r0/\(w0∈iQ\/w0∈fK\/w0∈bA\/w0∈eF):=by
   cases nd with
   | leaf l=>
    by_cases z:rL l
    ·cases l with
     | gth w ks f0 l0=>exact⟨w,_,fh _ _,.inr (.inl (cy ok).1)⟩
     | _=>exact absurd z id
    ·exact⟨cS l,gO l,by rw [fh,tG],.inl (ot z).2.2.2⟩
   | brk w xs=>
    cases n with
    | zero=>exact(show False from ok).elim
    | succ m=>
     obtain⟨h1,_⟩:_/\_:=ok
     exact⟨w,_,rfl,h1.elim (λz=>.inr (.inr (.inl z.1))) λz=>.inr (.inr (.inr z.1))⟩
  obtain⟨w0,r0,ew,hw⟩:=hw
  have hx0:=At.hd (by rw [ew]at hat;exact hat)
  have at0:=At.tl (by rw [ew]at hat;exact hat)
  refine af (aw ⟨_,rfl,r,dx0,_,rfl,ho0,bu _ _ _ ‹0› ‹0› ‹0›,r,lw,ws,pl,op,w0,rfl,h,hx0,hw,λH1 o1 h1=>?_⟩)
  walk_at "d"
  cases nd with
  | leaf l=>
   have okl:=cy ok
   rw [fh]at ew q
   by_cases z:rL l
   ·cases l with
    | gth w ks f0 l0=>
     obtain⟨rfl,rfl⟩:=List.cons.inj (show w::[jc ks,si f0,si l0]=w0::r0 from ew)
     obtain⟨hg,⟨k1,k8,knd,hk⟩,d1,d2,d3⟩:=id okl
     refine af (aE ⟨_,rfl,a2,_,rfl,.inr (q2 _),rfl,bt _,?_⟩)
     rw [if_neg Bool.false_ne_true,bL]
     refine⟨_,rfl,?_⟩
     rw [decide_eq_true hg]
     refine bb ?_
     obtain⟨dx1,ho1⟩:=h1.ob
     refine af (aw ⟨_,rfl,r,dx1,_,rfl,ho1,bu _ _ _ ‹0› ‹0› ‹0›,r,lw,ws,_,op,ks,rfl,h1,at0.hd,Nat.le_of_lt (wl (zA k1 k8 hk)),k1,k8,knd,λk m=>⟨hk k m,nl (hk k m)⟩,λlk H2 nlk o2 elk h2=>?_⟩)
     walk_at "d"
     obtain⟨dx2,ho2⟩:=h2.ob
     have at1:=at0.tl
     refine af (aw ⟨_,rfl,r,dx2,_,rfl,ho2,bu _ _ _ ‹0› ‹0› ‹0›,r,lw,ws,_,op,0,f0,_,rfl,h2,at1.hd,wl (cV ‹1› ‹1›),dk ‹1› ‹1› ‹1› ‹1›,λH3 o3 h3=>?_⟩)
     walk_at "d"
     obtain⟨dx3,ho3⟩:=h3.ob
     have at2:=at1.tl
     have elk3:=o3 _ _ elk (dw elk ho2 (λz=>nomatch z))
     refine aA ⟨_,rfl,_,rfl,_,rfl,_,rfl,r,dx3,_,rfl,ho3,bu _ _ _ ‹0› ‹0› ‹0›,_,rfl,r,lw,ws,_,op,f0,l0,_,rfl,h3,at2.hd,wl (cV ‹1› ‹1›),dk ‹1› ‹1› ‹1› ‹1›,λH4 o4 h4=>?_⟩
     intro x dx nx nd _
     have elk4:=o4 _ _ elk3 (dw elk3 ho3 (λz=>nomatch z))
     refine⟨x,_,dx,w,lk,f0,l0,ks,rfl,?_,gs (l:=.gth w ks f0 l0) VQ okl (o1.trans (o2.trans (o3.trans o4))) h4 nx nd λx H' nx o h l=>q x H' nx o h (gh.mpr l)⟩
     rw [ai (ao elk4 nx),ai (ao elk4 nd)];exact elk4
    | _=>exact absurd z id
   ·obtain⟨z1,z2,z3,_⟩:=ot z
    rw [tG]at ew
    obtain⟨rfl,rfl⟩:=List.cons.inj ew
    refine af (aE ⟨_,rfl,a2,_,rfl,.inr (q2 _),rfl,bt _,?_⟩)
    rw [if_neg Bool.false_ne_true,bL]
    refine⟨_,rfl,?_⟩
    rw [decide_eq_false z1]
    refine aS (aB ?_)
    dsimp only
    refine af (aE ⟨_,rfl,a3,_,rfl,.inr (q3 _),rfl,bt _,?_⟩)
    rw [if_neg Bool.false_ne_true,bL]
    refine⟨_,rfl,?_⟩
    rw [decide_eq_false z2]
    refine aS (aB ?_)
    dsimp only
    refine af (aE ⟨_,rfl,a4,_,rfl,.inr (q4 _),rfl,bt _,?_⟩)
    rw [if_neg Bool.false_ne_true,bL]
    refine⟨_,rfl,?_⟩
    rw [decide_eq_false z3]
    refine aS (aB ?_)
    dsimp only
    refine aA ⟨_,rfl,_,rfl,r,l,rfl,lw,ws,_,op,okl,z,h1,at0,λx H' nx o h lx=>?_⟩
    rw [show pl+1+(gO l).length=pl+(b9 l).length from by rw [tG l,List.length_cons];omega]at h
    exact q x H' (h1.free o1 nx) (o1.trans o) h (gh.mpr (lx.keep (Kq.grow (eO (H0:=H) λb hb=>h1.free o1 hb))))
  | brk w xs=>
   cases n with
   | zero=>exact(show False from ok).elim
   | succ m=>
    obtain⟨rfl,rfl⟩:=List.cons.inj (show w::xs.flatMap (dF m)=w0::r0 from ew)
    obtain⟨hb,hxs⟩:_/\_:=id ok
    have h4:=fE hb
    have hq:∀x H',H x=none->Ofr r H H'->RdAt R H' r lw ws (pl+1+(xs.flatMap (dF m)).length) op->bc c (m+1) (.brk w xs) (wo H H') x->Q (.ref x) H':=λx H' nx o h=>by
     rw [show pl+1+(xs.flatMap (dF m)).length=pl+(aQ (m+1) (.brk w xs)).length from by show _=pl+(w::xs.flatMap (dF m)).length;rw [List.length_cons];omega]at h
     exact q x H' nx o h
    rcases hb with⟨hb,hl⟩ | ⟨hb,hl⟩
    ·have zg:=qr.1 w hb
     refine af (aE ⟨_,rfl,a2,_,rfl,.inr (q2 _),rfl,bt _,?_⟩)
     rw [if_neg Bool.false_ne_true,bL]
     refine⟨_,rfl,?_⟩
     rw [decide_eq_false zg]
     refine aS (aB ?_)
     dsimp only
     refine af (aE ⟨_,rfl,a3,_,rfl,.inr (q3 _),rfl,bt _,?_⟩)
     rw [if_neg Bool.false_ne_true,bL]
     refine⟨_,rfl,?_⟩
     rw [decide_eq_true hb]
     refine bb ?_
     refine af (aw ⟨_,rfl,r,xs,(by rw [hl];rfl),m,lw,ws,_,op,rfl,hxs,h4.2,h1,at0,hop,hn,λli as H2 nli o2 h2 eli hp=>?_⟩)
     walk_at "d"
     have hal:=ca hp
     rw [hl]at hal
     match as,hal,hp,eli with
     | [b1,b2],_,hp,eli=>
      refine aA ⟨_,rfl,_,rfl,li,_,0,_,rfl,rfl,SqL.of eli,rfl,_,rfl,li,_,1,_,rfl,rfl,SqL.of eli,rfl,?_⟩
      intro x dx nx nd _
      refine⟨x,_,dx,b1,b2,w,m,xs,rfl,zy VQ ?_ (Paired.mono (λa q0 h=>bc.keep (Kq.grow (eO (H0:=H) λb hb=>h1.free o1 hb)) h) hp) ok ‹1› (o1.trans o2) h2 nx nd hq⟩
      unfold brC
      rw [if_pos hb]
    ·obtain⟨zg,zr⟩:=qr.2 w hb
     refine af (aE ⟨_,rfl,a2,_,rfl,.inr (q2 _),rfl,bt _,?_⟩)
     rw [if_neg Bool.false_ne_true,bL]
     refine⟨_,rfl,?_⟩
     rw [decide_eq_false zg]
     refine aS (aB ?_)
     dsimp only
     refine af (aE ⟨_,rfl,a3,_,rfl,.inr (q3 _),rfl,bt _,?_⟩)
     rw [if_neg Bool.false_ne_true,bL]
     refine⟨_,rfl,?_⟩
     rw [decide_eq_false zr]
     refine aS (aB ?_)
     dsimp only
     refine af (aE ⟨_,rfl,a4,_,rfl,.inr (q4 _),rfl,bt _,?_⟩)
     rw [if_neg Bool.false_ne_true,bL]
     refine⟨_,rfl,?_⟩
     rw [decide_eq_true hb]
     refine bb ?_
     refine af (aw ⟨_,rfl,r,xs,(by rw [hl];rfl),m,lw,ws,_,op,rfl,hxs,h4.2,h1,at0,hop,hn,λli as H2 nli o2 h2 eli hp=>?_⟩)
     walk_at "d"
     have hal:=ca hp
     rw [hl]at hal
     match as,hal,hp,eli with
     | [b1,b2,b3,b4],_,hp,eli=>
      refine aA ⟨_,rfl,_,rfl,li,_,0,_,rfl,rfl,SqL.of eli,rfl,_,rfl,li,_,1,_,rfl,rfl,SqL.of eli,rfl,_,rfl,li,_,2,_,rfl,rfl,SqL.of eli,rfl,_,rfl,li,_,3,_,rfl,rfl,SqL.of eli,rfl,?_⟩
      intro x dx nx nd _
      refine⟨x,_,dx,b1,b2,b3,b4,w,m,xs,rfl,zy VQ ?_ (Paired.mono (λa q0 h=>bc.keep (Kq.grow (eO (H0:=H) λb hb=>h1.free o1 hb)) h) hp) ok ‹1› (o1.trans o2) h2 nx nd hq⟩
      unfold brC
      rw [if_neg (qr.2 w hb).2]
inductive QsW' (c:Cs) (R r lw li:Addr) (ws:List Str) (pl:Nat) (op:Int) (n:Nat) (xs:List Nd) (H H1:Hp) (i:Nat) (σ:St) (H2:Hp):Prop
 | mk (as:List Addr) (h0:i<=xs.length) (h1:σ=[some (.ref r),some (.int (xs.length:Int)),some (.ref li)]) (h2:Ofr r H H2) (h3:∀b o,H1 b=some o->b≠r->b≠li->H2 b=some o) (h4:RdAt R H2 r lw ws (pl+((xs.take i).flatMap (dF n)).length) op) (h5:H2 li=some (.lst (as.map V.ref))) (h6:Paired (λa q=>bc c n q (wo H1 H2) a) as (xs.take i)):QsW' c R r lw li ws pl op n xs H H1 i σ H2
inductive QsW (c:Cs) (R r lw li:Addr) (ws:List Str) (pl:Nat) (op:Int) (n:Nat) (xs:List Nd) (H H1:Hp) (m:Nat) (σ:St) (H2:Hp):Prop
 | mk (i:Nat) (as:List Addr) (hm:m=xs.length - i) (h0:i<=xs.length) (h1:σ=[some (.ref r),some (.int (xs.length:Int)),some (.ref li)]) (h2:Ofr r H H2) (h3:∀b o,H1 b=some o->b≠r->b≠li->H2 b=some o) (h4:RdAt R H2 r lw ws (pl+((xs.take i).flatMap (dF n)).length) op) (h5:H2 li=some (.lst (as.map V.ref))) (h6:Paired (λa q=>bc c n q (wo H1 H2) a) as (xs.take i)):QsW c R r lw li ws pl op n xs H H1 m σ H2
theorem zc:FnScope ["reader", "count", "inner"] ["reader", "count"] (aq uC):=‹2›
theorem AG {c:Cs}{n:Nat}{f f1 f2 f3 R:Addr}{fd:FuncData} (F:Fun K "questions_here" "questions_here" uC f fd) (N:Free mg){fd1:FuncData} (MO:MC P w K mg base R "bracket_opens" 2 ["self"] [] [] (iU R) f1 fd1){fd2:FuncData} (MX:MC P w K mg base R "bracket_closes" 2 ["self"] [] [] (gR R) f2 fd2){fd3:FuncData} (CQ:Cal P w K mg base "question_here" (2 * n+6) ["reader"] (u0 c R n) f3 fd3):FnOk P w K mg base CX0 (2 * n+7) f fd ["reader", "count"] (nh c R (n+1)):=by
 refine F.ok (k:=2 * n+6) zc (λvs H Q E h=>?_) (λcdv A outer s H vs Q E hr h=>?_)
 ·obtain⟨r,xs,rfl,_⟩:=h
  rfl
 ·obtain⟨r,xs,rfl,m,lw,ws,pl,op,hm,ok,h4,h,hat,hop,hn,q⟩:=h
  have hu:=aK hr
  refine⟨_,(ae (ay (i:=2) zc.nd rfl (Or.inl rfl) (aR ac))
   (ae (nH PassesOwn.never (aI jD (aG aN (by rfl) N.len PySem.boot_len (aa (pv 2) ac)) (pv 1) (aP _)) (ae (bg (bp (pv 0) MO.cl MO.mt MO.ok (hr.mono ‹1›) MO.bd MO.dv au))
   (ae (bg (cM PySem.F.plainAttrs_list PySem.F.slot_list_append PySem.F.type_list_append dM (pv 2) (aa (av CQ.ok (hr.mono ‹1›) rfl CQ.nm CQ.kp CQ.bd .nil au (aa (pv 0) ac)) ac)))
   (ah (bg (bp (pv 0) MX.cl MX.mt MX.ok (hr.mono ‹1›) MX.bd MX.dv au))))))
   (ah (ax (pv 2))))),?_⟩
  have okm:n=m:=Nat.succ.inj hm
  subst okm
  refine af (aw ⟨by show 0<=sizeLine;decide,λli nli=>?_⟩)
  walk_at "d"
  obtain⟨g1,e1⟩:=laid (o:=.lst []) nli
  have h1:=h.keep g1
  generalize upd H li _=H1 at g1 e1 h1 ⊢
  refine af (nB (QsW c R r lw li ws pl op n xs H H1) (m:=xs.length) ⟨0,[],rfl,Nat.zero_le _,rfl,λb o e nb=>g1 _ _ e,λb o e _ _=>e,h1,e1,.nil⟩ λmm σ H2 hh=>?_)
  obtain⟨i,as,rfl,hi,rfl,o2,k2,h2,e2,hp⟩:=hh
  have hal:=ca hp
  rw [List.length_take,Nat.min_eq_left hi]at hal
  refine⟨_,rfl,li,_,rfl,.inl (SqL.of e2),_,rfl,_,_,rfl,rfl,_,rfl,?_⟩
  rw [List.length_map,hal]
  by_cases hlt:i < xs.length
  ·rw [decide_eq_true ‹1›]
   refine bb ⟨QsW' c R r lw li ws pl op n xs H H1 (i+1),λσ' H' hh=>?_,?_⟩
   ·obtain⟨as',z1,z2,z3,z4,z5,z6,z7⟩:=hh
    exact⟨xs.length - (i+1),by omega,i+1,as',rfl,z1,z2,z3,z4,z5,z6,z7⟩
   have hx:xs[i]?=some xs[i]:=List.getElem?_eq_getElem hlt
   have et:xs.take (i+1)=xs.take i++[xs[i]]:=by rw [List.take_add_one,hx];rfl
   have hsp:xs=xs.take i++xs[i]::xs.drop (i+1):=by
    have:=List.take_append_drop i xs
    rw [List.drop_eq_getElem_cons hlt]at this
    exact this.symm
   have at1:At ws (pl+((xs.take i).flatMap (dF n)).length) (opS::(aQ n xs[i]++([clS]++(xs.drop (i+1)).flatMap (dF n)))):=by
    have:=hat
    rw [hsp,List.flatMap_append,List.flatMap_cons]at this
    have:=(At.app this).2
    rw [show dF n xs[i]++(xs.drop (i+1)).flatMap (dF n)=opS::(aQ n xs[i]++([clS]++(xs.drop (i+1)).flatMap (dF n))) from by show opS::(aQ n xs[i]++[clS])++_=_;rw [List.cons_append,List.append_assoc]]at this
    exact this
   have okx:=ok xs[i] (List.getElem_mem hlt)
   have nlr:li≠r:=λz=>by obtain⟨d,e⟩:=h.ob;rw [z,e]at nli;cases nli
   obtain⟨dx2,ho2⟩:=h2.ob
   refine af (be ⟨_,rfl,r,dx2,_,rfl,ho2,bu _ _ _ ‹0› ‹0› ‹0›,r,lw,ws,_,op,rfl,h2,at1.hd,by omega,λH3 o3 h3=>?_⟩)
   have at2:=at1.tl
   have e3:=o3 _ _ e2 nlr
   obtain⟨at3,at4⟩:=at2.app
   dsimp only
   refine af (be ⟨_,rfl,.inl ⟨rfl,_,SqL.of e3⟩,?_⟩)
   refine cJ ⟨_,rfl,r,xs[i],rfl,lw,ws,_,op+1,okx,h3,at3,by omega,by omega,λx H4 nx o4 h4 qn=>?_⟩
   have e4:=o4 _ _ e3 nlr
   refine⟨li,_,_,rfl,rfl,e4,?_,?_⟩
   ·rw [List.length_map,hal];exact bh ‹1›
   have h5:RdAt R (upd H4 li (.lst (as.map V.ref++[.ref x]))) r lw ws (pl+((xs.take i).flatMap (dF n)).length+1+(aQ n xs[i]).length) (op+1):=by
    obtain⟨d,e⟩:=h4.ob
    refine⟨⟨d,by rw [ai (Ne.symm nlr)];exact e⟩,?_⟩
    rw [ai (ao h.wd nli)];exact h4.wd
   generalize hH5:upd H4 li _=H5 at h5
   have e5:H5 li=some (.lst ((as++[x]).map V.ref)):=by rw [<- hH5,ar,List.map_append];rfl
   have k5:∀b o,H4 b=some o->b≠li->H5 b=some o:=λb o e nb=>by rw [<- hH5,ai nb];exact e
   dsimp only
   obtain⟨dx5,ho5⟩:=h5.ob
   refine be ⟨_,rfl,r,dx5,_,rfl,ho5,bu _ _ _ ‹0› ‹0› ‹0›,r,lw,ws,_,op+1,rfl,h5,at4.hd,λH6 o6 h6=>?_⟩
   refine⟨as++[x],by omega,rfl,λb o e nb=>?_,λb o e n1 n2=>?_,?_,o6 _ _ e5 nlr,?_⟩
   ·exact o6 _ _ (k5 _ _ (o4 _ _ (o3 _ _ (o2 _ _ e nb) nb) nb) (ao e nli)) nb
   ·exact o6 _ _ (k5 _ _ (o4 _ _ (o3 _ _ (k2 _ _ e n1 n2) n1) n1) n2) n1
   ·rw [show op+1 - 1=op from by omega]at h6
    rw [et,List.flatMap_append,List.length_append,List.flatMap_cons,List.flatMap_nil,List.append_nil]
    rw [show pl+(((xs.take i).flatMap (dF n)).length+(dF n xs[i]).length)=pl+((xs.take i).flatMap (dF n)).length+1+(aQ n xs[i]).length+1 from by show _+(_+(opS::(_++[clS])).length)=_;rw [List.length_cons,List.length_append,List.length_singleton];omega]
    exact h6
   ·rw [et]
    have kk:∀b o,H1 b=none->H4 b=some o->H6 b=some o:=λb o n e=>o6 _ _ (k5 _ _ e (λz=>by rw [z,e1]at n;cases n)) (λz=>by obtain⟨d,er⟩:=h1.ob;rw [z,er]at n;cases n)
    refine Paired.snoc (Paired.mono (λa q0 hq0=>bc.keep (Kq.grow (fg λb o n e=>?_)) hq0) hp) (bc.keep (Kq.grow (aZ.trans (eO (H0:=H1) λb hb=>?_) (fg kk))) qn)
    ·exact kk _ _ n (o4 _ _ (o3 _ _ e (λz=>by obtain⟨d,er⟩:=h1.ob;rw [z,er]at n;cases n)) (λz=>by obtain⟨d,er⟩:=h1.ob;rw [z,er]at n;cases n))
    ·cases e:H1 b with
     | none=>rfl
     | some o=>
      by_cases zr:b=r
      ·obtain⟨d,er⟩:=h3.ob
       rw [zr,er]at hb;cases hb
      ·by_cases zl:b=li
       ·rw [zl,e3]at hb;cases hb
       ·rw [o3 _ _ (k2 _ _ e zr zl) zr]at hb;cases hb
  ·have:i=xs.length:=by omega
   subst this
   rw [decide_eq_false ‹1›]
   rw [List.take_length]at h2 hp
   refine aS (aA ⟨_,rfl,q li as H2 nli o2 h2 e2 (Paired.mono (λa q0 hq0=>bc.keep (Kq.grow (eO (H0:=H) λb hb=>bX g1 hb)) hq0) hp)⟩)
noncomputable def yY (c:Cs) (R:Addr):Sp:=λvs H Q E=>∃n,n<=3/\u0 c R n vs H Q E
theorem uZ {c:Cs}{f f1 f2 f3 f4 f5 f6 f7 f8 f9 f10 R:Addr}{fd:FuncData} (Fq:Fun K "question_here" "question_here" sQh f fd) (nq:mg "question_here" = some (.ref f)) (bq:bE K fd ["reader"] []){fd4:FuncData} (Fs:Fun K "questions_here" "questions_here" uC f4 fd4) (ns:mg "questions_here" = some (.ref f4)) (bs:bE K fd4 ["reader", "count"] []) (N:Free mg) (ZT:ConT K mg) (VQ:∀C∈c.all,QuC K C){fd1:FuncData} (MB:MC P w K mg base R "beginning_here" 2 ["self"] [] [] (qH R) f1 fd1){fd2:FuncData} (MD:MC P w K mg base R "day_here" 4 ["self", "earliest"] [] [] (jq R) f2 fd2){fd3:FuncData} (ME:MC P w K mg base R "keys_here" 4 ["self"] [] [] (iV R) f3 fd3){fd5:FuncData} (CG:Cal P w K mg base "single_here" 5 ["reader", "word"] (gQ c R) f5 fd5){fd6:FuncData} (KGth:MkC P w K mg base "Gathering" 3 ["self", "word", "keys", "first", "last"] (lO K) c.gth f6 fd6){fd7:FuncData} (KRck:MkC P w K mg base "Reckoning" 4 ["self", "word", "one", "other"] (iW K c) c.rck f7 fd7){fd8:FuncData} (KChc:MkC P w K mg base "Choice" 4 ["self", "word", "one", "other", "chosen", "otherwise"] (iX K c) c.chc f8 fd8){fd9:FuncData} (MO:MC P w K mg base R "bracket_opens" 2 ["self"] [] [] (iU R) f9 fd9){fd10:FuncData} (MX:MC P w K mg base R "bracket_closes" 2 ["self"] [] [] (gR R) f10 fd10) :
  ∀n,Cal P w K mg base "questions_here" (2 * n+5) ["reader", "count"] (nh c R n) f4 fd4/\Cal P w K mg base "question_here" (2 * n+6) ["reader"] (u0 c R n) f fd
 | 0=>by
  have a:Cal P w K mg base "questions_here" (2 * 0+5) ["reader", "count"] (nh c R 0) f4 fd4:=⟨FnOk.no (λvs H Q E h=>by obtain⟨r,xs,_,m,_,_,_,_,hm,_⟩:=h;cases hm),ns,Fs.kp,bs⟩
  exact⟨a,zu Fq N ZT VQ MB MD ME a CG KGth KRck KChc,nq,Fq.kp,bq⟩
 | n+1=>by
  obtain⟨_,h2⟩:=uZ Fq nq bq Fs ns bs N ZT VQ MB MD ME CG KGth KRck KChc MO MX n
  have a:Cal P w K mg base "questions_here" (2 * (n+1)+5) ["reader", "count"] (nh c R (n+1)) f4 fd4:=⟨AG Fs N MO MX h2,ns,Fs.kp,bs⟩
  exact⟨a,zu Fq N ZT VQ MB MD ME a CG KGth KRck KChc,nq,Fq.kp,bq⟩
theorem AI {c:Cs}{f f1 f2 f3 f4 f5 f6 f7 f8 f9 f10 R:Addr}{fd:FuncData} (Fq:Fun K "question_here" "question_here" sQh f fd) (nq:mg "question_here" = some (.ref f)) (bq:bE K fd ["reader"] []){fd4:FuncData} (Fs:Fun K "questions_here" "questions_here" uC f4 fd4) (ns:mg "questions_here" = some (.ref f4)) (bs:bE K fd4 ["reader", "count"] []) (N:Free mg) (ZT:ConT K mg) (VQ:∀C∈c.all,QuC K C){fd1:FuncData} (MB:MC P w K mg base R "beginning_here" 2 ["self"] [] [] (qH R) f1 fd1){fd2:FuncData} (MD:MC P w K mg base R "day_here" 4 ["self", "earliest"] [] [] (jq R) f2 fd2){fd3:FuncData} (ME:MC P w K mg base R "keys_here" 4 ["self"] [] [] (iV R) f3 fd3){fd5:FuncData} (CG:Cal P w K mg base "single_here" 5 ["reader", "word"] (gQ c R) f5 fd5){fd6:FuncData} (KGth:MkC P w K mg base "Gathering" 3 ["self", "word", "keys", "first", "last"] (lO K) c.gth f6 fd6){fd7:FuncData} (KRck:MkC P w K mg base "Reckoning" 4 ["self", "word", "one", "other"] (iW K c) c.rck f7 fd7){fd8:FuncData} (KChc:MkC P w K mg base "Choice" 4 ["self", "word", "one", "other", "chosen", "otherwise"] (iX K c) c.chc f8 fd8){fd9:FuncData} (MO:MC P w K mg base R "bracket_opens" 2 ["self"] [] [] (iU R) f9 fd9){fd10:FuncData} (MX:MC P w K mg base R "bracket_closes" 2 ["self"] [] [] (gR R) f10 fd10) :
  FnOk P w K mg base CX0 12 f fd ["reader"] (yY c R):=FnOk.ex (sp:=u0 c R) (N:=3) λn hn=>FnOk.mono (uZ Fq nq bq Fs ns bs N ZT VQ MB MD ME CG KGth KRck KChc MO MX n).2.ok ‹1›
inductive QoI (c:Cs) (n:Nat) (nd:Nd) (H:Hp) (Q:VK):Prop
 | mk (ok:cI n nd) (hn:n<=3) (q:∀x H',H x=none->aZ H H'->bc c n nd (wo H H') x->Q (.ref x) H'):QoI c n nd H Q
noncomputable def yX (c:Cs):Sp:=λvs H Q _=>∃(n:Nat) (nd:Nd),vs=[.str (jn (aQ n nd))]/\QoI c n nd H Q
theorem um:FnScope ["text", "reader", "question"] ["text"] (aq Af):=‹2›
theorem AH {c:Cs}{f f1 f2 f3 R:Addr}{fd:FuncData} (F:Fun K "question_of" "question_of" Af f fd) (N:Free mg){fd1:FuncData} (KR:MkC P w K mg base "Reader" 1 ["self", "text"] (qF R) R f1 fd1){fd2:FuncData} (CQ:Cal P w K mg base "question_here" 12 ["reader"] (yY c R) f2 fd2){fd3:FuncData} (MZ:MC P w K mg base R "check_end" 1 ["self"] [] [] (zb R) f3 fd3):FnOk P w K mg base CX0 13 f fd ["text"] (yX c):=by
 refine F.ok (k:=12) um (λvs H Q E h=>?_) (λcdv A outer s H vs Q E hr h=>?_)
 ·obtain⟨n,nd,rfl,_⟩:=h
  rfl
 ·obtain⟨n,nd,rfl,ok,hn,q⟩:=h
  have hu:=aK hr
  refine⟨_,(ae (ba (eR (dl (aG cF (by rfl) N.isinstance PyProof.Rows.Boot.«isinstance» (aa (pv 0) (aa (gk (v:=.ty "str") (by rfl) N.str PyProof.Rows.Boot.«str» rfl) ac))))) (ah hE) aF)
   (ae (ay (i:=1) um.nd rfl (Or.inl rfl) (dC KR.km KR.ok (hr.mono (by decide)) rfl KR.nm KR.bd .nil au (aa (pv 0) ac)))
   (ae (ay (i:=2) um.nd rfl (Or.inl rfl) (av CQ.ok (hr.mono (by decide)) rfl CQ.nm CQ.kp CQ.bd .nil au (aa (pv 1) ac)))
   (ae (bg (bp (pv 1) MZ.cl MZ.mt MZ.ok (hr.mono (by decide)) MZ.bd MZ.dv au))
   (ah (ax (pv 2))))))),?_⟩
  have hws:=fL ok
  have hwl:=Nat.le_trans (cX ok) (oK hn)
  have hjl:=mH (ws:=aQ n nd) (m:=79) λw hw=>(hws w hw).len
  refine af (aE ⟨_,rfl,_,_,_,_,rfl,.str _,rfl,_,rfl,?_⟩)
  refine aS (aB ?_)
  dsimp only
  refine af (aw ⟨_,rfl,?_⟩)
  intro r dr nr ndr ne
  refine⟨r,dr,aQ n nd,rfl,ar,mT n ok,by omega,λw hw=>(hws w hw).free,Nat.le_trans hjl (Nat.le_trans (show _<=100000 by omega) (by decide)),λlw H1 nlw o1 h1=>⟨rfl,?_⟩⟩
  walk_at "d"
  have g1:aZ H H1:=λb o e=>o1 _ _ (by rw [ai (ao e nr),ai (ao e ndr)];exact e) (ao e nr)
  refine af (aw ⟨_,rfl,n,hn,r,nd,rfl,lw,_,0,0,ok,h1,At.all _,by omega,hn,λx H2 nx o2 h2 qn=>?_⟩)
  walk_at "d"
  rw [Nat.zero_add]at h2
  have g2:aZ H H2:=λb o e=>o2 _ _ (g1 _ _ e) (ao e nr)
  obtain⟨d2,ho2⟩:=h2.ob
  refine af (be ⟨_,rfl,r,d2,_,rfl,ho2,bu _ _ _ ‹0› ‹0› ‹0›,r,lw,_,0,rfl,h2,?_⟩)
  dsimp only
  exact aA ⟨_,rfl,q x H2 (bX g1 nx) g2 (bc.keep (Kq.grow (eO (H0:=H) λb hb=>bX g1 hb)) qn)⟩
def Nm2 (ss:List Str):Prop:=(ss.length=8\/ss.length=2)/\ss.Nodup/\∀x∈ss,cH x dE 8=true
noncomputable def qw (ss:List Str) (lo wd:Int):Lf->Prop
 | .num _=>True
 | .val k d=>k∈ss/\lo<=d/\d < lo+wd
 | .gth _ ks f l=>(∀k∈ks,k∈ss)/\lo<=f/\l < lo+wd
 | .snc k _ f l=>k∈ss/\lo<=f/\l < lo+wd
 | .prt a b f l=>(a∈ss/\b∈ss)/\lo<=f/\l < lo+wd
 | .chg _ k f l=>k∈ss/\lo<=f/\l < lo+wd
noncomputable def lfV (p:Addr):Lf->List V
 | .num z=>[.str ‹"number"›,.int z]
 | .val k d=>[.str ‹"value"›,.str k,.int d]
 | .gth w _ f l=>[.str w,.ref p,.int f,.int l]
 | .snc k b f l=>[.str ‹"since"›,.str k,.int b,.int f,.int l]
 | .prt a b f l=>[.str ‹"part"›,.str a,.str b,.int f,.int l]
 | .chg r k f l=>[.str ‹"change"›,.int r,.str k,.int f,.int l]
noncomputable def lfL (p:Addr) (H:Hp):Lf->Prop
 | .gth _ ks _ _=>H p=some (.lst (ks.map V.str))
 | _=>True
inductive LN (l:Lf) (H:Hp) (a:Addr):Prop
 | mk (p:Addr) (h1:H a=some (.tup (lfV p l))) (h2:lfL p H l):LN l H a
inductive BN (w:Str) (xs:List Nd) (F:Addr->Nd->Prop) (H:Hp) (a:Addr):Prop
 | mk (li:Addr) (as:List Addr) (h1:H a=some (.tup [.str w,.ref li])) (h2:H li=some (.lst (as.map V.ref))) (h3:Paired F as xs):BN w xs F H a
noncomputable def dt:Nat->Nd->Hp->Addr->Prop
 | 0,.leaf l,H,a=>LN l H a
 | 0,.brk _ _,_,_=>False
 | _+1,.leaf l,H,a=>LN l H a
 | n+1,.brk w xs,H,a=>BN w xs (λa q=>dt n q H a) H a
theorem qV {n:Nat}{l:Lf}{H:Hp}{a:Addr}:dt n (.leaf l) H a↔LN l H a:=by cases n <;> exact Iff.rfl
theorem LN.keep {l:Lf}{H H':Hp}{a:Addr} (h:LN l H a) (g:aZ H H'):LN l H' a:=by
 obtain⟨p,h1,h2⟩:=h
 refine⟨p,g _ _ h1,?_⟩
 cases l <;> first | exact True.intro | exact g _ _ h2
theorem dt.keep {H H':Hp} (g:aZ H H'):∀{n:Nat}{nd:Nd}{a:Addr},dt n nd H a->dt n nd H' a
 | 0,.leaf l,a,h=>LN.keep (show LN l H a from h) g
 | 0,.brk _ _,_,h=>(show False from h).elim
 | _+1,.leaf l,a,h=>LN.keep (show LN l H a from h) g
 | n+1,.brk w xs,a,h=>by
  obtain⟨li,as,h1,h2,h3⟩:BN w xs (λa q=>dt n q H a) H a:=h
  exact BN.mk li as (g _ _ h1) (g _ _ h2) (Paired.mono (λa q h=>dt.keep g h) h3)
theorem SAt.free {H H1:Hp}{s a:Addr} (h:SAt H1 s) (o:Off s H H1) (n:H1 a=none):H a=none:=by
 cases e:H a with
 | none=>rfl
 | some u=>
  by_cases z:a=s
  ·obtain⟨xs,es⟩:=h.lst
   rw [z,es]at n;cases n
  ·rw [o _ _ e z]at n;cases n
theorem vV {ss:List Str}{n:Int} (h:Nm2 ss) (n0:0<=n) (n1:n < ss.length):∃k,atI (ss.map V.str) n=some (.str k)/\mS k/\k∈ss:=by
 obtain⟨_,_,hk⟩:=h
 obtain⟨j,rfl⟩:∃j:Nat,n=(j:Int):=⟨n.toNat,by omega⟩
 have hj:j < ss.length:=by omega
 exact⟨ss[j],dH (by rw [List.getElem?_map,List.getElem?_eq_getElem hj];rfl),hk _ (List.getElem_mem hj),List.getElem_mem hj⟩
noncomputable abbrev w9:List Str:=[‹"value"›, ‹"sum"›, ‹"count"›, ‹"least"›, ‹"greatest"›, ‹"since"›, ‹"part"›, ‹"change"›, ‹"number"›]
theorem at9 {n:Int} (n0:0<=n) (n1:n < 9):∃w,atI (w9.map V.str) n=some (.str w)/\(w∈fK\/w=‹"value"›\/w=‹"since"›\/w=‹"part"›\/w=‹"change"›\/w=‹"number"›):=by
 rcases (show n=0\/n=1\/n=2\/n=3\/n=4\/n=5\/n=6\/n=7\/n=8 by omega) with rfl | rfl | rfl | rfl | rfl | rfl | rfl | rfl | rfl
 ·exact⟨_,rfl,.inr (.inl rfl)⟩
 ·exact⟨_,rfl,.inl ‹0›⟩
 ·exact⟨_,rfl,.inl ‹0›⟩
 ·exact⟨_,rfl,.inl ‹0›⟩
 ·exact⟨_,rfl,.inl ‹0›⟩
 ·exact⟨_,rfl,.inr (.inr (.inl rfl))⟩
 ·exact⟨_,rfl,.inr (.inr (.inr (.inl rfl)))⟩
 ·exact⟨_,rfl,.inr (.inr (.inr (.inr (.inl rfl))))⟩
 ·exact⟨_,rfl,.inr (.inr (.inr (.inr (.inr rfl))))⟩
theorem ie:∀w∈fK,w≠‹"number"›/\w≠‹"value"›/\w≠‹"since"›/\w≠‹"part"›/\w≠‹"change"›:=‹0›
theorem ji {x y:Str} (h:x≠y):¬V.str x=V.str y:=λz=>h (V.str.inj z)
inductive LeI (s ln t:Addr) (m:Int) (H:Hp) (Q:VK):Prop
 | mk (ss:List Str) (lo wd:Int) (hs:SAt H s) (el:H ln=some (.lst (ss.map V.str))) (hss:Nm2 ss) (nls:ln≠s) (et:H t=some (.tup [.int lo,.int wd])) (nts:t≠s) (h0:0<=lo) (h1:1<=wd) (h2:lo+wd<=400) (m1:1<=m) (m2:m<=8) (q:∀(a:Addr) (l:Lf) (H':Hp),du l->qw ss lo wd l->H a=none->Off s H H'->SAt H' s->LN l (wo H H') a->Q (.ref a) H'):LeI s ln t m H Q
noncomputable def lM:Sp:=λvs H Q _=>∃(s ln t:Addr) (m:Int),vs=[.ref s,.ref ln,.ref t,.int m]/\LeI s ln t m H Q
theorem eZ {H H1:Hp}{s a:Addr}{l:Lf}{p:Addr} (hs:SAt H1 s) (o:Off s H H1) (na:H1 a=none) (hl:lfL p (wo H H1) l):H a=none/\Off s H (upd H1 a (.tup (lfV p l)))/\SAt (upd H1 a (.tup (lfV p l))) s/\LN l (wo H (upd H1 a (.tup (lfV p l)))) a:=by
 have f:=hs.free o na
 obtain⟨g,e⟩:=laid (o:=.tup (lfV p l)) na
 refine⟨f,o.trans (Off.grow g),hs.keep g,p,by rw [dO f];exact e,?_⟩
 cases l <;> first | exact True.intro | exact(fg λb u _ eb=>g _ _ eb) _ _ hl
theorem gY:FnScope ["_law_state", "_law_names_here", "_law_window_here", "_law_most", "_law_word", "_law_first", "_law_last", "_law_name"] ["_law_state", "_law_names_here", "_law_window_here", "_law_most"] (aq pE):=‹2›
theorem vH {f f1 f2 f3 f4:Addr}{fd:FuncData} (F:Fun K "_law_leaf" "_law_leaf" pE f fd) (N:Free mg){fd1:FuncData} (CP:Cal P w K mg base "_law_pull" 2 ["_law_state", "_law_many"] cZ f1 fd1){fd2:FuncData} (CS:Cal P w K mg base "_law_some" 3 ["_law_state", "_law_names_here", "_law_most"] tY f2 fd2){fd3:FuncData} (CD:Cal P w K mg base "_law_days" 3 ["_law_state", "_law_window_here"] oT f3 fd3){fd4:FuncData} (CA:Cal P w K mg base "_law_amount" 3 ["_law_state"] gS f4 fd4):FnOk P w K mg base CX0 4 f fd ["_law_state", "_law_names_here", "_law_window_here", "_law_most"] lM:=by
 refine F.ok (k:=3) gY (λvs H Q E h=>?_) (λcdv A outer s H vs Q E hr h=>?_)
 ·obtain⟨s,ln,t,m,rfl,_⟩:=h
  rfl
 ·obtain⟨s,ln,t,m,rfl,ss,lo,wd,hs,el,hss,nls,et,nts,h0,h1,h2,m1,m2,q⟩:=h
  have hu:=aK hr
  refine⟨_,(@ae _ _ _ _ _ (@ay (i:=4) _ _ _ _ _ _ gY.nd rfl (Or.inl rfl) (@aU _ _ _ _ _ _ _ aO (@aR _ _ _ _ (@aa _ _ _ _ _ aD (@aa _ _ _ _ _ aD (@aa _ _ _ _ _ aD (@aa _ _ _ _ _ aD (@aa _ _ _ _ _ aD (@aa _ _ _ _ _ aD (@aa _ _ _ _ _ aD (@aa _ _ _ _ _ aD (@aa _ _ _ _ _ aD ac rfl) rfl) rfl) rfl) rfl) rfl) rfl) rfl) rfl)) (av CP.ok (hr.mono (by decide)) rfl CP.nm CP.kp CP.bd .nil au (@aa _ _ _ _ _ (pv 0) (@aa _ _ _ _ _ aj ac rfl) rfl)) (λ_ _=>rfl)) (by rfl) (by first | exact .inl rfl | exact .inr rfl))
   (ae (ba (aI bM (pv 4) aD (aP _)) (@ah _ _ _ (@ax _ _ _ _ (@bW _ _ _ _ _ (@aa _ _ _ _ _ (pv 4) (@aa _ _ _ _ _ (av CA.ok (hr.mono (by decide)) rfl CA.nm CA.kp CA.bd .nil au (@aa _ _ _ _ _ (pv 0) ac rfl)) ac rfl) rfl)))) aF)
   (ae (jz (av CD.ok (hr.mono (by decide)) rfl CD.nm CD.kp CD.bd .nil au (aa (pv 0) (aa (pv 2) ac))) (pU rfl (cL (bi (i:=5) gY.nd rfl (Or.inl rfl)) (cL (bi (i:=6) gY.nd rfl (Or.inl rfl)) ms))))
   (@ae _ _ _ _ _ (@ay (i:=7) _ _ _ _ _ _ gY.nd rfl (Or.inl rfl) (@aU _ _ _ _ _ _ _ aO (pv 1) (av CP.ok (hr.mono (by decide)) rfl CP.nm CP.kp CP.bd .nil au (@aa _ _ _ _ _ (pv 0) (@aa _ _ _ _ _ (aG aN (by rfl) N.len PySem.boot_len (@aa _ _ _ _ _ (pv 1) ac rfl)) ac rfl) rfl)) (λ_ _=>rfl)) (by rfl) (by first | exact .inl rfl | exact .inr rfl))
   (ae (ba (aI bM (pv 4) aD (aP _)) (@ah _ _ _ (@ax _ _ _ _ (@bW _ _ _ _ _ (@aa _ _ _ _ _ (pv 4) (@aa _ _ _ _ _ (pv 7) (@aa _ _ _ _ _ (pv 6) ac rfl) rfl) rfl)))) aF)
   (ae (ba (aI bM (pv 4) aD (aP _)) (@ah _ _ _ (@ax _ _ _ _ (@bW _ _ _ _ _ (@aa _ _ _ _ _ (pv 4) (@aa _ _ _ _ _ (pv 7) (@aa _ _ _ _ _ (av CA.ok (hr.mono (by decide)) rfl CA.nm CA.kp CA.bd .nil au (@aa _ _ _ _ _ (pv 0) ac rfl)) (@aa _ _ _ _ _ (pv 5) (@aa _ _ _ _ _ (pv 6) ac rfl) rfl) rfl) rfl) rfl)))) aF)
   (ae (ba (aI bM (pv 4) aD (aP _)) (@ah _ _ _ (@ax _ _ _ _ (@bW _ _ _ _ _ (@aa _ _ _ _ _ (pv 4) (@aa _ _ _ _ _ (pv 7) (@aa _ _ _ _ _ (@aU _ _ _ _ _ _ _ aO (pv 1) (av CP.ok (hr.mono (by decide)) rfl CP.nm CP.kp CP.bd .nil au (@aa _ _ _ _ _ (pv 0) (@aa _ _ _ _ _ (aG aN (by rfl) N.len PySem.boot_len (@aa _ _ _ _ _ (pv 1) ac rfl)) ac rfl) rfl)) (λ_ _=>rfl)) (@aa _ _ _ _ _ (pv 5) (@aa _ _ _ _ _ (pv 6) ac rfl) rfl) rfl) rfl) rfl)))) aF)
   (ae (ba (aI bM (pv 4) aD (aP _)) (@ah _ _ _ (@ax _ _ _ _ (@bW _ _ _ _ _ (@aa _ _ _ _ _ (pv 4) (@aa _ _ _ _ _ (@aL _ _ _ _ _ _ _ _ bx aj (av CP.ok (hr.mono (by decide)) rfl CP.nm CP.kp CP.bd .nil au (@aa _ _ _ _ _ (pv 0) (@aa _ _ _ _ _ (@aU _ _ _ _ _ _ _ aO (@aR _ _ _ _ (@aa _ _ _ _ _ aj (@aa _ _ _ _ _ aj ac rfl) rfl)) (av CP.ok (hr.mono (by decide)) rfl CP.nm CP.kp CP.bd .nil au (@aa _ _ _ _ _ (pv 0) (@aa _ _ _ _ _ aj ac rfl) rfl)) (λ_ _=>rfl)) ac rfl) rfl))) (@aa _ _ _ _ _ (pv 7) (@aa _ _ _ _ _ (pv 5) (@aa _ _ _ _ _ (pv 6) ac rfl) rfl) rfl) rfl) rfl)))) aF)
   (@ah _ _ _ (@ax _ _ _ _ (@bW _ _ _ _ _ (@aa _ _ _ _ _ (pv 4) (@aa _ _ _ _ _ (av CS.ok (hr.mono (by decide)) rfl CS.nm CS.kp CS.bd .nil au (@aa _ _ _ _ _ (pv 0) (@aa _ _ _ _ _ (pv 1) (@aa _ _ _ _ _ (pv 3) ac rfl) rfl) rfl)) (@aa _ _ _ _ _ (pv 5) (@aa _ _ _ _ _ (pv 6) ac rfl) rfl) rfl) rfl)))))))))))),?_⟩
  refine af (aw ⟨by show 9<=sizeLine;decide,λlw nlw=>?_⟩)
  obtain⟨g1,e1⟩:=laid (o:=.lst (w9.map V.str)) nlw
  have hs1:=hs.keep g1
  have nws:lw≠s:=λz=>by obtain⟨xs,e⟩:=hs.lst;rw [z,e]at nlw;cases nlw
  have o1:Off s H (upd H lw (.lst (w9.map V.str))):=Off.grow g1
  change kH _ _ _ _ _ (upd H lw (.lst (w9.map V.str))) _
  generalize upd H lw (.lst (w9.map V.str))=H1 at g1 e1 hs1 o1 ⊢
  refine⟨_,rfl,s,9,rfl,hs1,by decide,by decide,λn H2 n0 n1 p2 hs2=>?_⟩
  obtain⟨w,ew,hw⟩:=at9 n0 n1
  refine⟨lw,_,_,_,rfl,rfl,SqL.of (p2 _ _ e1 nws),ew,?_⟩
  walk_at "d"
  have o2:=o1.trans p2
  have okn:∀{H':Hp},Off s H H'->H' ln=some (.lst (ss.map V.str)):=λo=>o _ _ el nls
  by_cases zn:w=‹"number"›
  ·subst zn
   refine af (aE ⟨_,rfl,rfl,_,rfl,?_⟩)
   refine bb ?_
   refine aA ⟨_,rfl,_,rfl,s,rfl,hs2,λz H3 p3 hs3 z0 z1=>⟨by show 2<=sizeLine;decide,λa na=>?_⟩⟩
   obtain⟨f,o,hs',hl⟩:=eZ (l:=.num z) (p:=a) hs3 (o2.trans p3) na True.intro
   exact q a (.num z) _ ⟨z0,z1⟩ True.intro f o hs' hl
  refine af (aE ⟨_,rfl,rfl,_,rfl,?_⟩)
  rw [decide_eq_false (ji zn)]
  refine aS (aB ?_)
  dsimp only
  refine af (aw ⟨_,rfl,_,rfl,s,t,lo,wd,rfl,hs2,o2 _ _ et nts,nts,h0,h1,h2,λu f0 l0 H3 p3 hs3 eu d1 d2 d3=>?_⟩)
  refine⟨u,_,rfl,SqT.of eu,rfl,_,_,rfl,_,_,rfl,rfl,?_⟩
  walk_at "d"
  have o3:=o2.trans p3
  have hd:kB f0 l0:=⟨by omega,d2,by omega⟩
  refine af (aw ⟨_,rfl,_,rfl,_,rfl,ln,_,rfl,.inl (SqL.of (okn o3)),s,_,rfl,hs3,(by rw [List.length_map];rcases hss.1 with z | z <;> omega),(by rw [List.length_map];rcases hss.1 with z | z <;> omega),λn4 H4 m40 m41 p4 hs4=>?_⟩)
  rw [List.length_map]at m41
  have o4:=o3.trans p4
  obtain⟨k,ek,hk,hkm⟩:=vV hss m40 m41
  refine⟨ln,_,_,_,rfl,rfl,SqL.of (okn o4),ek,?_⟩
  walk_at "d"
  rcases hw with hw | rfl | rfl | rfl | rfl | hw
  ·have gn:=ie w hw
   refine af (aE ⟨_,rfl,rfl,_,rfl,?_⟩)
   rw [decide_eq_false (ji (ie w hw).2.1)]
   refine aS (aB ?_)
   dsimp only
   refine af (aE ⟨_,rfl,rfl,_,rfl,?_⟩)
   rw [decide_eq_false (ji (ie w hw).2.2.1)]
   refine aS (aB ?_)
   dsimp only
   refine af (aE ⟨_,rfl,rfl,_,rfl,?_⟩)
   rw [decide_eq_false (ji (ie w hw).2.2.2.1)]
   refine aS (aB ?_)
   dsimp only
   refine af (aE ⟨_,rfl,rfl,_,rfl,?_⟩)
   rw [decide_eq_false (ji (ie w hw).2.2.2.2)]
   refine aS (aB ?_)
   dsimp only
   refine aA ⟨_,rfl,_,rfl,_,rfl,_,rfl,s,ln,ss,m,rfl,hs4,okn o4,nls,m1,(by rcases hss.1 with z | z <;> omega),(by rcases hss.1 with z | z <;> omega),λp xs ys H5 np p5 hs5 ep hne hpm hlm=>?_⟩
   refine⟨_,rfl,_,rfl,by show 4<=sizeLine;decide,λa na=>?_⟩
   have o5:=o4.trans p5
   have hsub:∀k∈xs,mS k:=λk hk=>hss.2.2 k (hpm.mem_iff.mp (List.mem_append_left _ hk))
   have hnd:xs.Nodup:=(List.nodup_append.mp (hpm.nodup_iff.mpr hss.2.1)).1
   obtain⟨f,o,hs',hl⟩:=eZ (l:=.gth w xs f0 l0) (p:=p) hs5 o5 na (show wo H H5 p=_ by rw [dO (hs4.free o4 np)];exact ep)
   exact q a (.gth w xs f0 l0) _ ⟨hw,⟨List.length_pos_iff.mpr hne,by omega,hnd,hsub⟩,hd⟩ ⟨λk hk=>hpm.mem_iff.mp (List.mem_append_left _ hk),d1,d3⟩ f o hs' hl
  ·refine af (aE ⟨_,rfl,rfl,_,rfl,?_⟩)
   refine bb ?_
   refine aA ⟨_,rfl,_,rfl,_,rfl,by show 3<=sizeLine;decide,λa na=>?_⟩
   obtain⟨f,o,hs',hl⟩:=eZ (l:=.val k l0) (p:=a) hs4 o4 na True.intro
   exact q a (.val k l0) _ ⟨hk,by omega,by omega⟩ ⟨hkm,by omega,d3⟩ f o hs' hl
  ·refine af (aE ⟨_,rfl,rfl,_,rfl,?_⟩)
   rw [show decide (V.str ‹"since"›=V.str ‹"value"›)=false from ‹0›]
   refine aS (aB ?_)
   dsimp only
   refine af (aE ⟨_,rfl,rfl,_,rfl,?_⟩)
   refine bb ?_
   refine aA ⟨_,rfl,_,rfl,_,rfl,s,rfl,hs4,λb0 H5 p5 hs5 z0 z1=>⟨_,rfl,_,rfl,by show 5<=sizeLine;decide,λa na=>?_⟩⟩
   obtain⟨f,o,hs',hl⟩:=eZ (l:=.snc k b0 f0 l0) (p:=a) hs5 (o4.trans p5) na True.intro
   exact q a (.snc k b0 f0 l0) _ ⟨hk,⟨z0,z1⟩,hd⟩ ⟨hkm,d1,d3⟩ f o hs' hl
  ·refine af (aE ⟨_,rfl,rfl,_,rfl,?_⟩)
   rw [show decide (V.str ‹"part"›=V.str ‹"value"›)=false from ‹0›]
   refine aS (aB ?_)
   dsimp only
   refine af (aE ⟨_,rfl,rfl,_,rfl,?_⟩)
   rw [show decide (V.str ‹"part"›=V.str ‹"since"›)=false from ‹0›]
   refine aS (aB ?_)
   dsimp only
   refine af (aE ⟨_,rfl,rfl,_,rfl,?_⟩)
   refine bb ?_
   refine aA ⟨_,rfl,_,rfl,_,rfl,_,rfl,_,rfl,ln,_,rfl,.inl (SqL.of (okn o4)),s,_,rfl,hs4,(by rw [List.length_map];rcases hss.1 with z | z <;> omega),(by rw [List.length_map];rcases hss.1 with z | z <;> omega),λn5 H5 m50 m51 p5 hs5=>?_⟩
   rw [List.length_map]at m51
   have o5:=o4.trans p5
   obtain⟨k2,ek2,hk2,hkm2⟩:=vV hss m50 m51
   refine⟨ln,_,_,_,rfl,rfl,SqL.of (okn o5),ek2,_,rfl,_,rfl,by show 5<=sizeLine;decide,λa na=>?_⟩
   obtain⟨f,o,hs',hl⟩:=eZ (l:=.prt k k2 f0 l0) (p:=a) hs5 o5 na True.intro
   exact q a (.prt k k2 f0 l0) _ ⟨hk,hk2,hd⟩ ⟨⟨hkm,hkm2⟩,d1,d3⟩ f o hs' hl
  ·refine af (aE ⟨_,rfl,rfl,_,rfl,?_⟩)
   rw [show decide (V.str ‹"change"›=V.str ‹"value"›)=false from ‹0›]
   refine aS (aB ?_)
   dsimp only
   refine af (aE ⟨_,rfl,rfl,_,rfl,?_⟩)
   rw [show decide (V.str ‹"change"›=V.str ‹"since"›)=false from ‹0›]
   refine aS (aB ?_)
   dsimp only
   refine af (aE ⟨_,rfl,rfl,_,rfl,?_⟩)
   rw [show decide (V.str ‹"change"›=V.str ‹"part"›)=false from ‹0›]
   refine aS (aB ?_)
   dsimp only
   refine af (aE ⟨_,rfl,rfl,_,rfl,?_⟩)
   refine bb ?_
   refine aA ⟨_,rfl,?_⟩
   refine cJ (zi ?_)
   dsimp only [tC]
   refine⟨_,rfl,by show 2<=sizeLine;decide,λl2 nl2=>?_⟩
   obtain⟨g5,e5⟩:=laid (o:=.lst [V.int 3,V.int 400]) nl2
   have hs5:=hs4.keep g5
   have n2s:l2≠s:=λz=>by obtain⟨xs,e⟩:=hs4.lst;rw [z,e]at nl2;cases nl2
   have o5:=o4.trans (Off.grow g5)
   generalize upd H4 l2 _=H5 at g5 e5 hs5 o5 ⊢
   refine⟨_,rfl,s,2,rfl,hs5,by decide,by decide,λn6 H6 m0 m1' p6 hs6=>?_⟩
   have o6:=o5.trans p6
   obtain⟨mm,em,hm1,hm2⟩:∃mm:Int,atI [V.int 3,V.int 400] n6=some (.int mm)/\1<=mm/\mm<=400:=by
    rcases (show n6=0\/n6=1 by omega) with rfl | rfl
    ·exact⟨3,rfl,by decide,by decide⟩
    ·exact⟨400,rfl,by decide,by decide⟩
   refine⟨l2,_,_,_,rfl,rfl,SqL.of (p6 _ _ e5 n2s),em,s,mm,rfl,hs6,by omega,by omega,λr0 H7 r1 r2 p7 hs7=>?_⟩
   have o7:=o6.trans p7
   refine⟨_,_,rfl,rfl,_,rfl,_,rfl,_,rfl,by show 5<=sizeLine;decide,λa na=>?_⟩
   obtain⟨f,o,hs',hl⟩:=eZ (l:=.chg (1+r0) k f0 l0) (p:=a) hs7 o7 na True.intro
   exact q a (.chg (1+r0) k f0 l0) _ ⟨⟨by omega,by omega⟩,hk,hd⟩ ⟨hkm,d1,d3⟩ f o hs' hl
  ·exact absurd hw zn
noncomputable abbrev sLq:Stmt:=top 55
theorem As {t:TT}{s1 s2:TS}{D:Ends}{σ:St}{H:Hp} (c:Bool) (h:∀Q:Bool->Hp->Prop,Q c H->t σ H Q) (h1:c=true->s1 D σ H) (h2:c=false->s2 D σ H):zQ t s1 s2 D σ H:=by
 refine aE (h _ ?_)
 cases c with
 | true=>exact bb (h1 rfl)
 | false=>exact aS (h2 rfl)
noncomputable def mB (P:Lf->Prop):Nat->Nd->Prop
 | 0,.leaf l=>P l
 | 0,.brk _ _=>True
 | _+1,.leaf l=>P l
 | n+1,.brk _ xs=>∀x∈xs,mB P n x
theorem qh {P:Lf->Prop}{n:Nat}{l:Lf} (h:P l):mB P n (.leaf l):=by cases n <;> exact h
theorem wR {sub:List Nat}{te:TE}{σ:St}{H:Hp}{Q:VK}{s:Addr}{m cnt:Nat}{O:Nd->Prop} (hs:SAt H s) (hn:cnt<=4)
  (hte:∀(i:Nat) (H2:Hp) (R:VK),i < cnt->SAt H2 s->Off s H H2->(∀(a:Addr) (nd:Nd) (H3:Hp),O nd->H2 a=none->Off s H2 H3->SAt H3 s->dt m nd (wo H2 H3) a->R (.ref a) H3)->te (some (.int (0+(i:Int)))::bG sub σ) H2 R)
  (hq:∀(D:Addr) (as:List Addr) (xs:List Nd) (H':Hp),H D=none->Off s H H'->SAt H' s->H' D=some (.lst (as.map V.ref))->Paired (λa q=>dt m q (wo H H') a) as xs->xs.length=cnt->(∀x∈xs,O x)->Q (.ref D) H'):gb (Itr 0 cnt) sub (λ_ H Q=>Q true H) te σ Q H:=by
 intro D nD
 have nDs:D≠s:=λz=>by obtain⟨xs,e⟩:=hs.lst;rw [z,e]at nD;cases nD
 obtain⟨g1,e1⟩:=laid (o:=.lst []) nD
 have s1:=hs.keep g1
 refine ed (lo:=0) (n:=cnt) (sub:=sub) (tt:=λ_ H Q=>Q true H) (te:=te) (Q:=Q) (σ:=σ) (λi ys H2=>∃(as:List Addr) (xs:List Nd),ys=as.map V.ref/\xs.length=i/\H2 D=some (.lst ys)/\Off s H H2/\(∀b o,upd H D (.lst []) b=some o->b≠s->b≠D->H2 b=some o)/\SAt H2 s/\Paired (λa q=>dt m q (wo (upd H D (.lst [])) H2) a) as xs/\∀x∈xs,O x) ⟨[],[],rfl,rfl,e1,Off.grow g1,λb o e _ _=>e,s1,.nil,λ_ z=>nomatch z⟩ (λi ys H2 hi hh=>?_) λys H2 hh=>?_
 ·obtain⟨as,xs,rfl,hl,e2,o2,k2,s2,hp,hx⟩:=hh
  have hal:=ca hp
  refine bb (hte i _ _ hi s2 o2 λa nd H3 okn na o3 s3 hn3=>⟨o3 _ _ e2 nDs,by rw [List.length_map];exact bh ‹1›,as++[a],xs++[nd],by rw [List.map_append];rfl,by rw [List.length_append,hl];rfl,ar,λb o e nb=>?_,λb o e n1 n2=>?_,?_,?_,λx hx'=>?_⟩)
  ·rw [ai (ao e nD)];exact o3 _ _ (o2 _ _ e nb) nb
  ·rw [ai n2];exact o3 _ _ (k2 _ _ e n1 n2) n1
  ·exact s3.off nDs λb o e nb=>by rw [ai nb];exact e
  ·have kk:∀b o,upd H D (.lst []) b=none->H3 b=some o->upd H3 D (.lst (as.map V.ref++[.ref a])) b=some o:=λb o n e=>by
    rw [ai (λz=>by rw [z,e1]at n;cases n)];exact e
   have ns:∀b,upd H D (.lst []) b=none->b≠s:=λb n z=>by obtain⟨xs,e⟩:=s1.lst;rw [z,e]at n;cases n
   refine Paired.snoc (Paired.mono (λa q0 h0=>dt.keep (fg λb o n e=>kk _ _ n (o3 _ _ e (ns b n))) h0) hp) (dt.keep (aZ.trans (eO (H0:=upd H D (.lst [])) λb hb=>?_) (fg kk)) hn3)
   cases e:upd H D (.lst []) b with
   | none=>rfl
   | some o=>
    by_cases zs:b=s
    ·obtain⟨xs,es⟩:=s2.lst
     rw [zs,es]at hb;cases hb
    ·by_cases zd:b=D
     ·rw [zd,e2]at hb;cases hb
     ·rw [k2 _ _ e zs zd]at hb;cases hb
  ·rcases List.mem_append.mp hx' with h | h
   ·exact hx x h
   ·rw [List.mem_singleton.mp h];exact okn
 ·obtain⟨as,xs,rfl,hl,e2,o2,k2,s2,hp,hx⟩:=hh
  exact hq D as xs H2 nD o2 s2 e2 (Paired.mono (λa q0 h0=>dt.keep (eO (H0:=H) λb hb=>bX g1 hb) h0) hp) hl hx
noncomputable abbrev w4:List Str:=[‹"plus"›, ‹"minus"›, ‹"less"›, ‹"same"›]
theorem at4 {v:Int} (h0:4<=v) (h1:v < 8):∃(w:Str) (cnt:Nat),atI (w4.map V.str) (v - 4)=some (.str w)/\atI [V.int 2,V.int 2,V.int 4,V.int 4] (v - 4)=some (.int (cnt:Int))/\((w∈bA/\cnt=2)\/(w∈eF/\cnt=4)):=by
 rcases (show v=4\/v=5\/v=6\/v=7 by omega) with rfl | rfl | rfl | rfl
 ·exact⟨_,2,rfl,rfl,.inl ⟨‹0›,rfl⟩⟩
 ·exact⟨_,2,rfl,rfl,.inl ⟨‹0›,rfl⟩⟩
 ·exact⟨_,4,rfl,rfl,.inr ⟨‹0›,rfl⟩⟩
 ·exact⟨_,4,rfl,rfl,.inr ⟨‹0›,rfl⟩⟩
inductive LqI (n:Nat) (s ln t:Addr) (H:Hp) (Q:VK):Prop
 | mk (ss:List Str) (lo wd:Int) (hn:n<=3) (hs:SAt H s) (el:H ln=some (.lst (ss.map V.str))) (hss:Nm2 ss) (nls:ln≠s) (et:H t=some (.tup [.int lo,.int wd])) (nts:t≠s) (h0:0<=lo) (h1:1<=wd) (h2:lo+wd<=400) (q:∀(a:Addr) (nd:Nd) (H':Hp),cI n nd->mB (qw ss lo wd) n nd->H a=none->Off s H H'->SAt H' s->dt n nd (wo H H') a->Q (.ref a) H'):LqI n s ln t H Q
noncomputable def u7 (n:Nat):Sp:=λvs H Q _=>∃(s ln t:Addr),vs=[.ref s,.ref ln,.ref t,.int (n:Int)]/\LqI n s ln t H Q
noncomputable def BC (n:Nat):Sp:=λvs H Q E=>∃m,n=m+1/\u7 m vs H Q E
theorem pX {n:Nat}{l:Lf} (h:du l):cI n (.leaf l):=by cases n <;> exact h
theorem at8 {n:Nat} (h:n<=3):∃m:Int,atI [V.int 8,V.int 3,V.int 2,V.int 2] (n:Int)=some (.int m)/\1<=m/\m<=8:=by
 rcases (show n=0\/n=1\/n=2\/n=3 by omega) with rfl | rfl | rfl | rfl
 ·exact⟨8,rfl,by decide,by decide⟩
 ·exact⟨3,rfl,by decide,by decide⟩
 ·exact⟨2,rfl,by decide,by decide⟩
 ·exact⟨2,rfl,by decide,by decide⟩
theorem A3:FnScope ["_law_state", "_law_names_here", "_law_window_here", "_law_deep", "_law_way", "_law_word"] ["_law_state", "_law_names_here", "_law_window_here", "_law_deep"] (aq sLq):=‹2›
theorem zx {n:Nat}{f f1 f2 f3:Addr}{fd:FuncData} (F:Fun K "_law_question" "_law_question" sLq f fd) (N:Free mg){fd1:FuncData} (CP:Cal P w K mg base "_law_pull" 2 ["_law_state", "_law_many"] cZ f1 fd1){fd2:FuncData} (CL:Cal P w K mg base "_law_leaf" 4 ["_law_state", "_law_names_here", "_law_window_here", "_law_most"] lM f2 fd2){fd3:FuncData} (CQ:Cal P w K mg base "_law_question" (n+4) ["_law_state", "_law_names_here", "_law_window_here", "_law_deep"] (BC n) f3 fd3):FnOk P w K mg base CX0 (n+5) f fd ["_law_state", "_law_names_here", "_law_window_here", "_law_deep"] (u7 n):=by
 refine F.ok (k:=n+4) A3 (λvs H Q E h=>?_) (λcdv A outer s H vs Q E hr h=>?_)
 ·obtain⟨s,ln,t,rfl,_⟩:=h
  rfl
 ·obtain⟨s,ln,t,rfl,ss,lo,wd,hn,hs,el,hss,nls,et,nts,h0,h1,h2,q⟩:=h
  have hu:=aK hr
  refine⟨_,(ae (ay (i:=4) A3.nd rfl (Or.inl rfl) (av CP.ok (hr.mono ‹1›) rfl CP.nm CP.kp CP.bd .nil au (aa (pv 0) (aa aj ac))))
   (ae (ba (PW.pt (nF (aI bM (pv 3) aj (aP _)) (jy (aI jD (pv 4) aj (aP _))))) (ah (ax (av CL.ok (hr.mono ‹1›) rfl CL.nm CL.kp CL.bd .nil au (aa (pv 0) (aa (pv 1) (aa (pv 2) (aa (aU aO (aR (aa aj (aa aj (aa aj (aa aj ac))))) (pv 3) (λ_ _=>rfl)) ac))))))) aF)
   (@ae _ _ _ _ _ (@ay (i:=5) _ _ _ _ _ _ A3.nd rfl (Or.inl rfl) (@aU _ _ _ _ _ _ _ aO (@aR _ _ _ _ (@aa _ _ _ _ _ aD (@aa _ _ _ _ _ aD (@aa _ _ _ _ _ aD (@aa _ _ _ _ _ aD ac rfl) rfl) rfl) rfl)) (@aL _ _ _ _ _ _ _ _ dn (pv 4) aj) (λ_ _=>rfl)) (by rfl) (by first | exact .inl rfl | exact .inr rfl))
   (ah (ax (bW (aa (pv 5) (aa (fH (bz rfl (cC rfl N.range (aa (aU aO (aR (aa aj (aa aj (aa aj (aa aj ac))))) (aL dn (pv 4) aj) (λ_ _=>rfl)) ac)) rfl rfl (by show ∀p∈_,gc [‹"_law_window_here"›, ‹"_law_state"›, ‹"_law_names_here"›, ‹"_law_deep"›] p;decide) (by decide) rfl (by show ([‹"_law_k"›, ‹"_law_window_here"›, ‹"_law_state"›, ‹"_law_names_here"›, ‹"_law_deep"›]:List Str).Nodup;decide) (.cons (i:=2) rfl (.inr (.inl rfl)) (by show (some NameKind.cell)≠some NameKind.local;decide) (.inl rfl) rfl (.cons (i:=0) rfl (.inr (.inl rfl)) (by show (some NameKind.cell)≠some NameKind.local;decide) (.inl rfl) rfl (.cons (i:=1) rfl (.inr (.inl rfl)) (by show (some NameKind.cell)≠some NameKind.local;decide) (.inl rfl) rfl (.cons (i:=3) rfl (.inr (.inl rfl)) (by show (some NameKind.cell)≠some NameKind.local;decide) (.inl rfl) rfl .nil)))) (λC fp s H=>cw) (λC fp s H=>(av CQ.ok (hr.mono ‹1›) rfl CQ.nm CQ.kp CQ.bd .nil au (aa (pv 2) (aa (pv 3) (aa (pv 1) (aa (aL dn (pv 4) aj) ac)))))))) ac)))))))),?_⟩
  refine af (aw ⟨_,rfl,s,8,rfl,hs,by decide,by decide,λv H1 v0 v1 o1 hs1=>?_⟩)
  walk_at "d"
  have eln:=o1 _ _ el nls
  have ett:=o1 _ _ et nts
  refine af (As (decide ((n:Int)=0) || decide (v < 4)) (λQ hQ=>⟨_,rfl,rfl,_,rfl,?_⟩) (λ_=>?_) λhc=>aB ?_)
  ·by_cases z:(n:Int)=0
   ·rw [decide_eq_true (congrArg V.int z)]
    rw [decide_eq_true z,Bool.true_or]at hQ
    exact bb hQ
   ·rw [decide_eq_false (λy=>z (V.int.inj y))]
    rw [decide_eq_false z,Bool.false_or]at hQ
    exact aS ⟨_,rfl,_,_,rfl,rfl,_,rfl,hQ⟩
  ·refine aA ⟨_,rfl,_,rfl,_,rfl,by show 4<=sizeLine;decide,λl8 nl8=>?_⟩
   obtain⟨g2,e2⟩:=laid (o:=.lst [V.int 8,V.int 3,V.int 2,V.int 2]) nl8
   have o2:=o1.trans (Off.grow g2)
   have hs2:=hs1.keep g2
   generalize upd H1 l8 _=H2 at g2 e2 o2 hs2 ⊢
   obtain⟨m,em,m1,m2⟩:=at8 hn
   refine⟨_,rfl,l8,_,_,_,rfl,rfl,SqL.of e2,em,s,ln,t,m,rfl,ss,lo,wd,hs2,g2 _ _ eln,hss,nls,g2 _ _ ett,nts,h0,h1,h2,m1,m2,λa l H3 okl hin na o3 hs3 hl=>?_⟩
   exact q a (.leaf l) H3 (pX okl) (qh hin) (hs2.free o2 na) (o2.trans o3) hs3 (qV.mpr (hl.keep (eO (H0:=H) λb hb=>hs2.free o2 hb)))
  ·rw [Bool.or_eq_false_iff]at hc
   have hv:4<=v:=by have:=of_decide_eq_false hc.2;omega
   have hn0:=of_decide_eq_false hc.1
   dsimp only
   obtain⟨w,cnt,ew,ec,hb⟩:=at4 hv v1
   refine af (aw ⟨by show 4<=sizeLine;decide,λl4 nl4=>?_⟩)
   obtain⟨g2,e2⟩:=laid (o:=.lst (w4.map V.str)) nl4
   have o2:=o1.trans (Off.grow g2)
   have hs2:=hs1.keep g2
   refine⟨_,rfl,_,_,rfl,rfl,l4,_,_,_,rfl,rfl,SqL.of e2,ew,?_⟩
   walk_at "d"
   change zM _ _ _ (upd H1 l4 (.lst (w4.map V.str)))
   generalize upd H1 l4 (.lst (w4.map V.str))=H2 at g2 e2 o2 hs2 ⊢
   refine aA ⟨_,rfl,cJ (ce ⟨by show 4<=sizeLine;decide,λl5 nl5=>?_⟩)⟩
   obtain⟨g3,e3⟩:=laid (o:=.lst [V.int 2,V.int 2,V.int 4,V.int 4]) nl5
   have o3:=o2.trans (Off.grow g3)
   have hs3:=hs2.keep g3
   generalize upd H2 l5 _=H3 at g3 e3 o3 hs3 ⊢
   have el3:H3 ln=some (.lst (ss.map V.str)):=o3 _ _ el nls
   have et3:H3 t=some (.tup [.int lo,.int wd]):=o3 _ _ et nts
   obtain⟨m,rfl⟩:∃m,n=m+1:=⟨n - 1,by omega⟩
   have hcn:cnt=2\/cnt=4:=hb.elim (λz=>.inl z.2) λz=>.inr z.2
   refine⟨_,rfl,_,_,rfl,rfl,l5,_,_,_,rfl,rfl,SqL.of e3,ec,_,rfl,by omega,by omega,wR (m:=m) (cnt:=cnt) (O:=λx=>cI m x/\mB (qw ss lo wd) m x) hs3 ‹1› (λi H4 R hi hs4 o4 hR=>?_) λD as xs H4 nD o4 hs4 eD hp hxl hxs=>?_⟩
   ·refine⟨_,rfl,_,rfl,_,rfl,_,rfl,_,_,rfl,rfl,m,rfl,s,ln,t,?_,ss,lo,wd,by omega,hs4,o4 _ _ el3 nls,hss,nls,o4 _ _ et3 nts,nts,h0,h1,h2,λa nd H' ok hi=>hR a nd H' ⟨ok,hi⟩⟩
    rw [show ((m+1:Nat):Int) - 1=(m:Int) from by omega];rfl
   ·refine⟨by show 2<=sizeLine;decide,λa na=>?_⟩
    have o5:=o3.trans o4
    have fa:=hs4.free o5 na
    obtain⟨g6,e6⟩:=laid (o:=.tup [V.str w,V.ref D]) na
    have fD:=hs3.free o3 nD
    refine q a (.brk w xs) _ ⟨by rw [hxl];exact hb,λx hx=>(hxs x hx).1⟩ (λx hx=>(hxs x hx).2) fa (o5.trans (Off.grow g6)) (hs4.keep g6) (BN.mk D as (by rw [dO fa];exact e6) (by rw [dO fD];exact g6 _ _ eD) (Paired.mono (λa q0 h0=>dt.keep (aZ.trans (eO (H0:=H) λb hb=>hs3.free o3 hb) (fg λb o _ e=>g6 _ _ e)) h0) hp))
theorem vZ {f f1 f2:Addr}{fd:FuncData} (F:Fun K "_law_question" "_law_question" sLq f fd) (nq:mg "_law_question" = some (.ref f)) (bq:bE K fd ["_law_state", "_law_names_here", "_law_window_here", "_law_deep"] []) (N:Free mg){fd1:FuncData} (CP:Cal P w K mg base "_law_pull" 2 ["_law_state", "_law_many"] cZ f1 fd1){fd2:FuncData} (CL:Cal P w K mg base "_law_leaf" 4 ["_law_state", "_law_names_here", "_law_window_here", "_law_most"] lM f2 fd2):∀n,FnOk P w K mg base CX0 (n+5) f fd ["_law_state", "_law_names_here", "_law_window_here", "_law_deep"] (u7 n)
 | 0=>zx F N CP CL ⟨FnOk.no (λvs H Q E h=>by obtain⟨m,hm,_⟩:=h;cases hm),nq,F.kp,bq⟩
 | n+1=>zx F N CP CL ⟨FnOk.imp (vZ F nq bq N CP CL n) (λvs H Q E h=>by obtain⟨m,hm,h⟩:=h;cases hm;exact h),nq,F.kp,bq⟩
noncomputable def yZ:Sp:=λvs H Q E=>∃n,n<=3/\u7 n vs H Q E
theorem AL {f f1 f2:Addr}{fd:FuncData} (F:Fun K "_law_question" "_law_question" sLq f fd) (nq:mg "_law_question" = some (.ref f)) (bq:bE K fd ["_law_state", "_law_names_here", "_law_window_here", "_law_deep"] []) (N:Free mg){fd1:FuncData} (CP:Cal P w K mg base "_law_pull" 2 ["_law_state", "_law_many"] cZ f1 fd1){fd2:FuncData} (CL:Cal P w K mg base "_law_leaf" 4 ["_law_state", "_law_names_here", "_law_window_here", "_law_most"] lM f2 fd2):FnOk P w K mg base CX0 8 f fd ["_law_state", "_law_names_here", "_law_window_here", "_law_deep"] yZ:=FnOk.ex (sp:=u7) (N:=3) λn hn=>FnOk.mono (vZ F nq bq N CP CL n) ‹1›
noncomputable abbrev sLw:Stmt:=top 56
theorem Bo {w:Str}{m:Nat} (h:(w∈bA/\m=2)\/(w∈eF/\m=4)):w∈w4:=by
 have a:∀w∈bA,w∈w4:=‹0›
 have b:∀w∈eF,w∈w4:=‹0›
 exact h.elim (λz=>a w z.1) λz=>b w z.1
theorem wc {p:Addr}{l:Lf} (ok:du l):∃w r,lfV p l=.str w::r/\w∉w4/\cS l=w/\r=(lfV p l).tail:=by
 have g:∀w∈fK,w∉w4:=‹0›
 cases l with
 | gth w ks f0 l0=>exact⟨w,_,rfl,g w ok.1,rfl,rfl⟩
 | num=>exact⟨_,_,rfl,‹0›,rfl,rfl⟩
 | val=>exact⟨_,_,rfl,‹0›,rfl,rfl⟩
 | snc=>exact⟨_,_,rfl,‹0›,rfl,rfl⟩
 | prt=>exact⟨_,_,rfl,‹0›,rfl,rfl⟩
 | chg=>exact⟨_,_,rfl,‹0›,rfl,rfl⟩
noncomputable def BR:Lf->List Str
 | .gth _ ks _ _=>ks
 | _=>[]
noncomputable def gW (ks:List Str):V->V
 | .int i=>.str (si i)
 | .ref _=>.str (jc ks)
 | v=>v
theorem xi (p:Addr) (l:Lf):(lfV p l).tail.map (gW (BR l))=(gO l).map V.str:=by cases l <;> rfl
theorem tR (p:Addr) (l:Lf):(lfV p l).tail.length<=4:=by cases l <;> exact Nat.le_of_ble_eq_true rfl
theorem kB.bf {f l:Int} (h:kB f l):Big f/\Big l:=by
 obtain⟨h1,h2,h3⟩:=h
 unfold Big
 omega
theorem lf_item {p:Addr}{l:Lf}{x:V} (ok:du l) (h:x∈(lfV p l).tail):(∃z,x=.str z)\/(∃i,x=.int i/\Big i)\/(x=.ref p/\∃w ks f0 l0,l=.gth w ks f0 l0):=by
 have cs:∀{z:Str},x=.str z->(∃z,x=.str z)\/(∃i,x=.int i/\Big i)\/(x=.ref p/\∃w ks f0 l0,l=.gth w ks f0 l0):=λe=>.inl ⟨_,e⟩
 have ci:∀{z:Int},x=.int z->Big z->(∃z,x=.str z)\/(∃i,x=.int i/\Big i)\/(x=.ref p/\∃w ks f0 l0,l=.gth w ks f0 l0):=λe b=>.inr (.inl ⟨_,e,b⟩)
 cases l with
 | num z=>
  exact ci (List.mem_singleton.mp (show x∈[V.int z] from h)) ok
 | val k d=>
  rcases List.mem_cons.mp (show x∈[V.str k,V.int d] from h) with e | h
  ·exact cs e
  ·exact ci (List.mem_singleton.mp h) ⟨by have:=ok.2.1;omega,by have:=ok.2.2;omega⟩
 | gth w ks f0 l0=>
  rcases List.mem_cons.mp (show x∈[V.ref p,V.int f0,V.int l0] from h) with e | h
  ·exact .inr (.inr ⟨e,w,ks,f0,l0,rfl⟩)
  ·rcases List.mem_cons.mp h with e | h
   ·exact ci e ok.2.2.bf.1
   ·exact ci (List.mem_singleton.mp h) ok.2.2.bf.2
 | snc k b0 f0 l0=>
  rcases List.mem_cons.mp (show x∈[V.str k,V.int b0,V.int f0,V.int l0] from h) with e | h
  ·exact cs e
  ·rcases List.mem_cons.mp h with e | h
   ·exact ci e ok.2.1
   ·rcases List.mem_cons.mp h with e | h
    ·exact ci e ok.2.2.bf.1
    ·exact ci (List.mem_singleton.mp h) ok.2.2.bf.2
 | prt k k2 f0 l0=>
  rcases List.mem_cons.mp (show x∈[V.str k,V.str k2,V.int f0,V.int l0] from h) with e | h
  ·exact cs e
  ·rcases List.mem_cons.mp h with e | h
   ·exact cs e
   ·rcases List.mem_cons.mp h with e | h
    ·exact ci e ok.2.2.bf.1
    ·exact ci (List.mem_singleton.mp h) ok.2.2.bf.2
 | chg r0 k f0 l0=>
  rcases List.mem_cons.mp (show x∈[V.int r0,V.str k,V.int f0,V.int l0] from h) with e | h
  ·exact ci e ⟨by have:=ok.1.1;omega,by have:=ok.1.2;omega⟩
  ·rcases List.mem_cons.mp h with e | h
   ·exact cs e
   ·rcases List.mem_cons.mp h with e | h
    ·exact ci e ok.2.2.bf.1
    ·exact ci (List.mem_singleton.mp h) ok.2.2.bf.2
inductive LwI (n:Nat) (nd:Nd) (a:Addr) (H:Hp) (Q:VK):Prop
 | mk (ok:cI n nd) (hn:n<=3) (h:dt n nd H a) (q:∀p H',H p=none->aZ H H'->H' p=some (.lst ((aQ n nd).map V.str))->Q (.ref p) H'):LwI n nd a H Q
noncomputable def u6 (n:Nat):Sp:=λvs H Q _=>∃(a:Addr) (nd:Nd),vs=[.ref a]/\LwI n nd a H Q
noncomputable def BB (n:Nat):Sp:=λvs H Q E=>∃m,n=m+1/\u6 m vs H Q E
inductive LwV (H:Hp) (a:Addr) (w:Str) (m:Nat) (xs:List Nd) (i:Nat) (σ:St) (H2:Hp):Prop
 | mk (p:Addr) (v2:Option V) (h1:σ=[some (.ref a),some (.ref p),v2]) (h2:H p=none) (h3:aZ H H2) (h4:H2 p=some (.lst ((w::(xs.take i).flatMap (dF m)).map V.str))):LwV H a w m xs i σ H2
theorem rb {n:Nat}{q:Nd} (h:cI n q) (hn:n<=3):(dF n q).length<=511:=by
 have:=cX h
 have h2:=oK hn
 show (opS::(aQ n q++[clS])).length<=511
 rw [List.length_cons,List.length_append,List.length_singleton]
 omega
theorem g0 {k:Nat} (h:k<=100000):k<=sizeLine:=Nat.le_trans h (by decide)
theorem wY (x:V) (r:List V):atI (x::r) 0=some x:=dH (show (x::r)[0]?=some x from rfl)
theorem wJ (r:List V):HT.sIx (r.length+1) 0 (some 1)=1:=by
 rw [show (some (1:Int))=some ((1:Nat):Int) from rfl,HT.sIx_nat]
 exact Nat.min_eq_left ‹1›
theorem Bl (x:V) (r:List V):dZ (x::r) (some 1) none=r:=by
 unfold dZ
 rw [List.length_cons,wJ]
 show (r.take (r.length+1 - 1))=r
 rw [Nat.add_sub_cancel,List.take_length]
theorem xD:FnScope ["_law_node", "_law_found", "_law_part"] ["_law_node"] (aq sLw):=‹2›
theorem zw {n:Nat}{f f1:Addr}{fd:FuncData} (F:Fun K "_law_words" "_law_words" sLw f fd) (N:Free mg){fd1:FuncData} (CW:Cal P w K mg base "_law_words" n ["_law_node"] (BB n) f1 fd1):FnOk P w K mg base CX0 (n+1) f fd ["_law_node"] (u6 n):=by
 refine F.ok (k:=n) xD (λvs H Q E h=>?_) (λcdv A outer s H vs Q E hr h=>?_)
 ·obtain⟨a,nd,rfl,_⟩:=h
  rfl
 ·obtain⟨a,nd,rfl,ok,hn,h,q⟩:=h
  have hu:=aK hr
  refine⟨_,(ae (ba (aI cD (aU de (pv 0) aj (λ_ _=>rfl)) (bW (aa aD (aa aD (aa aD (aa aD ac))))) (by with_unfolding_all rfl)) (ae (ay (i:=1) xD.nd rfl (Or.inl rfl) (aR (aa (aU de (pv 0) aj (λ_ _=>rfl)) ac)))
   (ae (cA PassesOwn.never rfl (cg (aU de (pv 0) aj (λ_ _=>rfl))) (bi (i:=2) xD.nd rfl (Or.inl rfl))
   (ah (ay (i:=1) xD.nd rfl (Or.inl rfl) (aL jF (aL jF (aL jF (pv 1) (aR (aa aD ac))) (av CW.ok (hr.mono ‹1›) rfl CW.nm CW.kp CW.bd .nil au (aa (pv 2) ac))) (aR (aa aD ac))))))
   (ah (ax (pv 1))))) aF)
   (ah (ax (aL jF (aR (aa (aU de (pv 0) aj (λ_ _=>rfl)) ac)) (fH (bz rfl (AA (eW zX (pv 0) (gi aj) gj)) rfl rfl (by show ∀p∈_,gc [] p;decide) (by decide) rfl (by show ([‹"_law_one"›]:List Str).Nodup;decide) .nil (λC fp s H=>cw) (λC fp s H=>(dQ (dl (aG (r:=rIs K) cF (by rfl) N.isinstance PyProof.Rows.Boot.«isinstance» (aa (pv 0) (aa (gk (v:=.ty "list") (by rfl) N.list PyProof.Rows.Boot.«list» rfl) ac)))) (AE (K:=K) rfl PySem.F.plainAttrs_str PySem.F.slot_str_join PySem.F.type_str_join gq aD (aa (pv 0) ac)) (aX sV (by rfl) N.str PyProof.Rows.Boot.«str» (aa (pv 0) ac)))))))))),?_⟩
  cases nd with
  | leaf l=>
   have okl:=cy ok
   obtain⟨pk,ea,hk⟩:=qV.mp h
   obtain⟨w,r,ev,nw,ew,er⟩:=wc (p:=pk) okl
   have ea':=ea
   rw [ev]at ea'
   refine af (aE ⟨_,rfl,a,_,0,_,rfl,rfl,SqT.of ea',wY _ _,by show 4<=sizeLine;decide,λtp ntp=>?_⟩)
   obtain⟨g1,e1⟩:=laid (o:=.tup (w4.map V.str)) ntp
   change rIn _ _ _ _ (upd H tp (.tup (w4.map V.str))) _
   generalize upd H tp _=H1 at g1 e1 ⊢
   refine⟨tp,_,rfl,.inr (SqT.of e1),rfl,bt _,?_⟩
   rw [if_neg Bool.false_ne_true,bL,decide_eq_false nw]
   refine⟨_,rfl,aS (aB ?_)⟩
   dsimp only
   refine aA ⟨_,rfl,a,_,0,_,rfl,rfl,SqT.of (g1 _ _ ea'),wY _ _,by show 1<=sizeLine;decide,λp1 np1=>?_⟩
   obtain⟨g2,e2⟩:=laid (o:=.lst [V.str w]) np1
   generalize upd H1 p1 _=H2 at g2 e2 ⊢
   have g12:=g1.trans g2
   refine ce ⟨_,rfl,_,rfl,a,_,rfl,SqT.of (g12 _ _ ea'),(λz=>by rw [List.length_cons,wJ]at z;exact absurd z.1 (by decide)),λt2 nt2=>?_⟩
   obtain⟨g3,e3⟩:=laid (o:=.tup (dZ (.str w::r) (some 1) none)) nt2
   generalize upd H2 t2 _=H3 at g3 e3 ⊢
   have g13:=g12.trans g3
   have ec:dZ (.str w::r) (some 1) none=(lfV pk l).tail:=by rw [er];exact Bl _ _
   rw [ec]at e3
   refine⟨t2,rfl,⟨_,SqT.of e3⟩,qp (g:=gW (BR l)) (Nat.lt_of_le_of_lt (tR pk l) (by decide)) e3 (λx H4 R hx g4 hR=>?_) λD nD=>?_⟩
   ·have g14:=g13.trans g4
    rcases lf_item okl hx with⟨z,rfl⟩ | ⟨i,rfl,hb⟩ | ⟨rfl,w',ks,f0,l0,rfl⟩
    ·exact⟨_,rfl,_,"list", _,false,rfl,.str z,by rfl,_,rfl,aS ⟨_,rfl,.str z rfl hR⟩⟩
    ·exact⟨_,rfl,_,"list", _,false,rfl,.int i,by rfl,_,rfl,aS ⟨_,rfl,.int i rfl (ck hb.1 hb.2) hR⟩⟩
    ·have ek:=g14 _ _ (show H pk=some (.lst (ks.map V.str)) from hk)
     obtain⟨hg,⟨k1,k8,_,hks⟩,_⟩:=id okl
     refine⟨_,rfl,_,"list", _,true,rfl,.lst ek,by rfl,_,rfl,bb ⟨rfl,_,rfl,_,pk,ks,rfl,rfl,ek,?_,hR⟩⟩
     have:=lG 8 ks λw hw=>(kS (hks w hw)).2.1
     rw [show ‹","›.length=1 from ‹0›]
     omega
   ·rw [xi]
    obtain⟨g4,e4⟩:=laid (o:=.lst ((gO l).map V.str)) nD
    refine⟨p1,D,_,_,rfl,rfl,g4 _ _ (g3 _ _ e2),e4,?_,λp3 np3=>?_⟩
    ·rw [List.length_map]
     have:(gO l).length<=5:=by
      have:=(iA l).2
      rw [tG l,List.length_cons]at this
      omega
     exact g0 (show 1+_<=100000 by omega)
    obtain⟨g5,e5⟩:=laid (o:=.lst ([V.str w]++(gO l).map V.str)) np3
    refine q p3 _ (bX (g13.trans g4) np3) ((g13.trans g4).trans g5) ?_
    rw [e5,fh,tG l,ew]
    rfl
  | brk w xs=>
   cases n with
   | zero=>exact(show False from ok).elim
   | succ m=>
    obtain⟨li,as,ea,eli,hp⟩:BN w xs (λa q=>dt m q H a) H a:=h
    obtain⟨hw,hxs⟩:_/\_:=id ok
    have hl4:=fE hw
    have hal:=ca hp
    refine af (aE ⟨_,rfl,a,_,0,_,rfl,rfl,SqT.of ea,rfl,by show 4<=sizeLine;decide,λtp ntp=>?_⟩)
    obtain⟨g1,e1⟩:=laid (o:=.tup (w4.map V.str)) ntp
    change rIn _ _ _ _ (upd H tp (.tup (w4.map V.str))) _
    generalize upd H tp _=H1 at g1 e1 ⊢
    refine⟨tp,_,rfl,.inr (SqT.of e1),rfl,bt _,?_⟩
    rw [if_neg Bool.false_ne_true,bL,decide_eq_true (Bo hw)]
    refine⟨_,rfl,bb ?_⟩
    refine af (aw ⟨_,rfl,a,_,0,_,rfl,rfl,SqT.of (g1 _ _ ea),rfl,by show 1<=sizeLine;decide,λp1 np1=>?_⟩)
    walk_at "d"
    obtain⟨g2,e2⟩:=laid (o:=.lst [V.str w]) np1
    generalize upd H1 p1 _=H2 at g2 e2 ⊢
    have g12:=g1.trans g2
    refine af ⟨_,rfl,a,_,1,_,rfl,rfl,SqT.of (g12 _ _ ea),rfl,li,rfl,⟨_,SqL.of (g12 _ _ eli)⟩,fb (K:=K) (a:=li) (xs:=as.map V.ref) (LwV H a w m xs) ⟨p1,none,rfl,bX g1 np1,g12,e2⟩ (λi σ H3 _ hh=>?_) (λi v σ H3 hi hh=>?_) λσ H3 hh=>?_⟩
    ·obtain⟨p,v2,rfl,_,g3,_⟩:=hh
     exact SqL.of (g3 _ _ eli)
    ·obtain⟨p,v2,rfl,np,g3,e3⟩:=hh
     rw [List.getElem?_map]at hi
     obtain⟨b0,hb0,rfl⟩:=Option.map_eq_some_iff.mp hi
     obtain⟨q0,hq0,hqa⟩:=dR hp hb0
     have hqx:=hxs q0 (List.mem_of_getElem? hq0)
     have hil:=(List.getElem?_eq_some_iff.mp hq0).1
     have et:xs.take (i+1)=xs.take i++[q0]:=by rw [List.take_add_one,hq0];rfl
     walk_at "d"
     have hbl:=dh (g:=dF m) (m:=511) (xs.take i) λq hq=>rb (hxs q (List.mem_of_mem_take hq)) ‹1›
     rw [List.length_take]at hbl
     have hkl:=rb hqx (show m<=3 by omega)
     have hwl:(aQ m q0).length<=509:=Nat.le_trans (cX hqx) (oK ‹1›)
     refine aw ⟨_,rfl,by show 1<=sizeLine;decide,λp2 np2=>?_⟩
     obtain⟨g4,e4⟩:=laid (o:=.lst [V.str opS]) np2
     change xQ _ _ (upd H3 p2 (.lst [V.str opS])) _
     generalize upd H3 p2 _=H4 at g4 e4 ⊢
     have e3':=g4 _ _ e3
     refine⟨p,p2,_,_,rfl,rfl,e3',e4,?_,λp3 np3=>?_⟩
     ·rw [List.length_map,List.length_cons]
      exact g0 (show _+1+1<=100000 by omega)
     obtain⟨g5,e5⟩:=laid (o:=.lst ((w::(xs.take i).flatMap (dF m)).map V.str++[V.str opS])) np3
     generalize upd H4 p3 _=H5 at g5 e5 ⊢
     have g35:=(g3.trans g4).trans g5
     refine⟨_,rfl,m,rfl,b0,q0,rfl,hqx,by omega,dt.keep g35 hqa,λp4 H6 np4 g6 e6=>?_⟩
     refine⟨p3,p4,_,_,rfl,rfl,g6 _ _ e5,e6,?_,λp5 np5=>?_⟩
     ·rw [List.length_append,List.length_map,List.length_map,List.length_cons,List.length_singleton]
      exact g0 (show _+1+1+_<=100000 by omega)
     obtain⟨g7,e7⟩:=laid (o:=.lst ((w::(xs.take i).flatMap (dF m)).map V.str++[V.str opS]++(aQ m q0).map V.str)) np5
     generalize upd H6 p5 _=H7 at g7 e7 ⊢
     refine⟨by show 1<=sizeLine;decide,λp6 np6=>?_⟩
     obtain⟨g8,e8⟩:=laid (o:=.lst [V.str clS]) np6
     change xQ _ _ (upd H7 p6 (.lst [V.str clS])) _
     generalize upd H7 p6 _=H8 at g8 e8 ⊢
     have e7':=g8 _ _ e7
     refine⟨p5,p6,_,_,rfl,rfl,e7',e8,?_,λp9 np9=>?_⟩
     ·rw [List.length_append,List.length_append,List.length_map,List.length_map,List.length_cons,List.length_singleton]
      exact g0 (show _+1+1+_+1<=100000 by omega)
     obtain⟨g9,e9⟩:=laid (o:=.lst ((w::(xs.take i).flatMap (dF m)).map V.str++[V.str opS]++(aQ m q0).map V.str++[V.str clS])) np9
     have gg:=((g35.trans g6).trans g7).trans g8
     refine⟨p9,_,rfl,bX gg np9,gg.trans g9,?_⟩
     show upd H8 p9 _ p9=_
     rw [e9,et,List.flatMap_append,List.flatMap_cons,List.flatMap_nil,List.append_nil]
     show some (HO.lst (V.str w::_++_++_++_))=some (HO.lst (V.str w::((xs.take i).flatMap (dF m)++(opS::(aQ m q0++[clS]))).map V.str))
     rw [List.map_append,List.map_cons,List.map_append,List.append_assoc,List.append_assoc]
     rfl
    ·obtain⟨p,v2,rfl,np,g3,e3⟩:=hh
     rw [List.length_map,hal,List.take_length]at e3
     dsimp only
     exact aA ⟨_,rfl,q p H3 np g3 e3⟩
noncomputable def u5:Sp:=λvs H Q E=>∃n,n<=3/\u6 n vs H Q E
theorem vY {f:Addr}{fd:FuncData} (F:Fun K "_law_words" "_law_words" sLw f fd) (nq:mg "_law_words" = some (.ref f)) (bq:bE K fd ["_law_node"] []) (N:Free mg):∀n,FnOk P w K mg base CX0 (n+1) f fd ["_law_node"] (u6 n)
 | 0=>zw F N ⟨FnOk.no (λvs H Q E h=>by obtain⟨m,hm,_⟩:=h;cases hm),nq,F.kp,bq⟩
 | n+1=>zw F N ⟨FnOk.imp (vY F nq bq N n) (λvs H Q E h=>by obtain⟨m,hm,h⟩:=h;cases hm;exact h),nq,F.kp,bq⟩
theorem AK {f:Addr}{fd:FuncData} (F:Fun K "_law_words" "_law_words" sLw f fd) (nq:mg "_law_words" = some (.ref f)) (bq:bE K fd ["_law_node"] []) (N:Free mg):FnOk P w K mg base CX0 4 f fd ["_law_node"] u5:=FnOk.ex (sp:=u6) (N:=3) λn hn=>FnOk.mono (vY F nq bq N n) ‹1›
noncomputable abbrev Ah:Stmt:=top 57
inductive FtI (n:Nat) (nd:Nd) (a:Addr) (H:Hp) (Q:VK):Prop
 | mk (ok:cI n nd) (hn:n<=3) (P:Lf->Prop) (hi:mB P n nd) (h:dt n nd H a) (q:∀m nd' a' H',m<=3->cI m nd'->mB P m nd'->dt m nd' H' a'->aZ H H'->Q (.ref a') H'):FtI n nd a H Q
noncomputable def za:Sp:=λvs H Q _=>∃(n:Nat) (nd:Nd) (a:Addr),vs=[.ref a]/\FtI n nd a H Q
inductive FtW (P:Lf->Prop) (H:Hp) (m:Nat) (σ:St) (H2:Hp):Prop
 | mk (nd:Nd) (a:Addr) (h1:σ=[some (.ref a)]) (h2:m<=3) (h3:cI m nd) (h6:mB P m nd) (h4:dt m nd H2 a) (h5:aZ H H2):FtW P H m σ H2
theorem we {l:Lf} (ok:du l):(jn (b9 l)).length<=400:=by
 have:=mH (ws:=b9 l) (m:=79) λw hw=>(qY ok w hw).hi
 have h2:=(iA l).2
 omega
theorem ze:FnScope ["_law_node"] ["_law_node"] (aq Ah):=‹2›
theorem AM {f f1:Addr}{fd:FuncData} (F:Fun K "_law_fitting" "_law_fitting" Ah f fd) (N:Free mg){fd1:FuncData} (CW:Cal P w K mg base "_law_words" 4 ["_law_node"] u5 f1 fd1):FnOk P w K mg base CX0 5 f fd ["_law_node"] za:=by
 refine F.ok (k:=4) ze (λvs H Q E h=>?_) (λcdv A outer s H vs Q E hr h=>?_)
 ·obtain⟨n,nd,a,rfl,_⟩:=h
  rfl
 ·obtain⟨n,nd,a,rfl,ok,hn,P0,hi,h,q⟩:=h
  have hu:=aK hr
  refine⟨_,(ae (nH PassesOwn.never (aI vk (aG il (by rfl) N.len PySem.boot_len (aa (cM PySem.F.plainAttrs_str PySem.F.slot_str_join PySem.F.type_str_join gq aD (aa (av CW.ok (hr.mono (by decide)) rfl CW.nm CW.kp CW.bd .nil au (aa (pv 0) ac)) ac)) ac)) aj (aP _)) (ah (ay (i:=0) ze.nd rfl (Or.inl rfl) (aU aO (aU de (pv 0) aj (λ_ _=>rfl)) aj (λ_ _=>rfl)))))
   (ah (ax (pv 0)))),?_⟩
  refine af (nB (FtW P0 H) (m:=n) ⟨nd,a,rfl,hn,ok,hi,h,aZ.refl⟩ λm σ H2 hh=>?_)
  obtain⟨nd2,a2,rfl,hm,ok2,hi2,h2,g2⟩:=hh
  refine⟨rfl,_,rfl,m,hm,a2,nd2,rfl,ok2,hm,h2,λp H3 np g3 e3=>?_⟩
  have hws:=fL ok2
  have hwl:=Nat.le_trans (cX ok2) (oK hm)
  refine⟨_,p,_,rfl,rfl,e3,j8 (λw hw=>Nat.le_trans (hws w hw).len (by decide)) ‹1›,?_⟩
  have hjl:=mH (ws:=aQ m nd2) (m:=79) λw hw=>(hws w hw).len
  refine⟨_,rfl,g0 (Nat.le_trans hjl ‹1›),?_⟩
  refine⟨_,_,rfl,rfl,_,rfl,dX (λhc=>?_) λ_=>?_⟩
  ·have hc:((jn (aQ m nd2)).length:Int) > 400:=of_decide_eq_true hc
   cases nd2 with
   | leaf l=>
    rw [fh]at hc
    have:=we (cy ok2)
    omega
   | brk w xs=>
    cases m with
    | zero=>exact(show False from ok2).elim
    | succ m=>
     obtain⟨li,as,ea,eli,hp⟩:BN w xs (λa q=>dt m q H2 a) H2 a2:=h2
     obtain⟨hw,hxs⟩:_/\_:=id ok2
     have hl4:=fE hw
     refine⟨FtW P0 H m,λσ' H' hh=>⟨m,by omega,hh⟩,?_⟩
     cases hp with
     | nil=>exact absurd hl4.1 (by decide)
     | cons hq0 hr=>
      refine aw ⟨_,rfl,a2,_,1,_,rfl,rfl,SqT.of (g3 _ _ ea),rfl,li,_,0,_,rfl,rfl,SqL.of (g3 _ _ eli),wY _ _,?_⟩
      walk_at "d"
      exact⟨_,_,rfl,by omega,hxs _ List.mem_cons_self,hi2 _ List.mem_cons_self,dt.keep g3 hq0,g2.trans g3⟩
  ·dsimp only
   exact aA ⟨_,rfl,q m nd2 a2 H3 hm ok2 hi2 (dt.keep g3 h2) (g2.trans g3)⟩
end Mine
namespace L2
open PySem PySem.Spec PyProof.Rows
section
variable {X:Cx}
inductive rSumL (K:PySem.W.Frag) (xs:List V) (H:Hp) (Q:VK):Prop
 | mk (a:Addr) (ns:List Int) (h1:xs=[.ref a]) (h2:SqL K H a (ns.map V.int)) (h4:Q (.int ns.sum) H):rSumL K xs H Q
theorem sU (hc:X.calm=true):cW X (.builtin "sum") (rSumL X.K):=by
 intro pins s σ H xs us Q I r h
 obtain⟨a,ns,rfl,hS,q⟩:=h
 obtain⟨u,rfl,ru⟩:=cB r
 cases (show u=Value.ref a from ru)
 obtain⟨ys,hl,e⟩:=j9 I hS
 refine sum_intListG (I.ok.hd hc) hl λh' tk t' hk=>?_
 refine⟨.int _,H,I.kept hk,⟨t',?_⟩,q⟩
 rw [preSum_eq,List.take_of_length_le (by simp),<- e]
end
noncomputable def cm (z:Nat->Int):Nat->Option Int
 | 0=>none
 | j+1=>match cm z j with
  | none=>some (z j)
  | some m=>some (if z j < m then z j else m)
def wu (b:Option Int) (its:Array Value):Prop:=match b with
 | none=>its = #[]
 | some m=>∃t,its = #[.int m t,.int m t]
def tK (b:Option Int) (v:Value):Prop:=match b with
 | none=>v=.none
 | some m=>∃t,v=.int m t
section
variable {prog:Program}{w:World}{A:Around}{R:Result->Shared->Prop}{I:Addr}{fp wr:List Addr}{n:Nat}{P:Nat->Value->Prop}{St:Nat->Heap->Prop}
theorem AU (z:Nat->Int) (W:Walks prog w A.in1 I fp wr n P St) (hz:∀i v,P i v->∃t,v=Value.int (z i) t) (S:Addr) (hSf:S∉fp):∀(k j:Nat) (s:Shared) (its:Array Value) (c:Nat),n - j=k->j<=n->St j s.heap->wu (cm z j) its->
  s.heap.get? S=some { cls:=.type "list", dict:=none,data:=.seq its c,slots:=#[] }->
  (∀v h' tk,tK (cm z n) v->(∀b o,b∉wr->b≠S->s.heap.get? b=some o->h'.get? b=some o)->R (.ok (.ret v)) { s with heap:=h',toks:=tk })->
  codeAny (model prog w) A (.builtin "min.loop" ⟨[.ref I,.none,.ref S],[("default", .none)]⟩) R s:=by
 have hSw:S∉wr:=λh=>hSf (W.sub _ h)
 have nm:(toString "min"++toString ".loop" : String) = "min.loop":=by decide
 intro k
 induction k with
 | zero=>
  intro j s its c hk hj st hh hS hR
  obtain rfl:j=n:=by omega
  refine codeAny_builtin F.entry_min_loop ?_
  rw [Around.under_plainId F.plain_min_loop _]
  show wpAny _ A.in1 (seqItems? (.ref S) >>= _) _ _ s
  refine zB0 (wpAny_seqItems hS rfl ?_)
  show wpAny _ A.in1 (tryCatch (pyNext (.ref I)) _ >>= _) _ _ s
  refine zB0 (wpAny_tryCatch (W.done s _ _ st λh' tk kp=>?_))
  have hS':=kp S _ hSw hS
  cases hb:cm z j with
  | none=>
   rw [hb]at hh hR
   obtain rfl:its = #[]:=hh
   refine zB0 (wpAny_rule (zP0 (hR .none h' tk rfl λb o hb _ e=>kp b o hb e)))
  | some m=>
   rw [hb]at hh hR
   obtain⟨t,rfl⟩:=hh
   show wpAny _ A.in1 (updateSeq S (λ_=>#[]) >>= _) _ _ _
   refine zB0 ?_
   refine wpAny_updateSeq hS' rfl (zB0 (wpAny_letGo (zP0 ?_)))
   exact hR (.int m t) _ tk ⟨t,rfl⟩ λb o hb hbS e=>(Heap.get?_update_other _ _ (Ne.symm hbS)).trans (kp b o hb e)
 | succ k ih=>
  intro j s its c hk hj st hh hS hR
  refine codeAny_builtin F.entry_min_loop ?_
  rw [Around.under_plainId F.plain_min_loop _]
  show wpAny _ A.in1 (seqItems? (.ref S) >>= _) _ _ s
  refine zB0 (wpAny_seqItems hS rfl ?_)
  show wpAny _ A.in1 (tryCatch (pyNext (.ref I)) _ >>= _) _ _ s
  refine zB0 (wpAny_tryCatch (W.item j s _ _ ‹1› st λv h' tk hp st' kp=>?_))
  have hS':=kp S _ hSw hS
  obtain⟨t,rfl⟩:=hz j v hp
  have eb:cm z (j+1)=match cm z j with | none=>some (z j) | some m=>some (if z j < m then z j else m):=rfl
  have fr:∀(f:Array Value->Array Value),St (j+1) (h'.update S (Obj.mapSeq f)):=λf=>W.frame _ _ _ st' λb hbf o e=>(Heap.get?_update_other _ _ (λh:S=b=>hSf (by rw [h];exact hbf))).trans e
  cases hb:cm z j with
  | none=>
   rw [hb]at hh eb
   obtain rfl:its = #[]:=hh
   show wpAny _ A.in1 (updateSeq S (λ_=>#[Value.int (z j) t,Value.int (z j) t]) >>= _) _ _ _
   refine zB0 ?_
   refine wpAny_updateSeq hS' rfl ?_
   rw [nm]
   refine zP0 ⟨plainId_quiet F.plain_min_loop _,ih (j+1) _ _ _ ‹1› ‹1› (fr _) (by rw [eb];exact⟨t,rfl⟩) (Heap.get?_update_self _ hS' rfl) λv' h'' tk'' hv' kp'=>?_⟩
   exact hR v' h'' tk'' hv' λb o hb hbS e=>kp' b o hb hbS ((Heap.get?_update_other _ _ (Ne.symm hbS)).trans (kp b o hb e))
  | some m=>
   rw [hb]at hh eb
   dsimp only at eb
   obtain⟨u,rfl⟩:=hh
   show wpAny _ A.in1 (tryCatch (holding [Value.int (z j) t,Value.int (z j) t] (richCompare .Lt (.int (z j) t) (.int m u) >>= _)) _ >>= _) _ _ _
   refine zB0 (wpAny_tryCatch (wpAny_holding (zB0 ?_)))
   refine show wpAny _ _ (compareOp .Lt (.int (z j) t) (.int m u)) _ _ _ from PyProof.Rows.lt_int ?_
   refine zB0 (wpAny_holding (wpAny_truthy_bool ?_))
   refine zB0 (wpAny_letGo (zP0 ?_))
   by_cases hlt:z j < m
   ·rw [if_pos hlt]at eb
    simp only [decide_eq_true hlt,if_true]
    refine zB0 ?_
    refine wpAny_updateSeq hS' rfl (zB0 (wpAny_letGo ?_))
    rw [nm]
    refine zP0 ⟨plainId_quiet F.plain_min_loop _,ih (j+1) _ _ _ ‹1› ‹1› (fr _) (by rw [eb];exact⟨t,rfl⟩) (Heap.get?_update_self _ hS' rfl) λv' h'' tk'' hv' kp'=>?_⟩
    exact hR v' h'' tk'' hv' λb o hb hbS e=>kp' b o hb hbS ((Heap.get?_update_other _ _ (Ne.symm hbS)).trans (kp b o hb e))
   ·rw [if_neg hlt]at eb
    simp only [decide_eq_false hlt,Bool.false_eq_true,if_false]
    refine zB0 (wpAny_letGo ?_)
    rw [nm]
    refine zP0 ⟨plainId_quiet F.plain_min_loop _,ih (j+1) _ _ c ‹1› ‹1› st' (by rw [eb];exact⟨u,rfl⟩) hS' λv' h'' tk'' hv' kp'=>?_⟩
    exact hR v' h'' tk'' hv' λb o hb hbS e=>kp' b o hb hbS (kp b o hb e)
end
theorem t7 (a:Value):argsOk "min" ⟨[a],[("default", .none)]⟩:=by unfold argsOk;kernel_rfl
noncomputable def ee (ns:List Int):V:=match cm (λi=>ns.getD i 0) ns.length with
 | none=>.non
 | some m=>.int m
theorem jW (z:Nat->Int):∀n,match cm z n with
  | none=>n=0
  | some m=>(∃j,j < n/\m=z j)/\∀j,j < n->m<=z j
 | 0=>rfl
 | n+1=>by
  have ih:=jW z n
  unfold cm
  cases hb:cm z n with
  | none=>
   rw [hb]at ih
   simp only at ih ⊢
   subst ih
   exact⟨⟨0,by omega,rfl⟩,λj hj=>by rw [show j=0 by omega];exact Int.le_refl _⟩
  | some m=>
   rw [hb]at ih
   obtain⟨⟨j0,h0,e0⟩,h1⟩:=ih
   simp only
   by_cases hlt:z n < m
   ·rw [if_pos hlt]
    refine⟨⟨n,by omega,rfl⟩,λj hj=>?_⟩
    by_cases e:j=n
    ·rw [e];exact Int.le_refl _
    ·have:=h1 j ‹1›;omega
   ·rw [if_neg hlt]
    refine⟨⟨j0,by omega,e0⟩,λj hj=>?_⟩
    by_cases e:j=n
    ·rw [e];omega
    ·exact h1 j ‹1›
theorem best_min_is (ns:List Int):(ns=[]/\ee ns=.non)\/∃m,ee ns=.int m/\m∈ns/\∀x∈ns,m<=x:=by
 have h:=jW (λi=>ns.getD i 0) ns.length
 unfold ee
 cases hb:cm (λi=>ns.getD i 0) ns.length with
 | none=>rw [hb]at h;exact .inl ⟨List.length_eq_zero_iff.mp h,rfl⟩
 | some m=>
  rw [hb]at h
  obtain⟨⟨j,hj,e⟩,h1⟩:=h
  refine .inr ⟨m,rfl,by rw [e];exact getD_mem hj,λx hx=>?_⟩
  obtain⟨i,hi,rfl⟩:=mem_getD hx
  exact h1 i hi
noncomputable def zR (K:PySem.W.Frag) (t tk:TA):TE:=λσ H Q=>t σ H λvs H1=>tk σ H1 λzs H2=>∃(a:Addr) (ns:List Int),vs=[.ref a]/\zs=[.non]/\SqL K H2 a (ns.map V.int)/\Q (ee ns) H2
theorem vi {X:Cx}{e:Expr}{kws:List Keyword}{t tk:TA}{p pos:Pos} (hcm:X.calm=true) (hg:Gl X "min") (hm:X.mg "min" = none) (ha:PA X [e] t) (hk:PK X kws tk)
  (he:backTo pos (starEach [e] X.env)=(false,eval e X.env)::backTo pos (starEach [] X.env):=by rfl) (hplain:(backTo pos (starEach [e] X.env)).any (·.1)=false:=by rfl)
  (hall:(backToKw pos (keywordEach kws X.env)).all (·.1.isSome)=true:=by rfl) (hkw:(backToKw pos (keywordEach kws X.env)).any (·.1.isNone)=false:=by rfl)
  (hks:(backToKw pos (keywordEach kws X.env)).filterMap (·.1)=[PySem.Str.ofString "default"]:=by rfl):PE X (.Call (.Name "min" p) [e] kws pos) (zR X.K t tk):=by
 intro pins s σ H Q I h
 refine wpAny_Call_Name_kw (fW I hg hm PyProof.Rows.Boot.«min» ?_)
 refine callWith_kw (thn (ha pos pins s σ H _ I h) λus s1 hh=>?_) he hplain hall hkw
 obtain⟨vs,H1,I1,r1,q1⟩:=hh
 refine thn (hk pos pins s1 σ H1 _ I1 q1) λws s2 hh=>?_
 obtain⟨zs,H2,I2,r2,a,ns,rfl,rfl,hS,q⟩:=hh
 obtain⟨u,rfl,ru⟩:=cB r1
 obtain⟨u2,rfl,ru2⟩:=cB r2
 cases (show u=Value.ref a from ru)
 cases (show u2=Value.none from ru2)
 rw [hks]
 show wpAny _ _ (call (.builtin "min") [.ref a] [(PySem.Str.ofString "default", .none)]) _ _ _
 obtain⟨ys,hl,e⟩:=j9 I2 hS
 have hh:=I2.ok.hd hcm
 have nm:(toString "min"++toString ".loop" : String) = "min.loop":=by decide
 refine PyProof.Rows.kmk_tree F.kind_min F.plain_min F.entry_min (t7 _) ?_
 show wpAny _ X.A.in1 (Builtin.Builtins.bindParams "min" ["key", "default"] 0 ⟨[],[(‹"default"›, .none)]⟩ >>= _) _ _ s2
 refine zB0 (wpAny_of_eq (show Builtin.Builtins.bindParams "min" ["key", "default"] 0 ⟨[],[(‹"default"›, .none)]⟩=pure [none,some .none] from rfl) ?_)
 refine zB0 (zP0 ?_)
 refine zB0 (iter_intList hl λs₂ e2 st hfp hlI=>?_)
 subst e2
 refine zB0 (wpAny_newObj_type ?_)
 have W:=Walks.list (prog:=X.prog) (w:=X.w) (A:=X.A.in1) hh _ a hlI (intItems ys)
 rw [nm]
 have hn:(intItems ys).size=ns.length:=by rw [<- jH e];simp [intItems]
 refine zP0 ⟨plainId_quiet F.plain_min_loop _,AU (λi=>ns.getD i 0) W (λi v hv=>?_) _ (λhm=>Nat.lt_irrefl _ (hfp _ hm)) (intItems ys).size 0 _ #[] 0 ‹1› (Nat.zero_le _) (W.frame _ _ _ st λb _ o e=>zH0 _ e) rfl (Heap.get?_push_size _ rfl) λv h' tk hv kp=>?_⟩
 ·obtain⟨t,e3⟩:=intItems_at hv
  rw [numAt_eq,e]at e3
  exact⟨t,e3⟩
 ·rw [hn]at hv
  have kept:∀b o,s2.heap.get? b=some o->h'.get? b=some o:=old_kept λb o hb e=>kp b o hb (Nat.ne_of_lt (Heap.lt_size e)) (zH0 _ e)
  refine⟨ee ns,H2,I2.kept kept,?_,q⟩
  unfold ee
  cases hb:cm (λi=>ns.getD i 0) ns.length with
  | none=>rw [hb]at hv;exact hv
  | some m=>rw [hb]at hv;exact hv
noncomputable def cp (z:Nat->Int):Nat->Option Int
 | 0=>none
 | j+1=>match cp z j with
  | none=>some (z j)
  | some m=>some (if z j > m then z j else m)
def wv (b:Option Int) (its:Array Value):Prop:=match b with
 | none=>its = #[]
 | some m=>∃t,its = #[.int m t,.int m t]
def tN (b:Option Int) (v:Value):Prop:=match b with
 | none=>v=.none
 | some m=>∃t,v=.int m t
section
variable {prog:Program}{w:World}{A:Around}{R:Result->Shared->Prop}{I:Addr}{fp wr:List Addr}{n:Nat}{P:Nat->Value->Prop}{St:Nat->Heap->Prop}
theorem AV (z:Nat->Int) (W:Walks prog w A.in1 I fp wr n P St) (hz:∀i v,P i v->∃t,v=Value.int (z i) t) (S:Addr) (hSf:S∉fp):∀(k j:Nat) (s:Shared) (its:Array Value) (c:Nat),n - j=k->j<=n->St j s.heap->wv (cp z j) its->
  s.heap.get? S=some { cls:=.type "list", dict:=none,data:=.seq its c,slots:=#[] }->
  (∀v h' tk,tN (cp z n) v->(∀b o,b∉wr->b≠S->s.heap.get? b=some o->h'.get? b=some o)->R (.ok (.ret v)) { s with heap:=h',toks:=tk })->
  codeAny (model prog w) A (.builtin "max.loop" ⟨[.ref I,.none,.ref S],[("default", .none)]⟩) R s:=by
 have hSw:S∉wr:=λh=>hSf (W.sub _ h)
 have nm:(toString "max"++toString ".loop" : String) = "max.loop":=by decide
 intro k
 induction k with
 | zero=>
  intro j s its c hk hj st hh hS hR
  obtain rfl:j=n:=by omega
  refine codeAny_builtin F.entry_max_loop ?_
  rw [Around.under_plainId F.plain_max_loop _]
  show wpAny _ A.in1 (seqItems? (.ref S) >>= _) _ _ s
  refine zB0 (wpAny_seqItems hS rfl ?_)
  show wpAny _ A.in1 (tryCatch (pyNext (.ref I)) _ >>= _) _ _ s
  refine zB0 (wpAny_tryCatch (W.done s _ _ st λh' tk kp=>?_))
  have hS':=kp S _ hSw hS
  cases hb:cp z j with
  | none=>
   rw [hb]at hh hR
   obtain rfl:its = #[]:=hh
   refine zB0 (wpAny_rule (zP0 (hR .none h' tk rfl λb o hb _ e=>kp b o hb e)))
  | some m=>
   rw [hb]at hh hR
   obtain⟨t,rfl⟩:=hh
   show wpAny _ A.in1 (updateSeq S (λ_=>#[]) >>= _) _ _ _
   refine zB0 ?_
   refine wpAny_updateSeq hS' rfl (zB0 (wpAny_letGo (zP0 ?_)))
   exact hR (.int m t) _ tk ⟨t,rfl⟩ λb o hb hbS e=>(Heap.get?_update_other _ _ (Ne.symm hbS)).trans (kp b o hb e)
 | succ k ih=>
  intro j s its c hk hj st hh hS hR
  refine codeAny_builtin F.entry_max_loop ?_
  rw [Around.under_plainId F.plain_max_loop _]
  show wpAny _ A.in1 (seqItems? (.ref S) >>= _) _ _ s
  refine zB0 (wpAny_seqItems hS rfl ?_)
  show wpAny _ A.in1 (tryCatch (pyNext (.ref I)) _ >>= _) _ _ s
  refine zB0 (wpAny_tryCatch (W.item j s _ _ ‹1› st λv h' tk hp st' kp=>?_))
  have hS':=kp S _ hSw hS
  obtain⟨t,rfl⟩:=hz j v hp
  have eb:cp z (j+1)=match cp z j with | none=>some (z j) | some m=>some (if z j > m then z j else m):=rfl
  have fr:∀(f:Array Value->Array Value),St (j+1) (h'.update S (Obj.mapSeq f)):=λf=>W.frame _ _ _ st' λb hbf o e=>(Heap.get?_update_other _ _ (λh:S=b=>hSf (by rw [h];exact hbf))).trans e
  cases hb:cp z j with
  | none=>
   rw [hb]at hh eb
   obtain rfl:its = #[]:=hh
   show wpAny _ A.in1 (updateSeq S (λ_=>#[Value.int (z j) t,Value.int (z j) t]) >>= _) _ _ _
   refine zB0 ?_
   refine wpAny_updateSeq hS' rfl ?_
   rw [nm]
   refine zP0 ⟨plainId_quiet F.plain_max_loop _,ih (j+1) _ _ _ ‹1› ‹1› (fr _) (by rw [eb];exact⟨t,rfl⟩) (Heap.get?_update_self _ hS' rfl) λv' h'' tk'' hv' kp'=>?_⟩
   exact hR v' h'' tk'' hv' λb o hb hbS e=>kp' b o hb hbS ((Heap.get?_update_other _ _ (Ne.symm hbS)).trans (kp b o hb e))
  | some m=>
   rw [hb]at hh eb
   dsimp only at eb
   obtain⟨u,rfl⟩:=hh
   show wpAny _ A.in1 (tryCatch (holding [Value.int (z j) t,Value.int (z j) t] (richCompare .Gt (.int (z j) t) (.int m u) >>= _)) _ >>= _) _ _ _
   refine zB0 (wpAny_tryCatch (wpAny_holding (zB0 ?_)))
   refine show wpAny _ _ (compareOp .Gt (.int (z j) t) (.int m u)) _ _ _ from PyProof.Rows.gt_int ?_
   refine zB0 (wpAny_holding (wpAny_truthy_bool ?_))
   refine zB0 (wpAny_letGo (zP0 ?_))
   by_cases hlt:z j > m
   ·rw [if_pos hlt]at eb
    simp only [decide_eq_true hlt,if_true]
    refine zB0 ?_
    refine wpAny_updateSeq hS' rfl (zB0 (wpAny_letGo ?_))
    rw [nm]
    refine zP0 ⟨plainId_quiet F.plain_max_loop _,ih (j+1) _ _ _ ‹1› ‹1› (fr _) (by rw [eb];exact⟨t,rfl⟩) (Heap.get?_update_self _ hS' rfl) λv' h'' tk'' hv' kp'=>?_⟩
    exact hR v' h'' tk'' hv' λb o hb hbS e=>kp' b o hb hbS ((Heap.get?_update_other _ _ (Ne.symm hbS)).trans (kp b o hb e))
   ·rw [if_neg hlt]at eb
    simp only [decide_eq_false hlt,Bool.false_eq_true,if_false]
    refine zB0 (wpAny_letGo ?_)
    rw [nm]
    refine zP0 ⟨plainId_quiet F.plain_max_loop _,ih (j+1) _ _ c ‹1› ‹1› st' (by rw [eb];exact⟨u,rfl⟩) hS' λv' h'' tk'' hv' kp'=>?_⟩
    exact hR v' h'' tk'' hv' λb o hb hbS e=>kp' b o hb hbS (kp b o hb e)
end
theorem t8 (a:Value):argsOk "max" ⟨[a],[("default", .none)]⟩:=by unfold argsOk;kernel_rfl
noncomputable def eA (ns:List Int):V:=match cp (λi=>ns.getD i 0) ns.length with
 | none=>.non
 | some m=>.int m
theorem jX (z:Nat->Int):∀n,match cp z n with
  | none=>n=0
  | some m=>(∃j,j < n/\m=z j)/\∀j,j < n->z j<=m
 | 0=>rfl
 | n+1=>by
  have ih:=jX z n
  unfold cp
  cases hb:cp z n with
  | none=>
   rw [hb]at ih
   simp only at ih ⊢
   subst ih
   exact⟨⟨0,by omega,rfl⟩,λj hj=>by rw [show j=0 by omega];exact Int.le_refl _⟩
  | some m=>
   rw [hb]at ih
   obtain⟨⟨j0,h0,e0⟩,h1⟩:=ih
   simp only
   by_cases hlt:z n > m
   ·rw [if_pos hlt]
    refine⟨⟨n,by omega,rfl⟩,λj hj=>?_⟩
    by_cases e:j=n
    ·rw [e];exact Int.le_refl _
    ·have:=h1 j ‹1›;omega
   ·rw [if_neg hlt]
    refine⟨⟨j0,by omega,e0⟩,λj hj=>?_⟩
    by_cases e:j=n
    ·rw [e];omega
    ·exact h1 j ‹1›
theorem best_max_is (ns:List Int):(ns=[]/\eA ns=.non)\/∃m,eA ns=.int m/\m∈ns/\∀x∈ns,x<=m:=by
 have h:=jX (λi=>ns.getD i 0) ns.length
 unfold eA
 cases hb:cp (λi=>ns.getD i 0) ns.length with
 | none=>rw [hb]at h;exact .inl ⟨List.length_eq_zero_iff.mp h,rfl⟩
 | some m=>
  rw [hb]at h
  obtain⟨⟨j,hj,e⟩,h1⟩:=h
  refine .inr ⟨m,rfl,by rw [e];exact getD_mem hj,λx hx=>?_⟩
  obtain⟨i,hi,rfl⟩:=mem_getD hx
  exact h1 i hi
noncomputable def zS (K:PySem.W.Frag) (t tk:TA):TE:=λσ H Q=>t σ H λvs H1=>tk σ H1 λzs H2=>∃(a:Addr) (ns:List Int),vs=[.ref a]/\zs=[.non]/\SqL K H2 a (ns.map V.int)/\Q (eA ns) H2
theorem vj {X:Cx}{e:Expr}{kws:List Keyword}{t tk:TA}{p pos:Pos} (hcm:X.calm=true) (hg:Gl X "max") (hm:X.mg "max" = none) (ha:PA X [e] t) (hk:PK X kws tk)
  (he:backTo pos (starEach [e] X.env)=(false,eval e X.env)::backTo pos (starEach [] X.env):=by rfl) (hplain:(backTo pos (starEach [e] X.env)).any (·.1)=false:=by rfl)
  (hall:(backToKw pos (keywordEach kws X.env)).all (·.1.isSome)=true:=by rfl) (hkw:(backToKw pos (keywordEach kws X.env)).any (·.1.isNone)=false:=by rfl)
  (hks:(backToKw pos (keywordEach kws X.env)).filterMap (·.1)=[PySem.Str.ofString "default"]:=by rfl):PE X (.Call (.Name "max" p) [e] kws pos) (zS X.K t tk):=by
 intro pins s σ H Q I h
 refine wpAny_Call_Name_kw (fW I hg hm PyProof.Rows.Boot.«max» ?_)
 refine callWith_kw (thn (ha pos pins s σ H _ I h) λus s1 hh=>?_) he hplain hall hkw
 obtain⟨vs,H1,I1,r1,q1⟩:=hh
 refine thn (hk pos pins s1 σ H1 _ I1 q1) λws s2 hh=>?_
 obtain⟨zs,H2,I2,r2,a,ns,rfl,rfl,hS,q⟩:=hh
 obtain⟨u,rfl,ru⟩:=cB r1
 obtain⟨u2,rfl,ru2⟩:=cB r2
 cases (show u=Value.ref a from ru)
 cases (show u2=Value.none from ru2)
 rw [hks]
 show wpAny _ _ (call (.builtin "max") [.ref a] [(PySem.Str.ofString "default", .none)]) _ _ _
 obtain⟨ys,hl,e⟩:=j9 I2 hS
 have hh:=I2.ok.hd hcm
 have nm:(toString "max"++toString ".loop" : String) = "max.loop":=by decide
 refine PyProof.Rows.kmk_tree F.kind_max F.plain_max F.entry_max (t8 _) ?_
 show wpAny _ X.A.in1 (Builtin.Builtins.bindParams "max" ["key", "default"] 0 ⟨[],[(‹"default"›, .none)]⟩ >>= _) _ _ s2
 refine zB0 (wpAny_of_eq (show Builtin.Builtins.bindParams "max" ["key", "default"] 0 ⟨[],[(‹"default"›, .none)]⟩=pure [none,some .none] from rfl) ?_)
 refine zB0 (zP0 ?_)
 refine zB0 (iter_intList hl λs₂ e2 st hfp hlI=>?_)
 subst e2
 refine zB0 (wpAny_newObj_type ?_)
 have W:=Walks.list (prog:=X.prog) (w:=X.w) (A:=X.A.in1) hh _ a hlI (intItems ys)
 rw [nm]
 have hn:(intItems ys).size=ns.length:=by rw [<- jH e];simp [intItems]
 refine zP0 ⟨plainId_quiet F.plain_max_loop _,AV (λi=>ns.getD i 0) W (λi v hv=>?_) _ (λhm=>Nat.lt_irrefl _ (hfp _ hm)) (intItems ys).size 0 _ #[] 0 ‹1› (Nat.zero_le _) (W.frame _ _ _ st λb _ o e=>zH0 _ e) rfl (Heap.get?_push_size _ rfl) λv h' tk hv kp=>?_⟩
 ·obtain⟨t,e3⟩:=intItems_at hv
  rw [numAt_eq,e]at e3
  exact⟨t,e3⟩
 ·rw [hn]at hv
  have kept:∀b o,s2.heap.get? b=some o->h'.get? b=some o:=old_kept λb o hb e=>kp b o hb (Nat.ne_of_lt (Heap.lt_size e)) (zH0 _ e)
  refine⟨eA ns,H2,I2.kept kept,?_,q⟩
  unfold eA
  cases hb:cp (λi=>ns.getD i 0) ns.length with
  | none=>rw [hb]at hv;exact hv
  | some m=>rw [hb]at hv;exact hv
end L2
namespace L2
open PySem PySem.SetTable
def yK (xs:Array Nat):Prop:=∀(i k:Nat) (hi:i < xs.size) (hk:k < xs.size),i < k->xs[i] < xs[k]
structure CutN (xs:Array Nat) (j p:Nat):Prop where
 le:p<=xs.size
 lo:∀(i:Nat) (h:i < xs.size),i < p->xs[i] < j
 hi:∀(i:Nat) (h:i < xs.size),p<=i->j<=xs[i]
theorem qi {xs:Array Nat}{j:Nat} (r:yK xs):∀(fuel lo hi:Nat),hi - lo<=fuel->lo<=hi->hi<=xs.size->(∀(i:Nat) (h:i < xs.size),i < lo->xs[i] < j)->(∀(i:Nat) (h:i < xs.size),hi<=i->j<=xs[i])->CutN xs j (below.go xs j fuel lo hi)
 | 0,lo,hi,hf,hl,hs,h1,h2=>by
  have e:lo=hi:=by omega
  unfold below.go
  exact⟨by omega,h1,by rw [e];exact h2⟩
 | fuel+1,lo,hi,hf,hl,hs,h1,h2=>by
  unfold below.go
  by_cases hlt:lo < hi
  ·rw [if_pos hlt]
   have hm:(lo+hi) / 2 < xs.size:=by omega
   have hg:xs.getD ((lo+hi) / 2) j=xs[(lo+hi) / 2]:=by
    rw [Array.getD_eq_getD_getElem?,Array.getElem?_eq_getElem hm];rfl
   dsimp only
   rw [hg]
   by_cases hc:xs[(lo+hi) / 2] < j
   ·rw [if_pos hc]
    refine qi r fuel _ _ ‹1› ‹1› hs (λi h hi'=>?_) h2
    by_cases e:i=(lo+hi) / 2
    ·subst e;exact hc
    ·exact Nat.lt_trans (r i _ h hm ‹1›) hc
   ·rw [if_neg hc]
    refine qi r fuel _ _ ‹1› ‹1› ‹1› h1 (λi h hi'=>?_)
    by_cases e:i=(lo+hi) / 2
    ·subst e;omega
    ·have:=r _ i hm h ‹1›
     omega
  ·rw [if_neg hlt]
   have e:lo=hi:=by omega
   exact⟨by omega,h1,by rw [e];exact h2⟩
theorem ff {xs:Array Nat} (r:yK xs) (j:Nat):CutN xs j (below xs j):=qi r xs.size 0 xs.size ‹1› (Nat.zero_le _) (Nat.le_refl _) (λi _ h=>absurd h (Nat.not_lt_zero _)) λi h h'=>absurd h ‹1›
theorem wX {xs:Array Nat} (r:yK xs){j i:Nat} (h:xs[i]?=some j):below xs j=i:=by
 obtain⟨hi,e⟩:=Array.getElem?_eq_some_iff.mp h
 have c:=ff r j
 rcases Nat.lt_trichotomy (below xs j) i with z | z | z
 ·have h1:=c.hi (below xs j) ‹1› (Nat.le_refl _)
  have h2:=r _ _ ‹1› hi z
  omega
 ·exact z
 ·have:=c.lo i hi z
  omega
structure Tb (t:SetTable) (n:Nat):Prop where
 ris:yK t.place
 dum:t.dummies = #[]
 sz:t.place.size=n
 top:∀(i:Nat) (h:i < t.place.size),t.place[i]<=t.mask
theorem dI {t:SetTable}{n j i:Nat} (T:Tb t n):t.slot j=.live i↔t.place[i]?=some j:=by
 unfold slot
 dsimp only
 constructor
 ·intro h
  by_cases z:t.place[below t.place j]?=some j
  ·rw [if_pos (by rw [z];exact beq_self_eq_true _)]at h
   injection h with h
   rw [<- h];exact z
  ·rw [if_neg (λy=>z (eq_of_beq y))]at h
   rw [T.dum]at h
   cases h
 ·intro h
  rw [wX T.ris h,if_pos (by rw [h];exact beq_self_eq_true _)]
theorem gE {t:SetTable}{n j:Nat} (T:Tb t n):t.slot j=.empty↔∀i:Nat,t.place[i]?≠some j:=by
 constructor
 ·intro h i e
  rw [(dI T).mpr e]at h
  cases h
 ·intro h
  unfold slot
  dsimp only
  rw [if_neg (λy=>h _ (eq_of_beq y)),T.dum]
  rfl
theorem slot_cases {t:SetTable}{n:Nat} (T:Tb t n) (j:Nat):t.slot j=.empty\/∃i,t.slot j=.live i:=by
 by_cases h:∃i:Nat,t.place[i]?=some j
 ·obtain⟨i,h⟩:=h
  exact .inr ⟨i,(dI T).mpr h⟩
 ·exact .inl ((gE T).mpr λi e=>h ⟨i,e⟩)
end L2
namespace L2
open PySem PySem.SetTable
noncomputable def lp (n i:Nat):Nat:=(i * 5+1) % n
noncomputable def orb (n:Nat):Nat->Nat->Nat
 | i,0=>i
 | i,m+1=>orb n (lp n i) m
theorem j5 (n:Nat):∀(a i b:Nat),orb n i (a+b)=orb n (orb n i a) b
 | 0,i,b=>by rw [Nat.zero_add];rfl
 | a+1,i,b=>by rw [Nat.succ_add];exact j5 n a (lp n i) b
noncomputable def met (n:Nat):Nat->Nat->Nat->Nat
 | 0,_,acc=>acc
 | m+1,i,acc=>met n m (lp n i) (acc ||| (1 <<< i))
theorem met_bit (n:Nat):∀(m i acc s:Nat),(met n m i acc).testBit s=true->acc.testBit s=true\/∃k,k < m/\orb n i k=s
 | 0,_,acc,s,h=>.inl h
 | m+1,i,acc,s,h=>by
  rcases met_bit n m (lp n i) _ s h with h | ⟨k,hk,e⟩
  ·rw [Nat.testBit_or,Bool.or_eq_true]at h
   rcases h with h | h
   ·exact .inl h
   ·refine .inr ⟨0,by omega,?_⟩
    rw [Nat.one_shiftLeft,Nat.testBit_two_pow,decide_eq_true_eq]at h
    exact h
  ·exact .inr ⟨k+1,by omega,e⟩
theorem yq:∀n∈[8,32,128,512,2048],met n n 0 0=2 ^ n - 1/\orb n 0 n=0:=‹0›
theorem qS {n:Nat} (hn:n∈[8,32,128,512,2048]){i s:Nat} (hi:i < n) (hs:s < n):∃k,k < n/\orb n i k=s:=by
 obtain⟨h1,h2⟩:=yq n hn
 have at0:∀s,s < n->∃k,k < n/\orb n 0 k=s:=λs hs=>by
  have:(met n n 0 0).testBit s=true:=by rw [h1,Nat.testBit_two_pow_sub_one];exact decide_eq_true hs
  rcases met_bit n n 0 0 s this with h | h
  ·rw [Nat.zero_testBit]at h;cases h
  ·exact h
 obtain⟨a,ha,ea⟩:=at0 i hi
 obtain⟨b,hb,eb⟩:=at0 s hs
 by_cases hab:a<=b
 ·refine⟨b - a,by omega,?_⟩
  rw [<- ea,<- j5,Nat.add_sub_cancel' hab,eb]
 ·refine⟨n - a+b,by omega,?_⟩
  rw [<- ea,<- j5,show a+(n - a+b)=n+b by omega,j5,h2,eb]
end L2
namespace L2
open PySem PySem.SetTable
noncomputable def wk (t:SetTable) (p:Probe):Nat->Probe
 | 0=>p
 | k+1=>wk t (t.advance p) k
theorem cY (t:SetTable):∀(a:Nat) (p:Probe) (b:Nat),wk t p (a+b)=wk t (wk t p a) b
 | 0,p,b=>by rw [Nat.zero_add];rfl
 | a+1,p,b=>by rw [Nat.succ_add];exact cY t a (t.advance p) b
theorem qx (t:SetTable) (p:Probe) (k:Nat):wk t p (k+1)=t.advance (wk t p k):=cY t k p 1
noncomputable def std (t:SetTable) (i pt:Nat) (d:Option Nat):Probe:={ j:=i,more:=runEnd t.mask i - i,i,perturb:=pt,dummy:=d }
theorem rR (t:SetTable) (h:Int):t.probeStart h=std t (bits h % (t.mask+1)) (bits h) none:=rfl
theorem uV (mask i:Nat):runEnd mask i - i<=9:=by unfold runEnd;split <;> omega
theorem oN (t:SetTable) (i pt:Nat) (d:Option Nat):∀(m j:Nat),wk t { j:=j,more:=m,i:=i,perturb:=pt,dummy:=d } m={ j:=j+m,more:=0,i:=i,perturb:=pt,dummy:=d }
 | 0,j=>rfl
 | m+1,j=>by
  show wk t (t.advance { j:=j,more:=m+1,i:=i,perturb:=pt,dummy:=d }) m=_
  have e:t.advance { j:=j,more:=m+1,i:=i,perturb:=pt,dummy:=d }={ j:=j+1,more:=m,i:=i,perturb:=pt,dummy:=d }:=by
   unfold advance
   rw [if_pos (Nat.succ_pos m)]
   rfl
  rw [e,oN t i pt d m (j+1)]
  simp only [Probe.mk.injEq,and_true,true_and]
  omega
theorem xb (t:SetTable) (i pt:Nat) (d:Option Nat):∃k,k<=10/\wk t (std t i pt d) k=std t (leap t.mask i pt).1 (leap t.mask i pt).2 d:=by
 refine⟨runEnd t.mask i - i+1,by have:=uV t.mask i;omega,?_⟩
 rw [qx]
 unfold std
 rw [oN]
 unfold advance
 rw [if_neg (Nat.lt_irrefl 0)]
noncomputable def lps (mask:Nat):Nat->Nat × Nat->Nat × Nat
 | 0,x=>x
 | k+1,x=>lps mask k (leap mask x.1 x.2)
theorem mD (mask:Nat):∀(a b:Nat) (x:Nat × Nat),lps mask (a+b) x=lps mask b (lps mask a x)
 | 0,b,x=>by rw [Nat.zero_add];rfl
 | a+1,b,x=>by rw [Nat.succ_add];exact mD mask a b _
theorem tw (t:SetTable) (d:Option Nat):∀(n:Nat) (x:Nat × Nat),∃k,k<=10 * n/\wk t (std t x.1 x.2 d) k=std t (lps t.mask n x).1 (lps t.mask n x).2 d
 | 0,x=>⟨0,Nat.le_refl _,rfl⟩
 | n+1,x=>by
  obtain⟨a,ha,ea⟩:=xb t x.1 x.2 d
  obtain⟨b,hb,eb⟩:=tw t d n (leap t.mask x.1 x.2)
  exact⟨a+b,by omega,by rw [cY,ea];exact eb⟩
theorem qe (mask:Nat):∀(n:Nat) (x:Nat × Nat),(lps mask n x).2=x.2 / 32 ^ n
 | 0,x=>by rw [Nat.pow_zero,Nat.div_one];rfl
 | n+1,x=>by
  show (lps mask n (leap mask x.1 x.2)).2=_
  rw [qe mask n]
  show x.2 / 32 / 32 ^ n=_
  rw [Nat.div_div_eq_div_mul,Nat.pow_succ,Nat.mul_comm]
theorem qf (mask:Nat):∀(n:Nat) (x:Nat × Nat),x.1 < mask+1->(lps mask n x).1 < mask+1
 | 0,x,h=>h
 | n+1,x,h=>qf mask n _ (Nat.mod_lt _ (Nat.succ_pos _))
theorem mC (mask:Nat):∀(n i:Nat),lps mask n (i,0)=(orb (mask+1) i n,0)
 | 0,i=>rfl
 | n+1,i=>by
  show lps mask n (leap mask i 0)=_
  have e:leap mask i 0=(lp (mask+1) i,0):=by
   unfold leap lp
   rw [Nat.zero_div,Nat.add_zero]
  rw [e,mC mask n]
  rfl
theorem rG (h:Int):bits h < 2 ^ 64:=by
 unfold bits
 have h1:=Int.emod_nonneg h (show (2 ^ 64:Int)≠0 by decide)
 have h2:=Int.emod_lt_of_pos h (show (0:Int) < 2 ^ 64 by decide)
 have:((h % (2 ^ 64:Int)).toNat:Int) < ((2 ^ 64:Nat):Int):=by
  rw [Int.toNat_of_nonneg h1]
  exact h2
 exact Int.ofNat_lt.mp this
theorem tE {t:SetTable} (hm:t.mask+1∈[8,32,128,512,2048]) (h:Int){s:Nat} (hs:s<=t.mask):∃k,k<=10 * (13+t.mask)/\(wk t (t.probeStart h) k).j=s:=by
 have h0:bits h % (t.mask+1) < t.mask+1:=Nat.mod_lt _ (Nat.succ_pos _)
 have hi:=qf t.mask 13 (bits h % (t.mask+1),bits h) h0
 have hp:(lps t.mask 13 (bits h % (t.mask+1),bits h)).2=0:=by
  rw [qe]
  exact Nat.div_eq_of_lt (Nat.lt_of_lt_of_le (rG h) (by decide))
 obtain⟨m,hm',em⟩:=qS hm hi (Nat.lt_succ_of_le hs)
 obtain⟨k,hk,ek⟩:=tw t none (13+m) (bits h % (t.mask+1),bits h)
 refine⟨k,by omega,?_⟩
 rw [rR,ek,mD]
 have e:lps t.mask 13 (bits h % (t.mask+1),bits h)=((lps t.mask 13 (bits h % (t.mask+1),bits h)).1,0):=Prod.ext rfl hp
 rw [e,mC]
 exact em
inductive Mets (t:SetTable) (ha:Nat->Int) (h:Int) (p:Probe) (k:Nat) (r:Option Met):Prop
 | emp (m:Nat) (h1:m<=k) (h2:t.slot (wk t p m).j=.empty) (h3:∀x,x < m->∃i,t.slot (wk t p x).j=.live i/\ha i≠h) (h4:r=some (.empty (wk t p m).j p.dummy)):Mets t ha h p k r
 | can (m i:Nat) (h1:m < k) (h2:t.slot (wk t p m).j=.live i) (h3:ha i=h) (h4:∀x,x < m->∃i,t.slot (wk t p x).j=.live i/\ha i≠h) (h5:r=some (.candidate (wk t p m).j i (wk t p (m+1)))):Mets t ha h p k r
theorem lB (t:SetTable) (p:Probe):(t.advance p).dummy=p.dummy:=by
 unfold advance
 split <;> rfl
theorem go_mets {t:SetTable}{n:Nat} (T:Tb t n) (ha:Nat->Int) (h:Int):∀(fuel k:Nat) (p:Probe),k < fuel->t.slot (wk t p k).j=.empty->Mets t ha h p k (probe.go t ha h fuel p)
 | 0,k,p,hk,_=>absurd hk (Nat.not_lt_zero _)
 | fuel+1,k,p,hk,he=>by
  rcases slot_cases T p.j with hj | ⟨i,hj⟩
  ·refine .emp 0 (Nat.zero_le _) hj (λx hx=>absurd hx (Nat.not_lt_zero _)) ?_
   unfold probe.go
   rw [hj]
   rfl
  ·cases k with
   | zero=>rw [show t.slot p.j=.empty from he]at hj;cases hj
   | succ k=>
    by_cases hh:ha i=h
    ·refine .can 0 i (Nat.succ_pos _) hj hh (λx hx=>absurd hx (Nat.not_lt_zero _)) ?_
     unfold probe.go
     rw [hj]
     dsimp only
     rw [if_pos (by rw [hh];exact beq_self_eq_true _)]
     rfl
    ·have e:probe.go t ha h (fuel+1) p=probe.go t ha h fuel (t.advance p):=by
      rw [probe.go]
      rw [hj]
      dsimp only
      rw [if_neg (λy=>hh (eq_of_beq y))]
     rw [e]
     rcases go_mets T ha h fuel k (t.advance p) ‹1› he with⟨m,h1,h2,h3,h4⟩ | ⟨m,i2,h1,h2,h3,h4,h5⟩
     ·refine .emp (m+1) ‹1› h2 (λx hx=>?_) (by rw [h4,lB];rfl)
      cases x with
      | zero=>exact⟨i,hj,hh⟩
      | succ x=>exact h3 x ‹1›
     ·refine .can (m+1) i2 ‹1› h2 h3 (λx hx=>?_) h5
      cases x with
      | zero=>exact⟨i,hj,hh⟩
      | succ x=>exact h4 x ‹1›
end L2
namespace L2
open PySem PySem.SetTable
theorem cQ {α:Type} (xs:Array α) (p:Nat) (x:α) (hp:p<=xs.size) (i:Nat):(insertAt xs p x)[i]?=if i < p then xs[i]? else if i=p then some x else xs[i - 1]?:=by
 unfold insertAt
 have hs:((xs.extract 0 p).push x).size=p+1:=by rw [Array.size_push,Array.size_extract];omega
 by_cases h1:i < p
 ·rw [if_pos h1,Array.getElem?_append_left ‹1›,Array.getElem?_push,if_neg (by rw [Array.size_extract];omega),Array.getElem?_extract,if_pos ‹1›,Nat.zero_add]
 ·rw [if_neg h1]
  by_cases h2:i=p
  ·rw [if_pos h2,Array.getElem?_append_left ‹1›,Array.getElem?_push,if_pos (by rw [Array.size_extract];omega)]
  ·rw [if_neg h2,Array.getElem?_append_right ‹1›,hs,Array.getElem?_extract]
   by_cases h3:i - (p+1) < xs.size - p
   ·rw [if_pos ‹1›,show p+(i - (p+1))=i - 1 by omega]
   ·rw [if_neg ‹1›,Array.getElem?_eq_none ‹1›]
theorem iD {α:Type} (xs:Array α) (p:Nat) (x:α) (hp:p<=xs.size):(insertAt xs p x).size=xs.size+1:=by
 unfold insertAt
 rw [Array.size_append,Array.size_push,Array.size_extract,Array.size_extract]
 omega
def Ent {α:Type} (t:SetTable) (es:Array (Int × α)) (j:Nat) (h:Int) (x:α):Prop:=∃i:Nat,t.place[i]?=some j/\es[i]?=some (h,x)
def lC (t:SetTable) (h:Int) (j:Nat):Prop:=∃k,(wk t (t.probeStart h) k).j=j/\∀m,m < k->t.slot (wk t (t.probeStart h) m).j≠.empty
structure Tbl {α:Type} (t:SetTable) (es:Array (Int × α)):Prop where
 tb:Tb t es.size
 reach:∀j h x,Ent t es j h x->lC t h j
theorem rh {α:Type}{t:SetTable}{es:Array (Int × α)} (T:Tb t es.size){j:Nat} (h:Int) (x:α) (j':Nat) (h':Int) (x':α):Ent (t.put j).1 (insertAt es (t.put j).2 (h,x)) j' h' x'↔Ent t es j' h' x'\/(j'=j/\h'=h/\x'=x):=by
 have hp:below t.place j<=t.place.size:=(ff T.ris j).le
 have hq:below t.place j<=es.size:=by rw [<- T.sz];exact hp
 unfold Ent put
 dsimp only
 constructor
 ·rintro⟨i,e1,e2⟩
  rw [cQ _ _ _ hp]at e1
  rw [cQ _ _ _ hq]at e2
  by_cases h1:i < below t.place j
  ·rw [if_pos h1]at e1 e2
   exact .inl ⟨i,e1,e2⟩
  ·rw [if_neg h1]at e1 e2
   by_cases h2:i=below t.place j
   ·rw [if_pos h2]at e1 e2
    cases e1;cases e2
    exact .inr ⟨rfl,rfl,rfl⟩
   ·rw [if_neg h2]at e1 e2
    exact .inl ⟨i - 1,e1,e2⟩
 ·rintro(⟨i,e1,e2⟩ | ⟨rfl,rfl,rfl⟩)
  ·by_cases h1:i < below t.place j
   ·exact⟨i,by rw [cQ _ _ _ hp,if_pos h1];exact e1,by rw [cQ _ _ _ hq,if_pos h1];exact e2⟩
   ·exact⟨i+1,by rw [cQ _ _ _ hp,if_neg ‹1›,if_neg ‹1›];exact e1,by rw [cQ _ _ _ hq,if_neg ‹1›,if_neg ‹1›];exact e2⟩
  ·exact⟨below t.place j',by rw [cQ _ _ _ hp,if_neg ‹1›,if_pos rfl],by rw [cQ _ _ _ hq,if_neg ‹1›,if_pos rfl]⟩
theorem Ax {t:SetTable}{n j:Nat} (T:Tb t n) (he:t.slot j=.empty) (hj:j<=t.mask):Tb (t.put j).1 (n+1):=by
 have c:=ff T.ris j
 have hp:=c.le
 have ne:=(gE T).mp he
 have key:∀(i:Nat) (h:i < (insertAt t.place (below t.place j) j).size),some ((insertAt t.place (below t.place j) j)[i])=if i < below t.place j then t.place[i]? else if i=below t.place j then some j else t.place[i - 1]?:=λi h=>by
  rw [<- cQ _ _ _ hp,Array.getElem?_eq_getElem h]
 have lo:∀i v,i < below t.place j->t.place[i]?=some v->v < j:=λi v hi e=>by
  obtain⟨h1,h2⟩:=Array.getElem?_eq_some_iff.mp e
  rw [<- h2];exact c.lo i h1 hi
 have hi_:∀i v,below t.place j<=i->t.place[i]?=some v->j < v:=λi v hi e=>by
  obtain⟨h1,h2⟩:=Array.getElem?_eq_some_iff.mp e
  have:=c.hi i h1 hi
  have n2:v≠j:=λz=>ne i (by rw [e,z])
  omega
 have rs:∀i k v w,t.place[i]?=some v->t.place[k]?=some w->i < k->v < w:=λi k v w e1 e2 hik=>by
  obtain⟨h1,rfl⟩:=Array.getElem?_eq_some_iff.mp e1
  obtain⟨h2,rfl⟩:=Array.getElem?_eq_some_iff.mp e2
  exact T.ris i k h1 h2 hik
 refine⟨λi k hi hk hik=>?_,?_,?_,λi hi=>?_⟩
 ·have a:=key i hi
  have b:=key k hk
  show (insertAt t.place (below t.place j) j)[i] < (insertAt t.place (below t.place j) j)[k]
  generalize (insertAt t.place (below t.place j) j)[i]=v at a ⊢
  generalize (insertAt t.place (below t.place j) j)[k]=w at b ⊢
  by_cases h1:i < below t.place j
  ·rw [if_pos h1]at a
   by_cases h2:k < below t.place j
   ·rw [if_pos h2]at b;exact rs i k v w a.symm b.symm hik
   ·rw [if_neg h2]at b
    by_cases h3:k=below t.place j
    ·rw [if_pos h3]at b;cases b;exact lo i v h1 a.symm
    ·rw [if_neg h3]at b
     exact Nat.lt_trans (lo i v h1 a.symm) (hi_ (k - 1) w ‹1› b.symm)
  ·rw [if_neg h1]at a
   have h2:¬k < below t.place j:=by omega
   have h3:k≠below t.place j:=by omega
   rw [if_neg h2,if_neg h3]at b
   by_cases h4:i=below t.place j
   ·rw [if_pos h4]at a;cases a;exact hi_ (k - 1) w ‹1› b.symm
   ·rw [if_neg h4]at a;exact rs (i - 1) (k - 1) v w a.symm b.symm ‹1›
 ·show (if has t.dummies j then _ else t.dummies)=_
  rw [T.dum]
  rfl
 ·show (insertAt t.place (below t.place j) j).size=_
  rw [iD _ _ _ hp,T.sz]
 ·have a:=key i hi
  show (insertAt t.place (below t.place j) j)[i]<=t.mask
  generalize (insertAt t.place (below t.place j) j)[i]=v at a ⊢
  have top:∀i v,t.place[i]?=some v->v<=t.mask:=λi v e=>by
   obtain⟨h1,rfl⟩:=Array.getElem?_eq_some_iff.mp e
   exact T.top i h1
  by_cases h1:i < below t.place j
  ·rw [if_pos h1]at a;exact top i v a.symm
  ·rw [if_neg h1]at a
   by_cases h4:i=below t.place j
   ·rw [if_pos h4]at a;cases a;exact hj
   ·rw [if_neg h4]at a;exact top _ v a.symm
end L2
namespace L2
open PySem PySem.SetTable
theorem wZ {t t':SetTable} (e:t'.mask=t.mask) (p:Probe):t'.advance p=t.advance p:=by
 unfold advance
 rw [e]
theorem gN {t t':SetTable} (e:t'.mask=t.mask):∀(k:Nat) (p:Probe),wk t' p k=wk t p k
 | 0,p=>rfl
 | k+1,p=>by
  show wk t' (t'.advance p) k=wk t (t.advance p) k
  rw [wZ e,gN e k]
theorem jj {t t':SetTable} (e:t'.mask=t.mask) (h:Int):t'.probeStart h=t.probeStart h:=by
 unfold probeStart
 rw [e]
theorem eY {t:SetTable}{n j:Nat} (T:Tb t n):t.slot j≠.empty↔∃i:Nat,t.place[i]?=some j:=by
 constructor
 ·intro h
  rcases slot_cases T j with z | ⟨i,z⟩
  ·exact absurd z h
  ·exact⟨i,(dI T).mp z⟩
 ·rintro⟨i,e⟩ z
  exact(gE T).mp z i e
theorem gK {t t':SetTable}{n n':Nat}{h:Int}{j:Nat} (e:t'.mask=t.mask) (T:Tb t n) (T':Tb t' n') (sub:∀j,(∃i:Nat,t.place[i]?=some j)->∃i:Nat,t'.place[i]?=some j) (l:lC t h j):lC t' h j:=by
 obtain⟨k,e1,h1⟩:=l
 refine⟨k,by rw [jj e,gN e];exact e1,λm hm=>?_⟩
 rw [jj e,gN e]
 exact(eY T').mpr (sub _ ((eY T).mp (h1 m hm)))
section
variable {α:Type}{t:SetTable}{es:Array (Int × α)}
theorem mM (T:Tb t es.size){i j:Nat} (h:t.place[i]?=some j):∃h' x,Ent t es j h' x/\es[i]?=some (h',x):=by
 have hi:=(Array.getElem?_eq_some_iff.mp h).1
 rw [T.sz]at hi
 exact⟨es[i].1,es[i].2,⟨i,h,by rw [Array.getElem?_eq_getElem hi]⟩,by rw [Array.getElem?_eq_getElem hi]⟩
theorem xg {j:Nat}{h:Int}{x:α} (T:Tbl t es) (he:t.slot j=.empty) (hj:j<=t.mask) (hl:lC t h j):Tbl (t.put j).1 (insertAt es (t.put j).2 (h,x)):=by
 have hq:(t.put j).2<=es.size:=by rw [<- T.tb.sz];exact(ff T.tb.ris j).le
 have T1:Tb (t.put j).1 (insertAt es (t.put j).2 (h,x)).size:=by rw [iD _ _ _ hq];exact Ax T.tb he hj
 have sub:∀j',(∃i:Nat,t.place[i]?=some j')->∃i:Nat,(t.put j).1.place[i]?=some j':=λj' ⟨i,e⟩=>by
  obtain⟨h',x',en,_⟩:=mM T.tb e
  obtain⟨i',e',_⟩:=(rh T.tb (j:=j) h x j' h' x').mpr (.inl en)
  exact⟨i',e'⟩
 refine⟨T1,λj' h' x' en=>?_⟩
 rcases (rh T.tb h x j' h' x').mp en with en | ⟨rfl,rfl,rfl⟩
 ·exact gK (t:=t) (t':=(t.put j).1) rfl T.tb T1 sub (T.reach j' h' x' en)
 ·exact gK (t:=t) (t':=(t.put j').1) rfl T.tb T1 sub hl
theorem yp {h:Int}{m:Nat} (T:Tbl t es) (he:t.slot (wk t (t.probeStart h) m).j=.empty){j:Nat}{x:α} (en:Ent t es j h x):∃k,k < m/\(wk t (t.probeStart h) k).j=j:=by
 obtain⟨k,e1,h1⟩:=T.reach j h x en
 obtain⟨i,ei,_⟩:=en
 refine⟨k,?_,e1⟩
 rcases Nat.lt_trichotomy k m with z | z | z
 ·exact z
 ·rw [<- z,e1]at he
  exact absurd he ((eY T.tb).mpr ⟨i,ei⟩)
 ·exact absurd he (h1 m z)
theorem i8:∀{l l':List Nat},l.Nodup->(∀x∈l,x∈l')->l.length<=l'.length
 | [],_,_,_=>Nat.zero_le _
 | a::l,l',nd,h=>by
  have ha:=h a List.mem_cons_self
  obtain⟨n1,n2⟩:=List.nodup_cons.mp nd
  have h1:=i8 (l:=l) (l':=l'.erase a) n2 λx hx=>(List.mem_erase_of_ne (show x≠a from λz=>n1 (by rw [<- z];exact hx))).mpr (h x (List.mem_cons_of_mem _ hx))
  rw [List.length_erase_of_mem ha]at h1
  have:=List.length_pos_of_mem ha
  rw [List.length_cons]
  omega
theorem nL {n:Nat} (T:Tb t n) (hn:n<=t.mask):∃s,s<=t.mask/\t.slot s=.empty:=by
 refine Classical.byContradiction λhno=>?_
 have all:∀s,s<=t.mask->∃i:Nat,t.place[i]?=some s:=λs hs=>(eY T).mp λz=>hno ⟨s,hs,z⟩
 have sub:∀s∈List.range (t.mask+1),s∈t.place.toList:=λs hs=>by
  obtain⟨i,e⟩:=all s (by have:=List.mem_range.mp hs;omega)
  exact List.mem_of_getElem? (by rw [Array.getElem?_toList];exact e)
 have:=i8 List.nodup_range sub
 rw [List.length_range,Array.length_toList,T.sz]at this
 omega
end
end L2
namespace L2
open PySem PySem.SetTable
noncomputable def tM (mask:Nat):SetTable:={ mask:=mask,place:=#[],dummies:=#[],finger:=0,led:=false,moves:=0,plain:=true }
noncomputable def Fr_ (owner:Array (Option Nat)) (j:Nat):Bool:=(owner.getD j (some 0)).isNone
def Via (mask:Nat) (owner:Array (Option Nat)) (p:Probe) (j:Nat):Prop:=∃k,(wk (tM mask) p k).j=j/\∀m,m < k->Fr_ owner (wk (tM mask) p m).j=false
theorem tD (mask i pt:Nat){m:Nat} (hm:m<=runEnd mask i - i):(wk (tM mask) (std (tM mask) i pt none) m).j=i+m:=by
 have h:∀(m r j:Nat),m<=r->(wk (tM mask) { j:=j,more:=r,i:=i,perturb:=pt,dummy:=none } m).j=j+m:=by
  intro m
  induction m with
  | zero=>intro r j _;rfl
  | succ m ih=>
   intro r j hr
   obtain⟨r,rfl⟩:∃r',r=r'+1:=⟨r - 1,by omega⟩
   show (wk (tM mask) ((tM mask).advance { j:=j,more:=r+1,i:=i,perturb:=pt,dummy:=none }) m).j=_
   have e:(tM mask).advance { j:=j,more:=r+1,i:=i,perturb:=pt,dummy:=none }={ j:=j+1,more:=r,i:=i,perturb:=pt,dummy:=none }:=by
    unfold advance
    rw [if_pos (Nat.succ_pos r)]
    rfl
   rw [e,ih r (j+1) ‹1›]
   omega
 exact h m _ i hm
theorem jP {p:Nat->Bool}:∀(n:Nat),(∀k,(List.range n).find? p=some k->k < n/\p k=true/\∀m,m < k->p m=false)/\((List.range n).find? p=none->∀m,m < n->p m=false):=by
 intro n
 refine⟨λk h=>?_,λh m hm=>?_⟩
 ·have h1:=List.find?_some h
  have h2:=List.mem_range.mp (List.mem_of_find?_eq_some h)
  refine⟨h2,h1,λm hm=>?_⟩
  rw [List.find?_eq_some_iff_getElem]at h
  obtain⟨_,i,hi,e,h3⟩:=h
  have e':i=k:=by rw [List.getElem_range]at e;exact e
  have:=h3 m ‹1›
  rw [List.getElem_range]at this
  simpa using this
 ·have:=List.find?_eq_none.mp h m (List.mem_range.mpr hm)
  simpa using this
theorem ou {mask:Nat}{owner:Array (Option Nat)}:∀(fuel i pt j:Nat),layClean.free mask owner fuel i pt=some j->Fr_ owner j=true/\Via mask owner (std (tM mask) i pt none) j
 | 0,_,_,_,h=>by cases h
 | fuel+1,i,pt,j,h=>by
  unfold layClean.free at h
  have fr:=jP (p:=λk=>(owner.getD (i+k) (some 0)).isNone) (runEnd mask i+1 - i)
  cases hf:(List.range (runEnd mask i+1 - i)).find? λk=>(owner.getD (i+k) (some 0)).isNone with
  | some k=>
   rw [hf]at h
   cases h
   obtain⟨h1,h2,h3⟩:=fr.1 k hf
   refine⟨h2,k,tD mask i pt ‹1›,λm hm=>?_⟩
   rw [tD mask i pt ‹1›]
   exact h3 m hm
  | none=>
   rw [hf]at h
   have h3:=fr.2 hf
   obtain⟨f1,k,e1,h2⟩:=ou fuel _ _ j h
   have hr:i<=runEnd mask i:=by unfold runEnd;split <;> omega
   have el:wk (tM mask) (std (tM mask) i pt none) (runEnd mask i - i+1)=std (tM mask) (leap mask i pt).1 (leap mask i pt).2 none:=by
    rw [qx]
    unfold std
    rw [show (tM mask).mask=mask from rfl,oN]
    unfold advance
    rw [if_neg (Nat.lt_irrefl 0)]
    rfl
   refine⟨f1,runEnd mask i - i+1+k,by rw [cY,el];exact e1,λm hm=>?_⟩
   by_cases hm2:m<=runEnd mask i - i
   ·rw [tD mask i pt hm2]
    exact h3 m ‹1›
   ·have:m=runEnd mask i - i+1+(m - (runEnd mask i - i+1)):=by omega
    rw [this,cY,el]
    exact h2 _ ‹1›
theorem lg {mask:Nat}{owner:Array (Option Nat)}:∀(fuel L i pt:Nat),L < fuel->Fr_ owner (lps mask L (i,pt)).1=true->∃j,layClean.free mask owner fuel i pt=some j
 | 0,L,_,_,h,_=>absurd h (Nat.not_lt_zero _)
 | fuel+1,L,i,pt,hL,hf=>by
  unfold layClean.free
  cases hq:(List.range (runEnd mask i+1 - i)).find? λk=>(owner.getD (i+k) (some 0)).isNone with
  | some k=>exact⟨_,rfl⟩
  | none=>
   cases L with
   | zero=>
    have hr:i<=runEnd mask i:=by unfold runEnd;split <;> omega
    have:=(jP (p:=λk=>(owner.getD (i+k) (some 0)).isNone) (runEnd mask i+1 - i)).2 hq 0 ‹1›
    rw [Nat.add_zero]at this
    rw [show (lps mask 0 (i,pt)).1=i from rfl]at hf
    rw [show (owner.getD i (some 0)).isNone=Fr_ owner i from rfl,hf]at this
    cases this
   | succ L=>exact lg fuel L _ _ ‹1› hf
theorem yy {mask:Nat}{owner:Array (Option Nat)} (hm:mask+1∈[8,32,128,512,2048]) (h:Int){s:Nat} (hs:s<=mask) (hf:Fr_ owner s=true):∃j,layClean.free mask owner (turns mask) (bits h % (mask+1)) (bits h)=some j:=by
 have h0:bits h % (mask+1) < mask+1:=Nat.mod_lt _ (Nat.succ_pos _)
 have hi:=qf mask 13 (bits h % (mask+1),bits h) h0
 have hp:(lps mask 13 (bits h % (mask+1),bits h)).2=0:=by
  rw [qe]
  exact Nat.div_eq_of_lt (Nat.lt_of_lt_of_le (rG h) (by decide))
 obtain⟨m,hm',em⟩:=qS hm hi (Nat.lt_succ_of_le hs)
 refine lg (turns mask) (13+m) _ _ (by unfold turns;omega) ?_
 rw [mD]
 have e:lps mask 13 (bits h % (mask+1),bits h)=((lps mask 13 (bits h % (mask+1),bits h)).1,0):=Prod.ext rfl hp
 rw [e,mC,em]
 exact hf
end L2
namespace L2
open PySem PySem.SetTable
noncomputable def stH (mask:Nat) (h:Int):Probe:=std (tM mask) (bits h % (mask+1)) (bits h) none
theorem jM {owner:Array (Option Nat)}{j:Nat}:Fr_ owner j=true↔owner[j]?=some none:=by
 unfold Fr_
 rw [Array.getD_eq_getD_getElem?]
 cases h:owner[j]? with
 | none=>simp
 | some x=>cases x <;> simp
structure Lay (mask:Nat) (hs:List Int) (owner:Array (Option Nat)):Prop where
 sz:owner.size=mask+1
 at_:∀(k:Nat) (h:Int),hs[k]?=some h->∃j,owner[j]?=some (some k)/\Via mask owner (stH mask h) j
 lt:∀j k:Nat,owner[j]?=some (some k)->k < hs.length
 inj:∀j j' k:Nat,owner[j]?=some (some k)->owner[j']?=some (some k)->j=j'
theorem wg {mask:Nat}{hs:List Int}{owner:Array (Option Nat)} (L:Lay mask hs owner) (hn:hs.length<=mask):∃s,s<=mask/\Fr_ owner s=true:=by
 refine Classical.byContradiction λhno=>?_
 have all:∀s,s < mask+1->∃k,owner[s]?=some (some k):=λs hs'=>by
  have hlt:s < owner.size:=by rw [L.sz];exact hs'
  cases e:owner[s] with
  | none=>exact absurd ⟨s,by omega,jM.mpr (by rw [Array.getElem?_eq_getElem hlt,e])⟩ hno
  | some k=>exact⟨k,by rw [Array.getElem?_eq_getElem hlt,e]⟩
 let f:Nat->Nat:=λs=>((owner[s]?).getD none).getD 0
 have hf:∀s,s < mask+1->owner[s]?=some (some (f s)):=λs hs'=>by
  obtain⟨k,e⟩:=all s hs'
  show owner[s]?=some (some (((owner[s]?).getD none).getD 0))
  rw [e];rfl
 have nd:((List.range (mask+1)).map f).Nodup:=by
  rw [List.nodup_iff_pairwise_ne,List.pairwise_map]
  refine List.Pairwise.imp_of_mem ?_ (List.nodup_iff_pairwise_ne.mp List.nodup_range)
  intro a b ha hb hab z
  have ea:=hf a (List.mem_range.mp ha)
  have eb:=hf b (List.mem_range.mp hb)
  rw [z]at ea
  exact hab (L.inj _ _ _ ea eb)
 have:=i8 (l':=List.range hs.length) nd λx hx=>by
  obtain⟨s,hs',rfl⟩:=List.mem_map.mp hx
  exact List.mem_range.mpr (L.lt _ _ (hf s (List.mem_range.mp hs')))
 rw [List.length_map,List.length_range,List.length_range]at this
 omega
theorem gU {owner:Array (Option Nat)}{j:Nat} (hj:j < owner.size) (v:Option Nat) (i:Nat):(owner.setIfInBounds j v)[i]?=if i=j then some v else owner[i]?:=by
 rw [Array.getElem?_setIfInBounds]
 by_cases h:j=i
 ·rw [if_pos h,if_pos h.symm,if_pos ‹1›]
 ·rw [if_neg h,if_neg (λz=>h z.symm)]
theorem wf {mask:Nat}{hs:List Int}{owner:Array (Option Nat)}{j:Nat}{h:Int} (L:Lay mask hs owner) (hf:layClean.free mask owner (turns mask) (bits h % (mask+1)) (bits h)=some j):Lay mask (hs++[h]) (owner.setIfInBounds j (some hs.length)):=by
 obtain⟨f1,v1⟩:=ou _ _ _ _ hf
 have ej:=jM.mp f1
 have hj:=(Array.getElem?_eq_some_iff.mp ej).1
 have keep:∀i,Fr_ owner i=false->Fr_ (owner.setIfInBounds j (some hs.length)) i=false:=λi hi=>by
  rw [Bool.eq_false_iff]at hi ⊢
  intro z
  have z:=jM.mp z
  rw [gU hj]at z
  by_cases e:i=j
  ·rw [if_pos e]at z;cases z
  ·rw [if_neg e]at z;exact hi (jM.mpr z)
 have via:∀{p:Probe}{j':Nat},Via mask owner p j'->Via mask (owner.setIfInBounds j (some hs.length)) p j':=λ⟨k,e,h'⟩=>⟨k,e,λm hm=>keep _ (h' m hm)⟩
 refine⟨by rw [Array.size_setIfInBounds];exact L.sz,λk h' e=>?_,λa k e=>?_,λa b k e1 e2=>?_⟩
 ·by_cases hk:k < hs.length
  ·rw [List.getElem?_append_left hk]at e
   obtain⟨j',e',v'⟩:=L.at_ k h' e
   refine⟨j',?_,via v'⟩
   rw [gU hj,if_neg (λz=>by rw [z,ej]at e';cases e')]
   exact e'
  ·rw [List.getElem?_append_right ‹1›]at e
   have hk2:k=hs.length:=by
    have:=(List.getElem?_eq_some_iff.mp e).1
    rw [List.length_singleton]at this
    omega
   subst hk2
   rw [Nat.sub_self]at e
   cases e
   exact⟨j,by rw [gU hj,if_pos rfl],via v1⟩
 ·rw [gU hj]at e
  rw [List.length_append,List.length_singleton]
  by_cases z:a=j
  ·rw [if_pos z]at e;cases e;omega
  ·rw [if_neg z]at e;have:=L.lt _ _ e;omega
 ·rw [gU hj]at e1 e2
  by_cases z:a=j
  ·rw [if_pos z]at e1
   cases e1
   by_cases y:b=j
   ·rw [z,y]
   ·rw [if_neg y]at e2
    exact absurd (L.lt _ _ e2) (Nat.lt_irrefl _)
  ·rw [if_neg z]at e1
   by_cases y:b=j
   ·rw [if_pos y]at e2
    cases e2
    exact absurd (L.lt _ _ e1) (Nat.lt_irrefl _)
   ·rw [if_neg y]at e2
    exact L.inj _ _ _ e1 e2
end L2
namespace L2
open PySem PySem.SetTable
noncomputable def tV (mask:Nat) (acc:Option (Array (Option Nat) × Nat)) (h:Int):Option (Array (Option Nat) × Nat):=do
 let (owner,k) <- acc
 let j <- layClean.free mask owner (turns mask) (bits h % (mask+1)) (bits h)
 pure (owner.setIfInBounds j (some k),k+1)
theorem om {mask:Nat} (hm:mask+1∈[8,32,128,512,2048]):∀(l hs:List Int) (owner:Array (Option Nat)),Lay mask hs owner->hs.length+l.length<=mask+1->∃owner',l.foldl (tV mask) (some (owner,hs.length))=some (owner',hs.length+l.length)/\Lay mask (hs++l) owner'
 | [],hs,owner,L,_=>⟨owner,rfl,by rw [List.append_nil];exact L⟩
 | h::l,hs,owner,L,hn=>by
  rw [List.length_cons]at hn
  obtain⟨s,hs',hf⟩:=wg L ‹1›
  obtain⟨j,ej⟩:=yy hm h hs' hf
  have L1:=wf L ej
  have e1:tV mask (some (owner,hs.length)) h=some (owner.setIfInBounds j (some hs.length),hs.length+1):=by
   show (layClean.free mask owner (turns mask) (bits h % (mask+1)) (bits h) >>= λj=>pure (owner.setIfInBounds j (some hs.length),hs.length+1))=_
   rw [ej]
   rfl
  obtain⟨o',e2,L2⟩:=om hm l (hs++[h]) _ L1 (by rw [List.length_append,List.length_singleton];omega)
  refine⟨o',?_,by rw [List.append_assoc]at L2;exact L2⟩
  rw [List.foldl_cons,e1]
  rw [List.length_append,List.length_singleton]at e2
  rw [e2,List.length_cons]
  congr 2
  omega
theorem sK {mask:Nat} (hm:mask+1∈[8,32,128,512,2048]) (hs:Array Int) (hn:hs.size<=mask+1):∃owner,layClean mask hs=some owner/\Lay mask hs.toList owner:=by
 have L0:Lay mask [] (Array.replicate (mask+1) none):=by
  have no:∀(j k:Nat),(Array.replicate (mask+1) (none:Option Nat))[j]?≠some (some k):=λj k e=>by
   rw [Array.getElem?_replicate]at e
   split at e <;> cases e
  exact⟨Array.size_replicate,(λk h e=>by cases e),(λj k e=>absurd e (no j k)),λj j' k e _=>absurd e (no j k)⟩
 obtain⟨o,e,L⟩:=om hm hs.toList [] _ L0 (by rw [List.length_nil,Array.length_toList];omega)
 refine⟨o,?_,L⟩
 show (hs.foldl (tV mask) (some (Array.replicate (mask+1) none,0))).map (·.1)=some o
 rw [<- Array.foldl_toList,show (some (Array.replicate (mask+1) (none:Option Nat),0))=some (Array.replicate (mask+1) (none:Option Nat),([]:List Int).length) from rfl,e]
 rfl
noncomputable def bT (mask:Nat) (owner:Array (Option Nat)):List (Nat × Nat):=(List.range (mask+1)).filterMap λj=>(owner.getD j none).map (j,·)
theorem cr {mask:Nat}{owner:Array (Option Nat)} (hsz:owner.size=mask+1){j k:Nat}:(j,k)∈bT mask owner↔owner[j]?=some (some k):=by
 unfold bT
 rw [List.mem_filterMap]
 constructor
 ·rintro⟨a,_,e⟩
  rw [Array.getD_eq_getD_getElem?]at e
  cases h:owner[a]? with
  | none=>rw [h]at e;cases e
  | some v=>
   rw [h]at e
   cases v with
   | none=>cases e
   | some k'=>cases e;exact h
 ·intro h
  have hj:=(Array.getElem?_eq_some_iff.mp h).1
  refine⟨j,List.mem_range.mpr ‹1›,?_⟩
  rw [Array.getD_eq_getD_getElem?,h]
  rfl
theorem oe (mask:Nat) (owner:Array (Option Nat)):(bT mask owner).Pairwise λa b=>a.1 < b.1:=by
 unfold bT
 rw [List.pairwise_filterMap]
 refine List.Pairwise.imp ?_ List.pairwise_lt_range
 intro a b hab x hx y hy
 obtain⟨k,_,rfl⟩:=Option.map_eq_some_iff.mp hx
 obtain⟨k',_,rfl⟩:=Option.map_eq_some_iff.mp hy
 exact hab
end L2
namespace L2
open PySem PySem.SetTable
theorem wA {α β:Type}{f:α->Option β}:∀{l:List α} (i:Nat),(∀k∈l,∃v,f k=some v)->(l.filterMap f)[i]?=(l[i]?).bind f
 | [],i,_=>rfl
 | a::l,i,h=>by
  obtain⟨v,e⟩:=h a List.mem_cons_self
  rw [List.filterMap_cons_some e]
  cases i with
  | zero=>exact e.symm
  | succ i=>exact wA i λk hk=>h k (List.mem_cons_of_mem _ hk)
theorem wz {α β:Type}{f:α->Option β}:∀{l:List α},(∀k∈l,∃v,f k=some v)->(l.filterMap f).length=l.length
 | [],_=>rfl
 | a::l,h=>by
  obtain⟨v,e⟩:=h a List.mem_cons_self
  rw [List.filterMap_cons_some e,List.length_cons,List.length_cons,wz λk hk=>h k (List.mem_cons_of_mem _ hk)]
section
variable {α:Type}{es:Array (Int × α)}{mask:Nat}{owner:Array (Option Nat)}
noncomputable def tL (mask finger moves:Nat) (led plain:Bool) (owner:Array (Option Nat)):SetTable:={ mask:=mask,place:=((bT mask owner).map (·.1)).toArray,dummies:=#[],finger:=finger,led:=led,moves:=moves,plain:=plain }
theorem oh (L:Lay mask (es.map (·.1)).toList owner):(bT mask owner).length=es.size:=by
 have hl:(es.map (·.1)).toList.length=es.size:=by rw [Array.length_toList,Array.size_map]
 have ris:=oe mask owner
 have nd:((bT mask owner).map (·.2)).Nodup:=by
  rw [List.nodup_iff_pairwise_ne,List.pairwise_map]
  refine List.Pairwise.imp_of_mem ?_ ris
  intro a b ha hb hab z
  have ea:=(cr L.sz (j:=a.1) (k:=a.2)).mp ha
  have eb:=(cr L.sz (j:=b.1) (k:=b.2)).mp hb
  rw [z]at ea
  have:=L.inj _ _ _ ea eb
  omega
 have h1:=i8 (l':=List.range es.size) nd λx hx=>by
  obtain⟨a,ha,rfl⟩:=List.mem_map.mp hx
  have:=L.lt _ _ ((cr L.sz (j:=a.1) (k:=a.2)).mp ha)
  rw [hl]at this
  exact List.mem_range.mpr this
 have h2:=i8 (l':=(bT mask owner).map (·.2)) (List.nodup_range (n:=es.size)) λx hx=>by
  have hx:=List.mem_range.mp hx
  have:(es.map (·.1)).toList[x]?=some es[x].1:=by
   rw [Array.getElem?_toList,Array.getElem?_map,Array.getElem?_eq_getElem hx];rfl
  obtain⟨j,ej,_⟩:=L.at_ x _ this
  exact List.mem_map.mpr ⟨(j,x),(cr L.sz).mpr ej,rfl⟩
 rw [List.length_map,List.length_range]at h1
 rw [List.length_map,List.length_range]at h2
 omega
theorem wD (L:Lay mask (es.map (·.1)).toList owner) (i:Nat):((((bT mask owner).map (·.2)).toArray).filterMap (es[·]?))[i]?=((bT mask owner)[i]?).bind λa=>es[a.2]?:=by
 have hl:(es.map (·.1)).toList.length=es.size:=by rw [Array.length_toList,Array.size_map]
 have all:∀k∈(bT mask owner).map (·.2),∃v,es[k]?=some v:=λk hk=>by
  obtain⟨a,ha,rfl⟩:=List.mem_map.mp hk
  have:=L.lt _ _ ((cr L.sz (j:=a.1) (k:=a.2)).mp ha)
  rw [hl]at this
  exact⟨_,Array.getElem?_eq_getElem this⟩
 rw [<- Array.getElem?_toList,Array.toList_filterMap,wA i all,List.getElem?_map]
 cases (bT mask owner)[i]? <;> rfl
theorem rg (L:Lay mask (es.map (·.1)).toList owner):((((bT mask owner).map (·.2)).toArray).filterMap (es[·]?)).size=es.size:=by
 have hl:(es.map (·.1)).toList.length=es.size:=by rw [Array.length_toList,Array.size_map]
 have all:∀k∈(bT mask owner).map (·.2),∃v,es[k]?=some v:=λk hk=>by
  obtain⟨a,ha,rfl⟩:=List.mem_map.mp hk
  have:=L.lt _ _ ((cr L.sz (j:=a.1) (k:=a.2)).mp ha)
  rw [hl]at this
  exact⟨_,Array.getElem?_eq_getElem this⟩
 rw [<- Array.length_toList,Array.toList_filterMap,wz all,List.length_map,oh L]
theorem jT {finger moves:Nat}{led plain:Bool} (L:Lay mask (es.map (·.1)).toList owner) (j:Nat) (h:Int) (x:α):Ent (tL mask finger moves led plain owner) ((((bT mask owner).map (·.2)).toArray).filterMap (es[·]?)) j h x↔∃k:Nat,owner[j]?=some (some k)/\es[k]?=some (h,x):=by
 constructor
 ·rintro⟨i,e1,e2⟩
  rw [wD L]at e2
  have e1:((bT mask owner).map (·.1)).toArray[i]?=some j:=e1
  rw [List.getElem?_toArray,List.getElem?_map]at e1
  obtain⟨a,ea,rfl⟩:=Option.map_eq_some_iff.mp e1
  rw [ea]at e2
  exact⟨a.2,(cr L.sz).mp (List.mem_of_getElem? ea),e2⟩
 ·rintro⟨k,e1,e2⟩
  obtain⟨i,hi,ei⟩:=List.getElem_of_mem ((cr L.sz).mpr e1)
  have ei':(bT mask owner)[i]?=some (j,k):=by rw [List.getElem?_eq_getElem hi,ei]
  refine⟨i,?_,by rw [wD L,ei'];exact e2⟩
  show ((bT mask owner).map (·.1)).toArray[i]?=some j
  rw [List.getElem?_toArray,List.getElem?_map,ei']
  rfl
end
end L2
namespace L2
open PySem PySem.SetTable
theorem pP {mask i:Nat} (h:i<=mask):i<=runEnd mask i/\runEnd mask i<=mask:=by unfold runEnd;split <;> omega
theorem tz (t:SetTable):∀(k:Nat) (p:Probe),p.j+p.more<=t.mask->(wk t p k).j<=t.mask
 | 0,p,h=>by show p.j<=_;omega
 | k+1,p,h=>by
  refine tz t k (t.advance p) ?_
  unfold advance
  by_cases hm:p.more > 0
  ·rw [if_pos hm]
   show p.j+1+(p.more - 1)<=_
   omega
  ·rw [if_neg hm]
   show (leap t.mask p.i p.perturb).1+(runEnd t.mask (leap t.mask p.i p.perturb).1 - (leap t.mask p.i p.perturb).1)<=t.mask
   have h1:(leap t.mask p.i p.perturb).1 < t.mask+1:=Nat.mod_lt _ (Nat.succ_pos _)
   have h2:=pP (mask:=t.mask) (i:=(leap t.mask p.i p.perturb).1) ‹1›
   omega
theorem BA (mask:Nat) (h:Int) (k:Nat):(wk (tM mask) (stH mask h) k).j<=mask:=by
 refine tz (tM mask) k (stH mask h) ?_
 show bits h % (mask+1)+(runEnd mask (bits h % (mask+1)) - bits h % (mask+1))<=mask
 have h1:bits h % (mask+1) < mask+1:=Nat.mod_lt _ (Nat.succ_pos _)
 have h2:=pP (mask:=mask) (i:=bits h % (mask+1)) ‹1›
 omega
section
variable {α:Type}{es:Array (Int × α)}{mask finger moves:Nat}{led plain:Bool}{owner:Array (Option Nat)}
theorem xh (L:Lay mask (es.map (·.1)).toList owner):Tb (tL mask finger moves led plain owner) es.size:=by
 have ris:=oe mask owner
 have sz:((bT mask owner).map (·.1)).toArray.size=es.size:=by rw [List.size_toArray,List.length_map,oh L]
 have get:∀(i:Nat) (hi:i < (tL mask finger moves led plain owner).place.size),((bT mask owner).map (·.1))[i]?=some ((tL mask finger moves led plain owner).place[i]):=λi hi=>by
  rw [<- Array.getElem?_eq_getElem hi]
  show _=((bT mask owner).map (·.1)).toArray[i]?
  rw [List.getElem?_toArray]
 refine⟨λi k hi hk hik=>?_,rfl,sz,λi hi=>?_⟩
 ·have pw:((bT mask owner).map (·.1)).Pairwise (· < ·):=by rw [List.pairwise_map];exact ris
  obtain⟨h1,e1⟩:=List.getElem?_eq_some_iff.mp (get i hi)
  obtain⟨h2,e2⟩:=List.getElem?_eq_some_iff.mp (get k hk)
  rw [<- e1,<- e2]
  exact List.pairwise_iff_getElem.mp pw i k h1 h2 hik
 ·have hm:=List.mem_of_getElem? (get i hi)
  obtain⟨a,ha,e⟩:=List.mem_map.mp hm
  have:=(cr L.sz (j:=a.1) (k:=a.2)).mp ha
  have h1:=(Array.getElem?_eq_some_iff.mp this).1
  rw [L.sz]at h1
  rw [<- e]
  show a.1<=mask
  omega
theorem tQ (L:Lay mask (es.map (·.1)).toList owner):Tbl (tL mask finger moves led plain owner) ((((bT mask owner).map (·.2)).toArray).filterMap (es[·]?)):=by
 have T:Tb (tL mask finger moves led plain owner) es.size:=xh L
 refine⟨by rw [rg L];exact T,λj h x en=>?_⟩
 obtain⟨k,e1,e2⟩:=(jT L j h x).mp en
 have ek:(es.map (·.1)).toList[k]?=some h:=by
  rw [Array.getElem?_toList,Array.getElem?_map,e2];rfl
 obtain⟨j',e3,m,e4,h4⟩:=L.at_ k h ek
 obtain rfl:=L.inj _ _ _ e1 e3
 refine⟨m,?_,λx hx=>?_⟩
 ·rw [gN (t:=tM mask) (t':=tL mask finger moves led plain owner) rfl];exact e4
 ·have hf:=h4 x hx
  have hle:=BA mask h x
  rw [gN (t:=tM mask) (t':=tL mask finger moves led plain owner) rfl]
  show (tL mask finger moves led plain owner).slot (wk (tM mask) (stH mask h) x).j≠.empty
  generalize (wk (tM mask) (stH mask h) x).j=s at hf hle ⊢
  have hlt:s < owner.size:=by rw [L.sz];omega
  cases ev:owner[s] with
  | none=>
   rw [jM.mpr (by rw [Array.getElem?_eq_getElem hlt,ev])]at hf
   cases hf
  | some k'=>
   have hmem:=(cr L.sz).mpr (show owner[s]?=some (some k') by rw [Array.getElem?_eq_getElem hlt,ev])
   obtain⟨i,hi,ei⟩:=List.getElem_of_mem hmem
   refine(eY T).mpr ⟨i,?_⟩
   show ((bT mask owner).map (·.1)).toArray[i]?=some s
   rw [List.getElem?_toArray,List.getElem?_map,List.getElem?_eq_getElem hi,ei]
   rfl
end
theorem rZ {α:Type}{t:SetTable}{es:Array (Int × α)}{n:Nat} (hm:sizeAbove n∈[8,32,128,512,2048]) (hn:es.size<=sizeAbove n):∃(t':SetTable) (order:Array Nat),t.relaid (es.map (·.1)) n=some (t',order)/\t'.mask=sizeAbove n - 1/\t'.led=t.led/\t'.plain=t.plain/\(order.filterMap (es[·]?)).size=es.size/\Tbl t' (order.filterMap (es[·]?))/\∀h x,(∃j,Ent t' (order.filterMap (es[·]?)) j h x)↔∃k:Nat,es[k]?=some (h,x):=by
 have hp:sizeAbove n - 1+1=sizeAbove n:=by
  have:0 < sizeAbove n:=by
   simp only [List.mem_cons,List.not_mem_nil,or_false]at hm
   omega
  omega
 obtain⟨owner,e,L⟩:=sK (mask:=sizeAbove n - 1) (by rw [hp];exact hm) (es.map (·.1)) (by rw [Array.size_map,hp];exact hn)
 refine⟨tL (sizeAbove n - 1) t.finger (t.movedTo (sizeAbove n - 1)) t.led t.plain owner,((bT (sizeAbove n - 1) owner).map (·.2)).toArray,?_,rfl,rfl,rfl,rg L,tQ L,λh x=>⟨λ⟨j,en⟩=>?_,λ⟨k,ek⟩=>?_⟩⟩
 ·unfold relaid SetTable.laid
  rw [e]
  rfl
 ·obtain⟨k,_,e2⟩:=(jT L j h x).mp en
  exact⟨k,e2⟩
 ·have eh:(es.map (·.1)).toList[k]?=some h:=by
   rw [Array.getElem?_toList,Array.getElem?_map,ek];rfl
  obtain⟨j,ej,_⟩:=L.at_ k h eh
  exact⟨j,(jT L j h x).mpr ⟨k,ej,ek⟩⟩
end L2
namespace L2
open PySem PySem.Spec PySem.SetTable PyProof.Rows
noncomputable abbrev KZ:=List Key × Addr
noncomputable def bo (prog:Program) (w:World) (k:List Key):Int:=tupleKeyHash (aJ prog w) k
noncomputable def iG (prog:Program) (w:World) (z:KZ):Int × Value:=(bo prog w z.1,.ref z.2)
def Siz (mask n:Nat):Prop:=(mask=7/\n < 5)\/(mask=31/\n < 19)\/(mask=127/\n < 77)\/(mask=511/\n < 307)\/(mask=2047/\n < 1229)
theorem Siz.mem {mask n:Nat} (h:Siz mask n):mask+1∈[8,32,128,512,2048]:=by
 rcases h with⟨h,_⟩ | ⟨h,_⟩ | ⟨h,_⟩ | ⟨h,_⟩ | ⟨h,_⟩ <;> rw [h] <;> decide
theorem Siz.odd {mask n:Nat} (h:Siz mask n):(mask % 2 == 0)=false:=by
 rcases h with⟨h,_⟩ | ⟨h,_⟩ | ⟨h,_⟩ | ⟨h,_⟩ | ⟨h,_⟩ <;> rw [h] <;> decide
theorem Siz.le {mask n:Nat} (h:Siz mask n):n<=mask/\mask<=2047:=by unfold Siz at h;omega
structure SetD (prog:Program) (w:World) (led:Bool) (zs:List KZ) (es:Array (Int × Value)) (t:SetTable):Prop where
 tb:Tbl t es
 sz:Siz t.mask es.size
 ld:t.led=led
 nd:(zs.map (·.1)).Nodup
 pm:es.toList.Perm (zs.map (iG prog w))
theorem SetD.fits {prog:Program}{w:World}{led:Bool}{zs:List KZ}{es:Array (Int × Value)}{t:SetTable} (D:SetD prog w led zs es t):t.fits es.size=true:=by
 have h1:=D.tb.tb.sz
 have h2:=D.tb.tb.dum
 have h3:=D.sz.le
 unfold SetTable.fits SetTable.fill
 rw [h2,h1,Bool.and_eq_true]
 exact⟨beq_self_eq_true _,decide_eq_true (by show es.size+0<=_;omega)⟩
theorem SetD.at_ {prog:Program}{w:World}{led:Bool}{zs:List KZ}{es:Array (Int × Value)}{t:SetTable} (D:SetD prog w led zs es t){i:Nat}{hv:Int × Value} (h:es[i]?=some hv):∃z∈zs,hv=iG prog w z:=by
 have:=D.pm.mem_iff.mp (List.mem_of_getElem? (by rw [Array.getElem?_toList];exact h))
 obtain⟨z,hz,e⟩:=List.mem_map.mp this
 exact⟨z,hz,e.symm⟩
theorem SetD.has {prog:Program}{w:World}{led:Bool}{zs:List KZ}{es:Array (Int × Value)}{t:SetTable} (D:SetD prog w led zs es t){z:KZ} (h:z∈zs):∃i:Nat,es[i]?=some (iG prog w z):=by
 have:=D.pm.mem_iff.mpr (List.mem_map_of_mem (f:=iG prog w) h)
 obtain⟨i,hi,e⟩:=List.getElem_of_mem this
 exact⟨i,by rw [<- Array.getElem?_toList,List.getElem?_eq_getElem hi,e]⟩
section
variable {prog:Program}{w:World}{A:Around}{E:Value->Shared->Prop}{s:Shared}
theorem rE {k:List Key}{b:Addr}{Q:Bool->Shared->Prop} (hk:IsTupleKey (aJ prog w) s.heap k b) (h:Q false s):wpAny (model prog w) A (ofAClassStatement 8 (.ref b)) Q E s:=by
 have hT:=hk.typeIs
 obtain⟨o,items,n,ho,hc,hd,hi⟩:=hk
 unfold ofAClassStatement
 refine zB0 (wpAny_typeOf hT ?_)
 dsimp only
 refine zB0 (zP0 ?_)
 refine zB0 (wpAny_seqItems ho hd ?_)
 dsimp only
 refine zB0 ?_
 rw [<- Array.forIn_toList]
 refine wpAny_forIn_list _ (λrest r s'=>r.1=none/\s'=s/\∀v∈rest,carriedByValue v=true) _ ?_ ?_ _ _ ⟨rfl,rfl,hi.byValue⟩
 ·rintro v rest r s' ⟨hr,rfl,hall⟩
  have e:ofAClassStatement 7 v=pure false:=by
   have:=hall v List.mem_cons_self
   cases v with
   | ref a=>simp [carriedByValue]at this
   | _=>first | rfl | simp [ofAClassStatement]
  rw [e]
  refine zB0 (zP0 ?_)
  simp only [Bool.false_eq_true,if_false]
  exact zP0 ⟨rfl,rfl,λu hu'=>hall u (List.mem_cons_of_mem _ hu')⟩
 ·rintro⟨r1,r2⟩ s' ⟨hr,rfl,_⟩
  simp only at hr
  subst hr
  exact zP0 h
theorem yo {k:List Key}{b:Addr}{Q:Bool->Shared->Prop}{vs:List Value} (hk:IsTupleKey (aJ prog w) s.heap k b) (hv:∀v∈vs,∃k' b',v=.ref b'/\IsTupleKey (aJ prog w) s.heap k' b') (h:Q false s):wpAny (model prog w) A (searchCouldBeSeen (.ref b) vs) Q E s:=by
 unfold searchCouldBeSeen
 refine zB0 ?_
 refine wpAny_forIn_list _ (λrest r s'=>r.1=none/\s'=s/\∀v∈rest,∃k' b',v=.ref b'/\IsTupleKey (aJ prog w) s.heap k' b') _ ?_ ?_ _ _ ⟨rfl,rfl,hv⟩
 ·rintro v rest r s' ⟨hr,rfl,hall⟩
  obtain⟨k',b',rfl,hk'⟩:=hall v List.mem_cons_self
  have fin:r.1=none/\s'=s'/\∀v∈rest,∃k' b',v=.ref b'/\IsTupleKey (aJ prog w) s'.heap k' b':=⟨hr,rfl,λu hu'=>hall u (List.mem_cons_of_mem _ hu')⟩
  dsimp only
  split
  ·exact zP0 ⟨rfl,rfl,λu hu'=>hall u (List.mem_cons_of_mem _ hu')⟩
  ·refine zB0 (wpAny_eqIsQuiet_tuple hk ?_)
   simp only [Bool.not_true,Bool.false_eq_true,if_false]
   refine zB0 (wpAny_eqIsQuiet_tuple hk' ?_)
   simp only [Bool.not_true,Bool.false_eq_true,if_false]
   refine zB0 (rE hk ?_)
   simp only [Bool.false_eq_true,if_false]
   refine zB0 (rE hk' ?_)
   simp only [Bool.false_eq_true,if_false]
   exact zP0 ⟨rfl,rfl,λu hu'=>hall u (List.mem_cons_of_mem _ hu')⟩
 ·rintro⟨r1,r2⟩ s' ⟨hr,rfl,_⟩
  simp only at hr
  subst hr
  exact zP0 h
theorem Ca {k:List Key}{b:Addr}{Q:Bool->Shared->Prop} (hk:IsTupleKey (aJ prog w) s.heap k b) (h:∀r,Q r s):wpAny (model prog w) A (hashByValue 8 (.ref b)) Q E s:=by
 have hT:=hk.typeIs
 obtain⟨o,items,n,ho,hc,hd,hi⟩:=hk
 unfold hashByValue
 refine zB0 (wpAny_specialOf hT F.slot_tuple_hash.lookup ?_)
 dsimp only
 refine zB0 (wpAny_seqItems ho hd ?_)
 refine zB0 ?_
 show wpAny _ _ (forIn items _ _) _ _ s
 rw [<- Array.forIn_toList]
 refine wpAny_forIn_list _ (λrest r s'=>r.1=none/\s'=s/\∀v∈rest,carriedByValue v=true) _ ?_ ?_ _ _ ⟨rfl,rfl,hi.byValue⟩
 ·rintro v rest r s' ⟨hr,rfl,hall⟩
  have e:∃c,hashByValue 7 v=pure c:=by
   have:=hall v List.mem_cons_self
   cases v with
   | ref a=>simp [carriedByValue]at this
   | _=>exact⟨_,rfl⟩
  obtain⟨c,e⟩:=e
  rw [e]
  refine zB0 (zP0 ?_)
  cases c with
  | false=>
   simp only [Bool.not_false,if_true]
   exact zP0 (zP0 (h _))
  | true=>
   simp only [Bool.not_true,Bool.false_eq_true,if_false]
   exact zP0 ⟨rfl,rfl,λu hu'=>hall u (List.mem_cons_of_mem _ hu')⟩
 ·rintro⟨r1,r2⟩ s' ⟨hr,rfl,_⟩
  simp only at hr
  subst hr
  exact zP0 (h _)
end
end L2
namespace L2
open PySem PySem.Spec PySem.SetTable PyProof.Rows
section
variable {prog:Program}{w:World}{A:Around}{E:Value->Shared->Prop}{s:Shared}{a b:Addr}{k:List Key}{o:Obj}{es:Array (Int × Value)}{ep:Nat}{t:SetTable}{led:Bool}{zs:List KZ}{Q:SetFound->Shared->Prop}
theorem ux (a:Addr):isSame (.ref a) (.ref a)=pure true:=by
 unfold isSame
 simp only [beq_self_eq_true,if_true]
theorem gG {ad:Bool} (hu:A.units < cLine) (ho:s.heap.get? a=some o) (hd:o.data=.set es ep t) (D:SetD prog w led zs es t) (hk:IsTupleKey (aJ prog w) s.heap k b) (his:∀z∈zs,IsTupleKey (aJ prog w) s.heap z.1 z.2)
  (hno:k∉zs.map (·.1)->∀j,t.slot j=.empty->j<=t.mask->lC t (bo prog w k) j->Q (.free j false) s) (hyes:k∈zs.map (·.1)->∀i:Nat,Q (.there (if ad=true then none else some i)) s)
  {K0:Nat} (hK:K0<=10 * (13+t.mask)) (he:t.slot (wk t (t.probeStart (bo prog w k)) K0).j=.empty) :
  ∀(fuel m0:Nat) (stand:Option Probe),stand.getD (t.probeStart (bo prog w k))=wk t (t.probeStart (bo prog w k)) m0->m0<=K0->K0 - m0 < fuel->(∀x,x < m0->∃i z,t.slot (wk t (t.probeStart (bo prog w k)) x).j=.live i/\es[i]?=some (iG prog w z)/\z∈zs/\(z.1≠k\/bo prog w z.1≠bo prog w k))->
   wpAny (model prog w) A (setSearchFrom a (.ref b) (bo prog w k) ad fuel stand) Q E s
 | 0,_,_,_,_,h,_=>absurd h (Nat.not_lt_zero _)
 | fuel+1,m0,stand,hs,hm,hf,vis=>by
  unfold setSearchFrom
  refine zB0 (wpAny_setState_of ho hd D.fits ?_)
  dsimp only
  have gw:t.gaveWay=false:=D.sz.odd
  rw [gw]
  simp only [Bool.false_eq_true,if_false]
  have dum:(wk t (t.probeStart (bo prog w k)) m0).dummy=none:=by
   have:∀(n:Nat) (p:Probe),p.dummy=none->(wk t p n).dummy=none:=λn=>by
    induction n with
    | zero=>intro p h;exact h
    | succ n ih=>intro p h;exact ih _ (by rw [lB];exact h)
   exact this m0 _ rfl
  rw [hs]
  k_delta "storedHashAt"
  have fz:10 * turns t.mask=10 * t.mask+150:=by unfold turns;omega
  have M:Mets t (λi=>(es[i]?.map (·.1)).getD 0) (bo prog w k) (wk t (t.probeStart (bo prog w k)) m0) (K0 - m0) (t.probe (λi=>(es[i]?.map (·.1)).getD 0) (bo prog w k) (wk t (t.probeStart (bo prog w k)) m0)):=
   go_mets D.tb.tb _ _ (10 * turns t.mask) (K0 - m0) _ (by rw [fz];omega) (by rw [<- cY,Nat.add_sub_cancel' hm];exact he)
  revert M
  generalize t.probe (λi=>(es[i]?.map (·.1)).getD 0) (bo prog w k) (wk t (t.probeStart (bo prog w k)) m0)=r
  intro M
  have jle:∀x,(wk t (t.probeStart (bo prog w k)) x).j<=t.mask:=λx=>by
   refine tz t x _ ?_
   show bits (bo prog w k) % (t.mask+1)+(runEnd t.mask (bits (bo prog w k) % (t.mask+1)) - bits (bo prog w k) % (t.mask+1))<=t.mask
   have h1:bits (bo prog w k) % (t.mask+1) < t.mask+1:=Nat.mod_lt _ (Nat.succ_pos _)
   have h2:=pP (mask:=t.mask) (i:=bits (bo prog w k) % (t.mask+1)) ‹1›
   omega
  rcases M with⟨m,h1,h2,h3,h4⟩ | ⟨m,i,h1,h2,h3,h4,h5⟩
  ·subst h4
   dsimp only
   rw [dum]
   dsimp only
   rw [<- cY]at h2 ⊢
   refine zP0 (hno (λhin=>?_) _ h2 (jle _) ⟨m0+m,rfl,λx hx=>?_⟩)
   ·obtain⟨z,hz,ez⟩:=List.mem_map.mp hin
    obtain⟨i,ei⟩:=D.has hz
    have hi:i < t.place.size:=by rw [D.tb.tb.sz];exact(Array.getElem?_eq_some_iff.mp ei).1
    have ep':t.place[i]?=some t.place[i]:=Array.getElem?_eq_getElem hi
    obtain⟨x,hx,ex⟩:=yp D.tb h2 (j:=t.place[i]) (x:=Value.ref z.2) ⟨i,ep',by rw [ei];unfold iG;rw [ez]⟩
    have sl:=(dI D.tb.tb).mpr ep'
    rw [<- ex]at sl
    by_cases hx0:x < m0
    ·obtain⟨i',z',v1,v2,v3,v4⟩:=vis x hx0
     rw [v1]at sl
     cases sl
     rw [v2]at ei
     have e2:z'.2=z.2:=by
      have:=congrArg Prod.snd (Option.some.inj ei)
      exact Value.ref.inj this
     have e1:z'.1=z.1:=(his z' v3).inj (by rw [e2];exact his z hz)
     rcases v4 with v4 | v4
     ·exact v4 (e1.trans ez)
     ·exact v4 (by rw [e1,ez])
    ·obtain⟨i',v1,v2⟩:=h3 (x - m0) ‹1›
     rw [<- cY,Nat.add_sub_cancel' ‹1›,sl]at v1
     cases v1
     refine v2 ?_
     rw [ei]
     show bo prog w z.1=_
     rw [ez]
   ·by_cases hx0:x < m0
    ·obtain⟨i',z',v1,_⟩:=vis x hx0
     rw [v1];exact λz=>nomatch z
    ·obtain⟨i',v1,v2⟩:=h3 (x - m0) ‹1›
     rw [<- cY,Nat.add_sub_cancel' ‹1›]at v1
     rw [v1];exact λz=>nomatch z
  ·subst h5
   rw [<- cY]at h2
   rw [<- cY,<- cY]
   have ep':=(dI D.tb.tb).mp h2
   have hi:i < es.size:=by rw [<- D.tb.tb.sz];exact(Array.getElem?_eq_some_iff.mp ep').1
   obtain⟨z,hz,ez⟩:=D.at_ (Array.getElem?_eq_getElem hi)
   have ei:es[i]?=some (bo prog w z.1,Value.ref z.2):=by rw [Array.getElem?_eq_getElem hi,ez];rfl
   have hkz:=his z hz
   dsimp only
   have go:∀x,x < m0+m->∃i z,t.slot (wk t (t.probeStart (bo prog w k)) x).j=.live i/\es[i]?=some (iG prog w z)/\z∈zs/\(z.1≠k\/bo prog w z.1≠bo prog w k):=λx hx=>by
    by_cases hx0:x < m0
    ·exact vis x hx0
    ·obtain⟨i',v1,v2⟩:=h4 (x - m0) ‹1›
     rw [<- cY,Nat.add_sub_cancel' ‹1›]at v1
     have ep2:=(dI D.tb.tb).mp v1
     have hi2:i' < es.size:=by rw [<- D.tb.tb.sz];exact(Array.getElem?_eq_some_iff.mp ep2).1
     obtain⟨z',hz',ez'⟩:=D.at_ (Array.getElem?_eq_getElem hi2)
     refine⟨i',z',v1,by rw [Array.getElem?_eq_getElem hi2,ez'],hz',.inr λq=>v2 ?_⟩
     rw [Array.getElem?_eq_getElem hi2,ez']
     exact q
   have sm:t.sameMemory t.moves t.mask=some true:=by unfold sameMemory;rw [if_pos (beq_self_eq_true _)]
   refine Decidable.byCases (p:=(!t.led)=true) (λhled=>?tB) (λhled=>?tA)
   case' tA=>
    rw [if_neg hled]
    clear hled
   case tB=>
    rw [if_pos hled]
    refine zB0 (yo hk (λv hv=>?_) ?_)
    ·obtain⟨e1,he1,rfl⟩:=List.mem_map.mp hv
     obtain⟨z',hz',ez'⟩:=List.mem_map.mp (D.pm.mem_iff.mp (List.mem_filter.mp (by rw [<- Array.toList_filter];exact he1)).1)
     exact⟨z'.1,z'.2,by rw [<- ez'];rfl,his z' hz'⟩
    simp only [Bool.false_eq_true,if_false]
    exact ?tA
   case tA=>
    rw [ei]
    dsimp only
    refine zB0 (wpAny_holding (wpAny_eqBool_tuple hu hkz hk ?_))
    refine zB0 (wpAny_setState_of ho hd D.fits ?_)
    dsimp only
    by_cases hq:(ad && decide (z.1=k))=true
    ·rw [if_pos hq]
     rw [Bool.and_eq_true]at hq
     have:=hyes (List.mem_map.mpr ⟨z,hz,of_decide_eq_true hq.2⟩) 0
     rw [if_pos hq.1]at this
     exact zP0 this
    ·rw [if_neg hq,sm]
     dsimp only
     rw [if_pos rfl,h2]
     dsimp only
     rw [ei]
     dsimp only
     refine zB0 (wpAny_of_eq (ux z.2) ?_)
     refine zB0 (zP0 ?_)
     rw [if_pos rfl]
     dsimp only
     by_cases hk1:z.1=k
     ·rw [decide_eq_true hk1,if_pos rfl]
      have:=hyes (List.mem_map.mpr ⟨z,hz,hk1⟩) i
      rw [if_neg (λe=>hq (by rw [e,decide_eq_true hk1];rfl))]at this
      exact zP0 this
     ·rw [decide_eq_false hk1,if_neg Bool.false_ne_true]
      refine gG hu ho hd D hk his hno hyes hK he fuel (m0+(m+1)) _ rfl ‹1› ‹1› λx hx=>?_
      by_cases hx1:x < m0+m
      ·exact go x hx1
      ·have ex:x=m0+m:=by omega
       subst ex
       exact⟨i,z,h2,ei,hz,.inl hk1⟩
theorem xt (hu:A.units < cLine) (ho:s.heap.get? a=some o) (hd:o.data=.set es ep t) (D:SetD prog w led zs es t) (hk:IsTupleKey (aJ prog w) s.heap k b) (his:∀z∈zs,IsTupleKey (aJ prog w) s.heap z.1 z.2)
  (hno:k∉zs.map (·.1)->∀j,t.slot j=.empty->j<=t.mask->lC t (bo prog w k) j->Q (.free j false) s) (hyes:k∈zs.map (·.1)->Q (.there none) s) :
  wpAny (model prog w) A (setSearch a (.ref b) (bo prog w k) true) Q E s:=by
 obtain⟨f,hf,ef⟩:=nL D.tb.tb D.sz.le.1
 obtain⟨K0,h1,h2⟩:=tE D.sz.mem (bo prog w k) hf
 have:=D.sz.le.2
 unfold setSearch
 exact gG (ad:=true) hu ho hd D hk his hno (λh _=>hyes h) h1 (by rw [h2];exact ef) 100000 0 none rfl (Nat.zero_le _) ‹1› λx hx=>absurd hx (Nat.not_lt_zero _)
theorem C5 {Q:Option Nat->Shared->Prop} (hu:A.units < cLine) (ho:s.heap.get? a=some o) (hd:o.data=.set es ep t) (D:SetD prog w led zs es t) (hk:IsTupleKey (aJ prog w) s.heap k b) (his:∀z∈zs,IsTupleKey (aJ prog w) s.heap z.1 z.2)
  (hin:k∈zs.map (·.1)) (hyes:∀i,Q (some i) s) (hb:byScan (.ref b) es=false):wpAny (model prog w) A (setFind a (.ref b) (bo prog w k)) Q E s:=by
 obtain⟨f,hf,ef⟩:=nL D.tb.tb D.sz.le.1
 obtain⟨K0,h1,h2⟩:=tE D.sz.mem (bo prog w k) hf
 have:=D.sz.le.2
 unfold setFind setFindIn
 refine zB0 (wpAny_setState_of ho hd D.fits ?_)
 dsimp only
 rw [hb]
 simp only [Bool.false_eq_true,if_false]
 unfold setSearch
 exact zB0 (gG (ad:=false) (Q:=λr s'=>wpAny (model prog w) A (match r with | .there i=>pure i | .free ..=>pure none) Q E s') hu ho hd D hk his (λhn=>absurd hin hn) (λ_ i=>zP0 (hyes i)) h1 (by rw [h2];exact ef) 100000 0 none rfl (Nat.zero_le _) ‹1› λx hx=>absurd hx (Nat.not_lt_zero _))
theorem tP {α:Type}{es:Array (Int × α)}{t t':SetTable} (e1:t'.mask=t.mask) (e2:t'.place=t.place) (e3:t'.dummies=t.dummies) (T:Tbl t es):Tbl t' es:=by
 have T1:Tb t' es.size:=⟨by rw [e2];exact T.tb.ris,by rw [e3];exact T.tb.dum,by rw [e2];exact T.tb.sz,by rw [e1];intro i h;have:=T.tb.top i (by rw [<- e2];exact h);simpa only [e2] using this⟩
 refine⟨T1,λj h x en=>gK e1 T.tb T1 (λj' q=>by rw [e2];exact q) (T.reach j h x ?_)⟩
 obtain⟨i,a1,a2⟩:=en
 exact⟨i,by rw [<- e2];exact a1,a2⟩
theorem siz_next {mask n:Nat} (h:Siz mask n) (hn:n < 1000):((n+1) * 5>=mask * 3/\sizeAbove (grown (n+1))∈[8,32,128,512,2048]/\Siz (sizeAbove (grown (n+1)) - 1) (n+1))\/(¬(n+1) * 5>=mask * 3/\Siz mask (n+1)):=by
 have g:∀m,m<=1000->grown m=m * 4:=λm hm=>by unfold grown;rw [if_neg ‹1›]
 rcases h with⟨rfl,h⟩ | ⟨rfl,h⟩ | ⟨rfl,h⟩ | ⟨rfl,h⟩ | ⟨rfl,h⟩
 ·by_cases e:n=4
  ·subst e;exact .inl ⟨by omega,by decide,by unfold Siz;exact .inr (.inl ⟨by decide,by omega⟩)⟩
  ·exact .inr ⟨by omega,.inl ⟨rfl,by omega⟩⟩
 ·by_cases e:n=18
  ·subst e;exact .inl ⟨by omega,by decide,by unfold Siz;exact .inr (.inr (.inl ⟨by decide,by omega⟩))⟩
  ·exact .inr ⟨by omega,.inr (.inl ⟨rfl,by omega⟩)⟩
 ·by_cases e:n=76
  ·subst e;exact .inl ⟨by omega,by decide,by unfold Siz;exact .inr (.inr (.inr (.inl ⟨by decide,by omega⟩)))⟩
  ·exact .inr ⟨by omega,.inr (.inr (.inl ⟨rfl,by omega⟩))⟩
 ·by_cases e:n=306
  ·subst e;exact .inl ⟨by omega,by decide,by unfold Siz;exact .inr (.inr (.inr (.inr ⟨by decide,by omega⟩)))⟩
  ·exact .inr ⟨by omega,.inr (.inr (.inr (.inl ⟨rfl,by omega⟩)))⟩
 ·exact .inr ⟨by omega,.inr (.inr (.inr (.inr ⟨rfl,by omega⟩)))⟩
open Classical in
noncomputable def iS (zs:List KZ) (z:KZ):List KZ:=if z.1∈zs.map (·.1) then zs else zs++[z]
def eB (prog:Program) (w:World) (a:Addr) (led:Bool) (zs:List KZ) (h:Heap):Prop:=∃o es ep t,h.get? a=some o/\o.ExactSet/\o.data=.set es ep t/\SetD prog w led zs es t
theorem nI {α:Type}:∀{l l':List α},l.Nodup->(∀x∈l,x∈l')->l'.length<=l.length->l.Perm l'
 | [],l',_,_,h=>by rw [List.length_eq_zero_iff.mp (Nat.le_zero.mp h)]
 | a::l,l',nd,hs,h=>by
  obtain⟨n1,n2⟩:=List.nodup_cons.mp nd
  obtain⟨u,v,rfl⟩:=List.append_of_mem (hs a List.mem_cons_self)
  have ih:=nI (l:=l) (l':=u++v) n2 (λx hx=>by
   have:=hs x (List.mem_cons_of_mem _ hx)
   rw [List.mem_append,List.mem_cons]at this
   rw [List.mem_append]
   rcases this with q | q | q
   ·exact .inl q
   ·exact absurd (q ▸ hx) n1
   ·exact .inr q) (by simp only [List.length_append,List.length_cons]at h ⊢;omega)
  exact(ih.cons a).trans List.perm_middle.symm
theorem sR {h:Heap}{zs:List KZ} (nd:(zs.map (·.1)).Nodup) (his:∀z∈zs,IsTupleKey (aJ prog w) h z.1 z.2):(zs.map (iG prog w)).Nodup:=by
 rw [List.nodup_iff_pairwise_ne,List.pairwise_map]at nd ⊢
 refine nd.imp_of_mem λ{x y} hx hy ne e=>ne ?_
 have e2:x.2=y.2:=Value.ref.inj (congrArg Prod.snd e)
 exact(his x hx).inj (by rw [e2];exact his y hy)
theorem Ar {Q:Unit->Shared->Prop}{n:Nat} (ho:s.heap.get? a=some o) (hx:o.ExactSet) (hd:o.data=.set es ep t) (hf:t.fits es.size=true) (hm:sizeAbove n∈[8,32,128,512,2048]) (hn:es.size<=sizeAbove n) (hl:t.led=led) (nd:(zs.map (·.1)).Nodup) (pm:es.toList.Perm (zs.map (iG prog w))) (hs:Siz (sizeAbove n - 1) es.size) (nde:es.toList.Nodup)
  (h:∀h',Heap.SameBut a s.heap h'->eB prog w a led zs h'->Q () { s with heap:=h' }):wpAny (model prog w) A (setRelay a n) Q E s:=by
 unfold setRelay
 refine zB0 (wpAny_setState_of ho hd hf ?_)
 dsimp only
 have z0:¬sizeAbove n > sizeLine:=by
  simp only [List.mem_cons,List.not_mem_nil,or_false]at hm
  rw [sizeLine_eq]
  omega
 rw [if_neg z0]
 obtain⟨t',ord,e,em,el,epl,ez,T,en⟩:=rZ (t:=t) (es:=es) hm hn
 rw [e]
 k_delta "reordered"
 dsimp only
 rw [if_neg (by rw [ez];simp)]
 refine zB0 (zP0 ?_)
 dsimp only
 have hp:(Array.filterMap (λx=>es[x]?) ord).toList.Perm es.toList:=by
  refine(nI nde (λx hx=>?_) (by rw [Array.length_toList,Array.length_toList,ez];exact Nat.le_refl _)).symm
  obtain⟨i,hi,ei⟩:=List.getElem_of_mem hx
  obtain⟨j,i',_,e2⟩:=(en x.1 x.2).mpr ⟨i,by rw [<- Array.getElem?_toList,List.getElem?_eq_getElem hi,ei]⟩
  exact List.mem_of_getElem? (by rw [Array.getElem?_toList];exact e2)
 refine wpAny_storeSet_of ho hd (h _ (Heap.SameBut.update ..) ⟨{ o with data:=.set (Array.filterMap (λx=>es[x]?) ord) (ep+1) t' },_,_,t',?_,hx,rfl,⟨T,by rw [em,ez];exact hs,el.trans hl,nd,hp.trans pm⟩⟩) (by rw [ez,sizeLine_eq];have:=hs.le;omega)
 have:=Heap.get?_update_self (Obj.putSet (Array.filterMap (λx=>es[x]?) ord) t') ho (by rw [putSet_of _ t' hd];rfl)
 rw [putSet_of _ t' hd]at this
 exact this
theorem D4 {Q:Bool->Shared->Prop} (hu:A.units < cLine) (S:eB prog w a led zs s.heap) (hl:zs.length < 1000) (hk:IsTupleKey (aJ prog w) s.heap k b) (his:∀z∈zs,IsTupleKey (aJ prog w) s.heap z.1 z.2)
  (h:∀r h',Heap.SameBut a s.heap h'->eB prog w a led (iS zs (k,b)) h'->Q r { s with heap:=h' }):wpAny (model prog w) A (setAddHashed a (.ref b) (bo prog w k)) Q E s:=by
 obtain⟨o,es,ep,t,ho,hx,hd,D⟩:=S
 have hsz:es.size=zs.length:=by
  have:=D.pm.length_eq
  rw [List.length_map,Array.length_toList]at this
  exact this
 unfold setAddHashed setAddHashedIn
 refine wpAny_holding (zB0 (wpAny_setState_of ho hd D.fits ?_))
 dsimp only
 have bs:byScan (.ref b) es=false:=rfl
 rw [bs]
 simp only [Bool.false_eq_true,if_false]
 refine zB0 (xt hu ho hd D hk his (λhn j h1 h2 h3=>?_) λhy=>?_)
 ·refine zB0 (wpAny_setState_of ho hd D.fits ?_)
  dsimp only
  have ez:iS zs (k,b)=zs++[(k,b)]:=by unfold iS;rw [if_neg hn]
  have T1:=xg (x:=Value.ref b) D.tb h1 h2 h3
  have P1:(insertAt es (t.put j).2 (bo prog w k,Value.ref b)).toList.Perm ((zs++[(k,b)]).map (iG prog w)):=by
   refine(SetTable.insertAt_perm es _ _).trans ?_
   rw [Array.toList_push,List.map_append]
   exact D.pm.append_right _
  have N1:((zs++[(k,b)]).map (·.1)).Nodup:=by
   rw [List.map_append,List.nodup_append]
   refine⟨D.nd,by simp,λx hx y hy=>?_⟩
   simp only [List.map_cons,List.map_nil,List.mem_singleton]at hy
   subst hy
   exact λe=>hn (e ▸ hx)
  have zq:(t.put j).2<=es.size:=by rw [<- D.tb.tb.sz];exact(ff D.tb.tb.ris j).le
  have Z1:(insertAt es (t.put j).2 (bo prog w k,Value.ref b)).size=es.size+1:=iD _ _ _ zq
  have key:∀t1:SetTable,t1.mask=t.mask->t1.place=(t.put j).1.place->t1.dummies=(t.put j).1.dummies->t1.led=t.led->wpAny (model prog w) A (do
    storeSet a (insertAt es (t.put j).2 (bo prog w k,Value.ref b)) t1
    if (!false && t1.tooFull)=true then do
      setRelay a (SetTable.grown (es.size+1))
      pure true
     else pure true) Q E s:=λt1 q1 q2 q3 q4=>by
   have T2:Tbl t1 (insertAt es (t.put j).2 (bo prog w k,Value.ref b)):=tP (t:=(t.put j).1) q1 q2 q3 T1
   have g1:(s.heap.update a (Obj.putSet (insertAt es (t.put j).2 (bo prog w k,Value.ref b)) t1)).get? a=some { o with data:=.set (insertAt es (t.put j).2 (bo prog w k,Value.ref b)) (ep+1) t1 }:=by
    have:=Heap.get?_update_self (Obj.putSet (insertAt es (t.put j).2 (bo prog w k,Value.ref b)) t1) ho (by rw [putSet_of _ t1 hd];rfl)
    rw [putSet_of _ t1 hd]at this
    exact this
   have b1:=Heap.SameBut.update s.heap a (Obj.putSet (insertAt es (t.put j).2 (bo prog w k,Value.ref b)) t1)
   refine zB0 (wpAny_storeSet_of ho hd ?_ (by rw [Z1,sizeLine_eq];omega))
   have fl:t1.fill=es.size+1:=by
    unfold SetTable.fill
    rw [T2.tb.sz,T2.tb.dum,Z1]
    rfl
   rcases siz_next D.sz ‹1› with⟨f1,f2,f3⟩ | ⟨f1,f2⟩
   ·have tf:t1.tooFull=true:=by unfold tooFull;rw [fl,q1];exact decide_eq_true f1
    rw [tf,if_pos (show (!false && true)=true from rfl)]
    refine zB0 (Ar g1 hx rfl ?_ f2 (by rw [Z1];have:=f3.le;omega) (q4.trans D.ld) N1 P1 (by rw [Z1];exact f3) ?_ λh' b2 S2=>zP0 ?_)
    ·unfold SetTable.fits
     rw [fl,T2.tb.sz,q1,Z1,Bool.and_eq_true]
     have:=D.sz
     unfold Siz at this
     exact⟨beq_self_eq_true _,decide_eq_true ‹1›⟩
    ·exact P1.nodup_iff.mpr (sR N1 λz hz=>by
      rcases List.mem_append.mp hz with hz | hz
      ·exact his z hz
      ·rw [List.mem_singleton.mp hz];exact hk)
    ·exact h true h' (b1.trans b2) (by rw [ez];exact S2)
   ·have tf:t1.tooFull=false:=by unfold tooFull;rw [fl,q1];exact decide_eq_false f1
    rw [tf]
    refine zP0 (h true _ b1 (by rw [ez];exact⟨_,_,_,t1,g1,hx,rfl,⟨T2,by rw [Z1,q1];exact f2,q4.trans D.ld,N1,P1⟩⟩))
  split
  ·refine zB0 (Ca hk λr=>?_)
   cases r with
   | true=>
    simp only [if_true]
    exact key _ rfl rfl rfl rfl
   | false=>
    simp only [Bool.false_eq_true,if_false]
    exact key _ rfl rfl rfl rfl
  ·refine zB0 (zP0 ?_)
   simp only [if_true]
   exact key _ rfl rfl rfl rfl
 ·have ez:iS zs (k,b)=zs:=by unfold iS;rw [if_pos hy]
  exact zP0 (h false s.heap (Heap.SameBut.refl a s.heap) (by rw [ez];exact⟨o,es,ep,t,ho,hx,hd,D⟩))
end
end L2
namespace L2
open PySem PySem.Spec PyProof.Rows
noncomputable def dq (w:World):Bool:=!(w.params.followText "set-order")
theorem eB.at_ {P:Program}{w:World}{a:Addr}{led:Bool}{zs:List KZ}{h h':Heap} (x:eB P w a led zs h) (e:∀o,h.get? a=some o->h'.get? a=some o):eB P w a led zs h':=by
 obtain⟨o,es,ep,t,ho,r⟩:=x
 exact⟨o,es,ep,t,e o ho,r⟩
noncomputable def ddZ (zs:List KZ) (i:Nat):List KZ:=(zs.take i).foldl iS []
theorem oB {zs:List KZ}{i:Nat}{z:KZ} (h:zs[i]?=some z):ddZ zs (i+1)=iS (ddZ zs i) z:=by
 unfold ddZ
 rw [List.take_add_one,h,List.foldl_append]
 rfl
theorem addZ_mem {zs:List KZ}{z x:KZ} (h:x∈iS zs z):x∈zs\/x=z:=by
 unfold iS at h
 split at h
 ·exact .inl h
 ·rcases List.mem_append.mp h with h | h
  ·exact .inl h
  ·exact .inr (List.mem_singleton.mp h)
theorem mN {zs:List KZ}:∀(i:Nat){x:KZ},x∈ddZ zs i->x∈zs
 | 0,x,h=>by cases h
 | i+1,x,h=>by
  cases e:zs[i]? with
  | none=>
   have hl:zs.length<=i:=List.getElem?_eq_none_iff.mp e
   have:ddZ zs (i+1)=ddZ zs i:=by unfold ddZ;rw [List.take_of_length_le ‹1›,List.take_of_length_le hl]
   rw [this]at h
   exact mN i h
  | some z=>
   rw [oB e]at h
   rcases addZ_mem h with h | rfl
   ·exact mN i h
   ·exact List.mem_of_getElem? e
section
variable {prog:Program}{w:World}{A:Around}{R:Result->Shared->Prop}{it:Addr}{fp wr:List Addr}{G:Array GenState->Array GenState->Prop}{P:Nat->Value->Prop}{St:Nat->Shared->Prop}
def tm (zs:List KZ):Prop:=∀i,i < zs.length->(ddZ zs i).length < 1000
theorem rT {zs:List KZ} (W:WalksS prog w A.in1 it fp wr G zs.length P St) (S:Addr) (hS:S∉fp) (val:∀i v,P i v->∃z,zs[i]?=some z/\v=.ref z.2) (hb:tm zs) (hu:A.in1.units < cLine) (nS:∀z∈zs,z.2≠S/\z.2∉wr){led:Bool} :
  ∀(k i:Nat) (s:Shared),zs.length - i=k->i<=zs.length->St i s->(∀z∈zs,IsTupleKey (aJ prog w) s.heap z.1 z.2)->eB prog w S led (ddZ zs i) s.heap->
   (∀s',Moved (S::wr) G s s'->eB prog w S led (ddZ zs zs.length) s'.heap->R (.ok (.ret .none)) s')->
   codeAny (model prog w) A (.builtin "set.update.loop" ⟨[.ref S,.ref it],[]⟩) R s:=by
 have nw:S∉wr:=λz=>hS (W.sub _ z)
 have up:∀b∈wr,b∈S::wr:=λb z=>List.mem_cons_of_mem _ z
 intro k
 induction k with
 | zero=>
  intro i s ek le st ks x fin
  have e:i=zs.length:=by omega
  subst e
  refine codeAny_builtin F.entry_set_update_loop ?_
  rw [Around.under_plainId F.plain_set_update_loop _]
  show wpAny _ A.in1 (pyNext (.ref it) >>= _) _ _ s
  refine zB0 (W.done s _ _ st λs' mv=>?_)
  exact zP0 (fin s' (mv.mono up) (x.at_ λo e=>mv.heap S o nw e))
 | succ k ih=>
  intro i s ek le st ks x fin
  refine codeAny_builtin F.entry_set_update_loop ?_
  rw [Around.under_plainId F.plain_set_update_loop _]
  show wpAny _ A.in1 (pyNext (.ref it) >>= _) _ _ s
  refine zB0 (W.item i s _ _ ‹1› st λv s' pv st' mv=>?_)
  obtain⟨z,ez,rfl⟩:=val i v pv
  have hz:z∈zs:=List.mem_of_getElem? ez
  have x':=x.at_ λo e=>mv.heap S o nw e
  have ks':∀z∈zs,IsTupleKey (aJ prog w) s'.heap z.1 z.2:=λz hz=>by
   obtain⟨o,its,n,ho,r⟩:=ks z hz
   exact⟨o,its,n,mv.heap _ _ (nS z hz).2 ho,r⟩
  show wpAny _ A.in1 (holding [Value.ref z.2] (setAdd S (.ref z.2)) >>= _) _ _ s'
  refine zB0 (wpAny_holding ?_)
  unfold setAdd
  refine wpAny_holding ?_
  refine zB0 (wpAny_pyHash_tuple hu (ks' z hz) ?_)
  refine D4 (s:={ s' with toks:=s'.toks+(z.1.length+1) }) hu x' (hb i ‹1›) (ks' z hz) (λz' hz'=>ks' z' (mN i hz')) λr h' sb x2=>?_
  have x3:eB prog w S led (ddZ zs (i+1)) h':=by rw [oB ez];exact x2
  refine zP0 ⟨plainId_quiet F.plain_set_update_loop _,ih (i+1) _ ‹1› ‹1› (W.frame _ s' _ _ st' (Nat.le_add_right _ _) λb hb o e=>?_) (λz hz=>?_) x3 λs'' mv'' x4=>?_⟩
  ·rw [sb.2 b (λh:b=S=>hS (by rw [<- h];exact hb))];exact e
  ·obtain⟨o,its,n,ho,r⟩:=ks' z hz
   exact⟨o,its,n,(sb.2 z.2 (nS z hz).1).trans ho,r⟩
  ·refine fin s'' (Moved.trans W.gtrans ((mv.mono up).then_heap (Nat.le_add_right _ _) λb o hb e=>?_) mv'') x4
   rw [sb.2 b (λh:b=S=>hb (by rw [h];exact List.mem_cons_self))];exact e
end
section
variable {prog:Program}{w:World}{A:Around}{E:Value->Shared->Prop}{s:Shared}
open PySem.F in
theorem uj (a:Value){Q₁:Value->Shared->Prop} (h:Q₁ (.ref s.heap.objs.size) { s with heap:=s.heap.push (bN (dq w)) }) :
  codeAny (model prog w) A (.call (.builtin "set.__new__") ⟨[.type "set", a],[]⟩) (wants Q₁ E) s:=by
 refine codeAny_of_tree ?_
 show wpAny _ A.in1 (do checkBuiltinCall "set.__new__" ⟨[.type "set", a],[]⟩;again (.builtin "set.__new__" ⟨[.type "set", a],[]⟩)) _ _ s
 refine zB0 (wpAny_of_eq (F.newCall_set_1 a) (zP0 ⟨plainId_quiet F.plain_set_new _,codeAny_builtin F.entry_set_new ?_⟩))
 rw [Around.under_plainId F.plain_set_new _]
 unfold Builtin.«set.__new__» Builtin.Frozenset.newClass
 have hsub:=sub_set_self
 obtain⟨hp,g,d,tk,os⟩:=s
 dsimp only
 wp_walk
 refine wpAny_askSetting (zP0 ?_)
 dsimp only
 simp only [newObj]
 refine zB0 (wpAny_alloc (zP0 ?_))
 exact zP0 h
theorem Be (P:Program) (h:Heap){a:Addr} (hS:h.get? a=some (bN (dq w))):eB P w a (dq w) [] h:=by
 refine⟨_,#[],0,_,hS,⟨rfl,rfl,rfl⟩,rfl,⟨⟨⟨λi k hi=>absurd hi (Nat.not_lt_zero _),rfl,rfl,λi hi=>absurd hi (Nat.not_lt_zero _)⟩,λj h x ⟨i,e,_⟩=>?_⟩,.inl ⟨rfl,by show 0 < 5;omega⟩,rfl,.nil,.nil⟩⟩
 simp [SetTable.fresh]at e
theorem kq {l:Addr}{its:Array Value}{zs:List KZ}{Q:Value->Shared->Prop} (hh:A.handled=none) (hu:A.units+8 < cLine) (hl:s.heap.IsList l its) (hs:its.toList=zs.map λz=>Value.ref z.2) (hk:∀z∈zs,IsTupleKey (aJ prog w) s.heap z.1 z.2) (hb:tm zs)
  (q:∀(h':Heap) (tk:Nat),eB prog w s.heap.objs.size (dq w) (ddZ zs zs.length) h'->(∀a o,a < s.heap.objs.size->s.heap.get? a=some o->h'.get? a=some o)->Q (.ref s.heap.objs.size) { s with heap:=h',toks:=tk }) :
  wpAny (model prog w) A (call (.type "set") [.ref l]) Q E s:=by
 have ft:=PySem.F.called_set
 obtain⟨c0,tl0,m0⟩:=ft.mro
 have m1:=ft.made
 have m2:=ft.sub
 have hlen:its.size=zs.length:=by
  have:=congrArg List.length hs
  rw [Array.length_toList,List.length_map]at this
  exact this
 refine wpAny_call (codeAny_of_tree ?_)
 show wpAny _ _ (callAny (.type "set") _) _ _ _
 refine zP0 ⟨Code.quiet_builtin _ ‹0›,codeAny_builtin PySem.F.entry_type_call ?_⟩
 rw [Around.under_plain (weight_type_call_type "set" [.ref l] []) rfl]
 have m3:=ft.notType
 have m4:=ft.canCreate
 have m5:=PySem.F.typeCall_set_1 (.ref l)
 repeat (any_goals (first | assumption | wp_step))
 refine codeAny_mono (uj (.ref l) (E:=E) (Q₁:=λo s1=>o=.ref s.heap.objs.size/\s1={ s with heap:=s.heap.push (bN (dq w)) }) ⟨rfl,rfl⟩) λr s1 hr=>?_
 cases r with
 | error e=>exact hr
 | ok fl=>
  cases fl with
  | ret o=>
   obtain⟨rfl,rfl⟩:=hr
   generalize eb:dq w=b at q
   have hS:(s.heap.push (bN b)).get? s.heap.objs.size=some (bN b):=Heap.get?_push_size _ rfl
   have hT:Shared.TypeIs { s with heap:=s.heap.push (bN b) } (.ref s.heap.objs.size) "set":=⟨_,hS,rfl⟩
   have n1:=ft.init.lookup
   have n2:=ft.init.bind (.ref s.heap.objs.size)
   repeat (any_goals (first | assumption | wp_step))
   refine codeAny_mono (codeAny_call_builtin (R:=wants (λr s2=>r=.none/\∃h' tk,s2={ s with heap:=h',toks:=tk }/\eB prog w s.heap.objs.size b (ddZ zs zs.length) h'/\∀a o,a < s.heap.objs.size->s.heap.get? a=some o->h'.get? a=some o) E) ft.init.plain PySem.F.entry_set_init (PySem.check_set_init_1 hT ?_)) λr2 s2 hr2=>?_
   ·obtain⟨ol,hol,hcl,nl,hdl⟩:=hl
    obtain⟨oc,od,oa,os⟩:=ol
    simp only at hcl hdl
    subst hcl;subst hdl
    have ho1:(s.heap.push (bN b)).get? l=some { cls:=.type "list", dict:=od,data:=.seq its nl,slots:=os }:=zH0 _ hol
    have k1:=PySem.F.sub_list_set
    have k2:=PySem.F.sub_list_frozenset
    have k3:(Value.type "list" == Value.type "dict")=false:=by decide
    have l1:(s.heap.push (bN b)).IsList l its:=⟨_,ho1,rfl,nl,rfl⟩
    have lS:l < s.heap.objs.size:=Heap.lt_size hol
    unfold Builtin.«set.__init__» noKeywords Builtin.Frozenset.updateFrom
    generalize eI:pyIter=PI
    wp_walk
    subst eI
    refine wpAny_pyIter_list l1 ?_
    refine zB0 (wpAny_runValue ?_)
    have zp:(s.heap.push (bN b)).objs.size=s.heap.objs.size+1:=Heap.size_push _ _
    have d1:l≠(s.heap.push (bN b)).objs.size:=by rw [zp];exact Nat.ne_of_lt (Nat.lt_succ_of_lt lS)
    have d2:s.heap.objs.size∉[(s.heap.push (bN b)).objs.size,l]:=by
     rw [zp]
     intro z
     rcases List.mem_cons.mp z with z | z
     ·exact Nat.ne_of_lt (Nat.lt_succ_self _) z
     ·exact Nat.ne_of_gt lS (List.mem_singleton.mp z)
    have W:=(Walks.list (prog:=prog) (w:=w) (A:=A.in1.in1.in1) (by simp [hh]) _ l d1 its).toS
    rw [hlen]at W
    have zlt:∀z∈zs,z.2 < s.heap.objs.size:=λz hz=>by
     obtain⟨o,_,_,ho,_⟩:=hk z hz
     exact Heap.lt_size ho
    refine rT (led:=b) W s.heap.objs.size d2 (λi v hv=>?_) hb (by simp only [Around.in1];omega) (λz hz=>⟨Nat.ne_of_lt (zlt z hz),λy=>?_⟩) (zs.length - 0) 0 _ ‹1› (Nat.zero_le _) ⟨⟨_,Heap.get?_push_size _ rfl,rfl,rfl⟩,l1.push _⟩ ?ks ?s0 ?fin
    ·have hv:its.toList[i]?=some v:=by rw [Array.getElem?_toList];exact hv
     rw [hs,List.getElem?_map]at hv
     obtain⟨z,e1,e2⟩:=Option.map_eq_some_iff.mp hv
     exact⟨z,e1,e2.symm⟩
    ·have e:=List.mem_singleton.mp y
     rw [zp]at e
     have:=zlt z hz
     rw [e]at this
     exact absurd this (Nat.not_lt.mpr (Nat.le_succ _))
    case ks=>
     intro z hz
     obtain⟨o,i2,n2,ho,r⟩:=hk z hz
     exact⟨o,i2,n2,zH0 _ (zH0 _ ho),r⟩
    case s0=>rw [<- eb];exact Be prog _ (zH0 _ (by rw [eb];exact hS))
    case fin=>
     intro s' mv x
     obtain⟨h',g',d',tk',os'⟩:=s'
     obtain rfl:g'=s.gens:=mv.gens
     obtain rfl:d'=s.drawn:=mv.drawn
     obtain rfl:os'=s.os:=mv.os
     refine zP0 ?_
     show wpAny _ _ (ret Value.none) _ _ _
     refine zP0 ⟨rfl,h',tk',rfl,x,λa o ha e=>mv.heap a o (λz=>?_) (zH0 _ (zH0 _ e))⟩
     rcases List.mem_cons.mp z with z | z
     ·exact Nat.ne_of_lt ha z
     ·rw [zp]at z
      exact Nat.ne_of_lt (Nat.lt_succ_of_lt ha) (List.mem_singleton.mp z)
   ·cases r2 with
    | error e=>exact hr2
    | ok f2=>
     cases f2 with
     | ret r=>
      obtain⟨rfl,h',tk,rfl,x,kp⟩:=hr2
      repeat (any_goals (first | assumption | wp_step))
      exact q _ _ x kp
     | _=>exact hr2.elim
  | _=>exact hr.elim
end
section
variable {prog:Program}{w:World}{A:Around}{E:Value->Shared->Prop}{s:Shared}{it a tp:Addr}{i n ep slot nxt:Nat}{es:Array (Int × Value)}{t:SetTable}{x:Value}{Q:Option Value->Shared->Prop}
end
theorem jS {α:Type}:∀{l:List α}{i:Nat} (h:i < l.length),(l[i]::l.eraseIdx i).Perm l
 | a::l,0,_=>.refl _
 | a::l,i+1,h=>by
  rw [List.getElem_cons_succ,List.eraseIdx_cons_succ]
  exact(List.Perm.swap _ _ _).trans ((jS (Nat.lt_of_succ_lt_succ h)).cons a)
theorem qR {α:Type} (next:Nat->Nat):∀(fuel k:Nat) (left:List α) (out:Array α),left.length=fuel->(pickOrder.go next fuel k left out).toList.Perm (out.toList++left)
 | 0,k,left,out,h=>by
  rw [List.length_eq_zero_iff.mp h,List.append_nil]
  exact .refl _
 | fuel+1,k,left,out,h=>by
  have hlt:next k % left.length < left.length:=Nat.mod_lt _ ‹1›
  unfold pickOrder.go
  rw [List.getElem?_eq_getElem hlt]
  dsimp only
  refine(qR next fuel (k+1) _ _ (by rw [List.length_eraseIdx_of_lt hlt];omega)).trans ?_
  rw [Array.toList_push,List.append_assoc]
  refine List.Perm.append_left _ ?_
  exact jS hlt
theorem sr {α:Type} (next:Nat->Nat) (xs:Array α):(pickOrder next xs).toList.Perm xs.toList:=by
 have:=qR next xs.size 0 xs.toList #[] Array.length_toList
 unfold pickOrder
 simpa using this
section
variable {prog:Program}{w:World}{A:Around}{E:Value->Shared->Prop}
theorem yE {src:Source}{n:Nat}{s:Shared}{Q:Nat->Shared->Prop} (hn:n≠0) (h:∀i d,i < n->Q i { s with drawn:=d }):wpAny (model prog w) A (choose src n) Q E s:=by
 intro Γ p _
 unfold choose
 rw [Sem.wp_choose]
 exact⟨hn,h _ _ (Nat.mod_lt _ (Nat.pos_of_ne_zero hn))⟩
theorem zF {α:Type}:∀(n:Nat) (xs:List α) (s:Shared){Q:List α->Shared->Prop},xs.length=n->(∀ys d,ys.Perm xs->Q ys { s with drawn:=d })->wpAny (model prog w) A (drawOrder n xs) Q E s
 | 0,xs,s,Q,hl,h=>by
  unfold drawOrder
  exact zP0 (by have:=h [] s.drawn (by rw [List.length_eq_zero_iff.mp hl]);exact this)
 | n+1,[],s,Q,hl,h=>by cases hl
 | n+1,x::xs,s,Q,hl,h=>by
  unfold drawOrder
  refine zB0 (yE (by simp) λi d hi=>?_)
  rw [List.getElem?_eq_getElem hi]
  dsimp only
  refine zB0 (zF n _ _ (by rw [List.length_eraseIdx_of_lt hi];omega) λys d' hp=>zP0 ?_)
  exact h _ d' ((hp.cons _).trans (jS hi))
end
section
variable {prog:Program}{w:World}{A:Around}{E:Value->Shared->Prop}{s:Shared}{it a:Addr}{n ep:Nat}{es:Array (Int × Value)}{t:SetTable}
theorem yH {Q:Bool->Shared->Prop} (h:Q (!(dq w)) s):wpAny (model prog w) A setsByText Q E s:=by
 unfold setsByText
 refine zB0 (wpAny_askSetting (zP0 ?_))
 unfold dq at h
 rw [Bool.not_not]at h
 exact h
end
end L2
namespace L2
open PySem PySem.Spec PyProof.Rows PySem.W
section
variable {prog:Program}{w:World}{A:Around}{E:Value->Shared->Prop}{s:Shared}{a:Addr}{zs:List KZ}
end
end L2
namespace L2
open PySem PySem.Spec PyProof.Rows PySem.W
section
variable {prog:Program}{w:World}{A:Around}{E:Value->Shared->Prop}{s:Shared}
end
end L2
namespace L2
open PySem PySem.Spec PyProof.Rows PySem.W
theorem Inv.draw {X:Cx}{pins:List (Addr × Obj)}{σ:St}{H:Hp}{s:Shared} (I:Inv X pins σ H s) (d:Drawn):Inv X pins σ H { s with drawn:=d }:=⟨I.ok,I.os,I.bare,I.base,I.loc,I.cell,I.free,I.freeC,I.pin,I.hok,I.len⟩
inductive rSetT (P:Program) (w:World) (xs:List V) (H:Hp) (Q:VK):Prop
 | mk (a zs) (h1:xs=[.ref a]) (h2:H a=some (.lst (zs.map λz:KZ=>V.ref z.2))) (h3:∀z∈zs,H z.2=some (.tup (z.1.map kV))) (h4:tm zs) (h5:∀p,H p=none->Q (.ref p) (upd H p (.ext (eB P w p (dq w) (ddZ zs zs.length))))):rSetT P w xs H Q
theorem uX:∀{zs:List KZ}{us:List Value},aW (zs.map λz=>V.ref z.2) us->us=zs.map λz=>Value.ref z.2
 | [],_,r=>by cases r;rfl
 | z::zs,_,r=>by
  cases r with
  | cons h t=>
   rw [uX t,List.map_cons]
   congr 1
theorem lm {X:Cx} (hc:X.calm=true) (hu:X.A.units+8 < cLine):cW X (.type "set") (rSetT X.prog X.w):=by
 intro pins s σ H xs us Q I r h
 obtain⟨a,zs,rfl,hl,hz,hf,q⟩:=h
 obtain⟨u,rfl,ru⟩:=cB r
 cases (show u=Value.ref a from ru)
 obtain⟨its,rv,p,_⟩:=I.list (.inl (.of hl))
 refine kq (I.ok.hd hc) hu p.isList (by simpa using uX rv) (λz hz'=>gL I.hok (hz z hz')) hf λh' tk x kp=>?_
 refine⟨.ref s.heap.objs.size,_,I.laid (o:=.ext (eB X.prog X.w s.heap.objs.size (dq X.w) (ddZ zs zs.length))) (t':=tk) (h':=h') (λb u e=>kp b u (Heap.lt_size e) e) (Nat.le_refl _) (by
  obtain⟨o,_,_,_,e,_⟩:=id x
  exact⟨x,⟨o,e⟩,λh1 h2 e k=>e.at_ k⟩),rfl,q _ (I.hok.fresh (Nat.le_refl _))⟩
noncomputable abbrev RZ:=(Str × Int) × Addr
noncomputable def BG (r:RZ):List V:=[.str r.1.1,.int r.1.2]
noncomputable def cO (r:RZ):KZ:=([.inr r.1.1,.inl r.1.2],r.2)
section
variable {X:Cx}{pins:List (Addr × Obj)}{σ:St}{H:Hp}{s:Shared}{Q:VK}
end
end L2
namespace L2
open PySem PySem.Spec PyProof.Rows
noncomputable def bB (c:Addr) (v:V):Heap->Prop:=λh=>∃u,b8 v u/\h.IsCell c (some u)
theorem bB.st {c:Addr}{v:V}{h1 h2:Heap} (x:bB c v h1) (k:∀o,h1.get? c=some o->h2.get? c=some o):bB c v h2:=by
 obtain⟨u,r,o,e,d⟩:=x
 exact⟨u,r,o,k o e,d⟩
theorem bB.obj {c:Addr}{v:V}{h:Heap} (x:bB c v h):∃o,h.get? c=some o:=let ⟨_,_,o,e,_⟩:=x;⟨o,e⟩
noncomputable def kh (f:Addr) (name qual:Str) (params:Arguments) (body:List Stmt) (scope:Scope) (cl:List (Str × Addr)) (c:Addr):Heap->Prop:=λh=>∃doc pm ctv,h.get? f=some (PySem.W.fnMade name qual params body scope cl doc pm c ctv)
theorem kh.st {f:Addr}{name qual:Str}{params:Arguments}{body:List Stmt}{scope:Scope}{cl:List (Str × Addr)}{c:Addr}{h1 h2:Heap} (x:kh f name qual params body scope cl c h1) (k:∀o,h1.get? f=some o->h2.get? f=some o):kh f name qual params body scope cl c h2:=by
 obtain⟨d,pm,ctv,e⟩:=x
 exact⟨d,pm,ctv,k _ e⟩
noncomputable def fJ (cs:List Addr) (H:Hp):Hp:=λb=>if b∈cs then none else H b
noncomputable def back (cs:List Addr) (H H':Hp):Hp:=λb=>if b∈cs then H b else H' b
theorem gv {cs:List Addr}{H:Hp}{b:Addr} (h:b∈cs):fJ cs H b=none:=if_pos h
theorem bU {cs:List Addr}{H:Hp}{b:Addr} (h:b∉cs):fJ cs H b=H b:=if_neg h
theorem mQ {cs:List Addr}{H H':Hp}{b:Addr} (h:b∈cs):back cs H H' b=H b:=if_pos h
theorem cu {cs:List Addr}{H H':Hp}{b:Addr} (h:b∉cs):back cs H H' b=H' b:=if_neg h
theorem dN {cs:List Addr}{H:Hp}{b:Addr} (h:H b=none):fJ cs H b=none:=by
 by_cases z:b∈cs
 ·exact gv z
 ·rw [bU z];exact h
theorem wb {cs:List Addr}{H:Hp}{b:Addr}{o:HO} (h:fJ cs H b=some o):b∉cs/\H b=some o:=by
 by_cases z:b∈cs
 ·rw [gv z]at h;cases h
 ·rw [bU z]at h;exact⟨z,h⟩
structure ClScope (N ps:List Str) (cl:List (Str × Addr)) (sc:Scope):Prop where
 kind:sc.kind=.function
 co:sc.isCoroutine=false
 gen:sc.isGenerator=false
 nd:N.Nodup
 pre:N.take (ps.length+cl.length)=ps++cl.map (·.1)
 len:ps.length+cl.length<=N.length
 par:∀x∈ps,sc.names.lookup x=some .local
 fre:∀x∈cl.map (·.1),sc.names.lookup x=some .free
 nocell:∀x∈sc.names,x.2≠.cell
 all:∀x,sc.names.lookup x=some .free->x∈cl.map (·.1)
 addr:(cl.map (·.2)).Nodup
noncomputable def clX (P:Program) (w:World) (K:PySem.W.Frag) (mg:Str->Option Value) (base:Heap) (N:List Str) (qual:Str) (scope:Scope) (f:Addr) (cd:Value) (cl:List (Str × Addr)) (A:Around) (outer:List Env) (s:Shared) (H:Hp):Cx where
 prog:=P
 w:=w
 K:=K
 mg:=mg
 base:=base
 A:=A.deeper (PySem.W.envX qual scope s.heap.objs.size f cd cl)
 N:=N
 s₀:=s
 H₀:=H
 env:=PySem.W.envX qual scope s.heap.objs.size f cd cl
 outer:=outer
 stack:=PySem.W.envX qual scope s.heap.objs.size f cd cl::outer
 ex:=[]
 calm:=true
 fn:=λ_=>false
 pn:=[]
 xe:=λ_ _=>False
theorem dU {x:Str}{c:Addr}:∀{cl:List (Str × Addr)},cl.lookup x=some c->(x,c)∈cl
 | (y,d)::cl,h=>by
  rw [List.lookup_cons]at h
  by_cases z:x=y
  ·rw [beq_iff_eq.mpr z]at h
   cases h
   rw [z];exact List.mem_cons_self
  ·rw [beq_eq_false_iff_ne.mpr z]at h
   exact List.mem_cons_of_mem _ (dU h)
theorem iN {x:Str}:∀{cl:List (Str × Addr)},x∈cl.map (·.1)->∃c,cl.lookup x=some c
 | (y,d)::cl,h=>by
  rw [List.lookup_cons]
  by_cases z:x=y
  ·rw [beq_iff_eq.mpr z];exact⟨d,rfl⟩
  ·rw [beq_eq_false_iff_ne.mpr z]
   exact iN ((List.mem_cons.mp h).resolve_left z)
theorem ia {x:Str}{c:Addr}:∀{cl:List (Str × Addr)}{i:Nat},(cl.map (·.1)).Nodup->cl[i]?=some (x,c)->cl.lookup x=some c
 | (y,d)::cl,0,_,h=>by
  cases h
  rw [List.lookup_cons,beq_self_eq_true]
 | (y,d)::cl,i+1,nd,h=>by
  have nd:=List.nodup_cons.mp nd
  have hm:(x,c)∈cl:=List.mem_of_getElem? (show cl[i]?=some (x,c) from h)
  rw [List.lookup_cons,beq_eq_false_iff_ne.mpr (λz:x=y=>nd.1 (show y∈cl.map (·.1) from by rw [<- z];exact List.mem_map.mpr ⟨(x,c),hm,rfl⟩))]
  exact ia nd.2 h
theorem oJ {x y:Str}{c:Addr}:∀{cl:List (Str × Addr)},(cl.map (·.2)).Nodup->(x,c)∈cl->(y,c)∈cl->x=y
 | (z,d)::cl,nd,h1,h2=>by
  have nd:=List.nodup_cons.mp nd
  rcases List.mem_cons.mp h1 with e1 | k1
  ·rcases List.mem_cons.mp h2 with e2 | k2
   ·cases e1;cases e2;rfl
   ·cases e1;exact absurd (show c∈cl.map (·.2) from List.mem_map.mpr ⟨(y,c),k2,rfl⟩) nd.1
  ·rcases List.mem_cons.mp h2 with e2 | k2
   ·cases e2;exact absurd (show c∈cl.map (·.2) from List.mem_map.mpr ⟨(x,c),k1,rfl⟩) nd.1
   ·exact oJ nd.2 k1 k2
theorem jx {x:Str}{v:Value}:∀{ps:List Str}{us:List Value}{i:Nat},ps.Nodup->ps[i]?=some x->us[i]?=some v->(ps.zip us).reverse.lookup x=some v
 | p::ps,u::us,0,nd,h1,h2=>by
  cases h1;cases h2
  rw [List.zip_cons_cons,List.reverse_cons,List.lookup_append]
  have e:(ps.zip us).reverse.lookup x=none:=by
   refine List.lookup_eq_none_iff.mpr λq hq=>?_
   have hm:=List.mem_reverse.mp hq
   exact bne_iff_ne.mpr λz=>(List.nodup_cons.mp nd).1 (by rw [z];exact(List.of_mem_zip (a:=q.1) (b:=q.2) hm).1)
  rw [e]
  show List.lookup x [(x,v)]=some v
  rw [List.lookup_cons,beq_self_eq_true]
 | p::ps,u::us,i+1,nd,h1,h2=>by
  rw [List.zip_cons_cons,List.reverse_cons,List.lookup_append,jx (i:=i) (List.nodup_cons.mp nd).2 h1 h2]
  rfl
 | [],_,_,_,h,_=>by cases h
 | _::_,[],_,_,_,h=>by cases h
section
variable {P:Program}{w:World}{K:W.Frag}{mg:Str->Option Value}{base:Heap}{A:Around}{outer:List Env}{s:Shared}{H:Hp}{cs:List Addr}
theorem wq {h:Heap} (hk:HOk P w H h) (hcs:∀c∈cs,∃φ,H c=some (.ext φ)):HOk P w (fJ cs H) h:=λa o e=>by
 obtain⟨na,e⟩:=wb e
 refine(hk a o e).stay (λ_ _ _ q=>q) (λb q=>?_) λb xs q=>?_
 ·rw [bU (λz=>by obtain⟨φ,e⟩:=hcs b z;rw [e]at q;cases q)];exact q
 ·rw [bU (λz=>by obtain⟨φ,e⟩:=hcs b z;rw [e]at q;cases q)];exact q
theorem B6 {N ps:List Str}{cl:List (Str × Addr)}{qual:Str}{scope:Scope}{f:Addr}{cd:Value}{us:List Value}{vs cvs:List V}{h₁:Heap}{tk:Nat}
  (S:ClScope N ps cl scope) (hd:A.handled=none) (e0:Env0 P w K mg base A outer s H) (hl:vs.length=ps.length) (r:aW vs us) (hcl:Paired (λ(p:Str × Addr) v=>H p.2=some (.ext (bB p.2 v))) cl cvs)
  (hns:h₁.Ns s.heap.objs.size (λx=>(ps.zip us).reverse.lookup x)) (hk:∀b o,s.heap.get? b=some o->h₁.get? b=some o) :
  Inv (clX P w K mg base N qual scope f cd cl A outer s (fJ (cl.map (·.2)) H)) [] (cU N (vs++cvs)) (fJ (cl.map (·.2)) H) { s with heap:=h₁,toks:=tk }:=by
 have hcs:∀c∈cl.map (·.2),∃v,H c=some (.ext (bB c v)):=by
  have:∀{cl:List (Str × Addr)}{cvs:List V},Paired (λ(p:Str × Addr) v=>H p.2=some (.ext (bB p.2 v))) cl cvs->∀c∈cl.map (·.2),∃v,H c=some (.ext (bB c v)):=by
   intro cl cvs h
   induction h with
   | nil=>intro c hc;cases hc
   | cons a t ih=>
    intro c hc
    rcases List.mem_cons.mp hc with z | hc
    ·rw [z];exact⟨_,a⟩
    ·exact ih c hc
  exact this hcl
 have hcl2:=Paired.length hcl
 have cellAt:∀x c,cl.lookup x=some c->∃v,bB c v h₁:=λx c e=>by
  obtain⟨v,hv⟩:=hcs c (List.mem_map_of_mem (dU e))
  exact⟨v,bB.st (e0.hok c _ hv).1 (λo q=>hk c o q)⟩
 have noA:∀b:Addr,b∉(clX P w K mg base N qual scope f cd cl A outer s (fJ (cl.map (·.2)) H)).ex:=λb z=>absurd (show b∈([]:List Addr) from z) (by simp)
 have ndN:(ps++cl.map (·.1)).Nodup:=by rw [<- S.pre];exact S.nd.sublist (List.take_sublist _ _)
 refine⟨⟨e0.mod,S.kind,rfl,rfl,Nat.le_refl _,λy z c h1 h2=>oJ S.addr (dU h1) (dU h2),λy hy=>?_,λy c h _=>(by cases h),λ_=>hd,Around.frames_deeper e0.frames,.inr ⟨rfl,rfl⟩,λb z=>absurd z (noA b),λb o e=>⟨(e0.bs b o e).1,dN (e0.bs b o e).2⟩,e0.bsz,λb _ _=>noA b,λb z=>absurd z (noA b),e0.funs,λb hb=>dN (e0.frf b hb)⟩,
  rfl,e0.bare,Un.kept hk,⟨_,hns,λi y v h1 h2 h3=>?_⟩,λy c h=>?_,dN (e0.hok.fresh (Nat.le_refl _)),λy c h=>gv (List.mem_map_of_mem (dU h)),λp hp=>absurd (show p∈([]:List (Addr × Obj)) from hp) (by simp),(wq e0.hok λc hc=>let ⟨v,e⟩:=hcs c hc;⟨_,e⟩).kept hk,?_⟩
 ·have hy:scope.names.lookup y=some .cell\/scope.names.lookup y=some .free:=hy
  rcases hy with hy | hy
  ·exact absurd rfl (S.nocell _ (PySem.mem_of_lookup hy))
  ·exact iN (S.all y hy)
 ·have hi:i < (vs++cvs).length:=by
   unfold cU at h2
   by_cases hi:i < (vs++cvs).length
   ·exact hi
   ·rw [List.getElem?_append_right (by simpa using hi)]at h2
    rw [List.getElem?_replicate]at h2
    split at h2 <;> cases h2
  have ha:(vs++cvs)[i]?=some v:=by
   unfold cU at h2
   rw [List.getElem?_append_left (by simpa using hi),List.getElem?_map]at h2
   cases e:(vs++cvs)[i]? with
   | none=>rw [e]at h2;cases h2
   | some a=>rw [e]at h2;cases h2;rfl
  rw [List.length_append]at hi
  have hN:(ps++cl.map (·.1))[i]?=some y:=by
   rw [<- S.pre,List.getElem?_take_of_lt ‹1›];exact h1
  by_cases hlt:i < ps.length
  ·rw [List.getElem?_append_left hlt]at hN
   rw [List.getElem?_append_left ‹1›]at ha
   obtain⟨u,hu,rv⟩:=r.get ha
   exact⟨u,rv,.inl ⟨S.par y (List.mem_of_getElem? hN),jx (List.nodup_append.mp ndN).1 hN hu⟩⟩
  ·rw [List.getElem?_append_right ‹1›]at hN ha
   rw [hl]at ha
   rw [List.getElem?_map]at hN
   obtain⟨⟨y',c⟩,hp,e⟩:=Option.map_eq_some_iff.mp hN
   cases (show y'=y from e)
   have getP:∀{α β:Type}{F:α->β->Prop}{xs:List α}{ys:List β}{i:Nat}{x:α}{y:β},Paired F xs ys->xs[i]?=some x->ys[i]?=some y->F x y:=by
    intro α β F xs ys i x y h
    induction h generalizing i with
    | nil=>intro h;cases h
    | cons a t ih=>
     intro h1 h2
     cases i with
     | zero=>cases h1;cases h2;exact a
     | succ i=>exact ih h1 h2
   have hv:=getP hcl hp ha
   obtain⟨u,ru,hc⟩:=bB.st (e0.hok c _ hv).1 (λo q=>hk c o q)
   exact⟨u,ru,.inr ⟨.inr (S.fre y (List.mem_map_of_mem (List.mem_of_getElem? hp))),c,ia (List.nodup_append.mp ndN).2.1 hp,hc⟩⟩
 ·obtain⟨v,u,_,hc⟩:=cellAt y c h
  exact⟨_,hc⟩
 ·unfold cU
  show _=N.length
  have:=S.len
  rw [List.length_append,List.length_map,List.length_replicate,List.length_append]
  omega
theorem yG {H':Hp}{s':Shared}{Q:VK}{v:V}{u:Value} (e0:Env0 P w K mg base A outer s H) (hcs:∀c∈cs,∃v,H c=some (.ext (bB c v))) (os:s'.os=s.os) (bare:AllBare s'.gens) (un:Un (frs outer) [] (fJ cs H) H' s.heap s'.heap) (hok:HOk P w H' s'.heap) (rv:b8 v u) (q:Q v (back cs H H')):CE outer P w H s Q u s':=by
 have inC:∀c∈cs,∃o,s.heap.get? c=some o:=λc hc=>by
  obtain⟨v,e⟩:=hcs c hc
  exact(e0.hok c _ e).2.1
 have kC:∀c∈cs,∀o,s.heap.get? c=some o->s'.heap.get? c=some o:=λc hc o e=>un.keep c o e (gv hc) (λz=>by obtain⟨v,e⟩:=hcs c hc;rw [e0.frf c z]at e;cases e) (by simp)
 have nC:∀c∈cs,H' c=none:=λc hc=>by
  obtain⟨o,e⟩:=inC c hc
  exact un.free c o e (gv hc) (by simp)
 refine⟨v,back cs H H',os,bare,⟨λb o e n hb hx=>un.keep b o e (dN n) hb hx,λb o e n hb hx=>un.slot b o e (dN n) hb hx,λb o e n hx=>?_,un.there,λb xs e=>?_,λb o x e=>?_,λb ps e=>?_⟩,λa o e=>?_,rv,q⟩
 ·by_cases z:b∈cs
  ·rw [mQ z];exact n
  ·rw [cu z];exact un.free b o e (dN n) hx
 ·have z:b∉cs:=λz=>by obtain⟨v,e'⟩:=hcs b z;rw [e']at e;cases e
  rw [cu z];exact un.tups b xs (by rw [bU z];exact e)
 ·have z:b∉cs:=λz=>by obtain⟨v,e'⟩:=hcs b z;rw [e']at e;cases e
  rw [cu z];exact un.frzs b o x (by rw [bU z];exact e)
 ·have z:b∉cs:=λz=>by obtain⟨v,e'⟩:=hcs b z;rw [e']at e;cases e
  obtain⟨m,em⟩:=un.tbls b ps (by rw [bU z];exact e)
  exact⟨m,by rw [cu z];exact em⟩
 ·by_cases z:a∈cs
  ·rw [mQ z]at e
   obtain⟨v,ev⟩:=hcs a z
   rw [ev]at e
   cases e
   have x:=(e0.hok a _ ev)
   have x':bB a v s'.heap:=bB.st x.1 (kC a z)
   exact⟨x',x'.obj,λh1 h2 y k=>y.st k⟩
  ·rw [cu z]at e
   refine(hok a o e).stay (λ_ _ _ q=>q) (λb q=>?_) λb xs q=>?_
   ·rw [cu (λz=>by rw [nC b z]at q;cases q)];exact q
   ·rw [cu (λz=>by rw [nC b z]at q;cases q)];exact q
theorem yD {k:Nat}{N ps:List Str}{cl:List (Str × Addr)}{name qual:Str}{params:Arguments}{body:List Stmt}{scope:Scope}{f c':Addr}{us:List Value}{vs cvs:List V}{Q:VK}{E:XK}
  (hr:Room (k+1) A) (e0:Env0 P w K mg base A outer s H) (hf:H f=some (.ext (kh f name qual params body scope cl c'))) (hc:H c'=some (.ext (bD c' qual))) (hcl:Paired (λ(p:Str × Addr) v=>H p.2=some (.ext (bB p.2 v))) cl cvs)
  (S:ClScope N ps cl scope) (r:aW vs us) (hl:vs.length=ps.length) (hbind:∀(s:Shared) (doc pm ctv:Value),BindsTo s (PySem.W.fnX name qual params body scope cl .none .none doc pm none (.ref c') ctv) ⟨us,[]⟩ (ps.zip us))
  (hbody:Room k (A.deeper (PySem.W.envX qual scope s.heap.objs.size f (.ref c') cl))->∃t,PSs (clX P w K mg base N qual scope f (.ref c') cl A outer s (fJ (cl.map (·.2)) H)) body t/\
   t { nx:=λ_ H'=>(∀c∈cl.map (·.2),H' c=none)->Q .non (back (cl.map (·.2)) H H'),rt:=λv H'=>(∀c∈cl.map (·.2),H' c=none)->Q v (back (cl.map (·.2)) H H') } (cU N (vs++cvs)) (fJ (cl.map (·.2)) H)) :
  codeAny (model P w) A (.call (.ref f) ⟨us,[]⟩) (CR CX0 outer P w H s Q E) s:=by
 obtain⟨doc,pm,ctv,ho⟩:=(e0.hok f _ hf).1
 have hrec:s.heap.CodeRec (.ref c') qual:=(e0.hok c' _ hc).1
 have lim:s.heap.NoLimit:=e0.mod.nolimit.keeps λb o e=>(e0.bs b o e).1
 have hcs:∀c∈cl.map (·.2),∃v,H c=some (.ext (bB c v)):=by
  have:∀{cl:List (Str × Addr)}{cvs:List V},Paired (λ(p:Str × Addr) v=>H p.2=some (.ext (bB p.2 v))) cl cvs->∀c∈cl.map (·.2),∃v,H c=some (.ext (bB c v)):=by
   intro cl cvs h
   induction h with
   | nil=>intro c hc;cases hc
   | cons a t ih=>
    intro c hc
    rcases List.mem_cons.mp hc with z | hc
    ·rw [z];exact⟨_,a⟩
    ·exact ih c hc
  exact this hcl
 refine codeAny_call_def (fd:=PySem.W.fnX name qual params body scope cl .none .none doc pm none (.ref c') ctv) (body:=body) (binds:=ps.zip us) hr.depth ho rfl lim hrec rfl (hbind s doc pm ctv) S.nocell (λx hx=>S.par x.1 (List.of_mem_zip (a:=x.1) (b:=x.2) hx).1) (λh₁ hns hk=>?_) S.co S.gen S.kind
 obtain⟨t,ht,hq⟩:=hbody (hr.deeper _)
 have I:=B6 (qual:=qual) (f:=f) (cd:=.ref c') (tk:=s.toks+(ps.zip us).length) S hr.hd e0 hl r hcl hns hk
 refine wpAny_mono (ht [] _ _ _ _ I hq) (λfl s' hs=>?_) λe s' hs=>False.elim hs
 have fin:∀{σ':St}{H':Hp}{v:V}{u:Value},Inv (clX P w K mg base N qual scope f (.ref c') cl A outer s (fJ (cl.map (·.2)) H)) [] σ' H' s'->b8 v u->((∀c∈cl.map (·.2),H' c=none)->Q v (back (cl.map (·.2)) H H'))->CE outer P w H s Q u s':=
  λ{σ' H' v u} J rv q=>yG e0 hcs J.os J.bare J.base J.hok rv (q λc hc=>by
   obtain⟨v,e⟩:=hcs c hc
   obtain⟨o,eo⟩:=(e0.hok c _ e).2.1
   exact J.base.free c o eo (gv hc) (by simp [clX]))
 cases fl with
 | ret u=>
  obtain⟨v,σ',H',J,rv,q⟩:=hs
  exact fin J rv q
 | next=>
  obtain⟨σ',H',J,q⟩:=hs
  exact fin (v:=V.non) (u:=Value.none) J rfl q
 | brk=>
  obtain⟨_,_,_,q⟩:=hs
  exact False.elim q
 | cont=>
  obtain⟨_,_,_,q⟩:=hs
  exact False.elim q
end
noncomputable def Cm (P:Addr) (pos:Pos) (name q:Str) (params:Arguments) (body:List Stmt) (scope:Scope) (clos:List (Str × Addr)) (i:Nat):TS:=λD σ H=>kA P pos q H/\
 ∀H' f c,Go P pos q H H'->H f=none->H' c=some (.ext (bD c q))->H' f=some (.ext (kh f name q params body scope clos c))->D.nx (σ.set i (some (.ref f))) H'
theorem Ay {X:Cx}{name q:Str}{params:Arguments}{body:List Stmt}{scope:Scope}{pos:Pos}{clos:List (Str × Addr)}{i:Nat}{c P:Addr} (hN:X.N.Nodup) (hi:X.N[i]?=some name) (hx:Loc X.env.scope name) (hcd:X.env.code=.ref c) (hC:PySem.W.CodeHd X.base c P) (hB:X.base.BuiltinsAt X.mg P)
  (hcl:closureFor scope X.env=pure clos) (hd0:params.defaults=[]:=by rfl) (hk0:params.kw_defaults=[]:=by rfl) (ha:annTrees params none X.env=[]:=by rfl) (hq:qualnameIn X.env name name=q:=by rfl)
  (hf:X.fn name=true\/X.env.scope.names.lookup name=some .local:=by first | exact .inl rfl | exact .inr rfl | assumption):PS X (.FunctionDef name params body [] none [] scope none name pos) (Cm P pos name q params body scope clos i):=by
 intro pins s σ H D I hh
 obtain⟨L,h⟩:=hh
 refine PySem.W.nestDef_K hd0 hk0 ha ?_
 rw [hq]
 have hg:s.heap.Ns mainGlobals X.mg:=I.ok.mod.glob.keeps I.bk
 have hgP:mainGlobals≠P:=λz=>by
  obtain⟨o,es,ep,e,_⟩:=I.ok.mod.glob
  have n:=(I.bs _ _ e).2
  obtain⟨ps,eP⟩:=L.tbl
  rw [z,eP]at n
  cases n
 rcases L with L | ⟨c1,L,Lc⟩
 ·have hP:s.heap.get? P=some (PySem.W.tabObj #[]):=I.hok P _ L
  have hPlt:P < s.heap.objs.size:=Heap.lt_size hP
  refine PySem.W.makeFunction_K hcl I.ok.glob hg hcd (hC.keeps I.bk) hP trivial rfl hgP (hB.keeps I.bk) λc' ctv doc h' tk hx' hge hlt hrec htb=>?_
  have fge:s.heap.objs.size<=h'.objs.size:=Nat.le_trans hge (Nat.le_of_lt hlt)
  have nc:H c'=none:=I.hok.fresh hge
  have nf:H h'.objs.size=none:=I.hok.fresh fge
  have cP:c'≠P:=Nat.ne_of_gt (Nat.lt_of_lt_of_le hPlt hge)
  have fP:h'.objs.size≠P:=Nat.ne_of_gt (Nat.lt_of_lt_of_le hPlt fge)
  have cf:c'≠h'.objs.size:=Nat.ne_of_lt hlt
  have I1:=I.table (h':=h'.push (PySem.W.fnMade name q params body scope clos doc ((X.mg "__name__").getD .none) c' ctv)) (more:=#[rawInt pos.line,rawInt pos.col,.ref c']) (t':=tk) L
   (λb o z q=>zH0 _ (hx' b o z q)) (zH0 _ htb)
  have e0:(#[]:Array Value)++#[rawInt pos.line,rawInt pos.col,.ref c'] = #[rawInt pos.line,rawInt pos.col,.ref c']:=by simp
  rw [e0]at I1
  have rec':bD c' q (h'.push (PySem.W.fnMade name q params body scope clos doc ((X.mg "__name__").getD .none) c' ctv)):=
   bD.st (show bD c' _ h' from hrec) λo q=>zH0 _ q
  have I2:=I1.track (a:=c') (o:=.ext (bD c' q)) (Nat.le_trans I.sz hge) (I.fpOk hge (by rw [ai cP];exact nc)) ⟨rec',rec'.obj,λh1 h2 x k=>x.st k⟩
  have fn':kh h'.objs.size name q params body scope clos c' (h'.push (PySem.W.fnMade name q params body scope clos doc ((X.mg "__name__").getD .none) c' ctv)):=⟨_,_,_,Heap.get?_push_size _ rfl⟩
  have I3:=I2.track (a:=h'.objs.size) (o:=.ext (kh h'.objs.size name q params body scope clos c')) (Nat.le_trans I.sz fge)
   (I.fpOk fge (by rw [ai cf.symm,ai fP];exact nf)) ⟨fn',⟨_,Heap.get?_push_size _ rfl⟩,λh1 h2 x k=>x.st k⟩
  refine fM I3 hN hi hx (v:=.ref h'.objs.size) rfl (λs' I'=>⟨_,_,I',h _ _ c' ⟨λb o z q=>?_,.inr ⟨c',?_,?_⟩⟩ nf ?_ ar⟩) hf
  ·rw [ai (ao q nf),ai (ao q nc),ai z];exact q
  ·rw [ai fP.symm,ai cP.symm,ar]
  ·rw [ai cf,ar]
  ·rw [ai cf,ar]
 ·have hP:s.heap.get? P=some (PySem.W.tabObj #[rawInt pos.line,rawInt pos.col,.ref c1]):=I.hok P _ L
  refine PySem.W.makeFunction_hit (cv:=.ref c1) hcl I.ok.glob hg hcd (hC.keeps I.bk) hP (by simp [TriplesOk,rawInt]) (by simp [codeAmong,rawInt]) (hB.keeps I.bk) λctv doc h' tk hk hsz=>?_
  have nf:H h'.objs.size=none:=I.hok.fresh hsz
  have fn':kh h'.objs.size name q params body scope clos c1 (h'.push { cls:=.type "function", data:=.func (PySem.W.fnX name q params body scope clos .none .none doc ((X.mg "__name__").getD .none) none (.ref c1) ctv) }):=⟨_,_,_,Heap.get?_push_size _ rfl⟩
  have I1:=I.laid (a:=h'.objs.size) (o:=.ext (kh h'.objs.size name q params body scope clos c1)) (t':=tk) (λb u q=>zH0 _ (hk b u q)) hsz ⟨fn',⟨_,Heap.get?_push_size _ rfl⟩,λh1 h2 x k=>x.st k⟩
  refine fM I1 hN hi hx (v:=.ref h'.objs.size) rfl (λs' I'=>⟨_,_,I',h _ _ c1 (Go.new (.inr ⟨c1,L,Lc⟩) nf) nf ?_ ar⟩) hf
  rw [ai (ao Lc nf)];exact Lc
def PSr (X:Cx) (b:List Stmt) (t:(V->St->Hp->Prop)->St->Hp->Prop):Prop:=
 ∀(pins:List (Addr × Obj)) (s:Shared) (σ:St) (H:Hp) (R:V->St->Hp->Prop),Inv X pins σ H s->t R σ H->
  wpAny (model X.prog X.w) X.A (execs b X.env) (λfl s'=>∃u v σ' H',fl=.ret u/\Inv X pins σ' H' s'/\b8 v u/\R v σ' H') X.xe s
theorem xS {X:Cx}{e:Expr}{te:TE}{pos:Pos} (h:PE X e te):PSr X [.Return (some e) pos] (λR σ H=>te σ H λv H'=>R v σ H'):=by
 intro pins s σ H R I hh
 refine wpAny_execs_cons ?_
 refine wpAny_Return_some (thn (h pins s σ H _ I hh) λu s1 ⟨v,H1,I1,r,q⟩=>?_)
 exact⟨u,v,σ,H1,rfl,I1,r,q⟩
theorem va {X:Cx}{st:Stmt}{rest:List Stmt}{t:TS}{u:(V->St->Hp->Prop)->St->Hp->Prop} (h1:PS X st t) (h2:PSr X rest u):PSr X (st::rest) (λR σ H=>t { nx:=u R,rt:=λ_ _=>False } σ H):=by
 intro pins s σ H R I h
 refine wpAny_execs_cons (thn (h1 pins s σ H { nx:=u R,rt:=λ_ _=>False } I h) λf s1 q=>?_)
 cases f with
 | next=>
  obtain⟨σ',H',I',q⟩:=q
  exact h2 pins s1 σ' H' R I' q
 | ret v=>obtain⟨_,_,_,_,_,q⟩:=q;exact False.elim q
 | brk=>obtain⟨_,_,_,q⟩:=q;exact False.elim q
 | cont=>obtain⟨_,_,_,q⟩:=q;exact False.elim q
noncomputable def iP (cs:List (Addr × V)) (H:Hp):Hp:=λb=>match cs.lookup b with
 | some v=>some (.ext (bB b v))
 | none=>H b
theorem cG {cs:List (Addr × V)}{H:Hp}{b:Addr} (h:cs.lookup b=none):iP cs H b=H b:=by unfold iP;rw [h]
theorem ke {cs:List (Addr × V)}{H:Hp}{b:Addr}{v:V} (h:cs.lookup b=some v):iP cs H b=some (.ext (bB b v)):=by unfold iP;rw [h]
def rM (X:Cx) (σ:St) (cs:List (Addr × V)):Prop:=∀c v,cs.lookup c=some v->∃(i:Nat) (x:Str),X.N[i]?=some x/\σ[i]?=some (some v)/\X.env.scope.names.lookup x=some .cell/\X.env.cells.lookup x=some c
theorem oG {CX:CXT}{P:Program}{w:World}{K:W.Frag}{mg:Str->Option Value}{base:Heap}{N:List Str}{qual:Str}{scope:Scope}{f:Addr}{cd:Value}{A:Around}{outer:List Env}{s s':Shared}{H H':Hp}{E:XK}{σ:St}{cs:List (Addr × V)}{Q:VK}{v:V}{u:Value}
  (J:Inv (jU CX P w K mg base N qual scope f cd A outer s H E) [] σ H' s') (C:rM (jU CX P w K mg base N qual scope f cd A outer s H E) σ cs) (rv:b8 v u) (q:(∀c v,cs.lookup c=some v->H' c=none)->Q v (iP cs H')):CE outer P w H s Q u s':=by
 have at':∀c v,cs.lookup c=some v->bB c v s'.heap/\s.heap.objs.size<=c/\H' c=none:=λc v e=>by
  obtain⟨i,x,h1,h2,h3,h4⟩:=C c v e
  obtain⟨m,hn,hl⟩:=J.loc
  obtain⟨u,ru,lk⟩:=hl i x v h1 h2 (.inr (.inl h3))
  refine⟨?_,J.ok.cab x c rfl h4,J.freeC x c h4⟩
  rcases lk with⟨k,_⟩ | ⟨_,c',e',hc⟩
  ·have k:scope.names.lookup x=some .local:=k
   have h3:scope.names.lookup x=some .cell:=h3
   rw [h3]at k;cases k
  ·rw [h4]at e'
   cases e'
   exact⟨u,ru,hc⟩
 have q:=q λc v e=>(at' c v e).2.2
 have old:∀b o,s.heap.get? b=some o->cs.lookup b=none:=λb o e=>by
  cases z:cs.lookup b with
  | none=>rfl
  | some v=>exact absurd (Nat.lt_of_lt_of_le (Heap.lt_size e) (at' b v z).2.1) (Nat.lt_irrefl _)
 have trk:∀b o,H' b=some o->cs.lookup b=none:=λb o e=>by
  cases z:cs.lookup b with
  | none=>rfl
  | some v=>rw [(at' b v z).2.2]at e;cases e
 have un:=J.base
 refine⟨v,iP cs H',J.os,J.bare,⟨un.keep,un.slot,λb o e n hx=>?_,un.there,λb xs e=>?_,λb o x e=>?_,λb ps e=>?_⟩,λa o e=>?_,rv,q⟩
 ·rw [cG (old b o e)];exact un.free b o e n hx
 ·have r:=un.tups b xs e
  rw [cG (trk _ _ r)];exact r
 ·have r:=un.frzs b o x e
  rw [cG (trk _ _ r)];exact r
 ·obtain⟨m,r⟩:=un.tbls b ps e
  exact⟨m,by rw [cG (trk _ _ r)];exact r⟩
 ·cases z:cs.lookup a with
  | some v=>
   rw [ke z]at e
   cases e
   have x:=(at' a v z).1
   exact⟨x,x.obj,λh1 h2 y k=>y.st k⟩
  | none=>
   rw [cG z]at e
   refine(J.hok a o e).stay (λ_ _ _ q=>q) (λb q=>?_) λb xs q=>?_
   ·rw [cG (trk _ _ q)];exact q
   ·rw [cG (trk _ _ q)];exact q
theorem Fun.okA {P:Program}{w:World}{K:W.Frag}{mg:Str->Option Value}{base:Heap}{x qual:Str}{st:Stmt}{f:Addr}{fd:FuncData}{N ps:List Str}{k:Nat}{sp:Sp} (F:Fun K x qual st f fd) (S:FnScope N ps (aq st)) (len:∀vs H Q E,sp vs H Q E->vs.length=ps.length)
  (hbody:∀(cdv:Value) (A:Around) (outer:List Env) (s:Shared) (H:Hp) (vs:List V) (Q:VK) (E:XK),Room k (A.deeper (envOfC qual (aq st) s.heap.objs.size f cdv))->(∃oc od kV doc pm an ct osl,K.lookup f=some ⟨oc,od,.func (PySem.W.fnOf x qual (dG st) (cz st) (aq st) .none kV doc pm an cdv ct),osl⟩)->sp vs H Q E->
   ∃t,PSr (jU CX0 P w K mg base N qual (aq st) f cdv A outer s H E) (cz st) t/\t (λv σ H'=>∃cs,rM (jU CX0 P w K mg base N qual (aq st) f cdv A outer s H E) σ cs/\((∀c v,cs.lookup c=some v->H' c=none)->Q v (iP cs H'))) (cU N vs) H):FnOk P w K mg base CX0 (k+1) f fd ps sp:=by
 obtain⟨oc,od,kV,doc,pm,an,cdv,ct,osl,rfl,lk,hcd⟩:=F.ex
 refine⟨len,λA outer s H args us vs Q E hr e0 hb r hsp=>?_⟩
 have hl:=len _ _ _ _ hsp
 have KX:K.In s.heap:=e0.mod.kin.keeps λb o e=>(e0.bs b o e).1
 have lim:s.heap.NoLimit:=e0.mod.nolimit.keeps λb o e=>(e0.bs b o e).1
 have hkind:∀y∈ps.zip us,(aq st).names.lookup y.1=some .local\/((aq st).names.lookup y.1=some .cell/\((cellsFrom (s.heap.objs.size+1) (aq st).names []).lookup y.1).isSome=true):=λ⟨n,v⟩ hy=>by
  rcases S.par n (List.of_mem_zip hy).1 with q | q
  ·exact .inl q
  ·exact .inr ⟨q,PySem.W.cellsFrom_some _ _ _ (.inl q)⟩
 refine codeAny_call_function hr.depth (KX _ _ lk) rfl S.co S.gen rfl (PySem.W.codeRec_of KX hcd) (hb _ _ _ _ ?_)
 refine wpAny_newFunctionEnv_cells S.kind hkind λenv he s1 x=>?_
 subst he
 refine⟨lim.keeps x.toInCall.keep,codeAny_func ?_⟩
 obtain⟨t,ht,hq⟩:=hbody cdv A outer s H vs Q E (hr.deeper _) ⟨oc,od,kV,doc,pm,an,ct,osl,lk⟩ hsp
 have I:Inv (jU CX0 P w K mg base N qual (aq st) f cdv A outer s H E) [] (cU N vs) H s1:=lb S hr.hd e0 hl r x
 refine wpAny_mono (ht [] s1 (cU N vs) H _ I hq) (λfl s' hs=>?_) λe s' hs=>hs
 obtain⟨u,v,σ',H',rfl,J,rv,cs,C,q⟩:=hs
 exact oG J C rv q
def zH (P:Program) (w:World) (K:PySem.W.Frag) (mg:Str->Option Value) (base:Heap) (k:Nat) (f:Addr) (sp:Sp):Prop:=
 ∀(A:Around) (outer:List Env) (s:Shared) (H:Hp) (us:List Value) (vs:List V) (Q:VK) (E:XK),Room k A->Env0 P w K mg base A outer s H->aW vs us->sp vs H Q E->codeAny (model P w) A (.call (.ref f) ⟨us,[]⟩) (CR CX0 outer P w H s Q E) s
def FnH (H:Hp) (f:Addr):Prop:=∃φ,H f=some (.ext φ)/\∀h,φ h->PySem.W.FnAt f h
theorem FnH.of {H:Hp}{f c:Addr}{name qual:Str}{params:Arguments}{body:List Stmt}{scope:Scope}{cl:List (Str × Addr)} (h:H f=some (.ext (kh f name qual params body scope cl c))):FnH H f:=
 ⟨_,h,λh ⟨_,_,_,e⟩=>⟨_,_,_,_,e⟩⟩
inductive tCallV (V:Addr->Sp->Prop) (tv:TE) (t:TA) (σ:St) (H:Hp) (Q:VK):Prop
 | mk (h:tv σ H λx H1=>∃(f:Addr) (sp:Sp),x=.ref f/\V f sp/\FnH H1 f/\t σ H1 λvs H2=>FnH H2 f/\sp vs H2 Q E0):tCallV V tv t σ H Q
theorem eX {X:Cx}{k:Nat}{V:Addr->Sp->Prop}{x:Str}{p pos:Pos}{e:Expr}{es:List Expr}{tv:TE}{t:TA} (hV:∀f sp,V f sp->zH X.prog X.w X.K X.mg X.base k f sp) (hv:PE X (.Name x p) tv) (hr:Room k X.A) (hx:eC CX0 X E0) (ha:PA X (e::es) t)
  (he:starEach (e::es) X.env=(false,eval e X.env)::starEach es X.env:=by rfl) (hpl:(backTo pos (starEach es X.env)).any (·.1)=false:=by rfl):PE X (.Call (.Name x p) (e::es) [] pos) (tCallV V tv t):=by
 intro pins s σ H Q I h
 obtain⟨h⟩:=h
 refine wpAny_Call_Name_kw (thn (hv pins s σ H _ I h) λu s1 ⟨v,H1,I1,rx,f,sp,ex,vc,hf1,q⟩=>?_)
 subst ex
 obtain rfl:u=Value.ref f:=rx
 have fa:∀{H:Hp}{s:Shared},Inv X pins σ H s->FnH H f->PySem.W.FnAt f s.heap:=λ{H s} I ⟨φ,e,k⟩=>k _ (I.hok f _ e).1
 refine PySem.W.callWith_F (first:=[]) (fa I1 hf1) (thn (ha pos pins s1 σ H1 _ I1 q) λus s2 ⟨vs,H2,I2,r,hf2,q2⟩=>⟨fa I2 hf2,?_⟩) he hpl
 refine wpAny_call (codeAny_mono (hV f sp vc X.A X.stack s2 H2 us vs Q E0 hr I2.env0 r q2) λr s' hq=>?_)
 cases r with
 | error e=>exact hx pins σ H2 s2 e s' I2 hq
 | ok fl=>
  cases fl with
  | ret u=>exact I2.after hq
  | next=>exact False.elim hq
  | brk=>exact False.elim hq
  | cont=>exact False.elim hq
noncomputable def zO (V:Addr->Sp->Prop) (m:Str) (E:XK) (ta:TE) (t:TA):TE:=λσ H Q=>ta σ H λx H1=>∃a C dx fs sp,x=.ref a/\H1 a=some (.ins C dx fs)/\V C sp/\fs.lookup m=none/\
 t σ H1 λvs H2=>sp (x::vs) H2 Q E
section
variable {X:Cx}{CX:CXT}{k:Nat}{ps:List Str}{E:XK}{m:Str}{pos apos:Pos}{e o:Expr}{es:List Expr}{ta:TE}{t:TA}
theorem bH {V:Addr->Sp->Prop}{pl:Sem Bool} (hV:∀C sp,V C sp->MV X.prog X.w X.K X.mg X.base CX m k ps sp C) (he:PE X o ta) (hr:Room k X.A) (hx:eC CX X E) (ha:PA X (e::es) t)
  (hst:starEach (e::es) X.env=(false,eval e X.env)::starEach es X.env:=by rfl) (hpl:(backTo pos (starEach es X.env)).any (·.1)=false:=by rfl)
  (ht:eval (.Call (.Attribute o m apos) (e::es) [] pos) X.env=(do
   let ov <- eval o X.env
   standAt apos.atName
   let (f,first) <- holding [ov] (getMethod ov m pl)
   callWith pos f first (backTo pos (starEach (e::es) X.env)) (backToKw pos (keywordEach [] X.env))):=by rfl) :
  PE X (.Call (.Attribute o m apos) (e::es) [] pos) (zO V m E ta t):=by
 intro pins s σ H Q I h
 refine PySem.W.methodCall_KW (pl:=pl) (thn (he pins s σ H _ I h) λu s1 ⟨x,H1,I1,rx,a,C,dx,fs,sp,ex,ea,vc,l,q⟩=>?_) ht
 obtain⟨c,f,fd,hm,F,hb⟩:=hV C sp vc
 subst ex
 obtain rfl:u=Value.ref a:=rx
 refine fq I1 ea c hm l ?_
 refine PySem.W.callWith_K (first:=[.ref a]) (h₀:=X.base) I.ok.mod.kin hm.kp (thn (ha pos pins s1 σ H1 _ I1 q) λus s2 ⟨vs,H2,I2,r,q2⟩=>⟨I2.kIn,?_⟩) hst hpl
 exact ir (us:=.ref a::us) (vs:=.ref a::vs) (dvs:=[]) F hr hb .nil hx I2 (.cons rfl r) (by rw [List.append_nil];exact q2)
end
end L2
namespace Mine
open PySem L2
variable {P:Program}{w:World}{K:W.Frag}{mg:Str->Option Value}{base:Heap}
noncomputable abbrev bR:Stmt:=top 59
noncomputable abbrev nA:Stmt:=(cz bR).getD 0 (.Pass ⟨0,0,0,0⟩)
noncomputable abbrev yQ:Pos:=⟨416,4,418,57⟩
noncomputable abbrev jg:Str:=("_law_telling" : Str)++".<locals>."++"_law_told"
abbrev Lm (T:Addr) (H:Hp):Prop:=kA T yQ jg H
abbrev Gm (T:Addr) (H H':Hp):Prop:=Go T yQ jg H H'
noncomputable def clT (c1 c2:Addr):List (Str × Addr):=[("_law_table_here", c1),("_law_asked", c2)]
inductive Tld (H:Hp) (f la tb:Addr):Prop
 | mk (c1 c2 c':Addr) (n12:c1≠c2) (hf:H f=some (.ext (kh f "_law_told" jg (dG nA) (cz nA) (aq nA) (clT c1 c2) c'))) (hc:H c'=some (.ext (bD c' jg))) (h1:H c1=some (.ext (bB c1 (.ref tb)))) (h2:H c2=some (.ext (bB c2 (.ref la)))):Tld H f la tb
theorem Tld.keep {H H':Hp}{f la tb:Addr} (t:Tld H f la tb) (k:∀b φ,H b=some (.ext φ)->H' b=some (.ext φ)):Tld H' f la tb:=by
 obtain⟨c1,c2,c',n,hf,hc,h1,h2⟩:=t
 exact⟨c1,c2,c',n,k _ _ hf,k _ _ hc,k _ _ h1,k _ _ h2⟩
noncomputable def tel (kvs:List (List Key × V)) (k:Str) (d:Int):V:=(valV kvs [.inr k,.inl d]).getD .non
inductive Askd (H:Hp) (la:Addr) (rs:List RZ):Prop
 | mk (h1:H la=some (.lst (rs.map λr=>V.ref r.2))) (h2:∀r∈rs,H r.2=some (.tup (BG r))):Askd H la rs
noncomputable def zW (f la tb:Addr) (kvs:List (List Key × V)):Sp:=λvs H Q _=>∃(k:Str) (d:Int) (rs:List RZ),vs=[.str k,.int d]/\Tld H f la tb/\H tb=some (.dT kvs)/\Askd H la rs/\rs.length < 1000000/\
 ∀(p:Addr) (H':Hp),H p=none->Off la H H'->Askd H' la (rs++[((k,d),p)])->Q (tel kvs k d) H'
inductive VT (f:Addr) (sp:Sp):Prop
 | mk (la tb:Addr) (kvs:List (List Key × V)) (h:sp=zW f la tb kvs):VT f sp
theorem xu (c1 c2:Addr) (n:c1≠c2):ClScope ["_law_name", "_law_day", "_law_table_here", "_law_asked"] ["_law_name", "_law_day"] (clT c1 c2) (aq nA) where
 kind:=rfl
 co:=rfl
 gen:=rfl
 nd:=‹0›
 pre:=rfl
 len:=by show 4<=4;decide
 par:=‹0›
 fre:=by show ∀x∈[("_law_table_here" : Str),"_law_asked"],_;decide +kernel
 nocell:=‹0›
 all:=λx h=>by
  have h:=PySem.mem_of_lookup h
  have:∀p∈(aq nA).names,p.2=.free->p.1∈[("_law_table_here" : Str),"_law_asked"]:=‹0›
  exact this _ h rfl
 addr:=by
  show [c1,c2].Nodup
  simp [n]
theorem dJ:∀f sp,VT f sp->zH P w K mg base 1 f sp:=by
 rintro f sp ⟨la,tb,kvs,rfl⟩ A outer s H us vs Q E hr e0 r h
 obtain⟨k,d,rs,rfl,T,ht,⟨hl,hrs⟩,hlen,q⟩:=h
 obtain⟨c1,c2,c',n12,hf,hc,h1,h2⟩:=T
 obtain⟨u1,u2,rfl⟩:∃u1 u2,us=[u1,u2]:=by
  cases r with
  | cons a r=>
   cases r with
   | cons b r=>
    cases r
    exact⟨_,_,rfl⟩
 refine yD (k:=0) (cvs:=[.ref tb,.ref la]) hr e0 hf hc (.cons h1 (.cons h2 .nil)) (xu c1 c2 n12) r rfl (λs doc pm ctv=>.of_eq rfl) λhr'=>?_
 have hu:=aK hr'
 refine⟨_,(ae (bg (cM PySem.F.plainAttrs_list PySem.F.slot_list_append PySem.F.type_list_append dM (pv 3) (aa (bW (aa (pv 0) (aa (pv 1) ac))) ac)))
   (ah (ax (nK hu (pv 2) (bW (aa (pv 0) (aa (pv 1) ac))) ⟨rfl,rfl,rfl,rfl⟩)))),?_⟩
 have nla:la∉(clT c1 c2).map (·.2):=λz=>by
  rcases List.mem_cons.mp z with z | z
  ·rw [z,h1]at hl;cases hl
  ·rw [List.mem_singleton.mp z,h2]at hl;cases hl
 have ntb:tb∉(clT c1 c2).map (·.2):=λz=>by
  rcases List.mem_cons.mp z with z | z
  ·rw [z,h1]at ht;cases ht
  ·rw [List.mem_singleton.mp z,h2]at ht;cases ht
 have hcs:∀c∈(clT c1 c2).map (·.2),∃φ,H c=some (.ext φ):=λc hc=>by
  rcases List.mem_cons.mp hc with z | z
  ·rw [z];exact⟨_,h1⟩
  ·rw [List.mem_singleton.mp z];exact⟨_,h2⟩
 have hl1:fJ ((clT c1 c2).map (·.2)) H la=some (.lst (rs.map λr=>V.ref r.2)):=by rw [bU nla];exact hl
 have ht1:fJ ((clT c1 c2).map (·.2)) H tb=some (.dT kvs):=by rw [bU ntb];exact ht
 refine af (be ⟨_,rfl,.inl ⟨rfl,_,SqL.of hl1⟩,_,rfl,_,rfl,by show 2<=sizeLine;decide,λp np=>?_⟩)
 have npl:p≠la:=λz=>by rw [z,hl1]at np;cases np
 have npt:p≠tb:=λz=>by rw [z,ht1]at np;cases np
 refine⟨la,_,_,rfl,rfl,by rw [ai (Ne.symm npl)];exact hl1,by rw [List.length_map];exact Nat.lt_of_lt_of_le hlen (by decide),?_⟩
 dsimp only
 have ltb:la≠tb:=λz=>by rw [z,ht]at hl;cases hl
 refine aA ⟨_,rfl,tb,rfl,.inr ⟨kvs,.of (by rw [ai (Ne.symm ltb),ai (Ne.symm npt)];exact ht1)⟩,_,rfl,_,rfl,by show 2<=sizeLine;decide,λp2 np2=>?_⟩
 have p2l:p2≠la:=λz=>by rw [z,ar]at np2;cases np2
 have p2p:p2≠p:=λz=>by rw [z,ai npl,ar]at np2;cases np2
 have p2t:p2≠tb:=λz=>by rw [z,ai (Ne.symm ltb),ai (Ne.symm npt),ht1]at np2;cases np2
 refine⟨_,.inr ⟨kvs,[.inr k,.inl d],p2,.of (by rw [ai (Ne.symm p2t),ai (Ne.symm ltb),ai (Ne.symm npt)];exact ht1),rfl,ar,rfl⟩,?_⟩
 intro nC
 have pC:p∉(clT c1 c2).map (·.2):=λz=>by
  have:=nC p z
  rw [ai (Ne.symm p2p),ai npl,ar]at this
  cases this
 have p2C:p2∉(clT c1 c2).map (·.2):=λz=>by
  have:=nC p2 z
  rw [ar]at this
  cases this
 have np0:H p=none:=by rw [bU pC]at np;exact np
 have np20:H p2=none:=by
  rw [ai p2l,ai p2p,bU p2C]at np2
  exact np2
 have off:∀b o,H b=some o->b≠la->back ((clT c1 c2).map (·.2)) H (upd (upd (upd (fJ ((clT c1 c2).map (·.2)) H) p (.tup [.str k,.int d])) la (.lst ((rs.map λr=>V.ref r.2)++[.ref p]))) p2 (.tup [.str k,.int d])) b=some o:=λb o e n=>by
  by_cases z:b∈(clT c1 c2).map (·.2)
  ·rw [mQ z];exact e
  ·rw [cu z,ai (ao e np20),ai n,ai (ao e np0),bU z];exact e
 refine q p _ np0 off ⟨?_,λr hr=>?_⟩
 ·rw [cu nla,ai (Ne.symm p2l),ar,List.map_append]
  rfl
 ·rcases List.mem_append.mp hr with hr | hr
  ·refine off _ _ (hrs r hr) λz=>?_
   have:=hrs r hr
   rw [z,hl]at this
   cases this
  ·rw [List.mem_singleton.mp hr]
   show back _ _ _ p=_
   rw [cu pC,ai (Ne.symm p2p),ai npl,ar]
   rfl
noncomputable def kK (T:Addr):Sp:=λvs H Q _=>∃(tb la:Addr),vs=[.ref tb,.ref la]/\Lm T H/\∀(f:Addr) (H':Hp),H f=none->Gm T H H'->Tld H' f la tb->Q (.ref f) H'
theorem kO:FnScope ["_law_table_here", "_law_asked", "_law_told"] ["_law_table_here", "_law_asked"] (aq bR):=‹2›
theorem pW {f c T:Addr}{fd:FuncData}{oc kV doc pm ct:Value}{od an:Option Addr}{osl:Array (Option Value)} (F:Fun K "_law_telling" "_law_telling" bR f fd)
  (lk:K.lookup f=some ⟨oc,od,.func (PySem.W.fnOf "_law_telling" "_law_telling" (dG bR) (cz bR) (aq bR) .none kV doc pm an (.ref c) ct),osl⟩) (hC:PySem.W.CodeHd base c T) (hB:base.BuiltinsAt mg T) :
  FnOk P w K mg base CX0 2 f fd ["_law_table_here", "_law_asked"] (kK T):=by
 refine F.okA (k:=1) kO (λvs H Q E h=>?_) λcdv A outer s H vs Q E hr hk h=>?_
 ·obtain⟨tb,la,rfl,_⟩:=h
  rfl
 ·obtain⟨tb,la,rfl,L,q⟩:=h
  obtain⟨oc',od',kV',doc',pm',an',ct',osl',lk'⟩:=hk
  rw [lk]at lk'
  have ec:cdv=.ref c:=by
   have e:=congrArg (λo:Option Obj=>o.map λx=>match x.data with | .func fd=>fd.code | _=>Value.none) lk'
   exact(Option.some.inj e).symm
  subst ec
  refine⟨_,va (Ay (i:=2) (clos:=clT (s.heap.objs.size+1) (s.heap.objs.size+2)) (q:=jg) kO.nd rfl (Or.inl rfl) rfl hC hB rfl) (xS (pv 2)),?_⟩
  refine⟨L,λH' f' c' G nf hc hf=>?_⟩
  refine⟨_,rfl,[(s.heap.objs.size+1,.ref tb),(s.heap.objs.size+2,.ref la)],?_,λnC=>?_⟩
  ·intro c v e
   rw [List.lookup_cons]at e
   by_cases z:c=s.heap.objs.size+1
   ·rw [beq_iff_eq.mpr z]at e
    cases e
    rw [z]
    exact⟨0,"_law_table_here", rfl,rfl,(show (aq bR).names.lookup _=_ from ‹0›),rfl⟩
   ·rw [beq_eq_false_iff_ne.mpr z,List.lookup_cons]at e
    by_cases z2:c=s.heap.objs.size+2
    ·rw [beq_iff_eq.mpr z2]at e
     cases e
     rw [z2]
     exact⟨1,"_law_asked", rfl,rfl,(show (aq bR).names.lookup _=_ from ‹0›),rfl⟩
    ·rw [beq_eq_false_iff_ne.mpr z2]at e
     cases e
  ·have out:∀b o,H' b=some o->iP [(s.heap.objs.size+1,V.ref tb),(s.heap.objs.size+2,V.ref la)] H' b=some o:=λb o e=>by
    rw [cG ?_]
    ·exact e
    ·cases z:List.lookup b [(s.heap.objs.size+1,V.ref tb),(s.heap.objs.size+2,V.ref la)] with
     | none=>rfl
     | some v=>rw [nC b v z]at e;cases e
   refine q f' _ nf ⟨λb o n e=>out _ _ (G.same b o n e),?_⟩ ⟨s.heap.objs.size+1,s.heap.objs.size+2,c',Nat.ne_of_lt (Nat.lt_succ_self _),out _ _ hf,out _ _ hc,ke ?_,ke ?_⟩
   ·rcases G.lam with e | ⟨c1,e1,e2⟩
    ·exact .inl (out _ _ e)
    ·exact .inr ⟨c1,out _ _ e1,out _ _ e2⟩
   ·rw [List.lookup_cons,beq_self_eq_true]
   ·rw [List.lookup_cons,beq_eq_false_iff_ne.mpr (Nat.ne_of_gt (Nat.lt_succ_self _)),List.lookup_cons,beq_self_eq_true]
noncomputable def aH (k:Str) (f:Int) (n:Nat):List (Str × Int):=(List.range n).map λi:Nat=>(k,f+i)
noncomputable def len2 (f l:Int):Nat:=(l+1 - f).toNat
noncomputable def nmV:V->Option Int
 | .int n=>some n
 | _=>none
noncomputable def kl (vs:List V):List Int:=vs.filterMap nmV
def di (v:V):Prop:=v=.non\/∃n,v=.int n
def x9 (kvs:List (List Key × V)):Prop:=∀k d,di (tel kvs k d)
theorem vS (us vs:List V):kl (us++vs)=kl us++kl vs:=List.filterMap_append
noncomputable def dB (T:Str->Int->V) (ps:List (Str × Int)):List V:=ps.map λp=>T p.1 p.2
noncomputable def gat (w:Str) (ns:List Int):V:=if w=‹"sum"› then .int ns.sum else if w=‹"count"› then .int ns.length else if w=‹"least"› then ee ns else eA ns
inductive TeA (f la tb:Addr) (kvs:List (List Key × V)) (H:Hp) (rs:List RZ):Prop
 | mk (t:Tld H f la tb) (ht:H tb=some (.dT kvs)) (ha:Askd H la rs):TeA f la tb kvs H rs
noncomputable def prs (rs:List RZ):List (Str × Int):=rs.map (·.1)
theorem TeA.off {f la tb:Addr}{kvs:List (List Key × V)}{H H':Hp}{rs rs':List RZ} (h:TeA f la tb kvs H rs) (o:Off la H H') (a:Askd H' la rs'):TeA f la tb kvs H' rs':=by
 obtain⟨t,ht,⟨h1,_⟩⟩:=h
 refine⟨t.keep λb φ e=>o _ _ e λz=>?_,o _ _ ht λz=>?_,a⟩
 ·rw [z,h1]at e;cases e
 ·rw [z,h1]at ht;cases ht
theorem Askd.grow {la:Addr}{H H':Hp}{rs:List RZ} (h:Askd H la rs) (g:aZ H H'):Askd H' la rs:=by
 obtain⟨h1,h2⟩:=h
 exact⟨g _ _ h1,λr hr=>g _ _ (h2 r hr)⟩
theorem TeA.grow {f la tb:Addr}{kvs:List (List Key × V)}{H H':Hp}{rs:List RZ} (h:TeA f la tb kvs H rs) (g:aZ H H'):TeA f la tb kvs H' rs:=by
 obtain⟨t,ht,a⟩:=h
 exact⟨t.keep λb φ e=>g _ _ e,g _ _ ht,a.grow g⟩
theorem TeA.lst {f la tb:Addr}{kvs:List (List Key × V)}{H:Hp}{rs:List RZ} (h:TeA f la tb kvs H rs):∃xs,H la=some (.lst xs):=let ⟨_,_,⟨h1,_⟩⟩:=h;⟨_,h1⟩
theorem Askd.off {la b:Addr}{H H':Hp}{rs:List RZ} (h:Askd H la rs) (n:b≠la) (nr:∀xs,H b≠some (.tup xs)) (g:∀b' o,H b'=some o->b'≠b->H' b'=some o):Askd H' la rs:=by
 obtain⟨h1,h2⟩:=h
 exact⟨g _ _ h1 (Ne.symm n),λr hr=>g _ _ (h2 r hr) λz=>nr _ (by rw [<- z];exact h2 r hr)⟩
theorem Tld.fn {H:Hp}{f la tb:Addr} (t:Tld H f la tb):FnH H f:=by
 obtain⟨_,_,_,_,hf,_,_,_⟩:=t
 exact FnH.of hf
theorem qA {f la tb:Addr}{kvs:List (List Key × V)}{H:Hp}{rs:List RZ}{k:Str}{d:Int}{Q:VK} (h:TeA f la tb kvs H rs) (hl:rs.length < 1000000) (q:∀(p:Addr) (H':Hp),Off la H H'->Askd H' la (rs++[((k,d),p)])->Q (tel kvs k d) H'):∃sp,VT f sp/\FnH H f/\FnH H f/\sp [.str k,.int d] H Q E0:=by
 obtain⟨t,ht,a⟩:=h
 exact⟨_,⟨la,tb,kvs,rfl⟩,t.fn,t.fn,k,d,rs,rfl,t,ht,a,hl,λp H' _ o a'=>q p H' o a'⟩
theorem wN {f la tb:Addr}{kvs:List (List Key × V)}{rs:List RZ}{k:Str}{lo:Int}{n:Nat}{sub:List Nat}{te:TE}{σ:St}{Q:VK}{H:Hp} (hT:TeA f la tb kvs H rs) (hn:n<=1000) (hl:rs.length+n < 1000000)
  (hte:∀(d:Int) (H2:Hp) (rs2:List RZ) (R:VK),TeA f la tb kvs H2 rs2->rs2.length < 1000000->(∀(p:Addr) (H3:Hp),Off la H2 H3->Askd H3 la (rs2++[((k,d),p)])->R (tel kvs k d) H3)->te (some (.int d)::bG sub σ) H2 R)
  (hq:∀(D:Addr) (H':Hp) (rs':List RZ),H D=none->Off la H H'->Askd H' la rs'->prs rs'=prs rs++aH k lo n->H' D=some (.lst (dB (tel kvs) (aH k lo n)))->Q (.ref D) H'):gb (Itr lo n) sub (λ_ H Q=>Q true H) te σ Q H:=by
 intro D nD
 have nDl:D≠la:=λz=>by obtain⟨xs,e⟩:=hT.lst;rw [z,e]at nD;cases nD
 refine ed (lo:=lo) (n:=n) (sub:=sub) (tt:=λ_ H Q=>Q true H) (te:=te) (Q:=Q) (σ:=σ) (λi ys H2=>∃rs2,ys=dB (tel kvs) (aH k lo i)/\H2 D=some (.lst ys)/\Off la H H2/\TeA f la tb kvs H2 rs2/\prs rs2=prs rs++aH k lo i) ⟨rs,rfl,ar,Off.grow (laid nD).1,hT.grow (laid nD).1,by rw [show aH k lo 0=[] from rfl,List.append_nil]⟩ (λi ys H2 hi hh=>?_) λys H2 hh=>?_
 ·obtain⟨rs2,rfl,e2,o2,t2,p2⟩:=hh
  have hz:rs2.length=rs.length+i:=by
   have:=congrArg List.length p2
   unfold prs aH at this
   rw [List.length_append,List.length_map,List.length_map,List.length_map,List.length_range]at this
   exact this
  refine bb (hte _ _ rs2 _ t2 ‹1› λp H3 o3 a3=>?_)
  have nD3:∀xs,H3 D≠some (.tup xs):=λxs z=>by rw [o3 _ _ e2 nDl]at z;cases z
  have a4:=a3.off (b:=D) (H':=upd H3 D (.lst (dB (tel kvs) (aH k lo i)++[tel kvs k (lo+i)]))) nDl nD3 (λb' o e n=>by rw [ai n];exact e)
  have ep:aH k lo (i+1)=aH k lo i++[(k,lo+i)]:=by unfold aH;rw [List.range_succ,List.map_append];rfl
  have o4:Off la H2 (upd H3 D (.lst (dB (tel kvs) (aH k lo i)++[tel kvs k (lo+i)])))\/True:=.inr trivial
  refine⟨o3 _ _ e2 nDl,?_,rs2++[((k,lo+i),p)],?_,ar,λb o e nb=>?_,?_,?_⟩
  ·unfold dB aH;rw [List.length_map,List.length_map,List.length_range];exact bh ‹1›
  ·rw [ep];unfold dB;rw [List.map_append];rfl
  ·rw [ai (ao e nD)];exact o3 _ _ (o2 _ _ e nb) nb
  ·obtain⟨tt,ht,_⟩:=t2.off o3 a3
   refine⟨tt.keep λb φ e=>?_,?_,a4⟩
   ·rw [ai λz=>by rw [z,o3 _ _ e2 nDl]at e;cases e];exact e
   ·rw [ai λz=>by rw [z,o3 _ _ e2 nDl]at ht;cases ht];exact ht
  ·rw [ep,<- List.append_assoc,<- p2]
   unfold prs
   rw [List.map_append]
   rfl
 ·obtain⟨rs2,rfl,e2,o2,t2,p2⟩:=hh
  obtain⟨_,_,a2⟩:=t2
  exact hq D H2 rs2 nD o2 a2 p2 e2
noncomputable def fi:Sp:=λvs H Q _=>∃(f la tb:Addr) (kvs:List (List Key × V)) (rs:List RZ) (k:Str) (f0 l0:Int),vs=[.ref f,.str k,.int f0,.int l0]/\TeA f la tb kvs H rs/\kB f0 l0/\rs.length < 950000/\
 ∀(D:Addr) (H':Hp) (rs':List RZ),H D=none->Off la H H'->Askd H' la rs'->prs rs'=prs rs++aH k f0 (len2 f0 l0)->H' D=some (.lst (dB (tel kvs) (aH k f0 (len2 f0 l0))))->Q (.ref D) H'
noncomputable abbrev ip:Stmt:=top 28
theorem oX:FnScope ["told", "key", "first", "last"] ["told", "key", "first", "last"] (aq ip):=‹2›
theorem nQ {f:Addr}{fd:FuncData} (F:Fun K "tellings" "tellings" ip f fd) (N:Free mg):FnOk P w K mg base CX0 3 f fd ["told", "key", "first", "last"] fi:=by
 refine F.ok (k:=2) oX (λvs H Q E h=>?_) (λcdv A outer s H vs Q E hr h=>?_)
 ·obtain⟨f,la,tb,kvs,rs,k,f0,l0,rfl,_⟩:=h
  rfl
 ·obtain⟨f,la,tb,kvs,rs,k,f0,l0,rfl,hT,⟨d0,d1,d2⟩,hl,q⟩:=h
  have hu:=aK hr
  refine⟨_,(ah (ax (fH (bz rfl (dL rfl N.range (aa (pv 2) (aa (aL bx (pv 3) aj) ac))) rfl rfl (by show ∀p∈_,gc [‹"told"›, ‹"key"›] p;decide) (by decide) rfl (by show ([‹"day"›, ‹"told"›, ‹"key"›]:List Str).Nodup;decide) (.cons (i:=0) rfl (.inr (.inl rfl)) (by show (some NameKind.cell)≠some NameKind.local;decide) (.inl rfl) rfl (.cons (i:=1) rfl (.inr (.inl rfl)) (by show (some NameKind.cell)≠some NameKind.local;decide) (.inl rfl) rfl .nil)) (λC fp s H=>cw) (λC fp s H=>(eX dJ (pv 1) (hr.mono (by decide)) au (aa (pv 2) (aa (pv 0) ac)))))))),?_⟩
  refine aA (ce ?_)
  refine⟨_,rfl,_,rfl,_,_,rfl,rfl,f0,l0+1,rfl,⟨by omega,by omega,by omega,by omega⟩,?_⟩
  have en:(l0+1 - f0).toNat=len2 f0 l0:=rfl
  have hn:len2 f0 l0<=400:=by unfold len2;omega
  refine wN (n:=len2 f0 l0) hT ‹1› ‹1› (λd H2 rs2 R h2 hl2 hR=>?_) λD H' rs' nD o a p e=>q D H' rs' nD o a p e
  obtain⟨sp,hv,h3,h4,h5⟩:=qA (k:=k) (d:=d) h2 hl2 hR
  exact⟨_,rfl,f,sp,rfl,hv,h3,_,rfl,_,rfl,h4,h5⟩
noncomputable abbrev iq:Stmt:=top 29
noncomputable def jo:Sp:=λvs H Q _=>∃(w:Str) (lv:Addr) (ns:List Int),vs=[.str w,.ref lv]/\H lv=some (.lst (ns.map V.int))/\Q (gat w ns) H
theorem pb:FnScope ["word", "values"] ["word", "values"] (aq iq):=‹2›
theorem nR {f:Addr}{fd:FuncData} (F:Fun K "gathered" "gathered" iq f fd) (N:Free mg):FnOk P w K mg base CX0 1 f fd ["word", "values"] jo:=by
 refine F.ok (k:=0) pb (λvs H Q E h=>?_) (λcdv A outer s H vs Q E hr h=>?_)
 ·obtain⟨w,lv,ns,rfl,_⟩:=h
  rfl
 ·obtain⟨w,lv,ns,rfl,hl,q⟩:=h
  have hu:=aK hr
  refine⟨_,(ae (ba (aI bM (pv 0) aD (aP _)) (ah (ax (aG (sU rfl) (by rfl) N.sum PyProof.Rows.Boot.«sum» (aa (pv 1) ac)))) aF)
   (ae (ba (aI bM (pv 0) aD (aP _)) (ah (ax (aG aN (by rfl) N.len PySem.boot_len (aa (pv 1) ac)))) aF)
   (ae (ba (aI bM (pv 0) aD (aP _)) (ah (ax (vi rfl rfl N.min (aa (pv 1) ac) (qQ dm vb)))) aF)
   (ah (ax (vj rfl rfl N.max (aa (pv 1) ac) (qQ dm vb))))))),?_⟩
  unfold gat at q
  refine af (aE ⟨_,rfl,rfl,_,rfl,?_⟩)
  by_cases h1:w=‹"sum"›
  ·rw [if_pos h1]at q
   rw [decide_eq_true (show V.str w=V.str ‹"sum"› by rw [h1])]
   exact bb (aA ⟨_,rfl,lv,ns,rfl,SqL.of hl,q⟩)
  rw [if_neg h1]at q
  rw [decide_eq_false (λz=>h1 (V.str.inj z))]
  refine aS (aB ?_)
  dsimp only
  refine af (aE ⟨_,rfl,rfl,_,rfl,?_⟩)
  by_cases h2:w=‹"count"›
  ·rw [if_pos h2]at q
   rw [decide_eq_true (show V.str w=V.str ‹"count"› by rw [h2])]
   refine bb (aA ⟨_,rfl,lv,_,rfl,.inl (SqL.of hl),?_⟩)
   rw [List.length_map]
   exact q
  rw [if_neg h2]at q
  rw [decide_eq_false (λz=>h2 (V.str.inj z))]
  refine aS (aB ?_)
  dsimp only
  refine af (aE ⟨_,rfl,rfl,_,rfl,?_⟩)
  by_cases h3:w=‹"least"›
  ·rw [if_pos h3]at q
   rw [decide_eq_true (show V.str w=V.str ‹"least"› by rw [h3])]
   exact bb (aA ⟨_,rfl,lv,ns,rfl,rfl,SqL.of hl,q⟩)
  rw [if_neg h3]at q
  rw [decide_eq_false (λz=>h3 (V.str.inj z))]
  refine aS (aB ?_)
  dsimp only
  exact aA ⟨_,rfl,lv,ns,rfl,rfl,SqL.of hl,q⟩
end Mine
namespace L2
open PySem PySem.Spec PyProof.Rows
noncomputable def Itn (hi:Int) (n:Nat):It:=⟨λi _=>i < n,λi H x H'=>H'=H/\x=.int (hi - i),λi _=>n<=i⟩
def Bh (it:Addr) (hi:Int) (n i:Nat) (h:Heap):Prop:=IsRangeIter h it (hi+(i:Nat) * (-1)) ((n:Int) - (i:Nat)) (-1)
theorem rP {P:Program}{w:World}{K:W.Frag}{tg:Expr} (it:Addr) (hi:Int) (n:Nat):Turn P w K tg (Itn hi n) [it] it (Bh it hi n) where
 mem:=List.mem_singleton.mpr rfl
 obj:=λi h st b hb=>by
  rw [List.mem_singleton.mp hb]
  exact⟨_,st,λv z=>by
   have z':Data.fields _=Data.cell v:=z
   cases z'⟩
 keep:=λi h h' st k=>k it (List.mem_singleton.mpr rfl) _ st
 item:=by
  intro X hP hw hK hc i pins s σ H E I hf st hg
  subst hP hw hK
  obtain⟨f0,f1,f2,f3,f4,f5⟩:=hf it (by simp)
  refine(Walks.range (prog:=X.prog) (w:=X.w) (I.ok.hd hc) it hi (-1) n).item i s _ _ hg st λv h' tk hv st' kk=>?_
  obtain⟨t,rfl⟩:=hv
  have I1:Inv X pins σ H { s with heap:=h',toks:=tk }:=I.turned (λb o hb e=>kk b o (by simpa using hb) e) f0 f1 f3 f4 f5
  refine⟨_,rfl,lc (s:={ s with heap:=h',toks:=tk }) (n:="range_iterator") st' rfl rfl (by decide) ⟨.int (hi - i),H,I1,⟨t,?_⟩,⟨rfl,rfl⟩,st',λb hb=>(hf b hb).1⟩⟩
  rw [show hi+(i:Int) * -1=hi - i from by omega]
 done:=by
  intro X hP hw hK hc i pins s σ H E I hf st hg
  subst hP hw hK
  obtain⟨f0,f1,f2,f3,f4,f5⟩:=hf it (by simp)
  exact wpAny_pyNext_range_end (I.ok.hd hc) st (by have:n<=i:=hg;omega) λh' eb=>⟨rfl,I.turned (t':=s.toks) (λb o hb e=>eb b o hb e) f0 f1 f3 f4 f5⟩
 self:=λ_ _ _ _ _ st h=>wpAny_pyIter_rangeiter st h
theorem kM (a b:Int):Builtin.Range.rangeSize a b (-1)=if b < a then a - b else 0:=by
 unfold Builtin.Range.rangeSize
 rw [if_neg (by decide),show -(-1:Int)=1 from rfl,Int.ediv_one]
 split <;> omega
theorem oV {a b:Int} (h1 : -(2 ^ 61)<=a) (h2:a < 2 ^ 61) (h3 : -(2 ^ 61)<=b) (h4:b < 2 ^ 61):Builtin.Range.small a b (-1)=true:=by
 unfold Builtin.Range.small
 rw [kM]
 simp only [Builtin.Range.rangeFitsLong,Bool.and_eq_true,Bool.or_eq_true,decide_eq_true_eq,beq_iff_eq,show ¬((-1:Int) > 0) by decide,if_false]
 split <;> omega
section
variable {X:Cx}{tg:Expr}
theorem yA {pins:List (Addr × Obj)}{σ:St}{H:Hp}{s:Shared}{R:It->Hp->Prop}{E:Value->Shared->Prop}{a b:Int}{t u v:Tok}{tk:Nat} (I:Inv X pins σ H s) (h:Builtin.Range.small a b (-1)=true)
  (q:R (Itn a (a - b).toNat) H):wpAny (model X.prog X.w) X.A (pyIter (.ref s.heap.objs.size)) (PIE X pins σ tg R) E { s with heap:=s.heap.push { cls:=.type "range", data:=.fields #[.int a t,.int b u,.int (-1) v] },toks:=tk }:=by
 generalize ho:({ cls:=.type "range", data:=.fields #[.int a t,.int b u,.int (-1) v] }:Obj)=o0
 have I1:Inv X pins σ H { s with heap:=s.heap.push o0,toks:=tk }:=I.kept λb o e=>zH0 _ e
 subst ho
 refine wpAny_pyIter_range (IsRange.new ..) h ?_
 refine⟨_,[_],Bh _ a (a - b).toNat,_,H,rfl,I1.kept (t':=tk) λb o e=>zH0 _ e,rP _ a (a - b).toNat,?_,λc hb=>?_,q⟩
 ·have e1:a+((0:Nat):Int) * (-1)=a:=by simp
  have e2:(((a - b).toNat:Nat):Int) - ((0:Nat):Int)=Builtin.Range.rangeSize a b (-1):=by rw [kM];split <;> omega
  unfold Bh
  rw [e1,e2]
  exact Heap.get?_push_size _ rfl
 ·rw [List.mem_singleton.mp hb]
  exact I1.fpOk (Nat.le_refl _) (I1.hok.fresh (Nat.le_refl _))
noncomputable def BW (ta:TA):TI:=λσ H R=>ta σ H λvs H1=>∃i j:Int,vs=[.int i,.int j,.int (-1)]/\(-(2 ^ 61)<=i/\i < 2 ^ 61/\-(2 ^ 61)<=j/\j < 2 ^ 61)/\R (Itn i (i - j).toNat) H1
theorem su {a b c:Expr}{ta:TA}{p pos:Pos} (hg:Gl X "range") (hm:X.mg "range" = none) (ha:PA X [a,b,c] ta) (hs:starEach [a,b,c] X.env=[(false,eval a X.env),(false,eval b X.env),(false,eval c X.env)]:=by rfl) (hs2:starEach [b,c] X.env=[(false,eval b X.env),(false,eval c X.env)]:=by rfl) :
  PI X tg (.Call (.Name "range" p) [a,b,c] [] pos) (BW ta):=by
 intro pins s σ H R I h
 refine Call_ (fW I hg hm boot_range (PyProof.Rows.callWith_type1 (thn (ha pos pins s σ H _ I h) λus s1 ⟨vs,H1,I1,r1,q1⟩=>?_) (by rw [hs,hs2]) (by rw [hs2];rfl)))
 obtain⟨i,j,e,⟨q1,q2,q3,q4⟩,q⟩:=q1
 subst e
 cases r1 with
 | cons r rr=>
  cases rr with
  | cons r' rr=>
   cases rr with
   | cons r2 rr=>
    cases rr
    obtain⟨t,rfl⟩:=r
    obtain⟨t',rfl⟩:=r'
    obtain⟨t2,rfl⟩:=r2
    exact call_range_3 (by decide) (yA I1 (oV q1 q2 q3 q4) q) (.inl (PyProof.noPylong_small (by decide)))
end
theorem wy {hi:Int}{n:Nat}{g:TG}{tb:TS}{D:Ends}{σ:St}{H:Hp} (Pv:Nat->St->Hp->Prop) (h0:Pv 0 σ H)
  (hs:∀i σ H,i < n->Pv i σ H->g (.int (hi - i)) σ H λσ2 H2=>tb { D with nx:=Pv (i+1),ct:=Pv (i+1),bk:=D.nx } σ2 H2) (hd:∀σ H,Pv n σ H->D.nx σ H) :
  ∃W:Nat->Nat->St->Hp->Prop,(∃m,W 0 m σ H)/\∀i m σ H,W i m σ H->
   ((Itn hi n).stop i H/\D.nx σ H)\/((Itn hi n).go i H/\∃N:St->Hp->Prop,(∀σ' H',N σ' H'->∃m',m' < m/\W (i+1) m' σ' H')/\∀x H',(Itn hi n).yld i H x H'->g x σ H' λσ2 H2=>tb { D with nx:=N,ct:=N,bk:=D.nx } σ2 H2):=by
 refine⟨λi m σ H=>m=n - i/\i<=n/\Pv i σ H,⟨n,rfl,Nat.zero_le _,h0⟩,?_⟩
 rintro i m σ H ⟨rfl,hi,p⟩
 rcases Nat.lt_or_eq_of_le hi with hlt | rfl
 ·refine .inr ⟨hlt,Pv (i+1),λσ' H' p'=>⟨n - (i+1),by omega,rfl,hlt,p'⟩,?_⟩
  rintro x H' ⟨rfl,rfl⟩
  exact hs i σ _ hlt p
 ·exact .inl ⟨Nat.le_refl _,hd σ H p⟩
end L2
namespace Mine
open PySem L2
variable {P:Program}{w:World}{K:W.Frag}{mg:Str->Option Value}{base:Heap}
theorem cx {X:Cx}{K:W.Frag}{e:Expr}{ta:TE}{f:Str}{pos:Pos} (h:X.K=K) (he:PE X e ta) (hb:attributeBase e f X.env (eval e X.env)=eval e X.env):PE X (.Attribute e f pos) (Bz K ta f):=by
 subst h
 exact aV he hb
theorem fY {X:Cx}{K:W.Frag} (h:X.K=K):IxR X (xO K):=by
 subst h
 exact aO
noncomputable def dys (lo:Int) (n:Nat):List Int:=(List.range n).map λi:Nat=>lo+(i:Int)
theorem oz (lo:Int) (n:Nat):dys lo (n+1)=dys lo n++[lo+(n:Int)]:=by unfold dys;rw [List.range_succ,List.map_append];rfl
theorem yz (lo:Int) (n:Nat):(dys lo n).length=n:=by unfold dys;rw [List.length_map,List.length_range]
theorem jb {lo d:Int}{n:Nat}:d∈dys lo n↔lo<=d/\d < lo+n:=by
 unfold dys
 rw [List.mem_map]
 constructor
 ·rintro⟨i,hi,rfl⟩
  have:=List.mem_range.mp hi
  omega
 ·intro h
  exact⟨(d - lo).toNat,List.mem_range.mpr ‹1›,by omega⟩
def Ce (tt:TT) (te:TE) (sub:List Nat) (σ:St) (H:Hp) (p:Int->Bool) (g:Int->V) (d:Int):Prop:=
 (∀(H2:Hp) (R:Bool->Hp->Prop),aZ H H2->(∀H3,aZ H2 H3->R (p d) H3)->tt (some (.int d)::bG sub σ) H2 R)/\
 (p d=true->∀(H2:Hp) (R:VK),aZ H H2->(∀H3,aZ H2 H3->R (g d) H3)->te (some (.int d)::bG sub σ) H2 R)
def yO (H:Hp) (D:Addr) (p:Int->Bool) (g:Int->V) (xs:List Int) (ys:List V) (H2:Hp):Prop:=ys=(xs.filter p).map g/\aZ H H2/\H2 D=some (.lst ys)
theorem wT {tt:TT}{te:TE}{sub:List Nat}{σ:St}{H H2:Hp}{D:Addr}{p:Int->Bool}{g:Int->V}{d:Int}{xs:List Int}{ys:List V} (nD:H D=none) (h:Ce tt te sub σ H p g d) (hn:xs.length < 10000) (hh:yO H D p g xs ys H2) :
  tt (some (.int d)::bG sub σ) H2 λb H4=>if b=true then te (some (.int d)::bG sub σ) H4 λy H5=>H5 D=some (.lst ys)/\ys.length < sizeLine/\yO H D p g (xs++[d]) (ys++[y]) (upd H5 D (.lst (ys++[y]))) else yO H D p g (xs++[d]) ys H4:=by
 obtain⟨rfl,g2,e2⟩:=hh
 have lf:=List.length_filter_le p xs
 refine h.1 H2 _ g2 λH3 g3=>?_
 cases hp:p d with
 | false=>exact aS ⟨by rw [List.filter_append];simp [hp],g2.trans g3,g3 _ _ e2⟩
 | true=>
  refine bb (h.2 hp H3 _ (g2.trans g3) λH5 g5=>⟨g5 _ _ (g3 _ _ e2),?_,?_,λb o e=>?_,ar⟩)
  ·rw [List.length_map];exact Nat.lt_of_lt_of_le (show _ < 10000 by omega) (by decide)
  ·rw [List.filter_append];simp [hp]
  ·rw [ai (ao e nD)];exact g5 _ _ (g3 _ _ (g2 _ _ e))
theorem oE {lo:Int}{n:Nat}{sub:List Nat}{tt:TT}{te:TE}{σ:St}{Q:VK}{H:Hp} (p:Int->Bool) (g:Int->V) (hn:n < 10000)
  (hs:∀d,lo<=d->d < lo+n->Ce tt te sub σ H p g d)
  (hq:∀(D:Addr) (H':Hp),H D=none->aZ H H'->H' D=some (.lst (((dys lo n).filter p).map g))->Q (.ref D) H'):gb (Itr lo n) sub tt te σ Q H:=by
 intro D nD
 refine ed (lo:=lo) (n:=n) (sub:=sub) (tt:=tt) (te:=te) (Q:=Q) (σ:=σ) (λi ys H2=>yO H D p g (dys lo i) ys H2) ⟨rfl,(laid nD).1,ar⟩ (λi ys H2 hi hh=>?_) λys H2 hh=>?_
 ·rw [oz]
  exact wT nD (hs _ ‹1› ‹1›) (by rw [yz];omega) hh
 ·obtain⟨rfl,g2,e2⟩:=hh
  exact hq D H2 nD g2 e2
noncomputable abbrev pr:Stmt:=aM (top 18) 1
noncomputable abbrev pj:Stmt:=aM (top 19) 1
noncomputable abbrev pz:Stmt:=aM (top 20) 1
noncomputable abbrev pp:Stmt:=aM (top 21) 1
noncomputable abbrev pf:Stmt:=aM (top 21) 2
noncomputable abbrev pe:Stmt:=aM (top 21) 3
noncomputable abbrev pq:Stmt:=aM (top 22) 1
noncomputable abbrev pA:Stmt:=aM (top 23) 1
noncomputable abbrev ph:Stmt:=aM (top 23) 2
noncomputable abbrev pd:Stmt:=aM (top 17) 5
noncomputable def lfK:Lf->Nat
 | .num _=>0
 | .val _ _=>1
 | .gth _ _ _ _=>2
 | .snc _ _ _ _=>3
 | .prt _ _ _ _=>4
 | .chg _ _ _ _=>5
noncomputable def rch (bd:Int):V->Bool
 | .int n=>decide (bd<=n)
 | _=>false
noncomputable def dA (g:Nat->Bool):Nat->Nat
 | 0=>0
 | n+1=>if g n=true then dA g n else n+1
theorem oU (g:Nat->Bool):∀n,dA g n<=n
 | 0=>Nat.le_refl _
 | n+1=>by
  unfold dA
  have:=oU g n
  split <;> omega
theorem lR {g:Nat->Bool}{k:Nat}:∀{n:Nat},k<=n->(∀m,k<=m->m < n->g m=true)->dA g n=dA g k
 | 0,h,_=>by rw [show k=0 by omega]
 | n+1,h,hg=>by
  by_cases e:k=n+1
  ·rw [e]
  ·rw [dA,if_pos (hg n ‹1› ‹1›)]
   exact lR ‹1› λm h1 h2=>hg m h1 ‹1›
noncomputable def fI (T:Str->Int->V) (k:Str) (bd f:Int):Nat->Bool:=λi=>rch bd (T k (f+(i:Int)))
noncomputable def gT (f:Int) (j n:Nat):V:=if j < n then .int (f+(j:Int)) else .non
noncomputable def dnP (k:Str) (l:Int) (n:Nat):List (Str × Int):=(List.range n).map λi:Nat=>(k,l - (i:Int))
noncomputable def bK (T:Str->Int->V) (k:Str) (f:Int) (n:Nat):List Int:=(dys (f+1) n).filter λd=>!decide (T k d=T k (d - 1))
noncomputable def sf (T:Str->Int->V) (a b:Str) (f:Int) (n:Nat):List Int:=(dys f n).filter λd=>!decide (T a d=T b d)
noncomputable def oq:Option Int->V
 | some d=>.int d
 | none=>.non
noncomputable def oj:Lf->List (Str × Int)
 | .val k d=>[(k,d)]
 | .gth _ ks f l=>(aY ks).flatMap λk=>aH k f (len2 f l)
 | .snc k _ f l=>aH k f (len2 f l)
 | .prt a b f l=>aH a f (len2 f l)++aH b f (len2 f l)
 | .chg _ k f l=>aH k f (len2 f l)
 | .num _=>[]
noncomputable def ko (T:Str->Int->V):Lf->List (Str × Int)
 | .snc k bd f l=>dnP k l (len2 f l - (dA (fI T k bd f) (len2 f l) - 1))
 | .chg r k f l=>match (bK T k f (len2 f l - 1))[(r - 1).toNat]? with
  | some d=>aH k f (d - f+1).toNat
  | none=>aH k f (len2 f l)
 | l=>oj l
noncomputable def gJ (T:Str->Int->V):Lf->V
 | .num z=>.int z
 | .val k d=>T k d
 | .gth w ks f l=>gat w (kl (dB T ((aY ks).flatMap λk=>aH k f (len2 f l))))
 | .snc k bd f l=>gT f (dA (fI T k bd f) (len2 f l)) (len2 f l)
 | .prt a b f l=>.int (sf T a b f (len2 f l)).length
 | .chg r k f l=>oq (bK T k f (len2 f l - 1))[(r - 1).toNat]?
inductive PlI (A:(Str->Int->V)->Lf->V) (R:(Str->Int->V)->Lf->List (Str × Int)) (c:Cs) (l:Lf) (x f:Addr) (H:Hp) (Q:VK):Prop
 | mk (la tb:Addr) (kvs:List (List Key × V)) (rs:List RZ) (hx:LfX c l H x) (ok:du l) (T:TeA f la tb kvs H rs) (tab:x9 kvs) (hl:rs.length < 900000) (q:∀(rs':List RZ) (H':Hp),Off la H H'->Askd H' la rs'->prs rs'=prs rs++R (tel kvs) l->Q (A (tel kvs) l) H'):PlI A R c l x f H Q
noncomputable def lK (c:Cs) (n:Nat):Sp:=λvs H Q _=>∃(x f:Addr) (l:Lf),vs=[.ref x,.ref f]/\lfK l=n/\PlI gJ (λ_=>oj) c l x f H Q
inductive VPl (c:Cs):Addr->Sp->Prop
 | mk (l0:Lf):VPl c (lfC c l0) (lK c (lfK l0))
theorem qZ {l:Lf}{ln:Addr}{m:Str} (hm:m∉cK):(wa l ln).lookup m=none:=xR hm (oi l ln)
noncomputable def iT (c:Cs):Sp:=λvs H Q _=>∃(x:Addr) (v:V) (k:Str) (bd f l:Int),vs=[.ref x,v]/\di v/\(∃dx ln,H x=some (.ins c.snc dx (wa (.snc k bd f l) ln)))/\Q (.bl (rch bd v)) H
inductive VRe (c:Cs):Addr->Sp->Prop
 | mk:VRe c c.snc (iT c)
theorem hJ {rs:List RZ}{ps:List (Str × Int)}{qs:List (Str × Int)} (h:prs rs=ps++qs):rs.length=ps.length+qs.length:=by
 have:=congrArg List.length h
 unfold prs at this
 rw [List.length_map,List.length_append]at this
 exact this
theorem kP (rs:List RZ):(prs rs).length=rs.length:=List.length_map _
theorem eT (k:Str) (f:Int) (n:Nat):(aH k f n).length=n:=by unfold aH;rw [List.length_map,List.length_range]
theorem qm (k:Str) (f:Int) (n:Nat):aH k f (n+1)=aH k f n++[(k,f+n)]:=by unfold aH;rw [List.range_succ,List.map_append];rfl
theorem CZ (k:Str) (l:Int) (n:Nat):dnP k l (n+1)=dnP k l n++[(k,l - n)]:=by unfold dnP;rw [List.range_succ,List.map_append];rfl
theorem C7 (k:Str) (f:Int) (n:Nat):(dnP k f n).length=n:=by unfold dnP;rw [List.length_map,List.length_range]
theorem nU:∀{vs:List V},(∀v∈vs,di v)->vs.filter (λv=>decide (v≠.non))=(kl vs).map V.int
 | [],_=>rfl
 | v::vs,h=>by
  have ih:=nU λu hu=>h u (List.mem_cons_of_mem _ hu)
  rcases h v List.mem_cons_self with rfl | ⟨n,rfl⟩
  ·rw [List.filter_cons_of_neg (by simp),ih];rfl
  ·rw [List.filter_cons_of_pos (by simp),ih];rfl
theorem wQ {K:W.Frag}{la:Addr}{xs:List V}{sub:List Nat}{tt:TT}{te:TE}{σ:St}{Q:VK}{H:Hp} (hn:xs.length < 1000) (ha:H la=some (.lst xs))
  (htt:∀(v:V) (H2:Hp) (R:Bool->Hp->Prop),R (decide (v≠.non)) H2->tt (some v::bG sub σ) H2 R) (hte:∀(v:V) (H2:Hp) (R:VK),R v H2->te (some v::bG sub σ) H2 R)
  (hq:∀(D:Addr),H D=none->Q (.ref D) (upd H D (.lst (xs.filter λv=>decide (v≠.non))))):gb (Itl K la) sub tt te σ Q H:=by
 intro D nD
 have nl:la≠D:=ao ha nD
 refine fe (K:=K) (a:=la) (xs:=xs) (sub:=sub) (tt:=tt) (te:=te) (Q:=Q) (σ:=σ) (λi ys H2=>ys=(xs.take i).filter (λv=>decide (v≠.non))/\H2=upd H D (.lst ys)) ⟨by rw [List.take_zero];rfl,rfl⟩ (λi ys H2 _ hh=>?_) (λi x ys H2 hi hh=>?_) λys H2 hh=>?_
 ·obtain⟨_,rfl⟩:=hh
  exact SqL.of (by rw [ai nl];exact ha)
 ·obtain⟨rfl,rfl⟩:=hh
  have lf:=List.length_filter_le (λv=>decide (v≠V.non)) (xs.take i)
  rw [List.length_take]at lf
  refine htt x _ _ ?_
  by_cases hx:x=.non
  ·rw [hx,decide_eq_false (by simp)]
   refine aS ⟨?_,rfl⟩
   rw [List.take_add_one,hi,List.filter_append,hx]
   simp
  ·rw [decide_eq_true hx]
   refine bb (hte x _ _ ⟨ar,bh ‹1›,?_,bv⟩)
   rw [List.take_add_one,hi,List.filter_append]
   simp [hx]
 ·obtain⟨rfl,rfl⟩:=hh
  rw [List.take_length]
  exact hq D nD
theorem fc (f:Int) (n:Nat):∀ks:List Str,(ks.flatMap λk=>aH k f n).length<=n * ks.length
 | []=>Nat.zero_le _
 | k::ks=>by
  rw [List.flatMap_cons,List.length_append,List.length_cons,Nat.mul_succ]
  have:=fc f n ks
  have h:(aH k f n).length=n:=by unfold aH;rw [List.length_map,List.length_range]
  omega
inductive GtI (H:Hp) (x f lv la tb:Addr) (kvs:List (List Key × V)) (ks:List Str) (rs:List RZ) (f0 l0:Int) (i:Nat) (σ:St) (H2:Hp):Prop
 | mk (v3 v4:Option V) (ns:List Int) (rs2:List RZ) (h1:σ=[some (.ref x),some (.ref f),some (.ref lv),v3,v4]) (h2:Off la H H2) (h3:TeA f la tb kvs H2 rs2) (h4:H2 lv=some (.lst (ns.map V.int))) (h5:True=True) (h6:prs rs2=prs rs++(ks.take i).flatMap λk=>aH k f0 (len2 f0 l0)) (h7:ns=kl (dB (tel kvs) ((ks.take i).flatMap λk=>aH k f0 (len2 f0 l0)))):GtI H x f lv la tb kvs ks rs f0 l0 i σ H2
theorem xB:FnScope ["self", "told"] ["self", "told"] (aq pr):=‹2›
theorem vB {f:Addr}{fd:FuncData} (F:Fun K "plain" "Number.plain" pr f fd){c:Cs} (VQ:∀C∈c.all,QuC K C):FnOk P w K mg base CX0 1 f fd ["self", "told"] (lK c 0):=by
 refine F.ok (k:=0) xB (λvs H Q E h=>?_) (λcdv A outer s H vs Q E hr h=>?_)
 ·obtain⟨x,f,l,rfl,_⟩:=h
  rfl
 ·obtain⟨x,f,l,rfl,hk,⟨la,tb,kvs,rs,hx,ok,hT,tab,hl,q⟩⟩:=h
  have hu:=aK hr
  refine⟨_,(ah (ax (aV (pv 0) rfl))),?_⟩
  cases l with
  | num z=>
   obtain⟨dx,ln,h1,h2⟩:=hx
   obtain⟨_,_,ha⟩:=hT
   refine aA ⟨_,rfl,x,c.num,dx,_,_,rfl,h1,(VQ _ (dc c (.num z))).cl,(VQ _ (dc c (.num z))).a_number,rfl,?_⟩
   exact q rs H (λ_ _ e _=>e) ha (List.append_nil _).symm
  | _=>cases hk
theorem xz:FnScope ["self", "told"] ["self", "told"] (aq pj):=‹2›
theorem vx {f:Addr}{fd:FuncData} (F:Fun K "plain" "Value.plain" pj f fd){c:Cs} (VQ:∀C∈c.all,QuC K C):FnOk P w K mg base CX0 2 f fd ["self", "told"] (lK c 1):=by
 refine F.ok (k:=1) xz (λvs H Q E h=>?_) (λcdv A outer s H vs Q E hr h=>?_)
 ·obtain⟨x,f,l,rfl,_⟩:=h
  rfl
 ·obtain⟨x,f,l,rfl,hk,⟨la,tb,kvs,rs,hx,ok,hT,tab,hl,q⟩⟩:=h
  have hu:=aK hr
  refine⟨_,(ah (ax (eX dJ (pv 1) (hr.mono (by decide)) au (aa (aV (pv 0) rfl) (aa (aV (pv 0) rfl) ac))))),?_⟩
  cases l with
  | val k d=>
   obtain⟨dx,ln,h1,h2⟩:=hx
   obtain⟨sp,hv,h3,h4,h5⟩:=qA (k:=k) (d:=d) hT ‹1› (λp H' o a=>q _ H' o a (by unfold prs;rw [List.map_append];rfl))
   have T:=VQ _ (dc c (.val k d))
   exact aA ⟨_,rfl,f,sp,rfl,hv,h3,_,rfl,x,c.val,dx,_,_,rfl,h1,T.cl,T.a_key,rfl,_,rfl,x,c.val,dx,_,_,rfl,h1,T.cl,T.a_day,rfl,h4,h5⟩
  | _=>cases hk
theorem j3:FnScope ["self", "told", "values", "key", "row"] ["self", "told"] (aq pz):=‹2›
theorem vC {f f1 f2:Addr}{fd:FuncData} (F:Fun K "plain" "Gathering.plain" pz f fd) (N:Free mg){c:Cs} (VQ:∀C∈c.all,QuC K C){fd1:FuncData} (CT:Cal P w K mg base "tellings" 3 ["told", "key", "first", "last"] fi f1 fd1){fd2:FuncData} (CG:Cal P w K mg base "gathered" 1 ["word", "values"] jo f2 fd2):FnOk P w K mg base CX0 4 f fd ["self", "told"] (lK c 2):=by
 refine F.ok (k:=3) j3 (λvs H Q E h=>?_) (λcdv A outer s H vs Q E hr h=>?_)
 ·obtain⟨x,f,l,rfl,_⟩:=h
  rfl
 ·obtain⟨x,f,l,rfl,hk,⟨la,tb,kvs,rs,hx,ok,hT,tab,hl,q⟩⟩:=h
  have hu:=aK hr
  refine⟨_,(ae (ay (i:=2) j3.nd rfl (Or.inl rfl) (aR ac))
   (ae (cA PassesOwn.never rfl (cg (aV (pv 0) rfl)) (bi (i:=3) j3.nd rfl (Or.inl rfl))
   (ae (ay (i:=4) j3.nd rfl (Or.inl rfl) (av CT.ok (hr.mono (by decide)) rfl CT.nm CT.kp CT.bd .nil au (aa (pv 1) (aa (pv 3) (aa (aV (pv 0) rfl) (aa (aV (pv 0) rfl) ac))))))
   (ah (bg (cM PySem.F.plainAttrs_list PySem.F.slot_list_extend PySem.F.type_list_extend iy (pv 2) (aa (fH (bz rfl (cg (pv 4)) rfl rfl (by show ∀p∈_,gc [] p;decide) (by decide) rfl (by show ([‹"value"›]:List Str).Nodup;decide) .nil (λC fp s H=>(mo (fk (hX (pv 0))))) (λC fp s H=>(pv 0)))) ac))))))
   (ah (ax (av CG.ok (hr.mono (by decide)) rfl CG.nm CG.kp CG.bd .nil au (aa (aV (pv 0) rfl) (aa (pv 2) ac))))))),?_⟩
  cases l with
  | gth w ks f0 l0=>
   obtain⟨dx,ln,h1,h2⟩:=hx
   have T:=VQ _ (dc c (.gth w ks f0 l0))
   obtain⟨hw,⟨k1,k8,hnd,hks⟩,hd⟩:=id ok
   have nll:ln≠la:=λz=>by
    obtain⟨_,_,⟨hl1,_⟩⟩:=hT
    rw [z,hl1]at h2
    have e:rs.map (λr=>V.ref r.2)=(aY ks).map V.str:=HO.lst.inj (Option.some.inj h2)
    have hk0:aY ks≠[]:=λz0=>by
     cases ks with
     | nil=>cases k1
     | cons k0 kr=>have:=(jG (x:=k0) (ks:=k0::kr)).mpr List.mem_cons_self;rw [z0]at this;cases this
    cases ho:aY ks with
    | nil=>exact hk0 ho
    | cons a r0=>
     rw [ho]at e
     cases rs with
     | nil=>cases e
     | cons r1 rr=>cases e
   refine af (aw ⟨by show 0<=sizeLine;decide,λlv nv=>?_⟩)
   walk_at "d"
   obtain⟨g1,e1⟩:=laid (o:=.lst []) nv
   have nvl:lv≠la:=λz=>by obtain⟨xs,e⟩:=hT.lst;rw [z,e]at nv;cases nv
   have hT1:=hT.grow g1
   generalize upd H lv _=H1 at g1 e1 hT1 ⊢
   have hol:(aY ks).length<=8:=Nat.le_trans (dS _ ks rfl) k8
   have hn4:len2 f0 l0<=400:=by unfold len2;have:=hd.1;have:=hd.2.2;omega
   refine af ⟨_,rfl,x,c.gth,dx,_,_,rfl,g1 _ _ h1,T.cl,T.a_names,rfl,ln,rfl,⟨_,SqL.of (g1 _ _ h2)⟩,fb (K:=K) (a:=ln) (xs:=(aY ks).map V.str) (GtI H x f lv la tb kvs (aY ks) rs f0 l0) ⟨none,none,[],rs,rfl,Off.grow g1,hT1,e1,rfl,by rw [show ((aY ks).take 0).flatMap _=[] from rfl,List.append_nil],rfl⟩ (λi σ H3 _ hh=>?_) (λi v σ H3 hi hh=>?_) λσ H3 hh=>?_⟩
   ·obtain⟨v3,v4,ns,rs3,rfl,o3,t3,e3,_⟩:=hh
    exact SqL.of (o3 _ _ h2 nll)
   ·obtain⟨v3,v4,ns,rs3,rfl,o3,t3,e3,p3,p4,p5⟩:=hh
    rw [List.getElem?_map]at hi
    obtain⟨k,hk1,rfl⟩:=Option.map_eq_some_iff.mp hi
    have hil:=(List.getElem?_eq_some_iff.mp hk1).1
    have et:(aY ks).take (i+1)=(aY ks).take i++[k]:=by rw [List.take_add_one,hk1];rfl
    walk_at "d"
    have nxl:x≠la:=λz=>by obtain⟨xs,e⟩:=hT.lst;rw [<- z,h1]at e;cases e
    have h13:=o3 _ _ h1 nxl
    have hz3:rs3.length<=rs.length+400 * i:=by
     have:=congrArg List.length p4
     unfold prs at this
     rw [List.length_append,List.length_map,List.length_map]at this
     have hf:=fc f0 (len2 f0 l0) ((aY ks).take i)
     rw [List.length_take,Nat.min_eq_left (Nat.le_of_lt hil)]at hf
     have hm:=Nat.mul_le_mul_right i hn4
     omega
    refine af (aw ⟨_,rfl,_,rfl,_,rfl,x,c.gth,dx,_,_,rfl,h13,T.cl,T.a_first,rfl,_,rfl,x,c.gth,dx,_,_,rfl,h13,T.cl,T.a_last,rfl,f,la,tb,kvs,rs3,k,f0,l0,rfl,t3,hd,by omega,λD H4 rs4 nD o4 a4 p6 eD=>?_⟩)
    walk_at "d"
    have t4:=t3.off o4 a4
    have nDl:D≠la:=λz=>by obtain⟨xs,e⟩:=t3.lst;rw [z,e]at nD;cases nD
    have nvD:lv≠D:=ao e3 nD
    have e34:=o4 _ _ e3 nvl
    have hrl:(dB (tel kvs) (aH k f0 (len2 f0 l0))).length=len2 f0 l0:=by unfold dB aH;rw [List.length_map,List.length_map,List.length_range]
    refine be ⟨_,rfl,.inl ⟨rfl,_,SqL.of e34⟩,?_⟩
    refine ce ⟨_,rfl,D,rfl,⟨_,SqL.of eD⟩,wQ (xs:=dB (tel kvs) (aH k f0 (len2 f0 l0))) (by rw [hrl];omega) eD (λv H5 R hR=>⟨_,rfl,_,rfl,by rw [show (!decide (v=V.non))=decide (v≠V.non) from by simp];exact hR⟩) (λv H5 R hR=>⟨_,rfl,hR⟩) λD2 nD2=>?_⟩
    rw [nU λv hv=>by obtain⟨p,_,rfl⟩:=List.mem_map.mp hv;exact tab _ _]
    have nvD2:lv≠D2:=ao e34 nD2
    have nl2:la≠D2:=λz=>by obtain⟨xs,e⟩:=t4.lst;rw [<- z,e]at nD2;cases nD2
    obtain⟨g5,e5⟩:=laid (o:=.lst ((kl (dB (tel kvs) (aH k f0 (len2 f0 l0)))).map V.int)) nD2
    have t5:=t4.grow g5
    have e35:=g5 _ _ e34
    generalize upd H4 D2 _=H5 at g5 e5 t5 e35 ⊢
    have hnl:ns.length<=400 * i:=by
     rw [p5]
     refine Nat.le_trans (List.length_filterMap_le _ _) ?_
     unfold dB
     rw [List.length_map]
     have hf:=fc f0 (len2 f0 l0) ((aY ks).take i)
     rw [List.length_take,Nat.min_eq_left (Nat.le_of_lt hil)]at hf
     have hm:=Nat.mul_le_mul_right i hn4
     omega
    have hnm:(kl (dB (tel kvs) (aH k f0 (len2 f0 l0)))).length<=400:=Nat.le_trans (List.length_filterMap_le _ _) (by rw [hrl];omega)
    refine⟨lv,D2,_,_,rfl,rfl,e35,e5,by rw [List.length_map,List.length_map];exact Nat.le_trans (show _<=100000 by omega) (by decide),?_⟩
    have t6:TeA f la tb kvs (upd H5 lv (.lst (ns.map V.int++(kl (dB (tel kvs) (aH k f0 (len2 f0 l0)))).map V.int))) rs4:=by
     obtain⟨t,ht,a⟩:=t5
     refine⟨t.keep λb φ e=>by rw [ai λz=>by rw [z,e35]at e;cases e];exact e,by rw [ai λz=>by rw [z,e35]at ht;cases ht];exact ht,a.off (b:=lv) nvl (λxs z=>by rw [e35]at z;cases z) λb' o e n=>by rw [ai n];exact e⟩
    refine⟨_,_,ns++kl (dB (tel kvs) (aH k f0 (len2 f0 l0))),rs4,rfl,λb o e nb=>?_,t6,by rw [ar,List.map_append],rfl,?_,?_⟩
    ·rw [ai (ao e nv)]
     exact g5 _ _ (o4 _ _ (o3 _ _ e nb) nb)
    ·rw [p6,p4,et,List.flatMap_append,List.append_assoc]
     congr 2
     exact(List.append_nil _).symm
    ·rw [p5,<- vS,et,List.flatMap_append]
     congr 1
     unfold dB
     rw [List.map_append]
     congr 2
     exact(List.append_nil _).symm
   ·obtain⟨v3,v4,ns,rs3,rfl,o3,t3,e3,p3,p4,p5⟩:=hh
    rw [List.length_map,List.take_length]at p4 p5
    have nxl:x≠la:=λz=>by obtain⟨xs,e⟩:=hT.lst;rw [<- z,h1]at e;cases e
    obtain⟨_,_,a3⟩:=t3
    dsimp only
    refine aA ?_
    refine⟨_,rfl,x,c.gth,dx,_,_,rfl,o3 _ _ h1 nxl,T.cl,T.a_word,rfl,_,rfl,w,lv,ns,rfl,e3,?_⟩
    rw [p5]
    exact q rs3 H3 o3 a3 p4
  | _=>cases hk
theorem xx:FnScope ["self", "value"] ["self", "value"] (aq pe):=‹2›
theorem vo {f:Addr}{fd:FuncData} (F:Fun K "reaches" "Since.reaches" pe f fd){c:Cs} (VQ:∀C∈c.all,QuC K C):FnOk P w K mg base CX0 1 f fd ["self", "value"] (iT c):=by
 refine F.ok (k:=0) xx (λvs H Q E h=>?_) (λcdv A outer s H vs Q E hr h=>?_)
 ·obtain⟨x,v,k,bd,f0,l0,rfl,_⟩:=h
  rfl
 ·obtain⟨x,v,k,bd,f0,l0,rfl,hv,hx,q⟩:=h
  have hu:=aK hr
  refine⟨_,(ah (ax (fR (mw (hX (pv 1))) (fQ (cj zt (pv 1) (aV (pv 0) rfl) (aP _)))))),?_⟩
  obtain⟨dx,ln,h1⟩:=hx
  have T:=VQ _ (dc c (.snc k bd f0 l0))
  refine aA ?_
  rcases hv with rfl | ⟨n,rfl⟩
  ·exact⟨_,rfl,_,rfl,aS q⟩
  ·exact⟨_,rfl,_,rfl,bb ⟨_,rfl,_,rfl,x,c.snc,dx,_,_,rfl,h1,T.cl,T.a_bound,rfl,n,bd,rfl,rfl,q⟩⟩
inductive SpI (H:Hp) (x f la tb:Addr) (kvs:List (List Key × V)) (rs:List RZ) (k:Str) (bd f0:Int) (i:Nat) (σ:St) (H2:Hp):Prop
 | mk (v3:Option V) (rs2:List RZ) (h1:σ=[some (.ref x),some (.ref f),some (gT f0 (dA (fI (tel kvs) k bd f0) i) i),v3]) (h2:Off la H H2) (h3:TeA f la tb kvs H2 rs2) (h4:prs rs2=prs rs++aH k f0 i):SpI H x f la tb kvs rs k bd f0 i σ H2
theorem gX:FnScope ["self", "told", "start", "day"] ["self", "told"] (aq pp):=‹2›
theorem vy {f:Addr}{fd:FuncData} (F:Fun K "plain" "Since.plain" pp f fd) (N:Free mg){c:Cs} (VQ:∀C∈c.all,QuC K C) (VE:∀C sp,VRe c C sp->MV P w K mg base CX0 "reaches" 1 ["self", "value"] sp C):FnOk P w K mg base CX0 3 f fd ["self", "told"] (lK c 3):=by
 refine F.ok (k:=2) gX (λvs H Q E h=>?_) (λcdv A outer s H vs Q E hr h=>?_)
 ·obtain⟨x,f,l,rfl,_⟩:=h
  rfl
 ·obtain⟨x,f,l,rfl,hk,⟨la,tb,kvs,rs,hx,ok,hT,tab,hl,q⟩⟩:=h
  have hu:=aK hr
  refine⟨_,(ae (ay (i:=2) gX.nd rfl (Or.inl rfl) dm)
   (ae (cA PassesOwn.never rfl (dL rfl N.range (aa (aV (pv 0) rfl) (aa (aL bx (aV (pv 0) rfl) aj) ac))) (bi (i:=3) gX.nd rfl (Or.inl rfl))
   (ah (ba (eR (dl (bH VE (pv 0) (hr.mono (by decide)) au (aa (eX dJ (pv 1) (hr.mono (by decide)) au (aa (aV (pv 0) rfl) (aa (pv 3) ac))) ac)))) (ah (ay (i:=2) gX.nd rfl (Or.inl rfl) dm)) (ah (ba (fk (gH (pv 2))) (ah (ay (i:=2) gX.nd rfl (Or.inl rfl) (pv 3))) aF)))))
   (ah (ax (pv 2))))),?_⟩
  cases l with
  | snc k bd f0 l0=>
   obtain⟨dx,ln,h1,h2⟩:=id hx
   have T:=VQ _ (dc c (.snc k bd f0 l0))
   obtain⟨hk1,hb,d0,d1,d2⟩:=id ok
   have nxl:x≠la:=λz=>by obtain⟨xs,e⟩:=hT.lst;rw [<- z,h1]at e;cases e
   have hn:len2 f0 l0<=400:=by unfold len2;omega
   refine af (aw ?_)
   walk_at "d"
   refine af ⟨_,rfl,x,c.snc,dx,_,_,rfl,h1,T.cl,T.a_first,rfl,_,rfl,x,c.snc,dx,_,_,rfl,h1,T.cl,T.a_last,rfl,_,_,rfl,rfl,f0,l0+1,rfl,⟨by omega,by omega,by omega,by omega⟩,cE (lo:=f0) (n:=len2 f0 l0) (SpI H x f la tb kvs rs k bd f0) ⟨none,rs,rfl,(λ_ _ e _=>e),hT,(List.append_nil _).symm⟩ (λi σ H2 hi hh=>?_) λσ H2 hh=>?_⟩
   ·obtain⟨v3,rs2,rfl,o2,t2,p2⟩:=hh
    have hl2:=hJ p2
    rw [kP,eT]at hl2
    walk_at "d"
    have h12:=o2 _ _ h1 nxl
    obtain⟨tt,ht,ha⟩:=id t2
    refine aE ⟨_,rfl,x,c.snc,dx,_,iT c,rfl,h12,.mk,qZ ‹0›,_,rfl,f,_,rfl,⟨la,tb,kvs,rfl⟩,tt.fn,_,rfl,x,c.snc,dx,_,_,rfl,h12,T.cl,T.a_key,rfl,_,rfl,tt.fn,k,f0+i,rs2,rfl,tt,ht,ha,by omega,λp H3 _ o3 a3=>?_⟩
    have t3:=t2.off o3 a3
    have p3:prs (rs2++[((k,f0+(i:Int)),p)])=prs rs++aH k f0 (i+1):=by
     rw [qm,<- List.append_assoc,<- p2]
     unfold prs
     rw [List.map_append]
     rfl
    have o23:=o2.trans o3
    refine⟨x,_,k,bd,f0,l0,rfl,tab _ _,⟨dx,ln,o3 _ _ h12 nxl⟩,?_⟩
    have hj:=oU (fI (tel kvs) k bd f0) i
    have eg:rch bd (tel kvs k (f0+(i:Int)))=fI (tel kvs) k bd f0 i:=rfl
    rw [eg]
    have es:dA (fI (tel kvs) k bd f0) (i+1)=if fI (tel kvs) k bd f0 i=true then dA (fI (tel kvs) k bd f0) i else i+1:=rfl
    cases hg:fI (tel kvs) k bd f0 i with
    | false=>
     refine⟨_,rfl,bb (aw ?_)⟩
     walk_at "d"
     rw [hg,if_neg Bool.false_ne_true]at es
     refine⟨some (.int (f0+(i:Int))),_,?_,o23,t3,p3⟩
     rw [es]
     unfold gT
     rw [if_neg (Nat.lt_irrefl _)]
    | true=>
     rw [hg,if_pos rfl]at es
     refine⟨_,rfl,aS (aE ?_)⟩
     unfold gT
     by_cases hz:dA (fI (tel kvs) k bd f0) i < i
     ·rw [if_pos hz]
      refine⟨_,rfl,_,rfl,aS (aB ?_)⟩
      refine⟨some (.int (f0+(i:Int))),_,?_,o23,t3,p3⟩
      unfold gT
      rw [es,if_pos ‹1›]
     ·rw [if_neg hz]
      refine⟨_,rfl,_,rfl,bb (aw ⟨_,rfl,?_⟩)⟩
      walk_at "d"
      refine⟨some (.int (f0+(i:Int))),_,?_,o23,t3,p3⟩
      unfold gT
      rw [es,if_pos ‹1›,show dA (fI (tel kvs) k bd f0) i=i by omega]
   ·obtain⟨v3,rs2,rfl,o2,t2,p2⟩:=hh
    dsimp only
    refine aA ?_
    obtain⟨_,_,a2⟩:=t2
    exact⟨_,rfl,q rs2 H2 o2 a2 p2⟩
  | _=>cases hk
noncomputable def dnS (l:Int):Nat->V
 | 0=>.non
 | i+1=>.int (l - (i:Int))
noncomputable def tZ (c:Cs) (n:Nat):Sp:=λvs H Q _=>∃(x f:Addr) (l:Lf),vs=[.ref x,.ref f]/\lfK l=n/\PlI gJ ko c l x f H Q
inductive SrI (H:Hp) (x f la tb:Addr) (kvs:List (List Key × V)) (rs:List RZ) (k:Str) (bd f0 l0:Int) (i:Nat) (σ:St) (H2:Hp):Prop
 | mk (v3:Option V) (rs2:List RZ) (h1:σ=[some (.ref x),some (.ref f),some (dnS l0 i),v3]) (h2:Off la H H2) (h3:TeA f la tb kvs H2 rs2) (h4:prs rs2=prs rs++dnP k l0 i) (h5:∀m,len2 f0 l0 - i<=m->m < len2 f0 l0->fI (tel kvs) k bd f0 m=true):SrI H x f la tb kvs rs k bd f0 l0 i σ H2
theorem qI {f0 l0:Int}{i:Nat} (h1:f0<=l0) (hi:i<=len2 f0 l0):gT f0 (len2 f0 l0 - i) (len2 f0 l0)=dnS l0 i:=by
 unfold gT
 cases i with
 | zero=>rw [if_neg ‹1›];rfl
 | succ i=>
  have hl:(len2 f0 l0:Int)=l0+1 - f0:=by unfold len2;omega
  rw [if_pos ‹1›]
  show V.int _=V.int _
  congr 1
  omega
theorem j2:FnScope ["self", "told", "start", "day"] ["self", "told"] (aq pf):=‹2›
theorem vp {f:Addr}{fd:FuncData} (F:Fun K "read" "Since.read" pf f fd) (N:Free mg){c:Cs} (VQ:∀C∈c.all,QuC K C) (VE:∀C sp,VRe c C sp->MV P w K mg base CX0 "reaches" 1 ["self", "value"] sp C):FnOk P w K mg base CX0 3 f fd ["self", "told"] (tZ c 3):=by
 refine F.ok (k:=2) j2 (λvs H Q E h=>?_) (λcdv A outer s H vs Q E hr h=>?_)
 ·obtain⟨x,f,l,rfl,_⟩:=h
  rfl
 ·obtain⟨x,f,l,rfl,hk,⟨la,tb,kvs,rs,hx,ok,hT,tab,hl,q⟩⟩:=h
  have hu:=aK hr
  refine⟨_,(ae (ay (i:=2) j2.nd rfl (Or.inl rfl) dm)
   (ae (cA PassesOwn.never rfl (su rfl N.range (aa (aV (pv 0) rfl) (aa (aL dn (aV (pv 0) rfl) aj) (aa (zo tI aj) ac)))) (bi (i:=3) j2.nd rfl (Or.inl rfl))
   (ae (ba (eR (dl (bH VE (pv 0) (hr.mono (by decide)) au (aa (eX dJ (pv 1) (hr.mono (by decide)) au (aa (aV (pv 0) rfl) (aa (pv 3) ac))) ac)))) (ah (ax (pv 2))) aF)
   (ah (ay (i:=2) j2.nd rfl (Or.inl rfl) (pv 3)))))
   (ah (ax (pv 2))))),?_⟩
  cases l with
  | snc k bd f0 l0=>
   obtain⟨dx,ln,h1,h2⟩:=id hx
   have T:=VQ _ (dc c (.snc k bd f0 l0))
   obtain⟨hk1,hb,d0,d1,d2⟩:=id ok
   have nxl:x≠la:=λz=>by obtain⟨xs,e⟩:=hT.lst;rw [<- z,h1]at e;cases e
   have hn:len2 f0 l0<=400:=by unfold len2;omega
   have hl0:(len2 f0 l0:Int)=l0+1 - f0:=by unfold len2;omega
   have en:(l0 - (f0 - 1)).toNat=len2 f0 l0:=by unfold len2;omega
   refine af (aw ?_)
   walk_at "d"
   refine af ⟨_,rfl,x,c.snc,dx,_,_,rfl,h1,T.cl,T.a_last,rfl,_,rfl,x,c.snc,dx,_,_,rfl,h1,T.cl,T.a_first,rfl,_,_,rfl,rfl,_,rfl,l0,f0 - 1,rfl,⟨by omega,by omega,by omega,by omega⟩,?_⟩
   rw [en]
   refine wy (hi:=l0) (n:=len2 f0 l0) (SrI H x f la tb kvs rs k bd f0 l0) ⟨none,rs,rfl,(λ_ _ e _=>e),hT,(List.append_nil _).symm,λm h1 h2=>absurd h2 ‹1›⟩ (λi σ H2 hi hh=>?_) λσ H2 hh=>?_
   ·obtain⟨v3,rs2,rfl,o2,t2,p2,hg2⟩:=hh
    have hl2:=hJ p2
    rw [kP,C7]at hl2
    walk_at "d"
    have h12:=o2 _ _ h1 nxl
    obtain⟨tt,ht,ha⟩:=id t2
    refine af (aE ⟨_,rfl,x,c.snc,dx,_,iT c,rfl,h12,.mk,qZ ‹0›,_,rfl,f,_,rfl,⟨la,tb,kvs,rfl⟩,tt.fn,_,rfl,x,c.snc,dx,_,_,rfl,h12,T.cl,T.a_key,rfl,_,rfl,tt.fn,k,l0 - i,rs2,rfl,tt,ht,ha,by omega,λp H3 _ o3 a3=>?_⟩)
    have t3:=t2.off o3 a3
    have p3:prs (rs2++[((k,l0 - (i:Int)),p)])=prs rs++dnP k l0 (i+1):=by
     rw [CZ,<- List.append_assoc,<- p2]
     unfold prs
     rw [List.map_append]
     rfl
    have o23:=o2.trans o3
    refine⟨x,_,k,bd,f0,l0,rfl,tab _ _,⟨dx,ln,o3 _ _ h12 nxl⟩,?_⟩
    have ei:l0 - (i:Int)=f0+((len2 f0 l0 - (i+1):Nat):Int):=by omega
    have eg:rch bd (tel kvs k (l0 - (i:Int)))=fI (tel kvs) k bd f0 (len2 f0 l0 - (i+1)):=by rw [ei];rfl
    rw [eg]
    cases hg:fI (tel kvs) k bd f0 (len2 f0 l0 - (i+1)) with
    | false=>
     refine⟨_,rfl,bb (aA ⟨_,rfl,?_⟩)⟩
     have ej:dA (fI (tel kvs) k bd f0) (len2 f0 l0)=len2 f0 l0 - i:=by
      rw [lR (k:=len2 f0 l0 - i) ‹1› hg2,show len2 f0 l0 - i=(len2 f0 l0 - (i+1))+1 by omega,dA,if_neg (by rw [hg];exact Bool.false_ne_true)]
     have q':=q _ H3 o23 a3 (by
      rw [p3]
      show _=_++dnP k l0 _
      rw [ej,show len2 f0 l0 - (len2 f0 l0 - i - 1)=i+1 by omega])
     have e9:gJ (tel kvs) (.snc k bd f0 l0)=dnS l0 i:=by
      show gT _ _ _=_
      rw [ej]
      exact qI d1 ‹1›
     rw [e9]at q'
     exact q'
    | true=>
     refine⟨_,rfl,aS (aB ?_)⟩
     dsimp only
     refine aw ⟨_,rfl,?_⟩
     walk_at "d"
     refine⟨some (.int (l0 - (i:Int))),_,rfl,o23,t3,p3,λm m1 m2=>?_⟩
     by_cases e:m=len2 f0 l0 - (i+1)
     ·rw [e];exact hg
     ·exact hg2 m ‹1› m2
   ·obtain⟨v3,rs2,rfl,o2,t2,p2,hg2⟩:=hh
    dsimp only
    obtain⟨_,_,a2⟩:=t2
    have ej:dA (fI (tel kvs) k bd f0) (len2 f0 l0)=0:=by
     rw [lR (k:=0) ‹1› λm _ h=>hg2 m ‹1› h]
     rfl
    have q':=q rs2 H2 o2 a2 (by
     rw [p2]
     show _=_++dnP k l0 _
     rw [ej]
     rfl)
    have e9:gJ (tel kvs) (.snc k bd f0 l0)=dnS l0 (len2 f0 l0):=by
     show gT _ _ _=_
     rw [ej,<- qI d1 (Nat.le_refl _),Nat.sub_self]
    rw [e9]at q'
    exact aA ⟨_,rfl,q'⟩
  | _=>cases hk
theorem mn {T:Str->Int->V}{k:Str}{f d:Int}{n:Nat} (h0:0<=d) (h1:d < n):atI (dB T (aH k f n)) d=some (T k (f+d)):=by
 have e:d=((d.toNat:Nat):Int):=by omega
 rw [e]
 refine dH ?_
 unfold dB aH
 rw [List.map_map,List.getElem?_map,List.getElem?_range ‹1›]
 rfl
theorem gf (T:Str->Int->V) (k:Str) (f:Int) (n:Nat):(dB T (aH k f n)).length=n:=by unfold dB;rw [List.length_map,eT]
theorem rj (a b:Int) (n:Nat):dys (a+b) n=(dys b n).map λd=>a+d:=by
 unfold dys
 rw [List.map_map]
 refine List.map_congr_left λi _=>?_
 show a+b+(i:Int)=a+(b+(i:Int))
 omega
theorem iZ {u v:V} (h1:di u) (h2:di v):zZ u v=true:=by
 rcases h1 with rfl | ⟨m,rfl⟩ <;> rcases h2 with rfl | ⟨n,rfl⟩ <;> rfl
theorem lX:FnScope ["self", "told", "row", "beside"] ["self", "told"] (aq pq):=‹2›
theorem vA {f f1:Addr}{fd:FuncData} (F:Fun K "plain" "Part.plain" pq f fd) (N:Free mg){c:Cs} (VQ:∀C∈c.all,QuC K C){fd1:FuncData} (CT:Cal P w K mg base "tellings" 3 ["told", "key", "first", "last"] fi f1 fd1):FnOk P w K mg base CX0 4 f fd ["self", "told"] (lK c 4):=by
 refine F.ok (k:=3) lX (λvs H Q E h=>?_) (λcdv A outer s H vs Q E hr h=>?_)
 ·obtain⟨x,f,l,rfl,_⟩:=h
  rfl
 ·obtain⟨x,f,l,rfl,hk,⟨la,tb,kvs,rs,hx,ok,hT,tab,hl,q⟩⟩:=h
  have hu:=aK hr
  refine⟨_,(ae (ay (i:=2) lX.nd rfl (Or.inr rfl) (av CT.ok (hr.mono (by decide)) rfl CT.nm CT.kp CT.bd .nil au (aa (pv 1) (aa (aV (pv 0) rfl) (aa (aV (pv 0) rfl) (aa (aV (pv 0) rfl) ac))))))
   (ae (ay (i:=3) lX.nd rfl (Or.inr rfl) (av CT.ok (hr.mono (by decide)) rfl CT.nm CT.kp CT.bd .nil au (aa (pv 1) (aa (aV (pv 0) rfl) (aa (aV (pv 0) rfl) (aa (aV (pv 0) rfl) ac))))))
   (ah (ax (aG aN (by rfl) N.len PySem.boot_len (aa (fH (bz rfl (cC rfl N.range (aa (aG aN (by rfl) N.len PySem.boot_len (aa (pv 2) ac)) ac)) rfl rfl (by show ∀p∈_,gc [‹"row"›, ‹"beside"›] p;decide) (by decide) rfl (by show ([‹"place"›, ‹"row"›, ‹"beside"›]:List Str).Nodup;decide) (.cons (i:=2) rfl (.inr (.inl rfl)) (by show (some NameKind.cell)≠some NameKind.local;decide) (.inl rfl) rfl (.cons (i:=3) rfl (.inr (.inl rfl)) (by show (some NameKind.cell)≠some NameKind.local;decide) (.inl rfl) rfl .nil)) (λC fp s H=>(mo (aI qT (aU (fY (K:=K) rfl) (pv 1) (pv 0) (λ_ _=>rfl)) (aU (fY (K:=K) rfl) (pv 2) (pv 0) (λ_ _=>rfl)) (aP _)))) (λC fp s H=>(pv 0)))) ac)))))),?_⟩
  cases l with
  | prt ka kb f0 l0=>
   obtain⟨dx,ln,h1,h2⟩:=id hx
   have T:=VQ _ (dc c (.prt ka kb f0 l0))
   obtain⟨hk1,hk2,hd⟩:=id ok
   obtain⟨d0,d1,d2⟩:=id hd
   have nxl:x≠la:=λz=>by obtain⟨xs,e⟩:=hT.lst;rw [<- z,h1]at e;cases e
   have hn:len2 f0 l0<=400:=by unfold len2;omega
   refine af (aw ⟨_,rfl,_,rfl,x,c.prt,dx,_,_,rfl,h1,T.cl,T.a_one,rfl,_,rfl,x,c.prt,dx,_,_,rfl,h1,T.cl,T.a_first,rfl,_,rfl,x,c.prt,dx,_,_,rfl,h1,T.cl,T.a_last,rfl,f,la,tb,kvs,rs,ka,f0,l0,rfl,hT,hd,by omega,λD1 H1 rs1 nD1 o1 a1 p1 e1=>?_⟩)
   walk_at "d"
   have t1:=hT.off o1 a1
   have hl1:=hJ p1
   rw [kP,eT]at hl1
   have h11:=o1 _ _ h1 nxl
   have nD1l:D1≠la:=λz=>by obtain⟨xs,e⟩:=hT.lst;rw [z,e]at nD1;cases nD1
   refine af (aw ⟨_,rfl,_,rfl,x,c.prt,dx,_,_,rfl,h11,T.cl,T.a_other,rfl,_,rfl,x,c.prt,dx,_,_,rfl,h11,T.cl,T.a_first,rfl,_,rfl,x,c.prt,dx,_,_,rfl,h11,T.cl,T.a_last,rfl,f,la,tb,kvs,rs1,kb,f0,l0,rfl,t1,hd,by omega,λD2 H2 rs2 nD2 o2 a2 p2 e2=>?_⟩)
   walk_at "d"
   have t2:=t1.off o2 a2
   have e12:=o2 _ _ e1 nD1l
   refine aA (uY (cJ (ce ⟨_,rfl,D1,_,rfl,.inl (SqL.of e12),_,rfl,by rw [gf];omega,by rw [gf];omega,?_⟩)))
   rw [gf,Int.toNat_natCast]
   refine oE (lo:=0) (n:=len2 f0 l0) (λd=>!decide (tel kvs ka (f0+d)=tel kvs kb (f0+d))) V.int ‹1› (λd hd0 hd1=>⟨λH3 R g3 hR=>?_,λ_ H3 R g3 hR=>⟨_,rfl,hR _ (λ_ _ e=>e)⟩⟩) λD H3 nD g3 e3=>?_
   ·exact⟨_,rfl,_,rfl,D1,_,d,_,rfl,rfl,SqL.of (g3 _ _ e12),mn hd0 ‹1›,_,rfl,_,rfl,D2,_,d,_,rfl,rfl,SqL.of (g3 _ _ e2),mn hd0 ‹1›,iZ (tab _ _) (tab _ _),_,rfl,hR _ (λ_ _ e=>e)⟩
   ·have o3:Off la H H3:=λb o e n=>g3 _ _ (o2 _ _ (o1 _ _ e n) n)
    obtain⟨_,_,a3⟩:=t2.grow g3
    have q':=q rs2 H3 o3 a3 (by rw [p2,p1,List.append_assoc];rfl)
    refine⟨D,_,rfl,.inl (SqL.of e3),?_⟩
    have e9:gJ (tel kvs) (.prt ka kb f0 l0)=.int ((((dys 0 (len2 f0 l0)).filter λd=>!decide (tel kvs ka (f0+d)=tel kvs kb (f0+d))).map V.int).length:Int):=by
     show V.int ((sf _ _ _ _ _).length:Int)=_
     unfold sf
     rw [show dys f0 (len2 f0 l0)=dys (f0+0) (len2 f0 l0) from by rw [Int.add_zero],rj,List.filter_map,List.length_map,List.length_map]
     rfl
    rw [e9]at q'
    exact q'
  | _=>cases hk
theorem BJ {T:Str->Int->V}{l:Lf} (h:(lfK l == 3 || lfK l == 5)=false):ko T l=oj l:=by
 cases l <;> first | rfl | cases h
theorem xw:FnScope ["self", "told"] ["self", "told"] (aq pd):=‹2›
theorem hZ {f:Addr}{fd:FuncData} (F:Fun K "read" "Question.read" pd f fd){c:Cs}{nn:Nat} (hnn:(nn == 3 || nn == 5)=false) (VP:∀C sp,VPl c C sp->MV P w K mg base CX0 "plain" 4 ["self", "told"] sp C):FnOk P w K mg base CX0 5 f fd ["self", "told"] (tZ c nn):=by
 refine F.ok (k:=4) xw (λvs H Q E h=>?_) (λcdv A outer s H vs Q E hr h=>?_)
 ·obtain⟨x,f,l,rfl,_⟩:=h
  rfl
 ·obtain⟨x,f,l,rfl,hk,⟨la,tb,kvs,rs,hx,ok,hT,tab,hl,q⟩⟩:=h
  have hu:=aK hr
  refine⟨_,(ah (ax (bH VP (pv 0) (hr.mono (by decide)) au (aa (pv 1) ac)))),?_⟩
  obtain⟨dx,ln,h1,h2⟩:=id hx
  subst hk
  rw [BJ hnn]at q
  exact aA ⟨_,rfl,x,lfC c l,dx,_,lK c (lfK l),rfl,h1,.mk l,qZ ‹0›,_,rfl,x,f,l,rfl,rfl,la,tb,kvs,rs,hx,ok,hT,tab,hl,q⟩
theorem wU (T:Str->Int->V) (k:Str) (f:Int) (i:Nat):bK T k f (i+1)=bK T k f i++(if T k (f+1+(i:Int))=T k (f+(i:Int)) then [] else [f+1+(i:Int)]):=by
 unfold bK
 rw [oz,List.filter_append]
 congr 1
 rw [List.filter_cons,show f+1+(i:Int) - 1=f+i by omega]
 by_cases h:T k (f+1+(i:Int))=T k (f+(i:Int))
 ·rw [if_pos h,decide_eq_true h];rfl
 ·rw [if_neg h,decide_eq_false h];rfl
theorem mO (T:Str->Int->V) (k:Str) (f:Int){i:Nat}:∀{n:Nat},i<=n->∃r,bK T k f n=bK T k f i++r
 | 0,h=>⟨[],by rw [show i=0 by omega,List.append_nil]⟩
 | n+1,h=>by
  by_cases e:i=n+1
  ·exact⟨[],by rw [e,List.append_nil]⟩
  ·obtain⟨r,hr⟩:=mO T k f (n:=n) (i:=i) ‹1›
   exact⟨_,by rw [wU,hr,List.append_assoc]⟩
theorem yF (T:Str->Int->V) (k:Str) (f:Int) (n:Nat):(((dys 1 n).filter λd=>!decide (T k (f+d)=T k (f+d - 1))).map λd=>V.int (f+d))=(bK T k f n).map V.int:=by
 unfold bK
 rw [rj,List.filter_map,List.map_map]
 rfl
theorem lY:FnScope ["self", "told", "row", "days"] ["self", "told"] (aq pA):=‹2›
theorem vD {f f1:Addr}{fd:FuncData} (F:Fun K "plain" "Change.plain" pA f fd) (N:Free mg){c:Cs} (VQ:∀C∈c.all,QuC K C){fd1:FuncData} (CT:Cal P w K mg base "tellings" 3 ["told", "key", "first", "last"] fi f1 fd1):FnOk P w K mg base CX0 4 f fd ["self", "told"] (lK c 5):=by
 refine F.ok (k:=3) lY (λvs H Q E h=>?_) (λcdv A outer s H vs Q E hr h=>?_)
 ·obtain⟨x,f,l,rfl,_⟩:=h
  rfl
 ·obtain⟨x,f,l,rfl,hk,⟨la,tb,kvs,rs,hx,ok,hT,tab,hl,q⟩⟩:=h
  have hu:=aK hr
  refine⟨_,(ae (ay (i:=2) lY.nd rfl (Or.inr rfl) (av CT.ok (hr.mono (by decide)) rfl CT.nm CT.kp CT.bd .nil au (aa (pv 1) (aa (cx (K:=K) rfl (pv 0) rfl) (aa (cx (K:=K) rfl (pv 0) rfl) (aa (cx (K:=K) rfl (pv 0) rfl) ac))))))
   (ae (mq (i:=3) lY.nd rfl (Or.inl rfl) (bz rfl (dL rfl N.range (aa aj (aa (aG aN (by rfl) N.len PySem.boot_len (aa (pv 2) ac)) ac))) rfl rfl (by show ∀p∈_,gc [‹"self"›, ‹"row"›] p;decide) (by decide) rfl (by show ([‹"place"›, ‹"self"›, ‹"row"›]:List Str).Nodup;decide) (.cons (i:=0) rfl (.inr (.inl rfl)) (by show (some NameKind.cell)≠some NameKind.local;decide) (.inl rfl) rfl (.cons (i:=2) rfl (.inr (.inl rfl)) (by show (some NameKind.cell)≠some NameKind.local;decide) (.inl rfl) rfl .nil)) (λC fp s H=>(mo (aI qT (aU (fY (K:=K) rfl) (pv 2) (pv 0) (λ_ _=>rfl)) (aU (fY (K:=K) rfl) (pv 2) (aL dn (pv 0) aj) (λ_ _=>rfl)) (aP _)))) (λC fp s H=>(aL bx (cx (K:=K) rfl (pv 1) rfl) (pv 0)))))
   (ah (ax (dQ (aI jE (cx (K:=K) rfl (pv 0) rfl) (aG aN (by rfl) N.len PySem.boot_len (aa (pv 3) ac)) (aP _)) (aU (fY (K:=K) rfl) (pv 3) (aL dn (cx (K:=K) rfl (pv 0) rfl) aj) (λ_ _=>rfl)) dm))))),?_⟩
  cases l with
  | chg r k f0 l0=>
   obtain⟨dx,ln,h1,h2⟩:=id hx
   have T:=VQ _ (dc c (.chg r k f0 l0))
   obtain⟨⟨hr1,hr2⟩,hk2,hd⟩:=id ok
   obtain⟨d0,d1,d2⟩:=id hd
   have nxl:x≠la:=λz=>by obtain⟨xs,e⟩:=hT.lst;rw [<- z,h1]at e;cases e
   have hn:len2 f0 l0<=400:=by unfold len2;omega
   have hn1:1<=len2 f0 l0:=by unfold len2;omega
   refine af (aw ⟨_,rfl,_,rfl,x,c.chg,dx,_,_,rfl,h1,T.cl,T.a_key,rfl,_,rfl,x,c.chg,dx,_,_,rfl,h1,T.cl,T.a_first,rfl,_,rfl,x,c.chg,dx,_,_,rfl,h1,T.cl,T.a_last,rfl,f,la,tb,kvs,rs,k,f0,l0,rfl,hT,hd,by omega,λD1 H1 rs1 nD1 o1 a1 p1 e1=>?_⟩)
   walk_at "d"
   have t1:=hT.off o1 a1
   have h11:=o1 _ _ h1 nxl
   refine af (aw (ce ⟨_,rfl,D1,_,rfl,.inl (SqL.of e1),1,_,rfl,⟨by omega,by omega,by rw [gf];omega,by rw [gf];omega⟩,?_⟩))
   rw [gf,show ((len2 f0 l0:Nat) - 1:Int).toNat=len2 f0 l0 - 1 by omega]
   refine oE (lo:=1) (n:=len2 f0 l0 - 1) (λd=>!decide (tel kvs k (f0+d)=tel kvs k (f0+d - 1))) (λd=>V.int (f0+d)) ‹1› (λd hd0 hd1=>⟨λH3 R g3 hR=>?_,λ_ H3 R g3 hR=>?_⟩) λD H3 nD g3 e3=>?_
   ·have ex:f0+(d - 1)=f0+d - 1:=by omega
    have ea:=mn (T:=tel kvs) (k:=k) (f:=f0) (d:=d - 1) (n:=len2 f0 l0) ‹1› ‹1›
    rw [ex]at ea
    exact⟨_,rfl,_,rfl,D1,_,d,_,rfl,rfl,SqL.of (g3 _ _ e1),mn ‹1› ‹1›,_,rfl,_,rfl,_,_,rfl,rfl,D1,_,d - 1,_,rfl,rfl,SqL.of (g3 _ _ e1),ea,iZ (tab _ _) (tab _ _),_,rfl,hR _ (λ_ _ e=>e)⟩
   ·exact⟨_,rfl,x,c.chg,dx,_,_,rfl,g3 _ _ h11,T.cl,T.a_first,rfl,_,rfl,_,_,rfl,rfl,hR _ (λ_ _ e=>e)⟩
   ·walk_at "d"
    rw [yF]at e3
    have o3:Off la H H3:=λb o e n=>g3 _ _ (o1 _ _ e n)
    obtain⟨_,_,a3⟩:=t1.grow g3
    have h13:=g3 _ _ h11
    have q':=q rs1 H3 o3 a3 p1
    refine aA ⟨_,rfl,x,c.chg,dx,_,_,rfl,h13,T.cl,T.a_rank,rfl,_,rfl,D,_,rfl,.inl (SqL.of e3),_,_,rfl,rfl,?_⟩
    rw [List.length_map]
    by_cases hz:r<=((bK (tel kvs) k f0 (len2 f0 l0 - 1)).length:Int)
    ·have hi:(r - 1).toNat < (bK (tel kvs) k f0 (len2 f0 l0 - 1)).length:=by omega
     obtain⟨d,ei⟩:∃d,(bK (tel kvs) k f0 (len2 f0 l0 - 1))[(r - 1).toNat]?=some d:=⟨_,List.getElem?_eq_getElem hi⟩
     have e9:gJ (tel kvs) (.chg r k f0 l0)=V.int d:=by
      show oq _=_
      rw [ei]
      rfl
     rw [e9]at q'
     have eat:atI ((bK (tel kvs) k f0 (len2 f0 l0 - 1)).map V.int) (r - 1)=some (V.int d):=by
      rw [show r - 1=(((r - 1).toNat:Nat):Int) by omega]
      refine dH ?_
      rw [List.getElem?_map,ei]
      rfl
     refine⟨_,rfl,?_⟩
     rw [decide_eq_true hz]
     exact bb ⟨_,rfl,_,rfl,x,c.chg,dx,_,_,rfl,h13,T.cl,T.a_rank,rfl,_,_,rfl,rfl,D,_,r - 1,_,rfl,rfl,SqL.of e3,eat,q'⟩
    ·have e9:gJ (tel kvs) (.chg r k f0 l0)=V.non:=by
      show oq _=_
      rw [List.getElem?_eq_none ‹1›]
      rfl
     rw [e9]at q'
     refine⟨_,rfl,?_⟩
     rw [decide_eq_false hz]
     exact aS q'
  | _=>cases hk
inductive ChI (H:Hp) (x f la tb:Addr) (kvs:List (List Key × V)) (rs:List RZ) (r:Int) (k:Str) (f0:Int) (i:Nat) (σ:St) (H2:Hp):Prop
 | mk (v4 v5:Option V) (rs2:List RZ) (h1:σ=[some (.ref x),some (.ref f),some (.int (r - (bK (tel kvs) k f0 i).length)),some (tel kvs k (f0+(i:Int))),v4,v5]) (h2:Off la H H2) (h3:TeA f la tb kvs H2 rs2) (h4:prs rs2=prs rs++aH k f0 (i+1)) (h5:((bK (tel kvs) k f0 i).length:Int) < r):ChI H x f la tb kvs rs r k f0 i σ H2
theorem fj:FnScope ["self", "told", "left", "ahead", "day", "here"] ["self", "told"] (aq ph):=‹2›
theorem vt {f:Addr}{fd:FuncData} (F:Fun K "read" "Change.read" ph f fd) (N:Free mg){c:Cs} (VQ:∀C∈c.all,QuC K C):FnOk P w K mg base CX0 3 f fd ["self", "told"] (tZ c 5):=by
 refine F.ok (k:=2) fj (λvs H Q E h=>?_) (λcdv A outer s H vs Q E hr h=>?_)
 ·obtain⟨x,f,l,rfl,_⟩:=h
  rfl
 ·obtain⟨x,f,l,rfl,hk,⟨la,tb,kvs,rs,hx,ok,hT,tab,hl,q⟩⟩:=h
  have hu:=aK hr
  refine⟨_,(ae (ay (i:=2) fj.nd rfl (Or.inl rfl) (cx (K:=K) rfl (pv 0) rfl))
   (ae (ay (i:=3) fj.nd rfl (Or.inl rfl) (eX dJ (pv 1) (hr.mono (by decide)) au (aa (cx (K:=K) rfl (pv 0) rfl) (aa (cx (K:=K) rfl (pv 0) rfl) ac))))
   (ae (cA PassesOwn.never rfl (dL rfl N.range (aa (aL bx (cx (K:=K) rfl (pv 0) rfl) aj) (aa (aL bx (cx (K:=K) rfl (pv 0) rfl) aj) ac))) (bi (i:=4) fj.nd rfl (Or.inl rfl))
   (ae (ay (i:=5) fj.nd rfl (Or.inl rfl) (eX dJ (pv 1) (hr.mono (by decide)) au (aa (cx (K:=K) rfl (pv 0) rfl) (aa (pv 4) ac))))
   (ae (ba (aI qT (pv 5) (pv 3) (aP _)) (ah (Az (i:=2) fj.nd rfl (Or.inl rfl) aj B5)) aF)
   (ae (ba (aI bM (pv 2) aj (aP _)) (ah (ax (pv 4))) aF)
   (ah (ay (i:=3) fj.nd rfl (Or.inl rfl) (pv 5)))))))
   (ah (ax dm))))),?_⟩
  cases l with
  | chg r k f0 l0=>
   obtain⟨dx,ln,h1,h2⟩:=id hx
   have T:=VQ _ (dc c (.chg r k f0 l0))
   obtain⟨⟨hr1,hr2⟩,hk2,hd⟩:=id ok
   obtain⟨d0,d1,d2⟩:=id hd
   have nxl:x≠la:=λz=>by obtain⟨xs,e⟩:=hT.lst;rw [<- z,h1]at e;cases e
   have hn:len2 f0 l0<=400:=by unfold len2;omega
   have hn1:1<=len2 f0 l0:=by unfold len2;omega
   have en:(l0+1 - (f0+1)).toNat=len2 f0 l0 - 1:=by unfold len2;omega
   obtain⟨tt,ht,ha⟩:=id hT
   refine af (aw ⟨_,rfl,x,c.chg,dx,_,_,rfl,h1,T.cl,T.a_rank,rfl,?_⟩)
   walk_at "d"
   refine af (aw ⟨_,rfl,f,_,rfl,⟨la,tb,kvs,rfl⟩,tt.fn,_,rfl,x,c.chg,dx,_,_,rfl,h1,T.cl,T.a_key,rfl,_,rfl,x,c.chg,dx,_,_,rfl,h1,T.cl,T.a_first,rfl,tt.fn,k,f0,rs,rfl,tt,ht,ha,by omega,λp H1 _ o1 a1=>?_⟩)
   walk_at "d"
   have t1:=hT.off o1 a1
   have h11:=o1 _ _ h1 nxl
   have p1:prs (rs++[((k,f0),p)])=prs rs++aH k f0 (0+1):=by
    rw [qm]
    unfold prs
    rw [List.map_append]
    show _=_++([]++[(k,f0+((0:Nat):Int))])
    rw [List.nil_append,Int.natCast_zero,Int.add_zero]
    rfl
   refine af ⟨_,rfl,x,c.chg,dx,_,_,rfl,h11,T.cl,T.a_first,rfl,_,_,rfl,rfl,_,rfl,x,c.chg,dx,_,_,rfl,h11,T.cl,T.a_last,rfl,_,_,rfl,rfl,f0+1,l0+1,rfl,⟨by omega,by omega,by omega,by omega⟩,?_⟩
   rw [en]
   refine cE (lo:=f0+1) (n:=len2 f0 l0 - 1) (ChI H x f la tb kvs rs r k f0) ⟨none,none,_,?_,o1,t1,p1,?_⟩ (λi σ H2 hi hh=>?_) λσ H2 hh=>?_
   ·show _=[_,_,some (V.int (r - ((0:Nat):Int))),some (tel kvs k (f0+((0:Nat):Int))),_,_]
    rw [Int.natCast_zero,Int.add_zero,Int.sub_zero]
    rfl
   ·show ((0:Nat):Int) < r
    omega
   ·obtain⟨v4,v5,rs2,rfl,o2,t2,p2,hc⟩:=hh
    have hl2:=hJ p2
    rw [kP,eT]at hl2
    walk_at "d"
    have h12:=o2 _ _ h1 nxl
    obtain⟨tt,ht,ha⟩:=id t2
    refine af (aw ⟨_,rfl,f,_,rfl,⟨la,tb,kvs,rfl⟩,tt.fn,_,rfl,x,c.chg,dx,_,_,rfl,h12,T.cl,T.a_key,rfl,_,rfl,tt.fn,k,f0+1+i,rs2,rfl,tt,ht,ha,by omega,λp H3 _ o3 a3=>?_⟩)
    walk_at "d"
    have t3:=t2.off o3 a3
    have o23:=o2.trans o3
    have p3:prs (rs2++[((k,f0+1+(i:Int)),p)])=prs rs++aH k f0 (i+1+1):=by
     rw [qm k f0 (i+1),<- List.append_assoc,<- p2]
     unfold prs
     rw [List.map_append,show f0+((i+1:Nat):Int)=f0+1+(i:Int) by omega]
     rfl
    have es:=wU (tel kvs) k f0 i
    have ead:f0+((i+1:Nat):Int)=f0+1+(i:Int):=by omega
    obtain⟨rr,hrr⟩:=mO (tel kvs) k f0 (n:=len2 f0 l0 - 1) (i:=i+1) ‹1›
    refine af (aE ⟨_,rfl,_,rfl,iZ (tab _ _) (tab _ _),_,rfl,?_⟩)
    by_cases hz:tel kvs k (f0+1+(i:Int))=tel kvs k (f0+(i:Int))
    ·rw [decide_eq_true hz]
     rw [if_pos hz,List.append_nil]at es
     refine aS (aB ?_)
     dsimp only
     refine af (aE ⟨_,rfl,rfl,_,rfl,?_⟩)
     rw [decide_eq_false (λz=>by have:=V.int.inj z;omega)]
     refine aS (aB ?_)
     dsimp only
     refine aw ⟨_,rfl,?_⟩
     walk_at "d"
     exact⟨_,_,_,by rw [es,ead],o23,t3,p3,by rw [es];exact hc⟩
    ·rw [decide_eq_false hz]
     rw [if_neg hz]at es
     refine bb ⟨_,rfl,_,_,rfl,rfl,?_⟩
     walk_at "d"
     refine af (aE ⟨_,rfl,rfl,_,rfl,?_⟩)
     by_cases h0:r - ((bK (tel kvs) k f0 i).length:Int) - 1=0
     ·rw [decide_eq_true (by rw [h0])]
      refine bb (aA ⟨_,rfl,?_⟩)
      have ei:(bK (tel kvs) k f0 (len2 f0 l0 - 1))[(r - 1).toNat]?=some (f0+1+(i:Int)):=by
       rw [hrr,es,show (r - 1).toNat=(bK (tel kvs) k f0 i).length by omega,List.append_assoc,List.getElem?_append_right (Nat.le_refl _),Nat.sub_self]
       rfl
      have q':=q _ H3 o23 a3 (by
       rw [p3]
       show _=_++(match (bK (tel kvs) k f0 (len2 f0 l0 - 1))[(r - 1).toNat]? with
        | some d=>aH k f0 (d - f0+1).toNat
        | none=>aH k f0 (len2 f0 l0))
       rw [ei,show i+1+1=(f0+1+(i:Int) - f0+1).toNat by omega])
      have e9:gJ (tel kvs) (.chg r k f0 l0)=V.int (f0+1+(i:Int)):=by
       show oq _=_
       rw [ei]
       rfl
      rw [e9]at q'
      exact q'
     ·rw [decide_eq_false (λz=>h0 (V.int.inj z))]
      refine aS (aB ?_)
      dsimp only
      refine aw ⟨_,rfl,?_⟩
      walk_at "d"
      have ln1:((bK (tel kvs) k f0 (i+1)).length:Int)=(bK (tel kvs) k f0 i).length+1:=by rw [es,List.length_append];rfl
      exact⟨_,_,_,by rw [ln1,ead,Int.sub_sub],o23,t3,p3,by omega⟩
   ·obtain⟨v4,v5,rs2,rfl,o2,t2,p2,hc⟩:=hh
    dsimp only
    obtain⟨_,_,a2⟩:=t2
    have ei:(bK (tel kvs) k f0 (len2 f0 l0 - 1))[(r - 1).toNat]?=none:=List.getElem?_eq_none ‹1›
    have q':=q rs2 H2 o2 a2 (by
     rw [p2,Nat.sub_add_cancel hn1]
     show _=_++(match (bK (tel kvs) k f0 (len2 f0 l0 - 1))[(r - 1).toNat]? with
      | some d=>aH k f0 (d - f0+1).toNat
      | none=>aH k f0 (len2 f0 l0))
     rw [ei])
    have e9:gJ (tel kvs) (.chg r k f0 l0)=V.non:=by
     show oq _=_
     rw [ei]
     rfl
    rw [e9]at q'
    exact aA q'
  | _=>cases hk
noncomputable abbrev uB:Stmt:=top 30
noncomputable abbrev uT:Stmt:=top 31
noncomputable abbrev mf:Stmt:=aM (top 25) 1
noncomputable abbrev md:Stmt:=aM (top 25) 2
noncomputable abbrev mh:Stmt:=aM (top 26) 1
noncomputable abbrev me:Stmt:=aM (top 26) 2
noncomputable def rkV (w:Str):V->V->V
 | .int m,.int n=>.int (if w=‹"plus"› then m+n else m - n)
 | _,_=>.non
noncomputable def ltV:V->V->Bool
 | .int m,.int n=>decide (m < n)
 | _,_=>false
noncomputable def chV (w:Str) (a b:V):Nat:=if (if w=‹"same"› then decide (a=b) else ltV a b)=true then 2 else 3
noncomputable def nd0:Nd:=.leaf (.num 0)
noncomputable def bO (T:Str->Int->V):Nat->Nd->V
 | 0,.leaf l=>gJ T l
 | 0,.brk _ _=>.non
 | _+1,.leaf l=>gJ T l
 | n+1,.brk w xs=>if w∈bA then rkV w (bO T n (xs.getD 0 nd0)) (bO T n (xs.getD 1 nd0)) else bO T n (xs.getD (chV w (bO T n (xs.getD 0 nd0)) (bO T n (xs.getD 1 nd0))) nd0)
noncomputable def bS (T:Str->Int->V):Nat->Nd->List (Str × Int)
 | 0,.leaf l=>ko T l
 | 0,.brk _ _=>[]
 | _+1,.leaf l=>ko T l
 | n+1,.brk w xs=>bS T n (xs.getD 0 nd0)++(bS T n (xs.getD 1 nd0)++if w∈bA then [] else bS T n (xs.getD (chV w (bO T n (xs.getD 0 nd0)) (bO T n (xs.getD 1 nd0))) nd0))
noncomputable def ndC (c:Cs):Nd->Addr
 | .leaf l=>lfC c l
 | .brk w _=>brC c w
noncomputable def ndK:Nd->Nat
 | .leaf l=>lfK l
 | .brk w _=>if w∈bA then 6 else 7
noncomputable def pZ:Nat->Nd->List (Str × Int)
 | 0,.leaf l=>oj l
 | 0,.brk _ _=>[]
 | _+1,.leaf l=>oj l
 | n+1,.brk _ xs=>xs.flatMap (pZ n)
theorem mr {T:Str->Int->V}{n:Nat}{l:Lf}:bO T n (.leaf l)=gJ T l:=by cases n <;> rfl
theorem qM {T:Str->Int->V}{n:Nat}{l:Lf}:bS T n (.leaf l)=ko T l:=by cases n <;> rfl
theorem qP {n:Nat}{l:Lf}:pZ n (.leaf l)=oj l:=by cases n <;> rfl
theorem kW {f l:Int} (h:kB f l):len2 f l<=400:=by
 obtain⟨h1,h2,h3⟩:=h
 unfold len2
 omega
theorem fU {l:Lf} (ok:du l):(oj l).length<=3200:=by
 cases l with
 | num z=>exact Nat.zero_le _
 | val k d=>show 1<=3200;decide
 | gth w ks f l=>
  obtain⟨_,⟨_,h8,_⟩,hd⟩:=ok
  have h1:=fc f (len2 f l) (aY ks)
  have h2:=Nat.le_trans (dS _ ks rfl) h8
  have h3:=Nat.mul_le_mul (kW hd) h2
  exact Nat.le_trans h1 h3
 | snc k bd f l=>exact Nat.le_trans (Nat.le_of_eq (eT _ _ _)) (Nat.le_trans (kW ok.2.2) (by decide))
 | prt a b f l=>
  show (aH a f _++aH b f _).length<=_
  rw [List.length_append,eT,eT]
  have:=kW ok.2.2
  omega
 | chg r k f l=>exact Nat.le_trans (Nat.le_of_eq (eT _ _ _)) (Nat.le_trans (kW ok.2.2) (by decide))
theorem w6 {T:Str->Int->V}{l:Lf} (ok:du l):(ko T l).length<=3200:=by
 cases l with
 | snc k bd f l=>
  show (dnP k l _).length<=_
  rw [C7]
  have:=kW ok.2.2
  omega
 | chg r k f l=>
  have h4:=kW ok.2.2
  show (match (bK T k f (len2 f l - 1))[(r - 1).toNat]? with
   | some d=>aH k f (d - f+1).toNat
   | none=>aH k f (len2 f l)).length<=_
  cases e9:(bK T k f (len2 f l - 1))[(r - 1).toNat]? with
  | none=>show (aH k f (len2 f l)).length<=_;rw [eT];omega
  | some d=>
   have hdm:=jb.mp (List.mem_filter.mp (List.mem_of_getElem? e9)).1
   show (aH k f (d - f+1).toNat).length<=_
   rw [eT]
   omega
 | num z=>exact fU (l:=.num z) ok
 | val k d=>exact fU (l:=.val k d) ok
 | gth w ks f l=>exact fU (l:=.gth w ks f l) ok
 | prt a b f l=>exact fU (l:=.prt a b f l) ok
theorem iE (n:Nat):3200 * 4 ^ (n+1)=4 * (3200 * 4 ^ n):=by rw [Nat.pow_succ];omega
theorem qU (n:Nat):3200<=3200 * 4 ^ n:=Nat.le_mul_of_pos_right _ (Nat.pow_pos (by decide))
theorem r9 {w:Str}{xs:List Nd} (h:(w∈bA/\xs.length=2)\/(w∈eF/\xs.length=4)) (hw:w∈bA):∃a b,xs=[a,b]:=by
 have hx:xs.length=2:=h.elim (λz=>z.2) λz=>absurd z.1 ((show ∀w∈bA,w∉eF by decide +kernel) w hw)
 match xs,hx with
 | [a,b],_=>exact⟨a,b,rfl⟩
theorem r8 {w:Str}{xs:List Nd} (h:(w∈bA/\xs.length=2)\/(w∈eF/\xs.length=4)) (hw:¬w∈bA):∃a b d e,xs=[a,b,d,e]:=by
 have hx:xs.length=4:=h.elim (λz=>absurd z.1 hw) λz=>z.2
 match xs,hx with
 | [a,b,d,e],_=>exact⟨a,b,d,e,rfl⟩
theorem ch_is (w:Str) (a b:V):chV w a b=2\/chV w a b=3:=by
 unfold chV
 by_cases h:(if w=‹"same"› then decide (a=b) else ltV a b)=true
 ·rw [if_pos h];exact .inl rfl
 ·rw [if_neg h];exact .inr rfl
theorem iF {α β:Type}{g:α->List β}{m:Nat}:∀(xs:List α),(∀x∈xs,(g x).length<=m)->(xs.flatMap g).length<=m * xs.length
 | [],_=>Nat.zero_le _
 | x::xs,h=>by
  have h1:=h x List.mem_cons_self
  have h2:=iF xs λy hy=>h y (List.mem_cons_of_mem _ hy)
  rw [List.flatMap_cons,List.length_append,List.length_cons,Nat.mul_succ]
  omega
theorem pS:∀{n:Nat}{q:Nd},cI n q->(pZ n q).length<=3200 * 4 ^ n
 | n,.leaf l,ok=>by rw [qP];exact Nat.le_trans (fU (cy ok)) (qU n)
 | 0,.brk _ _,ok=>(show False from ok).elim
 | n+1,.brk w xs,ok=>by
  obtain⟨hw,hxs⟩:_/\_:=id ok
  have h1:=iF (g:=pZ n) (m:=3200 * 4 ^ n) xs λq hq=>pS (hxs q hq)
  have h4:=(fE hw).2
  rw [iE]
  exact Nat.le_trans h1 (by rw [Nat.mul_comm 4];exact Nat.mul_le_mul_left _ h4)
theorem eQ {T:Str->Int->V}:∀{n:Nat}{q:Nd},cI n q->(bS T n q).length<=3200 * 4 ^ n
 | n,.leaf l,ok=>by rw [qM];exact Nat.le_trans (w6 (cy ok)) (qU n)
 | 0,.brk _ _,ok=>(show False from ok).elim
 | n+1,.brk w xs,ok=>by
  obtain⟨hw,hxs⟩:_/\_:=id ok
  rw [iE,bS,List.length_append,List.length_append]
  by_cases hr:w∈bA
  ·obtain⟨q0,q1,rfl⟩:=r9 hw hr
   rw [if_pos hr]
   have h0:=eQ (T:=T) (hxs q0 (by simp))
   have h1:=eQ (T:=T) (hxs q1 (by simp))
   show (bS T n q0).length+((bS T n q1).length+0)<=_
   omega
  ·obtain⟨q0,q1,q2,q3,rfl⟩:=r8 hw hr
   rw [if_neg hr]
   have h0:=eQ (T:=T) (hxs q0 (by simp))
   have h1:=eQ (T:=T) (hxs q1 (by simp))
   have h2:=eQ (T:=T) (hxs q2 (by simp))
   have h3:=eQ (T:=T) (hxs q3 (by simp))
   show (bS T n q0).length+((bS T n q1).length+(bS T n ([q0,q1,q2,q3].getD (chV w (bO T n q0) (bO T n q1)) nd0)).length)<=_
   rcases ch_is w (bO T n q0) (bO T n q1) with e | e <;> rw [e]
   ·show _+(_+(bS T n q2).length)<=_;omega
   ·show _+(_+(bS T n q3).length)<=_;omega
theorem Bb {w:Str}{ns:List Int}:di (gat w ns):=by
 unfold gat
 split
 ·exact .inr ⟨_,rfl⟩
 split
 ·exact .inr ⟨_,rfl⟩
 split
 ·rcases best_min_is ns with⟨_,e⟩ | ⟨m,e,_⟩
  ·exact .inl e
  ·exact .inr ⟨m,e⟩
 ·rcases best_max_is ns with⟨_,e⟩ | ⟨m,e,_⟩
  ·exact .inl e
  ·exact .inr ⟨m,e⟩
theorem yv {T:Str->Int->V} (ht:∀k d,di (T k d)){l:Lf}:di (gJ T l):=by
 cases l with
 | snc k bd f l=>show di (gT _ _ _);unfold gT;split;exact .inr ⟨_,rfl⟩;exact .inl rfl
 | prt a b f l=>exact .inr ⟨_,rfl⟩
 | chg r k f l=>
  show di (oq _)
  cases (bK T k f (len2 f l - 1))[(r - 1).toNat]? with
  | none=>exact .inl rfl
  | some d=>exact .inr ⟨_,rfl⟩
 | num z=>exact .inr ⟨_,rfl⟩
 | val k d=>exact ht k d
 | gth w ks f l=>exact Bb
theorem BH (w:Str){u v:V} (hu:di u) (hv:di v):di (rkV w u v):=by
 rcases hu with rfl | ⟨m,rfl⟩
 ·exact .inl rfl
 ·rcases hv with rfl | ⟨n,rfl⟩
  ·exact .inl rfl
  ·exact .inr ⟨_,rfl⟩
theorem bJ {T:Str->Int->V} (ht:∀k d,di (T k d)):∀{n:Nat}{q:Nd},di (bO T n q)
 | n,.leaf l=>by rw [mr];exact yv ht
 | 0,.brk _ _=>.inl rfl
 | n+1,.brk w xs=>by
  rw [bO]
  split
  ·exact BH w (bJ ht) (bJ ht)
  ·exact bJ ht
noncomputable def bar (la:Addr) (H:Hp):Hp:=λb=>if b=la then none else H b
theorem cb {la b:Addr}{H:Hp}{o:HO} (h:bar la H b=some o):b≠la/\H b=some o:=by
 unfold bar at h
 by_cases z:b=la
 ·rw [if_pos z]at h;cases h
 ·rw [if_neg z]at h;exact⟨z,h⟩
theorem qt {la b:Addr}{H:Hp}{o:HO} (n:b≠la) (h:H b=some o):bar la H b=some o:=by
 unfold bar
 rw [if_neg n]
 exact h
theorem gM {la:Addr}{H:Hp}:aZ (bar la H) H:=λb o e=>(cb e).2
theorem mP {la:Addr}{H H':Hp} (o:Off la H H'):aZ (bar la H) (bar la H'):=λb u e=>qt (cb e).1 (o _ _ (cb e).2 (cb e).1)
theorem i7 {c:Cs}{n:Nat}{q:Nd}{H:Hp}{x:Addr}{m:Str} (h:bc c n q H x) (hm:m∉cK):∃dx fs,H x=some (.ins (ndC c q) dx fs)/\fs.lookup m=none:=by
 cases q with
 | leaf l=>
  obtain⟨dx,ln,h1,h2⟩:=gh.mp h
  exact⟨dx,_,h1,qZ hm⟩
 | brk w xs=>
  cases n with
  | zero=>exact(show False from h).elim
  | succ n=>
   obtain⟨dx,ln,li,as,h1,h2,h3,h4⟩:BrX c n w xs (λa q=>bc c n q H a) H x:=h
   exact⟨dx,_,h1,xR hm (oI n w xs ln li)⟩
noncomputable abbrev RdT:=(Str->Int->V)->Nat->Nd->List (Str × Int)
inductive PlN (R:RdT) (c:Cs) (n:Nat) (nd:Nd) (x f:Addr) (H:Hp) (Q:VK):Prop
 | mk (la tb:Addr) (kvs:List (List Key × V)) (rs:List RZ) (hx:bc c n nd (bar la H) x) (ok:cI n nd) (T:TeA f la tb kvs H rs) (tab:x9 kvs) (hl:rs.length+3200 * 4 ^ n < 900000) (q:∀(rs':List RZ) (H':Hp),Off la H H'->Askd H' la rs'->prs rs'=prs rs++R (tel kvs) n nd->Q (bO (tel kvs) n nd) H'):PlN R c n nd x f H Q
noncomputable def spN (R:RdT) (c:Cs) (n k:Nat):Sp:=λvs H Q _=>∃(x f:Addr) (nd:Nd),vs=[.ref x,.ref f]/\ndK nd=k/\PlN R c n nd x f H Q
noncomputable abbrev prR:RdT:=λ_=>pZ
inductive VN (R:RdT) (c:Cs) (n:Nat):Addr->Sp->Prop
 | mk (nd0:Nd):VN R c n (ndC c nd0) (spN R c n (ndK nd0))
inductive VRd (c:Cs):Addr->Sp->Prop
 | mk (l0:Lf):VRd c (lfC c l0) (tZ c (lfK l0))
theorem pR {rs rs':List RZ}{ps:List (Str × Int)} (h:prs rs'=prs rs++ps):rs'.length=rs.length+ps.length:=by
 have:=hJ h
 rw [kP]at this
 exact this
theorem TeA.put {f la tb D:Addr}{kvs:List (List Key × V)}{H:Hp}{rs:List RZ}{xs ys:List V} (h:TeA f la tb kvs H rs) (n:D≠la) (e:H D=some (.lst xs)):TeA f la tb kvs (upd H D (.lst ys)) rs:=by
 obtain⟨t,ht,a⟩:=h
 exact⟨t.keep λb φ eb=>by rw [ai λz=>by rw [z,e]at eb;cases eb];exact eb,by rw [ai λz=>by rw [z,e]at ht;cases ht];exact ht,a.off (b:=D) n (λxs z=>by rw [e]at z;cases z) λb' o e n=>by rw [ai n];exact e⟩
inductive AskI (A:Nd->V) (Rf:Nd->List (Str × Int)) (la tb f:Addr) (kvs:List (List Key × V)) (c:Cs) (n:Nat) (q:Nd) (a:Addr) (H2:Hp) (R:VK):Prop
 | mk (rs2:List RZ) (h1:bc c n q (bar la H2) a) (h2:cI n q) (h3:TeA f la tb kvs H2 rs2) (h4:rs2.length+3200 * 4 ^ n < 900000) (h5:∀(rs':List RZ) (H':Hp),Off la H2 H'->Askd H' la rs'->prs rs'=prs rs2++Rf q->R (A q) H'):AskI A Rf la tb f kvs c n q a H2 R
theorem jV {K:W.Frag}{c:Cs}{n:Nat}{li la tb f:Addr}{as:List Addr}{xs:List Nd}{kvs:List (List Key × V)}{rs:List RZ}{sub:List Nat}{te:TE}{σ:St}{Q:VK}{H:Hp} (A:Nd->V) (Rf:Nd->List (Str × Int)) (hp:Paired (λa q=>bc c n q (bar la H) a) as xs) (hxs:∀x∈xs,cI n x) (hli:bar la H li=some (.lst (as.map V.ref))) (hT:TeA f la tb kvs H rs) (h4:xs.length<=4) (hl:rs.length+4 * (3200 * 4 ^ n) < 900000) (hRf:∀x∈xs,(Rf x).length<=3200 * 4 ^ n)
  (hte:∀(a:Addr) (q:Nd) (H2:Hp) (R:VK),Off la H H2->AskI A Rf la tb f kvs c n q a H2 R->te (some (.ref a)::bG sub σ) H2 R)
  (hq:∀(D:Addr) (H':Hp) (rs':List RZ),Off la H H'->Askd H' la rs'->prs rs'=prs rs++xs.flatMap Rf->H' D=some (.lst (xs.map A))->Q (.ref D) H'):gb (Itl K li) sub (λ_ H Q=>Q true H) te σ Q H:=by
 intro D nD
 have nDl:D≠la:=λz=>by obtain⟨xs,e⟩:=hT.lst;rw [z,e]at nD;cases nD
 have hal:=ca hp
 obtain⟨nli,eli⟩:=cb hli
 refine fe (K:=K) (a:=li) (xs:=as.map V.ref) (sub:=sub) (tt:=λ_ H Q=>Q true H) (te:=te) (Q:=Q) (σ:=σ) (λi ys H2=>∃rs2,ys=(xs.take i).map A/\H2 D=some (.lst ys)/\Off la H H2/\TeA f la tb kvs H2 rs2/\prs rs2=prs rs++(xs.take i).flatMap Rf) ⟨rs,rfl,ar,Off.grow (laid nD).1,hT.grow (laid nD).1,(List.append_nil _).symm⟩ (λi ys H2 _ hh=>?_) (λi v ys H2 hi hh=>?_) λys H2 hh=>?_
 ·obtain⟨rs2,rfl,e2,o2,t2,p2⟩:=hh
  exact SqL.of (o2 _ _ eli nli)
 ·obtain⟨rs2,rfl,e2,o2,t2,p2⟩:=hh
  rw [List.getElem?_map]at hi
  obtain⟨a,ha,rfl⟩:=Option.map_eq_some_iff.mp hi
  obtain⟨q0,hq0,hqa⟩:=dR hp ha
  have hqx:=List.mem_of_getElem? hq0
  have hil:=(List.getElem?_eq_some_iff.mp hq0).1
  have et:xs.take (i+1)=xs.take i++[q0]:=by rw [List.take_add_one,hq0];rfl
  have hz:=pR p2
  have hf:=iF (g:=Rf) (m:=3200 * 4 ^ n) (xs.take i) λq hq=>hRf q (List.mem_of_mem_take hq)
  rw [List.length_take,Nat.min_eq_left (Nat.le_of_lt hil)]at hf
  have hm:3200 * 4 ^ n * i<=3200 * 4 ^ n * 3:=Nat.mul_le_mul_left _ ‹1›
  refine bb (hte a q0 H2 _ o2 ⟨rs2,bc.keep (Kq.grow (mP o2)) hqa,hxs q0 hqx,t2,by omega,λrs3 H3 o3 a3 p3=>?_⟩)
  have e3:=o3 _ _ e2 nDl
  refine⟨e3,by rw [List.length_map,List.length_take];exact bh ‹1›,rs3,?_,ar,λb o e nb=>?_,(t2.off o3 a3).put nDl e3,?_⟩
  ·rw [et,List.map_append];rfl
  ·rw [ai (ao e nD)];exact o3 _ _ (o2 _ _ e nb) nb
  ·rw [p3,p2,et,List.flatMap_append,List.append_assoc,List.flatMap_cons,List.flatMap_nil,List.append_nil]
 ·obtain⟨rs2,rfl,e2,o2,t2,p2⟩:=hh
  rw [List.length_map,hal,List.take_length]at e2 p2
  obtain⟨_,_,a2⟩:=t2
  exact hq D H2 rs2 o2 a2 p2 e2
noncomputable def jl:Sp:=λvs H Q _=>∃(w:Str) (la:Addr) (u v:V),vs=[.str w,.ref la]/\H la=some (.lst [u,v])/\di u/\di v/\Q (rkV w u v) H
noncomputable def jr:Sp:=λvs H Q _=>∃(w:Str) (u v:V),vs=[.str w,u,v]/\di u/\di v/\Q (.int (chV w u v:Nat)) H
theorem oY:FnScope ["word", "answers", "one", "other"] ["word", "answers"] (aq uB):=‹2›
theorem xY {f:Addr}{fd:FuncData} (F:Fun K "reckoned" "reckoned" uB f fd)  : FnOk P w K mg base CX0 1 f fd ["word", "answers"] jl:=by
 refine F.ok (k:=0) oY (λvs H Q E h=>?_) (λcdv A outer s H vs Q E hr h=>?_)
 ·obtain⟨w0,la,u,v,rfl,_⟩:=h
  rfl
 ·obtain⟨w0,la,u,v,rfl,hl,hu1,hv1,q⟩:=h
  have hu:=aK hr
  refine⟨_,(ae (ay (i:=2) oY.nd rfl (Or.inl rfl) (aU aO (pv 1) aj (λ_ _=>rfl)))
   (ae (ay (i:=3) oY.nd rfl (Or.inl rfl) (aU aO (pv 1) aj (λ_ _=>rfl)))
   (ae (ba (PW.pt (nF (fk (gH (pv 2))) (jy (fk (gH (pv 3)))))) (ah (ax dm)) aF)
   (ah (ax (dQ (aI bM (pv 0) aD (aP _)) (aL bx (pv 2) (pv 3)) (aL dn (pv 2) (pv 3)))))))),?_⟩
  refine af (aw ⟨_,rfl,la,_,0,_,rfl,rfl,SqL.of hl,rfl,?_⟩)
  walk_at "d"
  refine af (aw ⟨_,rfl,la,_,1,_,rfl,rfl,SqL.of hl,rfl,?_⟩)
  walk_at "d"
  rcases hu1 with rfl | ⟨m,rfl⟩
  ·exact af (aE ⟨_,rfl,_,rfl,bb (bb (aA q))⟩)
  rcases hv1 with rfl | ⟨n,rfl⟩
  ·exact af (aE ⟨_,rfl,_,rfl,aS ⟨_,rfl,_,rfl,bb (aA q)⟩⟩)
  refine af (aE ⟨_,rfl,_,rfl,aS ⟨_,rfl,_,rfl,aS (aB ?_)⟩⟩)
  dsimp only
  refine aA ⟨_,rfl,rfl,_,rfl,?_⟩
  have q:Q (.int (if w0=‹"plus"› then m+n else m - n)) H:=q
  by_cases hp:w0=‹"plus"›
  ·rw [decide_eq_true (show V.str w0=V.str ‹"plus"› by rw [hp])]
   rw [if_pos hp]at q
   exact bb ⟨_,rfl,_,rfl,_,_,rfl,rfl,q⟩
  ·rw [decide_eq_false (λz=>hp (V.str.inj z))]
   rw [if_neg hp]at q
   exact aS ⟨_,rfl,_,rfl,_,_,rfl,rfl,q⟩
theorem Ad:FnScope ["word", "one", "other"] ["word", "one", "other"] (aq uT):=‹2›
theorem yl {f:Addr}{fd:FuncData} (F:Fun K "place_chosen" "place_chosen" uT f fd)  : FnOk P w K mg base CX0 1 f fd ["word", "one", "other"] jr:=by
 refine F.ok (k:=0) Ad (λvs H Q E h=>?_) (λcdv A outer s H vs Q E hr h=>?_)
 ·obtain⟨w0,u,v,rfl,_⟩:=h
  rfl
 ·obtain⟨w0,u,v,rfl,hu1,hv1,q⟩:=h
  have hu:=aK hr
  refine⟨_,(ae (ba (aI bM (pv 0) aD (aP _)) (ah (ax (dQ (aI bM (pv 1) (pv 2) (aP _)) aj aj))) aF)
   (ah (ax (dQ (PW.pt (pQ (fk (hX (pv 1))) (pQ (fk (hX (pv 2))) (qO (aI jD (pv 1) (pv 2) (aP _)))))) aj aj)))),?_⟩
  have q:Q (.int ((if (if w0=‹"same"› then decide (u=v) else ltV u v)=true then 2 else 3:Nat):Int)) H:=q
  refine af (aE ⟨_,rfl,rfl,_,rfl,?_⟩)
  by_cases hs:w0=‹"same"›
  ·rw [decide_eq_true (show V.str w0=V.str ‹"same"› by rw [hs])]
   rw [if_pos hs]at q
   refine bb (aA ⟨_,rfl,_,rfl,iZ hu1 hv1,_,rfl,?_⟩)
   by_cases e:u=v
   ·rw [decide_eq_true e]at q ⊢
    exact bb q
   ·rw [decide_eq_false e]at q ⊢
    exact aS q
  rw [decide_eq_false (λz=>hs (V.str.inj z))]
  rw [if_neg hs]at q
  refine aS (aB ?_)
  dsimp only
  refine aA ?_
  rcases hu1 with rfl | ⟨m,rfl⟩
  ·exact⟨_,rfl,_,rfl,aS q⟩
  rcases hv1 with rfl | ⟨n,rfl⟩
  ·exact⟨_,rfl,_,rfl,bb ⟨_,rfl,_,rfl,aS q⟩⟩
  refine⟨_,rfl,_,rfl,bb ⟨_,rfl,_,rfl,bb ⟨_,rfl,_,rfl,_,_,rfl,rfl,_,rfl,?_⟩⟩⟩
  have q:Q (.int ((if decide (m < n)=true then 2 else 3:Nat):Int)) H:=q
  by_cases e:m < n
  ·rw [decide_eq_true e]at q ⊢
   exact bb q
  ·rw [decide_eq_false e]at q ⊢
   exact aS q
theorem xA:FnScope ["self", "told"] ["self", "told"] (aq mf):=‹2›
theorem vz {c:Cs}{n:Nat}{f f1:Addr}{fd:FuncData} (F:Fun K "plain" "Reckoning.plain" mf f fd) (N:Free mg) (VQ:∀C∈c.all,QuC K C) (VP:∀C sp,VN prR c n C sp->MV P w K mg base CX0 "plain" (n+4) ["self", "told"] sp C){fd1:FuncData} (CR:Cal P w K mg base "reckoned" 1 ["word", "answers"] jl f1 fd1):FnOk P w K mg base CX0 (n+5) f fd ["self", "told"] (spN prR c (n+1) 6):=by
 refine F.ok (k:=n+4) xA (λvs H Q E h=>?_) (λcdv A outer s H vs Q E hr h=>?_)
 ·obtain⟨x,f,nd,rfl,_⟩:=h
  rfl
 ·obtain⟨x,f,nd,rfl,hk,⟨la,tb,kvs,rs,hx,ok,hT,tab,hl,q⟩⟩:=h
  have hu:=aK hr
  refine⟨_,(ah (ax (av CR.ok (hr.mono ‹1›) rfl CR.nm CR.kp CR.bd .nil au (aa (aV (pv 0) rfl) (aa (fH (bz rfl (cg (aV (pv 0) rfl)) rfl rfl (by show ∀p∈_,gc [‹"told"›] p;decide) (by decide) rfl (by show ([‹"question"›, ‹"told"›]:List Str).Nodup;decide) (.cons (i:=1) rfl (.inr (.inl rfl)) (by show (some NameKind.cell)≠some NameKind.local;decide) (.inl rfl) rfl .nil) (λC fp s H=>cw) (λC fp s H=>(bH VP (pv 0) (hr.mono ‹1›) au (aa (pv 1) ac))))) ac))))),?_⟩
  cases nd with
  | leaf l=>cases l <;> cases hk
  | brk w0 xs=>
  have hr0:w0∈bA:=by
   by_cases z:w0∈bA
   ·exact z
   ·exact absurd hk (by show ¬(if w0∈bA then 6 else 7)=6;rw [if_neg z];decide)
  obtain⟨dx,ln,li,as,h1,h2,h3,h4⟩:BrX c n w0 xs (λa q=>bc c n q (bar la H) a) (bar la H) x:=hx
  obtain⟨hw2,hxs⟩:_/\_:=id ok
  obtain⟨q0,q1,rfl⟩:=r9 hw2 hr0
  rw [iE]at hl
  have T:=VQ _ (fF c w0)
  obtain⟨nxl,h1'⟩:=cb h1
  refine aA ⟨_,rfl,x,brC c w0,dx,_,_,rfl,h1',T.cl,T.a_word,rfl,cJ (ce ⟨_,rfl,x,brC c w0,dx,_,_,rfl,h1',T.cl,T.a_inner,rfl,li,rfl,⟨_,SqL.of (cb h3).2⟩,?_⟩)⟩
  refine jV (λq=>bO (tel kvs) n q) (λq=>pZ n q) h4 hxs h3 hT (Nat.le_of_ble_eq_true rfl) hl (λq hq=>pS (hxs q hq)) (λa q5 H5 R5 o5 hI=>?_) λD H5 rs5 o5 a5 p5 e5=>?_
  ·obtain⟨rs2,i1,i2,i3,i4,i5⟩:=hI
   obtain⟨dy,fs,e5,e6⟩:=i7 (m:="plain") (bc.keep (Kq.grow gM) i1) ‹0›
   exact⟨_,rfl,a,ndC c q5,dy,fs,_,rfl,e5,.mk q5,e6,_,rfl,a,f,q5,rfl,rfl,la,tb,kvs,rs2,i1,i2,i3,tab,i4,i5⟩
  ·dsimp only [cq,tC,gC,List.append_nil,List.cons_append,List.nil_append]
   refine⟨w0,D,_,_,rfl,e5,bJ tab,bJ tab,?_⟩
   have q':=q rs5 H5 o5 a5 (by rw [p5];rfl)
   rw [bO,if_pos hr0]at q'
   exact q'
theorem xy:FnScope ["self", "told"] ["self", "told"] (aq md):=‹2›
theorem vq {c:Cs}{n:Nat}{f f1:Addr}{fd:FuncData} (F:Fun K "read" "Reckoning.read" md f fd) (N:Free mg) (VQ:∀C∈c.all,QuC K C) (VP:∀C sp,VN bS c n C sp->MV P w K mg base CX0 "read" (n+5) ["self", "told"] sp C){fd1:FuncData} (CR:Cal P w K mg base "reckoned" 1 ["word", "answers"] jl f1 fd1):FnOk P w K mg base CX0 (n+6) f fd ["self", "told"] (spN bS c (n+1) 6):=by
 refine F.ok (k:=n+5) xy (λvs H Q E h=>?_) (λcdv A outer s H vs Q E hr h=>?_)
 ·obtain⟨x,f,nd,rfl,_⟩:=h
  rfl
 ·obtain⟨x,f,nd,rfl,hk,⟨la,tb,kvs,rs,hx,ok,hT,tab,hl,q⟩⟩:=h
  have hu:=aK hr
  refine⟨_,(ah (ax (av CR.ok (hr.mono ‹1›) rfl CR.nm CR.kp CR.bd .nil au (aa (aV (pv 0) rfl) (aa (fH (bz rfl (cg (aV (pv 0) rfl)) rfl rfl (by show ∀p∈_,gc [‹"told"›] p;decide) (by decide) rfl (by show ([‹"question"›, ‹"told"›]:List Str).Nodup;decide) (.cons (i:=1) rfl (.inr (.inl rfl)) (by show (some NameKind.cell)≠some NameKind.local;decide) (.inl rfl) rfl .nil) (λC fp s H=>cw) (λC fp s H=>(bH VP (pv 0) (hr.mono ‹1›) au (aa (pv 1) ac))))) ac))))),?_⟩
  cases nd with
  | leaf l=>cases l <;> cases hk
  | brk w0 xs=>
  have hr0:w0∈bA:=by
   by_cases z:w0∈bA
   ·exact z
   ·exact absurd hk (by show ¬(if w0∈bA then 6 else 7)=6;rw [if_neg z];decide)
  obtain⟨dx,ln,li,as,h1,h2,h3,h4⟩:BrX c n w0 xs (λa q=>bc c n q (bar la H) a) (bar la H) x:=hx
  obtain⟨hw2,hxs⟩:_/\_:=id ok
  obtain⟨q0,q1,rfl⟩:=r9 hw2 hr0
  rw [iE]at hl
  have T:=VQ _ (fF c w0)
  obtain⟨nxl,h1'⟩:=cb h1
  refine aA ⟨_,rfl,x,brC c w0,dx,_,_,rfl,h1',T.cl,T.a_word,rfl,cJ (ce ⟨_,rfl,x,brC c w0,dx,_,_,rfl,h1',T.cl,T.a_inner,rfl,li,rfl,⟨_,SqL.of (cb h3).2⟩,?_⟩)⟩
  refine jV (λq=>bO (tel kvs) n q) (λq=>bS (tel kvs) n q) h4 hxs h3 hT (Nat.le_of_ble_eq_true rfl) hl (λq hq=>eQ (hxs q hq)) (λa q5 H5 R5 o5 hI=>?_) λD H5 rs5 o5 a5 p5 e5=>?_
  ·obtain⟨rs2,i1,i2,i3,i4,i5⟩:=hI
   obtain⟨dy,fs,e5,e6⟩:=i7 (m:="read") (bc.keep (Kq.grow gM) i1) ‹0›
   exact⟨_,rfl,a,ndC c q5,dy,fs,_,rfl,e5,.mk q5,e6,_,rfl,a,f,q5,rfl,rfl,la,tb,kvs,rs2,i1,i2,i3,tab,i4,i5⟩
  ·dsimp only [cq,tC,gC,List.append_nil,List.cons_append,List.nil_append]
   refine⟨w0,D,_,_,rfl,e5,bJ tab,bJ tab,?_⟩
   have q':=q rs5 H5 o5 a5 (by rw [p5];rw [bS,if_pos hr0];rfl)
   rw [bO,if_pos hr0]at q'
   exact q'
theorem qJ:FnScope ["self", "told", "answers"] ["self", "told"] (aq mh):=‹2›
theorem vE {c:Cs}{n:Nat}{f f1:Addr}{fd:FuncData} (F:Fun K "plain" "Choice.plain" mh f fd) (N:Free mg) (VQ:∀C∈c.all,QuC K C) (VP:∀C sp,VN prR c n C sp->MV P w K mg base CX0 "plain" (n+4) ["self", "told"] sp C){fd1:FuncData} (CH:Cal P w K mg base "place_chosen" 1 ["word", "one", "other"] jr f1 fd1):FnOk P w K mg base CX0 (n+5) f fd ["self", "told"] (spN prR c (n+1) 7):=by
 refine F.ok (k:=n+4) qJ (λvs H Q E h=>?_) (λcdv A outer s H vs Q E hr h=>?_)
 ·obtain⟨x,f,nd,rfl,_⟩:=h
  rfl
 ·obtain⟨x,f,nd,rfl,hk,⟨la,tb,kvs,rs,hx,ok,hT,tab,hl,q⟩⟩:=h
  have hu:=aK hr
  refine⟨_,(ae (mq (i:=2) qJ.nd rfl (Or.inl rfl) (bz rfl (cg (aV (pv 0) rfl)) rfl rfl (by show ∀p∈_,gc [‹"told"›] p;decide) (by decide) rfl (by show ([‹"question"›, ‹"told"›]:List Str).Nodup;decide) (.cons (i:=1) rfl (.inr (.inl rfl)) (by show (some NameKind.cell)≠some NameKind.local;decide) (.inl rfl) rfl .nil) (λC fp s H=>cw) (λC fp s H=>(bH VP (pv 0) (hr.mono ‹1›) au (aa (pv 1) ac)))))
   (ah (ax (aU aO (pv 2) (av CH.ok (hr.mono ‹1›) rfl CH.nm CH.kp CH.bd .nil au (aa (aV (pv 0) rfl) (aa (aU aO (pv 2) aj (λ_ _=>rfl)) (aa (aU aO (pv 2) aj (λ_ _=>rfl)) ac)))) (λ_ _=>rfl))))),?_⟩
  cases nd with
  | leaf l=>cases l <;> cases hk
  | brk w0 xs=>
  have hr0:¬w0∈bA:=by
   by_cases z:w0∈bA
   ·exact absurd hk (by show ¬(if w0∈bA then 6 else 7)=7;rw [if_pos z];decide)
   ·exact z
  obtain⟨dx,ln,li,as,h1,h2,h3,h4⟩:BrX c n w0 xs (λa q=>bc c n q (bar la H) a) (bar la H) x:=hx
  obtain⟨hw2,hxs⟩:_/\_:=id ok
  obtain⟨q0,q1,q2,q3,rfl⟩:=r8 hw2 hr0
  rw [iE]at hl
  have T:=VQ _ (fF c w0)
  obtain⟨nxl,h1'⟩:=cb h1
  refine af (aw (ce ⟨_,rfl,x,brC c w0,dx,_,_,rfl,h1',T.cl,T.a_inner,rfl,li,rfl,⟨_,SqL.of (cb h3).2⟩,?_⟩))
  refine jV (λq=>bO (tel kvs) n q) (λq=>pZ n q) h4 hxs h3 hT (Nat.le_of_ble_eq_true rfl) hl (λq hq=>pS (hxs q hq)) (λa q5 H5 R5 o5 hI=>?_) λD H5 rs5 o5 a5 p5 e5=>?_
  ·obtain⟨rs2,i1,i2,i3,i4,i5⟩:=hI
   obtain⟨dy,fs,e5,e6⟩:=i7 (m:="plain") (bc.keep (Kq.grow gM) i1) ‹0›
   exact⟨_,rfl,a,ndC c q5,dy,fs,_,rfl,e5,.mk q5,e6,_,rfl,a,f,q5,rfl,rfl,la,tb,kvs,rs2,i1,i2,i3,tab,i4,i5⟩
  ·walk_at "d"
   have h15:=o5 _ _ h1' nxl
   refine aA ⟨_,rfl,_,rfl,x,brC c w0,dx,_,_,rfl,h15,T.cl,T.a_word,rfl,_,rfl,D,_,0,_,rfl,rfl,SqL.of e5,rfl,_,rfl,D,_,1,_,rfl,rfl,SqL.of e5,rfl,w0,_,_,rfl,bJ tab,bJ tab,?_⟩
   have q':=q rs5 H5 o5 a5 (by rw [p5];rfl)
   rw [bO,if_neg hr0]at q'
   have q':Q (bO (tel kvs) n ([q0,q1,q2,q3].getD (chV w0 (bO (tel kvs) n q0) (bO (tel kvs) n q1)) nd0)) H5:=q'
   dsimp only
   rcases ch_is w0 (bO (tel kvs) n q0) (bO (tel kvs) n q1) with e | e <;> rw [e]at q' ⊢
   ·exact⟨D,_,2,_,rfl,rfl,SqL.of e5,rfl,q'⟩
   ·exact⟨D,_,3,_,rfl,rfl,SqL.of e5,rfl,q'⟩
theorem xT {α β:Type}{F:α->β->Prop}{as:List α}{a b d e:β} (h:Paired F as [a,b,d,e]):∃a0 a1 a2 a3,as=[a0,a1,a2,a3]/\F a0 a/\F a1 b/\F a2 d/\F a3 e:=by
 cases h with
 | cons h0 h=>
 cases h with
 | cons h1 h=>
 cases h with
 | cons h2 h=>
 cases h with
 | cons h3 h=>
 cases h
 exact⟨_,_,_,_,rfl,h0,h1,h2,h3⟩
theorem lW:FnScope ["self", "told", "one", "other"] ["self", "told"] (aq me):=‹2›
theorem vw {c:Cs}{n:Nat}{f f1:Addr}{fd:FuncData} (F:Fun K "read" "Choice.read" me f fd) (N:Free mg) (VQ:∀C∈c.all,QuC K C) (VP:∀C sp,VN bS c n C sp->MV P w K mg base CX0 "read" (n+5) ["self", "told"] sp C){fd1:FuncData} (CH:Cal P w K mg base "place_chosen" 1 ["word", "one", "other"] jr f1 fd1):FnOk P w K mg base CX0 (n+6) f fd ["self", "told"] (spN bS c (n+1) 7):=by
 refine F.ok (k:=n+5) lW (λvs H Q E h=>?_) (λcdv A outer s H vs Q E hr h=>?_)
 ·obtain⟨x,f,nd,rfl,_⟩:=h
  rfl
 ·obtain⟨x,f,nd,rfl,hk,⟨la,tb,kvs,rs,hx,ok,hT,tab,hl,q⟩⟩:=h
  have hu:=aK hr
  refine⟨_,(ae (ay (i:=2) lW.nd rfl (Or.inl rfl) (bH VP (aU aO (aV (pv 0) rfl) aj (λ_ _=>rfl)) (hr.mono ‹1›) au (aa (pv 1) ac)))
   (ae (ay (i:=3) lW.nd rfl (Or.inl rfl) (bH VP (aU aO (aV (pv 0) rfl) aj (λ_ _=>rfl)) (hr.mono ‹1›) au (aa (pv 1) ac)))
   (ah (ax (bH VP (aU aO (aV (pv 0) rfl) (av CH.ok (hr.mono ‹1›) rfl CH.nm CH.kp CH.bd .nil au (aa (aV (pv 0) rfl) (aa (pv 2) (aa (pv 3) ac)))) (λ_ _=>rfl)) (hr.mono ‹1›) au (aa (pv 1) ac)))))),?_⟩
  cases nd with
  | leaf l=>cases l <;> cases hk
  | brk w0 xs=>
  have hr0:¬w0∈bA:=by
   by_cases z:w0∈bA
   ·exact absurd hk (by show ¬(if w0∈bA then 6 else 7)=7;rw [if_pos z];decide)
   ·exact z
  obtain⟨dx,ln,li,as,h1,h2,h3,h4⟩:BrX c n w0 xs (λa q=>bc c n q (bar la H) a) (bar la H) x:=hx
  obtain⟨hw2,hxs⟩:_/\_:=id ok
  obtain⟨q0,q1,q2,q3,rfl⟩:=r8 hw2 hr0
  rw [iE]at hl
  have T:=VQ _ (fF c w0)
  obtain⟨nxl,h1'⟩:=cb h1
  obtain⟨a0,a1,a2,a3,rfl,k0,k1,k2,k3⟩:=xT h4
  obtain⟨nli,h3'⟩:=cb h3
  have l0:=eQ (T:=tel kvs) (hxs q0 (by simp))
  have l1:=eQ (T:=tel kvs) (hxs q1 (by simp))
  have ask:∀{q5:Nd}{a5:Addr}{H5:Hp},bc c n q5 (bar la H) a5->Off la H H5->bc c n q5 (bar la H5) a5/\∃dy fs,H5 a5=some (.ins (ndC c q5) dy fs)/\fs.lookup ("read" : Str)=none:=λh o=>by
   have h':=bc.keep (Kq.grow (mP o)) h
   exact⟨h',i7 (m:="read") (bc.keep (Kq.grow gM) h') ‹0›⟩
  obtain⟨m0,dy0,fs0,x0,y0⟩:=ask k0 (λ_ _ e _=>e)
  refine af (aw ⟨_,rfl,x,brC c w0,dx,_,_,rfl,h1',T.cl,T.a_inner,rfl,li,_,0,_,rfl,rfl,SqL.of h3',rfl,a0,ndC c q0,dy0,fs0,_,rfl,x0,.mk q0,y0,_,rfl,a0,f,q0,rfl,rfl,la,tb,kvs,rs,m0,hxs q0 (by simp),hT,tab,by omega,λrs1 H1 o1 b1 p1=>?_⟩)
  walk_at "d"
  have t1:=hT.off o1 b1
  have z1:=pR p1
  obtain⟨m1,dy1,fs1,x1,y1⟩:=ask k1 o1
  refine af (aw ⟨_,rfl,x,brC c w0,dx,_,_,rfl,o1 _ _ h1' nxl,T.cl,T.a_inner,rfl,li,_,1,_,rfl,rfl,SqL.of (o1 _ _ h3' nli),rfl,a1,ndC c q1,dy1,fs1,_,rfl,x1,.mk q1,y1,_,rfl,a1,f,q1,rfl,rfl,la,tb,kvs,rs1,m1,hxs q1 (by simp),t1,tab,by omega,λrs2 H2 o2 b2 p2=>?_⟩)
  walk_at "d"
  have t2:=t1.off o2 b2
  have z2:=pR p2
  have o12:=o1.trans o2
  refine aA ⟨_,rfl,x,brC c w0,dx,_,_,rfl,o12 _ _ h1' nxl,T.cl,T.a_inner,rfl,_,rfl,x,brC c w0,dx,_,_,rfl,o12 _ _ h1' nxl,T.cl,T.a_word,rfl,_,rfl,_,rfl,w0,_,_,rfl,bJ tab,bJ tab,?_⟩
  have fin:∀(q5:Nd),[q0,q1,q2,q3].getD (chV w0 (bO (tel kvs) n q0) (bO (tel kvs) n q1)) nd0=q5->∀(rs':List RZ) (H':Hp),Off la H2 H'->Askd H' la rs'->prs rs'=prs rs2++bS (tel kvs) n q5->Q (bO (tel kvs) n q5) H':=λq5 e5 rs' H' o' a' p'=>by
   have q':=q rs' H' (o12.trans o') a' (by rw [p',p2,p1,bS,if_neg hr0,List.append_assoc,List.append_assoc,<- e5];rfl)
   rw [bO,if_neg hr0]at q'
   rw [<- e5]
   exact q'
  dsimp only
  rcases ch_is w0 (bO (tel kvs) n q0) (bO (tel kvs) n q1) with e | e <;> rw [e]at fin ⊢
  ·obtain⟨m2,dy2,fs2,x2,y2⟩:=ask k2 o12
   exact⟨li,_,2,_,rfl,rfl,SqL.of (o12 _ _ h3' nli),rfl,a2,ndC c q2,dy2,fs2,_,rfl,x2,.mk q2,y2,_,rfl,a2,f,q2,rfl,rfl,la,tb,kvs,rs2,m2,hxs q2 (by simp),t2,tab,by omega,fin q2 rfl⟩
  ·obtain⟨m3,dy3,fs3,x3,y3⟩:=ask k3 o12
   exact⟨li,_,3,_,rfl,rfl,SqL.of (o12 _ _ h3' nli),rfl,a3,ndC c q3,dy3,fs3,_,rfl,x3,.mk q3,y3,_,rfl,a3,f,q3,rfl,rfl,la,tb,kvs,rs2,m3,hxs q3 (by simp),t2,tab,by omega,fin q3 rfl⟩
theorem sk {c:Cs}{n:Nat}{l:Lf}:∀vs H Q E,spN prR c n (lfK l) vs H Q E->lK c (lfK l) vs H Q E:=by
 rintro vs H Q E ⟨x,f,nd,rfl,hk,⟨la,tb,kvs,rs,hx,ok,hT,tab,hl,q⟩⟩
 cases nd with
 | leaf l'=>
  rw [show prR (tel kvs) n (.leaf l')=oj l' from qP,mr]at q
  exact⟨x,f,l',rfl,hk,⟨la,tb,kvs,rs,LfX.keep (gh.mp hx) (Kq.grow gM),cy ok,hT,tab,by omega,q⟩⟩
 | brk w0 xs=>exact absurd hk (by show ¬(if w0∈bA then 6 else 7)=lfK l;cases l <;> split <;> exact λz=>nomatch z)
theorem sq {c:Cs} (VP:∀C sp,VPl c C sp->MV P w K mg base CX0 "plain" 4 ["self", "told"] sp C) (VQ:∀C∈c.all,QuC K C) (N:Free mg){f1 f2 f6 f7:Addr}{fd6 fd7:FuncData}{fd1:FuncData} (CR:Cal P w K mg base "reckoned" 1 ["word", "answers"] jl f1 fd1){fd2:FuncData} (CH:Cal P w K mg base "place_chosen" 1 ["word", "one", "other"] jr f2 fd2) (F6:Fun K "plain" "Reckoning.plain" mf f6 fd6) (m6:Meth K c.rck "plain" f6) (b6:bE K fd6 ["self", "told"] []) (F7:Fun K "plain" "Choice.plain" mh f7 fd7) (m7:Meth K c.chc "plain" f7) (b7:bE K fd7 ["self", "told"] []) :
  ∀n C sp,VN prR c n C sp->MV P w K mg base CX0 "plain" (n+4) ["self", "told"] sp C:=by
 have lf:∀n l,MV P w K mg base CX0 "plain" (n+4) ["self", "told"] (spN prR c n (lfK l)) (lfC c l):=λn l=>by
  obtain⟨c1,f,fd,m,F,b⟩:=VP _ _ (.mk l)
  exact⟨c1,f,fd,m,FnOk.mono (FnOk.imp F sk) ‹1›,b⟩
 have br:∀n w0,FnOk P w K mg base CX0 (n+4) f6 fd6 ["self", "told"] (spN prR c n 6)->FnOk P w K mg base CX0 (n+4) f7 fd7 ["self", "told"] (spN prR c n 7)->MV P w K mg base CX0 "plain" (n+4) ["self", "told"] (spN prR c n (if w0∈bA then 6 else 7)) (brC c w0):=λn w0 a b=>by
  refine⟨(VQ _ (fF c w0)).cl,?_⟩
  unfold brC
  by_cases z:w0∈bA
  ·rw [if_pos z,if_pos z];exact⟨f6,fd6,m6,a,b6⟩
  ·rw [if_neg z,if_neg z];exact⟨f7,fd7,m7,b,b7⟩
 intro n
 induction n with
 | zero=>
  rintro _ _ ⟨nd⟩
  cases nd with
  | leaf l=>exact lf 0 l
  | brk w0 xs=>
   have no:∀{k:Nat} vs H Q E,5 < k->¬spN prR c 0 k vs H Q E:=λvs H Q E h5 ⟨x,f,nd,_,hk,⟨_,_,_,_,_,ok,_,_,_,_⟩⟩=>by
    cases nd with
    | leaf l=>rw [<- hk]at h5;cases l <;> exact absurd h5 (Nat.not_lt_of_le (Nat.le_of_ble_eq_true rfl))
    | brk w1 ys=>exact ok
   exact br 0 w0 (FnOk.no λvs H Q E=>no vs H Q E (by decide)) (FnOk.no λvs H Q E=>no vs H Q E (by decide))
 | succ n ih=>
  rintro _ _ ⟨nd⟩
  cases nd with
  | leaf l=>exact lf (n+1) l
  | brk w0 xs=>
   have a:=vz (n:=n) F6 N VQ ih CR
   have b:=vE (n:=n) F7 N VQ ih CH
   rw [show n+5=n+1+4 by omega]at a b
   exact br (n+1) w0 a b
theorem sd {c:Cs}{n:Nat}{l:Lf}:∀vs H Q E,spN bS c n (lfK l) vs H Q E->tZ c (lfK l) vs H Q E:=by
 rintro vs H Q E ⟨x,f,nd,rfl,hk,⟨la,tb,kvs,rs,hx,ok,hT,tab,hl,q⟩⟩
 cases nd with
 | leaf l'=>
  rw [qM,mr]at q
  exact⟨x,f,l',rfl,hk,⟨la,tb,kvs,rs,LfX.keep (gh.mp hx) (Kq.grow gM),cy ok,hT,tab,by omega,q⟩⟩
 | brk w0 xs=>exact absurd hk (by show ¬(if w0∈bA then 6 else 7)=lfK l;cases l <;> split <;> exact λz=>nomatch z)
theorem se {c:Cs} (VP:∀C sp,VRd c C sp->MV P w K mg base CX0 "read" 5 ["self", "told"] sp C) (VQ:∀C∈c.all,QuC K C) (N:Free mg){f1 f2 f6 f7:Addr}{fd6 fd7:FuncData}{fd1:FuncData} (CR:Cal P w K mg base "reckoned" 1 ["word", "answers"] jl f1 fd1){fd2:FuncData} (CH:Cal P w K mg base "place_chosen" 1 ["word", "one", "other"] jr f2 fd2) (F6:Fun K "read" "Reckoning.read" md f6 fd6) (m6:Meth K c.rck "read" f6) (b6:bE K fd6 ["self", "told"] []) (F7:Fun K "read" "Choice.read" me f7 fd7) (m7:Meth K c.chc "read" f7) (b7:bE K fd7 ["self", "told"] []) :
  ∀n C sp,VN bS c n C sp->MV P w K mg base CX0 "read" (n+5) ["self", "told"] sp C:=by
 have lf:∀n l,MV P w K mg base CX0 "read" (n+5) ["self", "told"] (spN bS c n (lfK l)) (lfC c l):=λn l=>by
  obtain⟨c1,f,fd,m,F,b⟩:=VP _ _ (.mk l)
  exact⟨c1,f,fd,m,FnOk.mono (FnOk.imp F sd) ‹1›,b⟩
 have br:∀n w0,FnOk P w K mg base CX0 (n+5) f6 fd6 ["self", "told"] (spN bS c n 6)->FnOk P w K mg base CX0 (n+5) f7 fd7 ["self", "told"] (spN bS c n 7)->MV P w K mg base CX0 "read" (n+5) ["self", "told"] (spN bS c n (if w0∈bA then 6 else 7)) (brC c w0):=λn w0 a b=>by
  refine⟨(VQ _ (fF c w0)).cl,?_⟩
  unfold brC
  by_cases z:w0∈bA
  ·rw [if_pos z,if_pos z];exact⟨f6,fd6,m6,a,b6⟩
  ·rw [if_neg z,if_neg z];exact⟨f7,fd7,m7,b,b7⟩
 intro n
 induction n with
 | zero=>
  rintro _ _ ⟨nd⟩
  cases nd with
  | leaf l=>exact lf 0 l
  | brk w0 xs=>
   have no:∀{k:Nat} vs H Q E,5 < k->¬spN bS c 0 k vs H Q E:=λvs H Q E h5 ⟨x,f,nd,_,hk,⟨_,_,_,_,_,ok,_,_,_,_⟩⟩=>by
    cases nd with
    | leaf l=>rw [<- hk]at h5;cases l <;> exact absurd h5 (Nat.not_lt_of_le (Nat.le_of_ble_eq_true rfl))
    | brk w1 ys=>exact ok
   exact br 0 w0 (FnOk.no λvs H Q E=>no vs H Q E (by decide)) (FnOk.no λvs H Q E=>no vs H Q E (by decide))
 | succ n ih=>
  rintro _ _ ⟨nd⟩
  cases nd with
  | leaf l=>exact lf (n+1) l
  | brk w0 xs=>
   have a:=vq (n:=n) F6 N VQ ih CR
   have b:=vw (n:=n) F7 N VQ ih CH
   rw [show n+6=n+1+5 by omega]at a b
   exact br (n+1) w0 a b
noncomputable abbrev pc:Stmt:=top 58
def iI (kvs:List (List Key × V)):Prop:=∀k v,valV kvs k=some v->di v
theorem iI.ok {kvs:List (List Key × V)} (h:iI kvs):x9 kvs:=λk d=>by
 unfold tel
 cases e:valV kvs [.inr k,.inl d] with
 | none=>exact .inl rfl
 | some v=>exact h _ v e
theorem iI.put {kvs:List (List Key × V)} (h:iI kvs){v:V} (hv:di v) (k:List Key):iI (eE kvs k v):=λj u e=>by
 rw [jf]at e
 by_cases z:j=k
 ·rw [if_pos z]at e;cases e;exact hv
 ·rw [if_neg z]at e;exact h j u e
inductive TbI (s ln t:Addr) (H:Hp) (Q:VK):Prop
 | mk (ss:List Str) (lo wd:Int) (hs:SAt H s) (el:H ln=some (.lst (ss.map V.str))) (hss:Nm2 ss) (nls:ln≠s) (et:H t=some (.tup [.int lo,.int wd])) (nts:t≠s) (h0:0<=lo) (h1:1<=wd) (h2:lo+wd<=400) (q:∀(p:Addr) (kvs:List (List Key × V)) (H':Hp),H p=none->Off s H H'->SAt H' s->H' p=some (.dT kvs)->iI kvs->kvs.length<=10000->Q (.ref p) H'):TbI s ln t H Q
noncomputable def qC:Sp:=λvs H Q _=>∃(s ln t:Addr),vs=[.ref s,.ref ln,.ref t]/\TbI s ln t H Q
inductive TaI (H:Hp) (s ln t p:Addr) (i:Nat) (σ:St) (H2:Hp):Prop
 | mk (kvs:List (List Key × V)) (v4 v5 v6 v7 v8 v9:Option V) (h1:σ=[some (.ref s),some (.ref ln),some (.ref t),some (.ref p),v4,v5,v6,v7,v8,v9]) (h2:Off s H H2) (h3:SAt H2 s) (h4:H2 p=some (.dT kvs)) (h5:iI kvs) (h6:kvs.length<=400 * i):TaI H s ln t p i σ H2
inductive TdI (H:Hp) (s ln t p:Addr) (m:Nat) (ki:V) (nm:Str) (f0 l0:Int) (am:V) (i:Nat) (σ:St) (H2:Hp):Prop
 | mk (kvs:List (List Key × V)) (v9:Option V) (h1:σ=[some (.ref s),some (.ref ln),some (.ref t),some (.ref p),some ki,some (.str nm),some (.int f0),some (.int l0),some am,v9]) (h2:Off s H H2) (h3:SAt H2 s) (h4:H2 p=some (.dT kvs)) (h5:iI kvs) (h6:kvs.length<=m+i):TdI H s ln t p m ki nm f0 l0 am i σ H2
theorem eG:FnScope ["_law_state", "_law_names_here", "_law_window_here", "_law_table_here", "_law_k", "_law_name", "_law_first", "_law_last", "_law_amount_here", "_law_day"] ["_law_state", "_law_names_here", "_law_window_here"] (aq pc):=‹2›
theorem vn {f f1 f2 f3:Addr}{fd:FuncData} (F:Fun K "_law_table" "_law_table" pc f fd) (N:Free mg){fd1:FuncData} (CP:Cal P w K mg base "_law_pull" 2 ["_law_state", "_law_many"] cZ f1 fd1){fd2:FuncData} (CD:Cal P w K mg base "_law_days" 3 ["_law_state", "_law_window_here"] oT f2 fd2){fd3:FuncData} (CA:Cal P w K mg base "_law_amount" 3 ["_law_state"] gS f3 fd3):FnOk P w K mg base CX0 4 f fd ["_law_state", "_law_names_here", "_law_window_here"] qC:=by
 refine F.ok (k:=3) eG (λvs H Q E h=>?_) (λcdv A outer s H vs Q E hr h=>?_)
 ·obtain⟨s,ln,t,rfl,_⟩:=h
  rfl
 ·obtain⟨s,ln,t,rfl,⟨ss,lo,wd,hs,el,hss,nls,et,nts,h0,h1,h2,q⟩⟩:=h
  have hu:=aK hr
  refine⟨_,(ae (ay (i:=3) eG.nd rfl (Or.inl rfl) jB)
   (ae (cA PassesOwn.never rfl (cC rfl N.range (aa (av CP.ok (hr.mono (by decide)) rfl CP.nm CP.kp CP.bd .nil au (aa (pv 0) (aa aj ac))) ac)) (bi (i:=4) eG.nd rfl (Or.inl rfl))
   (@ae _ _ _ _ _ (@ay (i:=5) _ _ _ _ _ _ eG.nd rfl (Or.inl rfl) (@aU _ _ _ _ _ _ _ aO (pv 1) (av CP.ok (hr.mono (by decide)) rfl CP.nm CP.kp CP.bd .nil au (@aa _ _ _ _ _ (pv 0) (@aa _ _ _ _ _ (@aU _ _ _ _ _ _ _ aO (@aR _ _ _ _ (@aa _ _ _ _ _ (aG aN (by rfl) N.len PySem.boot_len (@aa _ _ _ _ _ (pv 1) ac rfl)) (@aa _ _ _ _ _ (aG (iH rfl) (by rfl) N.min PyProof.Rows.Boot.«min» (@aa _ _ _ _ _ aj (@aa _ _ _ _ _ (aG aN (by rfl) N.len PySem.boot_len (@aa _ _ _ _ _ (pv 1) ac rfl)) ac rfl) rfl)) ac rfl) rfl)) (av CP.ok (hr.mono (by decide)) rfl CP.nm CP.kp CP.bd .nil au (@aa _ _ _ _ _ (pv 0) (@aa _ _ _ _ _ aj ac rfl) rfl)) (λ_ _=>rfl)) ac rfl) rfl)) (λ_ _=>rfl)) (by rfl) (by first | exact .inl rfl | exact .inr rfl))
   (ae (jz (av CD.ok (hr.mono (by decide)) rfl CD.nm CD.kp CD.bd .nil au (aa (pv 0) (aa (pv 2) ac))) (pU rfl (cL (bi (i:=6) eG.nd rfl (Or.inl rfl)) (cL (bi (i:=7) eG.nd rfl (Or.inl rfl)) ms))))
   (@ae _ _ _ _ _ (@ay (i:=8) _ _ _ _ _ _ eG.nd rfl (Or.inl rfl) (@aU _ _ _ _ _ _ _ aO (@aR _ _ _ _ (@aa _ _ _ _ _ (av CA.ok (hr.mono (by decide)) rfl CA.nm CA.kp CA.bd .nil au (@aa _ _ _ _ _ (pv 0) ac rfl)) (@aa _ _ _ _ _ dm ac rfl) rfl)) (aX lq (by rfl) N.int PyProof.Rows.Boot.«int» (@aa _ _ _ _ _ (cj bM (av CP.ok (hr.mono (by decide)) rfl CP.nm CP.kp CP.bd .nil au (@aa _ _ _ _ _ (pv 0) (@aa _ _ _ _ _ aj ac rfl) rfl)) aj (aP _)) ac rfl)) (λ_ _=>rfl)) (by rfl) (by first | exact .inl rfl | exact .inr rfl))
   (ah (cA PassesOwn.never rfl (dL rfl N.range (aa (pv 6) (aa (aL bx (pv 7) aj) ac))) (bi (i:=9) eG.nd rfl (Or.inl rfl))
   (ah (hG hu (pv 3) (bW (aa (pv 5) (aa (pv 9) ac))) (pv 8) rfl))))))))
   (ah (ax (pv 3))))),?_⟩
  have hsl:(ss.length:Int)=8\/(ss.length:Int)=2:=by rcases hss.1 with z | z <;> omega
  refine af (aw λp np=>?_)
  walk_at "d"
  obtain⟨g1,e1⟩:=laid (o:=.dT []) np
  have hs1:=hs.keep g1
  have nps:p≠s:=λz=>by obtain⟨xs,e⟩:=hs.lst;rw [z,e]at np;cases np
  generalize upd H p _=H1 at g1 e1 hs1 ⊢
  refine af ⟨_,rfl,s,12,rfl,hs1,by decide,by decide,λr H2 r0 r1 o2 hs2=>⟨_,rfl,by omega,by omega,cE (n:=r.toNat) (TaI H s ln t p) ⟨[],none,none,none,none,none,none,rfl,(Off.grow g1).trans o2,hs2,o2 _ _ e1 nps,(λk v e=>by cases e),Nat.zero_le _⟩ (λi σ H3 hi hh=>?_) λσ H3 hh=>?_⟩⟩
  ·obtain⟨kvs,v4,v5,v6,v7,v8,v9,rfl,o3,hs3,ep3,tv3,hl3⟩:=hh
   walk_at "d"
   have okn:∀{H':Hp},Off s H H'->H' ln=some (.lst (ss.map V.str)):=λo=>o _ _ el nls
   refine af (aw ⟨_,rfl,_,rfl,_,rfl,ln,_,rfl,.inl (SqL.of (okn o3)),_,rfl,ln,_,rfl,.inl (SqL.of (okn o3)),_,_,rfl,by show 2<=sizeLine;decide,λl2 nl2=>?_⟩)
   rw [List.length_map]
   obtain⟨mm,emm,mm1,mm2⟩:∃mm:Int,mm=(if (ss.length:Int) < 2 then (ss.length:Int) else 2)/\1<=mm/\mm<=ss.length:=⟨_,rfl,by split <;> omega,by split <;> omega⟩
   rw [<- emm]
   obtain⟨g4,e4⟩:=laid (o:=.lst [V.int (ss.length:Int),V.int mm]) nl2
   have hs4:=hs3.keep g4
   have n2s:l2≠s:=λz=>by obtain⟨xs,e⟩:=hs3.lst;rw [z,e]at nl2;cases nl2
   have o4:=o3.trans (Off.grow g4)
   have ep4:=g4 _ _ ep3
   generalize upd H3 l2 _=H4 at g4 e4 hs4 o4 ep4 ⊢
   refine⟨_,rfl,s,2,rfl,hs4,by decide,by decide,λn5 H5 n50 n51 p5 hs5=>?_⟩
   have o5:=o4.trans p5
   obtain⟨m6,em6,hm1,hm2⟩:∃m6:Int,atI [V.int (ss.length:Int),V.int mm] n5=some (.int m6)/\1<=m6/\m6<=ss.length:=by
    rcases (show n5=0\/n5=1 by omega) with rfl | rfl
    ·exact⟨_,rfl,by omega,by omega⟩
    ·exact⟨_,rfl,by omega,by omega⟩
   refine⟨l2,_,_,_,rfl,rfl,SqL.of (p5 _ _ e4 n2s),em6,s,m6,rfl,hs5,by omega,by omega,λn6 H6 n60 n61 p6 hs6=>?_⟩
   have o6:=o5.trans p6
   obtain⟨k,ek,hk,hkm⟩:=vV hss n60 ‹1›
   refine⟨ln,_,_,_,rfl,rfl,SqL.of (okn o6),ek,?_⟩
   walk_at "d"
   refine af (aw ⟨_,rfl,_,rfl,s,t,lo,wd,rfl,hs6,o6 _ _ et nts,nts,h0,h1,h2,λu f0 l0 H7 p7 hs7 eu d1 d2 d3=>?_⟩)
   refine⟨u,_,rfl,SqT.of eu,rfl,_,_,rfl,_,_,rfl,rfl,?_⟩
   walk_at "d"
   have o7:=o6.trans p7
   refine af (aw ⟨_,rfl,s,rfl,hs7,λz H8 p8 hs8 z0 z1=>⟨by show 2<=sizeLine;decide,λl3 nl3=>?_⟩⟩)
   have o8:=o7.trans p8
   obtain⟨g9,e9⟩:=laid (o:=.lst [V.int z,V.non]) nl3
   have hs9:=hs8.keep g9
   have n3s:l3≠s:=λz=>by obtain⟨xs,e⟩:=hs8.lst;rw [z,e]at nl3;cases nl3
   have o9:=o8.trans (Off.grow g9)
   have ep9:(upd H8 l3 (.lst [V.int z,V.non])) p=some (.dT kvs):=g9 _ _ (p8 _ _ (p7 _ _ (p6 _ _ (p5 _ _ ep4 nps) nps) nps) nps)
   change kH _ _ _ _ _ (upd H8 l3 (.lst [V.int z,V.non])) _
   generalize upd H8 l3 _=H9 at g9 e9 hs9 o9 ep9 ⊢
   refine⟨_,rfl,s,5,rfl,hs9,by decide,by decide,λn9 H10 n90 n91 p10 hs10=>?_⟩
   have o10:=o9.trans p10
   obtain⟨am,eam,ham⟩:∃am,atI [V.int z,V.non] (if decide (V.int n9=V.int 0)=true then 1 else 0)=some am/\di am:=by
    by_cases z9:decide (V.int n9=V.int 0)=true
    ·rw [if_pos z9];exact⟨_,rfl,.inl rfl⟩
    ·rw [if_neg z9];exact⟨_,rfl,.inr ⟨_,rfl⟩⟩
   have ep10:=p10 _ _ ep9 nps
   refine⟨rfl,.inr ⟨_,rfl,l3,_,_,_,rfl,rfl,SqL.of (p10 _ _ e9 n3s),eam,?_⟩⟩
   walk_at "d"
   have hn4:len2 f0 l0<=400:=by unfold len2;omega
   refine⟨_,rfl,_,rfl,_,_,rfl,rfl,f0,l0+1,rfl,⟨by omega,by omega,by omega,by omega⟩,cE (n:=len2 f0 l0) (TdI H s ln t p kvs.length (.int (0+i)) k f0 l0 am) ⟨kvs,_,rfl,o10,hs10,ep10,tv3,Nat.le_refl _⟩ (λj σ H11 hj hh=>?_) λσ H11 hh=>?_⟩
   ·obtain⟨kv2,v9',rfl,o11,hs11,ep11,tv11,hl11⟩:=hh
    walk_at "d"
    refine⟨_,rfl,_,rfl,_,rfl,_,rfl,by show 2<=sizeLine;decide,λtq ntq=>?_⟩
    obtain⟨g12,e12⟩:=laid (o:=.tup [V.str k,V.int (f0+j)]) ntq
    have ep12:=g12 _ _ ep11
    have hs12:=hs11.keep g12
    have o12:=o11.trans (Off.grow g12)
    generalize upd H11 tq _=H12 at g12 e12 ep12 hs12 o12 ⊢
    refine⟨p,_,rfl,.inr ⟨kv2,[.inr k,.inl (f0+j)],tq,ep12,rfl,e12,Nat.lt_of_le_of_lt (show _<=100000 by have:=hi;omega) (by decide),rfl⟩,eE kv2 [.inr k,.inl (f0+j)] am,_,rfl,λb o e nb=>?_,hs12.off nps (λb o e nb=>by rw [ai nb];exact e),ar,tv11.put ham _,?_⟩
    ·rw [ai (ao e np)];exact o12 _ _ e nb
    ·have:=dg kv2 [.inr k,.inl (f0+j)] am;omega
   ·obtain⟨kv2,v9',rfl,o11,hs11,ep11,tv11,hl11⟩:=hh
    exact⟨kv2,_,_,_,_,_,_,rfl,o11,hs11,ep11,tv11,by omega⟩
  ·obtain⟨kvs,v4,v5,v6,v7,v8,v9,rfl,o3,hs3,ep3,tv3,hl3⟩:=hh
   exact aA ⟨_,rfl,q p kvs H3 np o3 hs3 ep3 tv3 ‹1›⟩
noncomputable def t9 (acc:List RZ) (r:RZ):List RZ:=if r.1∈acc.map (·.1) then acc else acc++[r]
noncomputable def ddR (rs:List RZ):List RZ:=rs.foldl t9 []
theorem jJ {r r':RZ}:(cO r).1=(cO r').1↔r.1=r'.1:=by
 constructor
 ·intro h
  have h:[(Sum.inr r.1.1:Key),.inl r.1.2]=[.inr r'.1.1,.inl r'.1.2]:=h
  injection h with h1 h2
  injection h2 with h2 _
  exact Prod.ext (Sum.inr.inj h1) (Sum.inl.inj h2)
 ·intro h
  show [(Sum.inr r.1.1:Key),.inl r.1.2]=_
  rw [h]
  rfl
theorem x8 (acc:List RZ) (r:RZ):iS (acc.map cO) (cO r)=(t9 acc r).map cO:=by
 have e:(cO r).1∈(acc.map cO).map (·.1)↔r.1∈acc.map (·.1):=by
  rw [List.map_map,List.mem_map,List.mem_map]
  exact⟨λ⟨x,h1,h2⟩=>⟨x,h1,jJ.mp h2⟩,λ⟨x,h1,h2⟩=>⟨x,h1,jJ.mpr h2⟩⟩
 unfold iS t9
 by_cases h:r.1∈acc.map (·.1)
 ·rw [if_pos (e.mpr h),if_pos h]
 ·rw [if_neg (λz=>h (e.mp z)),if_neg h,List.map_append]
  rfl
theorem ow:∀(l acc:List RZ),(l.map cO).foldl iS (acc.map cO)=(l.foldl t9 acc).map cO
 | [],_=>rfl
 | r::l,acc=>by
  rw [List.map_cons,List.foldl_cons,x8,List.foldl_cons,ow l]
theorem rB (rs:List RZ) (n:Nat):ddZ (rs.map cO) n=(ddR (rs.take n)).map cO:=by
 unfold ddZ ddR
 rw [<- List.map_take]
 exact ow _ []
structure DdI (rs acc:List RZ):Prop where
 nd:(acc.map (·.1)).Nodup
 sub:∀r∈acc,r∈rs
 all:∀p∈prs rs,p∈acc.map (·.1)
theorem fZ:∀(n:Nat) (rs:List RZ),rs.length=n->DdI rs (ddR rs)
 | 0,rs,h=>by rw [List.length_eq_zero_iff.mp h];exact⟨.nil,(λ_ h=>by cases h),λ_ h=>by cases h⟩
 | n+1,rs,h=>by
  obtain⟨xs,x,rfl⟩:∃xs x,rs=xs++[x]:=⟨rs.dropLast,rs.getLast (by intro z;rw [z]at h;cases h),(List.dropLast_concat_getLast _).symm⟩
  rw [List.length_append,List.length_singleton]at h
  obtain⟨h1,h2,h3⟩:=fZ n xs ‹1›
  have e:ddR (xs++[x])=t9 (ddR xs) x:=by unfold ddR;rw [List.foldl_append];rfl
  rw [e]
  unfold t9
  by_cases z:x.1∈(ddR xs).map (·.1)
  ·rw [if_pos z]
   refine⟨h1,λr hr=>List.mem_append_left _ (h2 r hr),λp hp=>?_⟩
   unfold prs at hp
   rw [List.map_append]at hp
   rcases List.mem_append.mp hp with hp | hp
   ·exact h3 p hp
   ·rw [List.mem_singleton.mp hp];exact z
  ·rw [if_neg z]
   refine⟨?_,λr hr=>?_,λp hp=>?_⟩
   ·rw [List.map_append,List.nodup_append]
    refine⟨h1,by simp,λa ha b hb=>?_⟩
    rw [List.mem_singleton.mp hb]
    intro e
    rw [e]at ha
    exact z ha
   ·rcases List.mem_append.mp hr with hr | hr
    ·exact List.mem_append_left _ (h2 r hr)
    ·exact List.mem_append_right _ hr
   ·unfold prs at hp
    rw [List.map_append]at hp ⊢
    rcases List.mem_append.mp hp with hp | hp
    ·exact List.mem_append_left _ (h3 p hp)
    ·exact List.mem_append_right _ hp
theorem qW {α:Type}:∀{l u:List α},l.Nodup->(∀x∈l,x∈u)->l.length<=u.length
 | [],_,_,_=>Nat.zero_le _
 | a::l,u,nd,hs=>by
  obtain⟨n1,n2⟩:=List.nodup_cons.mp nd
  obtain⟨x,y,rfl⟩:=List.append_of_mem (hs a List.mem_cons_self)
  have:=qW (l:=l) (u:=x++y) n2 λz hz=>by
   have:=hs z (List.mem_cons_of_mem _ hz)
   rw [List.mem_append,List.mem_cons]at this
   rw [List.mem_append]
   rcases this with q | q | q
   ·exact .inl q
   ·exact absurd (q ▸ hz) n1
   ·exact .inr q
  rw [List.length_append]at this
  rw [List.length_cons,List.length_append,List.length_cons]
  omega
theorem wC {rs:List RZ}{U:List (Str × Int)} (hU:U.length < 1000) (h:∀p∈prs rs,p∈U):tm (rs.map cO):=λi _=>by
 rw [rB,List.length_map]
 obtain⟨h1,h2,_⟩:=fZ _ (rs.take i) rfl
 have:=qW (u:=U) h1 λx hx=>by
  obtain⟨r,hr,rfl⟩:=List.mem_map.mp hx
  exact h _ (List.mem_map_of_mem (List.mem_of_mem_take (h2 r hr)))
 rw [List.length_map]at this
 omega
theorem oA (rs:List RZ):ddZ (rs.map cO) (rs.map cO).length=(ddR rs).map cO:=by
 rw [rB,List.length_map,List.take_length]
noncomputable def lE (ss:List Str) (lo wd:Int):List (Str × Int):=ss.flatMap λk=>aH k lo wd.toNat
theorem fw {k:Str}{f:Int}{n:Nat}{p:Str × Int}:p∈aH k f n↔p.1=k/\f<=p.2/\p.2 < f+n:=by
 unfold aH
 rw [List.mem_map]
 constructor
 ·rintro⟨i,hi,rfl⟩
  have:=List.mem_range.mp hi
  exact⟨rfl,by show f<=f+(i:Int);omega,by show f+(i:Int) < f+n;omega⟩
 ·rintro⟨h1,h2,h3⟩
  refine⟨(p.2 - f).toNat,List.mem_range.mpr ‹1›,Prod.ext h1.symm ?_⟩
  show f+((p.2 - f).toNat:Int)=p.2
  omega
theorem lD {ss:List Str}{lo wd:Int}{p:Str × Int} (h1:p.1∈ss) (h2:lo<=p.2) (h3:p.2 < lo+wd):p∈lE ss lo wd:=by
 unfold lE
 rw [List.mem_flatMap]
 exact⟨p.1,h1,fw.mpr ⟨rfl,h2,by omega⟩⟩
theorem qy {ss:List Str}{lo wd:Int} (hss:ss.length=8/\wd<=40\/ss.length=2/\wd<=400):(lE ss lo wd).length < 1000:=by
 have:=fc lo wd.toNat ss
 unfold lE
 rcases hss with⟨h1,h2⟩ | ⟨h1,h2⟩
 ·rw [h1]at this;omega
 ·rw [h1]at this;omega
theorem wG {k:Str}{l:Int}{n:Nat}{p:Str × Int}:p∈dnP k l n↔p.1=k/\l - n < p.2/\p.2<=l:=by
 unfold dnP
 rw [List.mem_map]
 constructor
 ·rintro⟨i,hi,rfl⟩
  have:=List.mem_range.mp hi
  exact⟨rfl,by show l - (n:Int) < l - (i:Int);omega,by show l - (i:Int)<=l;omega⟩
 ·rintro⟨h1,h2,h3⟩
  refine⟨(l - p.2).toNat,List.mem_range.mpr ‹1›,Prod.ext h1.symm ?_⟩
  show l - ((l - p.2).toNat:Int)=p.2
  omega
theorem gx {f l:Int} (h:f<=l):(len2 f l:Int)=l+1 - f:=by unfold len2;omega
theorem r6 {T:Str->Int->V}{ss:List Str}{lo wd:Int}{l:Lf} (h:qw ss lo wd l) (ok:du l):∀p∈ko T l,p∈lE ss lo wd:=by
 have one:∀{k:Str}{f l:Int}{n:Nat},k∈ss->lo<=f->l < lo+wd->f+n<=l+1->∀p∈aH k f n,p∈lE ss lo wd:=λh1 h2 h3 h4 p hp=>by
  obtain⟨e1,e2,e3⟩:=fw.mp hp
  exact lD (by rw [e1];exact h1) ‹1› ‹1›
 cases l with
 | num z=>intro p hp;cases hp
 | val k d=>
  intro p hp
  rw [List.mem_singleton.mp hp]
  exact lD h.1 h.2.1 h.2.2
 | gth w ks f l=>
  intro p hp
  obtain⟨k,hk,hp⟩:=List.mem_flatMap.mp (show p∈(aY ks).flatMap _ from hp)
  have hn:=gx ok.2.2.2.1
  exact one (h.1 k (jG.mp hk)) h.2.1 h.2.2 ‹1› p hp
 | snc k bd f l=>
  intro p hp
  obtain⟨e1,e2,e3⟩:=wG.mp (show p∈dnP k l _ from hp)
  have hn:=gx ok.2.2.2.1
  obtain⟨h1,h2,h4⟩:=h
  exact lD (by rw [e1];exact h1) ‹1› ‹1›
 | prt a b f l=>
  intro p hp
  have hn:=gx ok.2.2.2.1
  rcases List.mem_append.mp (show p∈aH a f _++aH b f _ from hp) with hp | hp
  ·exact one h.1.1 h.2.1 h.2.2 ‹1› p hp
  ·exact one h.1.2 h.2.1 h.2.2 ‹1› p hp
 | chg r k f l=>
  intro p hp
  have hn:=gx ok.2.2.2.1
  have hp:p∈(match (bK T k f (len2 f l - 1))[(r - 1).toNat]? with
   | some d=>aH k f (d - f+1).toNat
   | none=>aH k f (len2 f l)):=hp
  cases e9:(bK T k f (len2 f l - 1))[(r - 1).toNat]? with
  | none=>
   rw [e9]at hp
   exact one h.1 h.2.1 h.2.2 ‹1› p hp
  | some d=>
   rw [e9]at hp
   have hdm:=jb.mp (List.mem_filter.mp (List.mem_of_getElem? e9)).1
   exact one h.1 h.2.1 h.2.2 ‹1› p hp
theorem qX {T:Str->Int->V}{ss:List Str}{lo wd:Int}:∀{n:Nat}{q:Nd},mB (qw ss lo wd) n q->cI n q->∀p∈bS T n q,p∈lE ss lo wd
 | 0,.leaf l,h,ok=>r6 h (cy ok)
 | _+1,.leaf l,h,ok=>r6 h (cy ok)
 | 0,.brk _ _,_,ok=>(show False from ok).elim
 | n+1,.brk w xs,h,ok=>by
  obtain⟨hw,hxs⟩:_/\_:=id ok
  have h:∀x∈xs,mB (qw ss lo wd) n x:=h
  have ih:∀x∈xs,∀p∈bS T n x,p∈lE ss lo wd:=λx hx=>qX (h x hx) (hxs x hx)
  intro p hp
  rw [bS]at hp
  by_cases hr:w∈bA
  ·obtain⟨q0,q1,rfl⟩:=r9 hw hr
   rw [if_pos hr,List.append_nil]at hp
   rcases List.mem_append.mp hp with hp | hp
   ·exact ih q0 (by simp) p hp
   ·exact ih q1 (by simp) p hp
  ·obtain⟨q0,q1,q2,q3,rfl⟩:=r8 hw hr
   rw [if_neg hr]at hp
   rcases List.mem_append.mp hp with hp | hp
   ·exact ih q0 (by simp) p hp
   ·rcases List.mem_append.mp hp with hp | hp
    ·exact ih q1 (by simp) p hp
    ·rcases ch_is w (bO T n ([q0,q1,q2,q3].getD 0 nd0)) (bO T n ([q0,q1,q2,q3].getD 1 nd0)) with e | e <;> rw [e]at hp
     ·exact ih q2 (by simp) p hp
     ·exact ih q3 (by simp) p hp
theorem ui {g g2:Nat->Bool}:∀{n:Nat},(∀i,dA g n - 1<=i->i < n->g2 i=g i)->dA g2 n=dA g n
 | 0,_=>rfl
 | n+1,h=>by
  have hn:=h n (by have:=oU g (n+1);omega) (Nat.lt_succ_self _)
  rw [dA,dA,hn]
  by_cases hg:g n=true
  ·rw [if_pos hg,if_pos hg]
   refine ui λi h1 h2=>h i ?_ ‹1›
   rw [dA,if_pos hg]
   exact h1
  ·rw [if_neg hg,if_neg hg]
theorem wV {T T2:Str->Int->V}{k:Str}{f:Int}{n:Nat} (h:∀d,f<=d->d<=f+n->T2 k d=T k d):bK T2 k f n=bK T k f n:=by
 unfold bK
 refine List.filter_congr λd hd=>?_
 have hm:=jb.mp hd
 rw [h d ‹1› ‹1›,h (d - 1) ‹1› ‹1›]
theorem rF {T:Str->Int->V}{k:Str}{f d:Int}{j:Nat}:∀{n:Nat},(bK T k f n)[j]?=some d->(bK T k f (d - f).toNat)[j]?=some d/\f+1<=d/\d<=f+n
 | 0,h=>by cases h
 | n+1,h=>by
  have h0:=h
  rw [wU]at h
  by_cases hj:j < (bK T k f n).length
  ·rw [List.getElem?_append_left hj]at h
   obtain⟨h1,h2,h3⟩:=rF h
   exact⟨h1,h2,by omega⟩
  ·rw [List.getElem?_append_right ‹1›]at h
   have e:d=f+1+(n:Int):=by
    by_cases hz:T k (f+1+(n:Int))=T k (f+(n:Int))
    ·rw [if_pos hz]at h;simp at h
    ·rw [if_neg hz]at h
     have:=List.mem_of_getElem? h
     exact List.mem_singleton.mp this
   refine⟨?_,by omega,by omega⟩
   rw [show (d - f).toNat=n+1 by omega]
   exact h0
theorem rK {T T2:Str->Int->V}{l:Lf} (ok:du l) (h:∀p∈ko T l,T2 p.1 p.2=T p.1 p.2):gJ T2 l=gJ T l/\ko T2 l=ko T l:=by
 cases l with
 | num z=>exact⟨rfl,rfl⟩
 | val k d=>exact⟨h (k,d) List.mem_cons_self,rfl⟩
 | gth w ks f l=>
  refine⟨?_,rfl⟩
  show gat w _=gat w _
  rw [show dB T2 ((aY ks).flatMap λk=>aH k f (len2 f l))=dB T ((aY ks).flatMap λk=>aH k f (len2 f l)) from List.map_congr_left λp hp=>h p hp]
 | snc k bd f l=>
  have hd:=ok.2.2
  have hn:=gx hd.2.1
  have e:dA (fI T2 k bd f) (len2 f l)=dA (fI T k bd f) (len2 f l):=ui λi h1 h2=>by
   have:=h (k,f+(i:Int)) (wG.mpr ⟨rfl,by show l - _ < f+(i:Int);omega,by show f+(i:Int)<=l;omega⟩)
   show rch bd (T2 k (f+(i:Int)))=rch bd (T k (f+(i:Int)))
   rw [show T2 k (f+(i:Int))=T k (f+(i:Int)) from this]
  constructor
  ·show gT _ _ _=gT _ _ _
   rw [e]
  ·show dnP _ _ _=dnP _ _ _
   rw [e]
 | prt a b f l=>
  have ha:∀d,f<=d->d < f+(len2 f l:Int)->T2 a d=T a d:=λd h1 h2=>h (a,d) (List.mem_append_left _ (fw.mpr ⟨rfl,h1,h2⟩))
  have hb:∀d,f<=d->d < f+(len2 f l:Int)->T2 b d=T b d:=λd h1 h2=>h (b,d) (List.mem_append_right _ (fw.mpr ⟨rfl,h1,h2⟩))
  refine⟨?_,rfl⟩
  show V.int ((sf T2 a b f (len2 f l)).length:Int)=V.int ((sf T a b f (len2 f l)).length:Int)
  unfold sf
  rw [List.filter_congr (q:=λd=>!decide (T a d=T b d)) λd hd=>by
   have hm:=jb.mp hd
   rw [ha d hm.1 hm.2,hb d hm.1 hm.2]]
 | chg r k f l=>
  have hd:=ok.2.2
  have hfl:=hd.2.1
  have hn:=gx hfl
  have h:∀p∈(match (bK T k f (len2 f l - 1))[(r - 1).toNat]? with
   | some d=>aH k f (d - f+1).toNat
   | none=>aH k f (len2 f l)),T2 p.1 p.2=T p.1 p.2:=h
  have e:(bK T2 k f (len2 f l - 1))[(r - 1).toNat]?=(bK T k f (len2 f l - 1))[(r - 1).toNat]?:=by
   cases e9:(bK T k f (len2 f l - 1))[(r - 1).toNat]? with
   | none=>
    rw [e9]at h
    rw [wV (T:=T) λd h1 h2=>h (k,d) (fw.mpr ⟨rfl,h1,by show d < f+(len2 f l:Int);omega⟩),e9]
   | some d=>
    rw [e9]at h
    obtain⟨c1,c2,c3⟩:=rF e9
    have c4:bK T2 k f (d - f).toNat=bK T k f (d - f).toNat:=wV λx h1 h2=>h (k,x) (fw.mpr ⟨rfl,h1,by show x < f+((d - f+1).toNat:Int);omega⟩)
    obtain⟨rr,hrr⟩:=mO T2 k f (n:=len2 f l - 1) (i:=(d - f).toNat) ‹1›
    rw [hrr,c4,List.getElem?_append_left (List.getElem?_eq_some_iff.mp c1).1]
    exact c1
  constructor
  ·show oq _=oq _
   rw [e]
  ·show (match (bK T2 k f (len2 f l - 1))[(r - 1).toNat]? with
    | some d=>aH k f (d - f+1).toNat
    | none=>aH k f (len2 f l))=(match (bK T k f (len2 f l - 1))[(r - 1).toNat]? with
    | some d=>aH k f (d - f+1).toNat
    | none=>aH k f (len2 f l))
   rw [e]
noncomputable def yr:Nat->Nd->Prop
 | 0,.leaf l=>du l
 | 0,.brk _ _=>False
 | _+1,.leaf l=>du l
 | n+1,.brk _ xs=>∀i,yr n (xs.getD i nd0)
theorem rJ {T T2:Str->Int->V}:∀{n:Nat}{q:Nd},yr n q->(∀p∈bS T n q,T2 p.1 p.2=T p.1 p.2)->bO T2 n q=bO T n q/\bS T2 n q=bS T n q
 | 0,.leaf l,ok,h=>rK ok h
 | 0,.brk _ _,ok,_=>ok.elim
 | _+1,.leaf l,ok,h=>rK ok h
 | n+1,.brk w xs,ok,h=>by
  rw [bS]at h
  obtain⟨a1,a2⟩:=rJ (ok 0) λp hp=>h p (List.mem_append_left _ hp)
  obtain⟨b1,b2⟩:=rJ (ok 1) λp hp=>h p (List.mem_append_right _ (List.mem_append_left _ hp))
  rw [bO,bO,bS,bS,a1,a2,b1,b2]
  by_cases hw:w∈bA
  ·rw [if_pos hw,if_pos hw,if_pos hw,if_pos hw]
   exact⟨rfl,rfl⟩
  ·rw [if_neg hw]at h
   obtain⟨c1,c2⟩:=rJ (ok (chV w (bO T n (xs.getD 0 nd0)) (bO T n (xs.getD 1 nd0)))) λp hp=>h p (List.mem_append_right _ (List.mem_append_right _ hp))
   rw [if_neg hw,if_neg hw,if_neg hw,if_neg hw,c1,c2]
   exact⟨rfl,rfl⟩
theorem zz:∀{n:Nat}{q:Nd},cI n q->yr n q
 | 0,.leaf l,ok=>cy ok
 | _+1,.leaf l,ok=>cy ok
 | 0,.brk _ _,ok=>(show False from ok).elim
 | n+1,.brk w xs,ok=>λi=>by
  obtain⟨_,hxs⟩:_/\_:=id ok
  show yr n (xs.getD i nd0)
  rw [List.getD_eq_getElem?_getD]
  cases e:xs[i]? with
  | none=>cases n <;> exact(show Big 0 from ⟨by decide,by decide⟩)
  | some q=>exact zz (hxs q (List.mem_of_getElem? e))
theorem yB {rs rs':List RZ} (h:prs rs'=prs rs):((ddR rs').map cO).length=((ddR rs).map cO).length/\∀z∈(ddR rs').map cO,z.1∈((ddR rs).map cO).map (·.1):=by
 have sub:∀{rs rs':List RZ},prs rs'=prs rs->∀x∈(ddR rs').map (·.1),x∈(ddR rs).map (·.1):=λ{rs rs'} h x hx=>by
  obtain⟨h1,h2,h3⟩:=fZ _ rs rfl
  obtain⟨k1,k2,k3⟩:=fZ _ rs' rfl
  obtain⟨r,hr,rfl⟩:=List.mem_map.mp hx
  exact h3 _ (by rw [<- h];exact List.mem_map_of_mem (k2 r hr))
 have a:=qW (fZ _ rs' rfl).nd (sub h)
 have b:=qW (fZ _ rs rfl).nd (sub h.symm)
 rw [List.length_map,List.length_map]at a b
 refine⟨by rw [List.length_map,List.length_map];omega,λz hz=>?_⟩
 obtain⟨r,hr,rfl⟩:=List.mem_map.mp hz
 obtain⟨r2,h2,e2⟩:=List.mem_map.mp (sub h r.1 (List.mem_map_of_mem hr))
 rw [List.map_map]
 exact List.mem_map.mpr ⟨r2,h2,jJ.mpr e2⟩
noncomputable abbrev uH:Stmt:=top 60
noncomputable def u8:Sp:=λvs H Q _=>∃(x y:V),vs=[x,y]/\di x/\di y/\Q (.bl (decide (x=y))) H
theorem A4:FnScope ["_law_found", "_law_due"] ["_law_found", "_law_due"] (aq uH):=‹2›
theorem y9 {f:Addr}{fd:FuncData} (F:Fun K "_law_like" "_law_like" uH f fd) (N:Free mg):FnOk P w K mg base CX0 1 f fd ["_law_found", "_law_due"] u8:=by
 refine F.ok (k:=0) A4 (λvs H Q E h=>?_) (λcdv A outer s H vs Q E hr h=>?_)
 ·obtain⟨x,y,rfl,_⟩:=h
  rfl
 ·obtain⟨x,y,rfl,hx,hy,q⟩:=h
  have hu:=aK hr
  refine⟨_,(ae (ba (PW.pt (nF (fk (gH (pv 0))) (jy (fk (gH (pv 1)))))) (ah (ax (fR (mw (gH (pv 0))) (fQ (mw (gH (pv 1))))))) aF)
   (ah (ax (fR (aG cF (by rfl) N.isinstance PyProof.Rows.Boot.«isinstance» (aa (pv 0) (aa (gk (v:=.ty "int") (by rfl) N.int PyProof.Rows.Boot.«int» rfl) ac))) (fR (AD (aG cF (by rfl) N.isinstance PyProof.Rows.Boot.«isinstance» (aa (pv 0) (aa (gk (v:=.ty "bool") (by rfl) N.bool PyProof.Rows.Boot.«bool» rfl) ac)))) (fQ (cj bM (pv 0) (pv 1) (aP _)))))))),?_⟩
  rcases hx with rfl | ⟨i,rfl⟩
  ·refine af (aE ⟨_,rfl,_,rfl,?_⟩)
   refine bb (bb (aA ⟨_,rfl,_,rfl,bb ⟨_,rfl,?_⟩⟩))
   rw [show decide (y=V.non)=decide (V.non=y) from by simp [eq_comm]]
   exact q
  ·refine af (aE ⟨_,rfl,_,rfl,?_⟩)
   rw [decide_eq_false (λz=>nomatch z)]
   refine aS ?_
   rcases hy with rfl | ⟨j,rfl⟩
   ·refine⟨_,rfl,_,rfl,bb (aA ⟨_,rfl,_,rfl,?_⟩)⟩
    rw [decide_eq_false (λz=>nomatch z)]at q ⊢
    exact aS q
   ·refine⟨_,rfl,_,rfl,?_⟩
    rw [decide_eq_false (λz=>nomatch z)]
    refine aS (aB ?_)
    dsimp only
    exact aA ⟨_,rfl,_,"int", _,true,rfl,.int i,by rfl,_,rfl,bb ⟨_,rfl,_,"bool", _,false,rfl,.int i,by rfl,_,rfl,_,rfl,bb ⟨_,rfl,_,rfl,rfl,q⟩⟩⟩
noncomputable abbrev pL:Stmt:=top 61
noncomputable abbrev uQ:Stmt:=top 63
noncomputable abbrev rY:Stmt:=top 64
theorem zk {v:V}{σ:St}{H:Hp}{Q:VK} (h:Q v H):tC v σ H Q:=h
theorem Bk (xs:List V) (i:Nat) (h:i<=xs.length):dZ xs none (some (i:Int))=xs.take i:=by
 unfold dZ
 rw [HT.sIx_nat,Nat.min_eq_left h]
 rfl
theorem Lm.gr {T:Addr}{H H':Hp} (L:Lm T H) (g:aZ H H'):Lm T H':=by
 rcases L with e | ⟨c,e1,e2⟩
 ·exact .inl (g _ _ e)
 ·exact .inr ⟨c,g _ _ e1,g _ _ e2⟩
theorem Lm.of {T la:Addr}{H H':Hp} (L:Lm T H) (o:Off la H H'){xs:List V} (h:H la=some (.lst xs)):Lm T H':=by
 rcases L with e | ⟨c,e1,e2⟩
 ·exact .inl (o _ _ e λz=>by rw [z,h]at e;cases e)
 ·exact .inr ⟨c,o _ _ e1 (λz=>by rw [z,h]at e1;cases e1),o _ _ e2 (λz=>by rw [z,h]at e2;cases e2)⟩
theorem vR {s:Addr}{H H1 H2:Hp} (n:H s=none) (g:aZ H H1) (o:Off s H1 H2):aZ H H2:=λb u e=>o _ _ (g _ _ e) (ao e n)
noncomputable def ug (T:Addr):Sp:=λvs H Q _=>∃(cc:Int),vs=[.int cc]/\Lm T H/\∀H',Gm T H H'->Q (.bl true) H'
inductive DrQ (H:Hp) (Q:VK):Prop
 | mk (q:∀(u s ln t tb:Addr) (ss:List Str) (lo wd:Int) (dp:Nat) (kvs:List (List Key × V)) (H':Hp),H s=none->aZ H H'->H' u=some (.tup [.ref s,.ref ln,.ref t,.ref tb,.int (dp:Int)])->dp<=3->SAt H' s->H' ln=some (.lst (ss.map V.str))->Nm2 ss->(ss.length=8/\wd<=40\/ss.length=2/\wd<=400)->ln≠s->H' t=some (.tup [.int lo,.int wd])->0<=lo->1<=wd->lo+wd<=400->H' tb=some (.dT kvs)->iI kvs->Q (.ref u) H'):DrQ H Q
noncomputable def qG:Sp:=λvs H Q _=>∃(cc:Int),vs=[.int cc]/\DrQ H Q
inductive GoA (H:Hp) (cc:Int) (s t:Addr) (lo wd:Int) (σ:St) (H2:Hp):Prop
 | mk (ln:Addr) (ss:List Str) (dp:Nat) (h1:σ=[some (.int cc),some (.ref s),some (.ref ln),some (.ref t),some (.int (dp:Int)),none]) (h2:aZ H H2) (h3:SAt H2 s) (h4:H2 ln=some (.lst (ss.map V.str))) (h5:Nm2 ss) (h6:ss.length=8/\wd<=40\/ss.length=2/\wd<=400) (h7:H2 t=some (.tup [.int lo,.int wd])) (h8:ln≠s) (h9:dp<=3):GoA H cc s t lo wd σ H2
theorem eJ:FnScope ["_law_cell_here", "_law_state", "_law_names_here", "_law_window_here", "_law_deep", "_law_table_here"] ["_law_cell_here"] (aq pL):=‹2›
theorem vO {f f1 f2 f3 f4 f5:Addr}{fd:FuncData} (F:Fun K "_law_drawn" "_law_drawn" pL f fd) (N:Free mg){fd1:FuncData} (CB:Cal P w K mg base "_law_begun" 1 ["_law_cell_here"] lP f1 fd1){fd2:FuncData} (CM2:Cal P w K mg base "_law_names" 3 ["_law_cell_here"] qD f2 fd2){fd3:FuncData} (CM:Cal P w K mg base "_law_mix" 1 ["_law_cell_here", "_law_k"] u4 f3 fd3){fd4:FuncData} (CI:Cal P w K mg base "_law_window" 3 ["_law_state"] mZ f4 fd4){fd5:FuncData} (CTb:Cal P w K mg base "_law_table" 4 ["_law_state", "_law_names_here", "_law_window_here"] qC f5 fd5):FnOk P w K mg base CX0 5 f fd ["_law_cell_here"] qG:=by
 refine F.ok (k:=4) eJ (λvs H Q E h=>?_) (λcdv A outer s H vs Q E hr h=>?_)
 ·obtain⟨cc,rfl,_⟩:=h
  rfl
 ·obtain⟨cc,rfl,⟨q⟩⟩:=h
  have hu:=aK hr
  refine⟨_,(ae (ay (i:=1) eJ.nd rfl (Or.inl rfl) (av CB.ok (hr.mono (by decide)) rfl CB.nm CB.kp CB.bd .nil au (aa (pv 0) ac)))
   (ae (ay (i:=2) eJ.nd rfl (Or.inl rfl) (av CM2.ok (hr.mono (by decide)) rfl CM2.nm CM2.kp CM2.bd .nil au (aa (av CM.ok (hr.mono (by decide)) rfl CM.nm CM.kp CM.bd .nil au (aa (pv 0) (aa aj ac))) ac)))
   (ae (ay (i:=3) eJ.nd rfl (Or.inl rfl) (av CI.ok (hr.mono (by decide)) rfl CI.nm CI.kp CI.bd .nil au (aa (pv 1) ac)))
   (ae (ay (i:=4) eJ.nd rfl (Or.inl rfl) aj)
   (ae (ba (aI bM (aU de (pv 3) aj (λ_ _=>rfl)) aj (aP _)) (ae (ay (i:=2) eJ.nd rfl (Or.inl rfl) (eW iY (pv 2) gj (gi aj)))
   (ah (ay (i:=4) eJ.nd rfl (Or.inl rfl) aj))) aF)
   (ae (ay (i:=5) eJ.nd rfl (Or.inl rfl) (av CTb.ok (hr.mono (by decide)) rfl CTb.nm CTb.kp CTb.bd .nil au (aa (pv 1) (aa (pv 2) (aa (pv 3) ac)))))
   (ah (ax (bW (aa (pv 1) (aa (pv 2) (aa (pv 3) (aa (pv 5) (aa (pv 4) ac)))))))))))))),?_⟩
  refine af (aw ⟨_,rfl,cc,rfl,λs H1 ns g1 hs1=>?_⟩)
  walk_at "d"
  refine af (aw ⟨_,rfl,cc,99,rfl,λmx _ _=>⟨mx,rfl,λln ss H2 nln g2 eln hss=>?_⟩⟩)
  walk_at "d"
  have hs2:=hs1.keep g2
  have nls:ln≠s:=λz=>by obtain⟨xs,e⟩:=hs1.lst;rw [z,e]at nln;cases nln
  refine af (aw ⟨_,rfl,s,rfl,hs2,λt lo wd H3 o3 hs3 et nts h0 h1 h2 hw=>?_⟩)
  walk_at "d"
  have g3:aZ H H3:=vR ns (g1.trans g2) o3
  have eln3:=o3 _ _ eln nls
  refine af (aw ?_)
  refine zk ?_
  walk_at "d"
  refine Au (GoA H cc s t lo wd) (λR hR=>?_) λσ H4 hh=>?_
  ·refine aE ⟨_,rfl,t,_,1,_,rfl,rfl,SqT.of et,rfl,rfl,_,rfl,?_⟩
   by_cases z4:wd=400
   ·rw [decide_eq_true (show V.int wd=V.int 400 by rw [z4])]
    refine bb (af (aw ⟨_,rfl,_,rfl,ln,_,rfl,SqL.of eln3,λp np=>?_⟩))
    walk_at "d"
    have e2:=Bk (ss.map V.str) 2 (by rw [List.length_map,hss.1];decide)
    rw [show dZ (ss.map V.str) none (some 2)=(ss.take 2).map V.str from by rw [List.map_take];exact e2]
    obtain⟨g4,e4⟩:=laid (o:=.lst ((ss.take 2).map V.str)) np
    have nps:p≠s:=λz=>by obtain⟨xs,e⟩:=hs3.lst;rw [z,e]at np;cases np
    have hl2:(ss.take 2).length=2:=by rw [List.length_take,hss.1];decide
    refine aw (zk ?_)
    walk_at "d"
    exact hR _ _ ⟨p,ss.take 2,0,rfl,g3.trans g4,hs3.keep g4,e4,⟨.inr hl2,hss.2.1.sublist (List.take_sublist _ _),λx hx=>hss.2.2 x (List.mem_of_mem_take hx)⟩,.inr ⟨hl2,by omega⟩,g4 _ _ et,nps,by decide⟩
   ·rw [decide_eq_false (λz=>z4 (V.int.inj z))]
    refine aS (aB ?_)
    exact hR _ _ ⟨ln,ss,3,rfl,g3,hs3,eln3,⟨.inl hss.1,hss.2⟩,.inl ⟨hss.1,hw.resolve_right z4⟩,et,nls,by decide⟩
  obtain⟨ln,ss,dp,rfl,g4,hs4,eln,hss,huni,et,nls,hdp⟩:=hh
  have nts:t≠s:=hs4.ne et
  refine af (aw ⟨_,rfl,_,rfl,_,rfl,s,ln,t,rfl,ss,lo,wd,hs4,eln,hss,nls,et,nts,h0,h1,h2,λtb kvs H5 ntb o5 hs5 etb tv htl=>?_⟩)
  walk_at "d"
  have g5:=vR ns g4 o5
  have eln5:=o5 _ _ eln nls
  refine aA ⟨_,rfl,_,rfl,_,rfl,_,rfl,_,rfl,by show 5<=sizeLine;decide,λu nu=>?_⟩
  obtain⟨g6,e6⟩:=laid (o:=.tup [V.ref s,.ref ln,.ref t,.ref tb,.int (dp:Int)]) nu
  exact q u s ln t tb ss lo wd dp kvs _ ns (g5.trans g6) e6 hdp (hs5.keep g6) (g6 _ _ eln5) hss huni nls (g6 _ _ (o5 _ _ et nts)) h0 h1 h2 (g6 _ _ etb) tv
noncomputable abbrev ma:Stmt:=top 62
noncomputable def kz (p:Str × Int):List Key:=[.inr p.1,.inl p.2]
theorem mF {p q:Str × Int}:kz p=kz q↔p=q:=by
 constructor
 ·intro h
  injection h with h1 h2
  injection h2 with h2 _
  exact Prod.ext (Sum.inr.inj h1) (Sum.inl.inj h2)
 ·intro h;rw [h]
theorem xf (kvs:List (List Key × V)) (p:Str × Int) (v:V) (k:Str) (d:Int):tel (eE kvs (kz p) v) k d=if (k,d)=p then v else tel kvs k d:=by
 unfold tel
 rw [jf]
 by_cases h:(k,d)=p
 ·rw [if_pos h,if_pos (show [Sum.inr k,Sum.inl d]=kz p from mF.mpr h)];rfl
 ·rw [if_neg h,if_neg (show ¬[Sum.inr k,Sum.inl d]=kz p from λz=>h (mF.mp (show kz (k,d)=kz p from z)))]
def Agr (kvs kv2:List (List Key × V)) (rs:List RZ) (S:Str->Int->Prop):Prop:=∀k d,S k d->(k,d)∈prs rs->tel kv2 k d=tel kvs k d
theorem Agr.put {kvs kv2:List (List Key × V)}{rs:List RZ}{S S':Str->Int->Prop}{p:Str × Int}{v:V} (h:Agr kvs kv2 rs S) (hv:p∈prs rs->v=tel kvs p.1 p.2) (hS:∀k d,S' k d->(k,d)≠p->S k d):Agr kvs (eE kv2 (kz p) v) rs S':=λk d hs hm=>by
 rw [xf]
 by_cases e:(k,d)=p
 ·rw [if_pos e]
  subst e
  exact hv hm
 ·rw [if_neg e];exact h k d (hS k d hs e) hm
def Knw (kn:List (List Key × V)) (rs:List RZ):Prop:=∀p,(valV kn (kz p)).isSome=true↔p∈prs rs
theorem Knw.put {kn:List (List Key × V)}{rs:List RZ}{r:RZ}{v:V} (h:Knw kn rs):Knw (eE kn (kz r.1) v) (rs++[r]):=λp=>by
 unfold prs
 rw [jf,List.map_append,List.mem_append]
 by_cases e:p=r.1
 ·rw [if_pos (mF.mpr e)]
  exact⟨λ_=>.inr (by rw [e];exact List.mem_singleton.mpr rfl),λ_=>rfl⟩
 ·rw [if_neg (λz=>e (mF.mp z))]
  exact(h p).trans ⟨λz=>.inl z,λz=>z.elim id λz=>absurd (List.mem_singleton.mp z) e⟩
theorem Cz:Knw [] ([]:List RZ):=λp=>⟨(λz=>nomatch z),λz=>nomatch z⟩
inductive SeI (s ln t tb la:Addr) (H:Hp) (Q:VK):Prop
 | mk (ss:List Str) (lo wd:Int) (kvs:List (List Key × V)) (rs:List RZ) (hs:SAt H s) (el:H ln=some (.lst (ss.map V.str))) (h8:ss.length<=8) (nls:ln≠s) (et:H t=some (.tup [.int lo,.int wd])) (h0:0<=lo) (h1:1<=wd) (h2:lo+wd<=400) (etb:H tb=some (.dT kvs)) (tv:iI kvs) (ha:Askd H la rs) (hrl:rs.length < 900000) (q:∀(p:Addr) (kv2:List (List Key × V)) (H':Hp),H p=none->Off s H H'->SAt H' s->H' p=some (.dT kv2)->iI kv2->kv2.length<=10000->Agr kvs kv2 rs (λk d=>k∈ss/\lo<=d/\d < lo+wd)->Q (.ref p) H'):SeI s ln t tb la H Q
noncomputable def n8:Sp:=λvs H Q _=>∃(s ln t tb la:Addr),vs=[.ref s,.ref ln,.ref t,.ref tb,.ref la]/\SeI s ln t tb la H Q
inductive SkI (H:Hp) (s ln t tb la kp:Addr) (rs:List RZ) (i:Nat) (σ:St) (H2:Hp):Prop
 | mk (kn:List (List Key × V)) (v6:Option V) (h1:σ=[some (.ref s),some (.ref ln),some (.ref t),some (.ref tb),some (.ref la),some (.ref kp),v6,none,none,none,none]) (h2:aZ H H2) (h3:H2 kp=some (.dT kn)) (h4:Knw kn (rs.take i)) (h5:kn.length<=i):SkI H s ln t tb la kp rs i σ H2
inductive SsI (H:Hp) (s ln t tb la kp p:Addr) (v6:Option V) (sh:Int) (kvs kn:List (List Key × V)) (rs:List RZ) (m:Nat) (S:Str->Int->Prop) (v9:Option V) (σ:St) (H2:Hp):Prop
 | mk (kv2:List (List Key × V)) (v10:Option V) (h1:σ=[some (.ref s),some (.ref ln),some (.ref t),some (.ref tb),some (.ref la),some (.ref kp),v6,some (.int sh),some (.ref p),v9,v10]) (h2:Off s H H2) (h3:SAt H2 s) (h4:H2 kp=some (.dT kn)) (h5:H2 p=some (.dT kv2)) (h6:iI kv2) (h7:kv2.length<=m) (h8:Agr kvs kv2 rs S):SsI H s ln t tb la kp p v6 sh kvs kn rs m S v9 σ H2
theorem dP:FnScope ["_law_state", "_law_names_here", "_law_window_here", "_law_table_here", "_law_asked", "_law_known", "_law_one", "_law_shift", "_law_second_here", "_law_name", "_law_day"] ["_law_state", "_law_names_here", "_law_window_here", "_law_table_here", "_law_asked"] (aq ma):=‹2›
theorem sD {f f1:Addr}{fd:FuncData} (F:Fun K "_law_second" "_law_second" ma f fd) (N:Free mg){fd1:FuncData} (CP:Cal P w K mg base "_law_pull" 2 ["_law_state", "_law_many"] cZ f1 fd1):FnOk P w K mg base CX0 3 f fd ["_law_state", "_law_names_here", "_law_window_here", "_law_table_here", "_law_asked"] n8:=by
 refine F.ok (k:=2) dP (λvs H Q E h=>?_) (λcdv A outer s H vs Q E hr h=>?_)
 ·obtain⟨s,ln,t,tb,la,rfl,_⟩:=h
  rfl
 ·obtain⟨s,ln,t,tb,la,rfl,⟨ss,lo,wd,kvs,rs,hs,el,h8,nls,et,h0,h1,h2,etb,tv,ha,hrl,q⟩⟩:=h
  have hu:=aK hr
  refine⟨_,(ae (ay (i:=5) dP.nd rfl (Or.inl rfl) jB)
   (ae (cA PassesOwn.never rfl (cg (pv 4)) (bi (i:=6) dP.nd rfl (Or.inl rfl))
   (ah (hG hu (pv 5) (pv 6) jC rfl)))
   (ae (ay (i:=7) dP.nd rfl (Or.inl rfl) (aL bx aj (av CP.ok (hr.mono (by decide)) rfl CP.nm CP.kp CP.bd .nil au (aa (pv 0) (aa aj ac)))))
   (ae (ay (i:=8) dP.nd rfl (Or.inl rfl) jB)
   (ae (cA PassesOwn.never rfl (cg (pv 1)) (bi (i:=9) dP.nd rfl (Or.inl rfl))
   (ah (cA PassesOwn.never rfl (dL rfl N.range (aa (aU de (pv 2) aj (λ_ _=>rfl)) (aa (aL bx (aU de (pv 2) aj (λ_ _=>rfl)) (aU de (pv 2) aj (λ_ _=>rfl))) ac))) (bi (i:=10) dP.nd rfl (Or.inl rfl))
   (ah (ba (fk (AF hu (bW (aa (pv 9) (aa (pv 10) ac))) (pv 5))) (ah (hG hu (pv 8) (bW (aa (pv 9) (aa (pv 10) ac))) (nK hu (pv 3) (bW (aa (pv 9) (aa (pv 10) ac))) ⟨rfl,rfl,rfl,rfl⟩) rfl)) (ah (ba (aI vk (aL fm (aL bx (pv 10) (pv 7)) aj) aj (aP _)) (ah (hG hu (pv 8) (bW (aa (pv 9) (aa (pv 10) ac))) (aL dn (aL fm (aL eS (pv 7) (aL bx (pv 10) aj)) aj) aj) rfl)) aF)))))))
   (ah (ax (pv 8)))))))),?_⟩
  have nst:∀{b:Addr}{o:HO},H b=some o->(∀xs,o≠.lst xs)->b≠s:=λe n z=>by obtain⟨xs,e'⟩:=hs.lst;rw [z,e']at e;exact n xs (Option.some.inj e).symm
  have nts:=nst et (λ_ z=>nomatch z)
  have ntb:=nst etb (λ_ z=>nomatch z)
  obtain⟨ha1,ha2⟩:=ha
  refine af (aw λkp nkp=>?_)
  walk_at "d"
  obtain⟨g1,e1⟩:=laid (o:=.dT []) nkp
  have hs1:=hs.keep g1
  have nks:kp≠s:=λz=>by obtain⟨xs,e⟩:=hs.lst;rw [z,e]at nkp;cases nkp
  generalize upd H kp _=H1 at g1 e1 hs1 ⊢
  refine af ⟨_,rfl,la,rfl,⟨_,SqL.of (g1 _ _ ha1)⟩,fb (K:=K) (a:=la) (xs:=rs.map λr=>V.ref r.2) (SkI H s ln t tb la kp rs) ⟨[],none,rfl,g1,e1,Cz,Nat.zero_le _⟩ (λi σ H2 _ hh=>?_) (λi v σ H2 hi hh=>?_) λσ H2 hh=>?_⟩
  ·obtain⟨kn,v6,rfl,g2,_⟩:=hh
   exact SqL.of (g2 _ _ ha1)
  ·obtain⟨kn,v6,rfl,g2,e2,kw2,hl2⟩:=hh
   rw [List.getElem?_map]at hi
   obtain⟨r,hr9,rfl⟩:=Option.map_eq_some_iff.mp hi
   have hil:=(List.getElem?_eq_some_iff.mp hr9).1
   have er:=g2 _ _ (ha2 r (List.mem_of_getElem? hr9))
   walk_at "d"
   refine⟨_,rfl,_,rfl,kp,_,rfl,.inr ⟨kn,kz r.1,r.2,e2,rfl,er,Nat.lt_of_le_of_lt (show _<=1000000 by omega) (by decide),rfl⟩,eE kn (kz r.1) (.bl true),_,rfl,λb o e=>?_,ar,?_,?_⟩
   ·rw [ai (ao e nkp)];exact g2 _ _ e
   ·rw [List.take_add_one,hr9];exact kw2.put
   ·have:=dg kn (kz r.1) (.bl true);omega
  obtain⟨kn,v6,rfl,g2,e2,kw2,hl2⟩:=hh
  rw [List.length_map,List.take_length]at kw2
  rw [List.length_map]at hl2
  dsimp only
  have hs2:=hs.keep g2
  refine af (aw ⟨_,rfl,s,1000,rfl,hs2,by decide,by decide,λsh H3 sh0 sh1 o3 hs3=>⟨_,_,rfl,rfl,?_⟩⟩)
  walk_at "d"
  have o13:Off s H H3:=(Off.grow g2).trans o3
  have e3:=o3 _ _ e2 nks
  refine af (aw λp np=>?_)
  walk_at "d"
  have np0:H p=none:=hs3.free o13 np
  obtain⟨g4,e4⟩:=laid (o:=.dT []) np
  have hs4:=hs3.keep g4
  have nps:p≠s:=λz=>by obtain⟨xs,e⟩:=hs3.lst;rw [z,e]at np;cases np
  have nkp':kp≠p:=ao e3 np
  have o4:=o13.trans (Off.grow g4)
  have e34:=g4 _ _ e3
  generalize upd H3 p _=H4 at g4 e4 hs4 o4 e34 ⊢
  refine af ⟨_,rfl,ln,rfl,⟨_,SqL.of (o4 _ _ el nls)⟩,fb (K:=K) (a:=ln) (xs:=ss.map V.str) (λi σ H5=>∃v9,SsI H s ln t tb la kp p v6 (1+sh) kvs kn rs (400 * i) (λk d=>k∈ss.take i/\lo<=d/\d < lo+wd) v9 σ H5) ⟨none,[],none,rfl,o4,hs4,e34,e4,(λk v e=>by cases e),Nat.zero_le _,λk d h=>by cases h.1⟩ (λi σ H5 _ hh=>?_) (λi v σ H5 hi hh=>?_) λσ H5 hh=>?_⟩
  ·obtain⟨v9,kv2,v10,rfl,o5,_⟩:=hh
   exact SqL.of (o5 _ _ el nls)
  ·obtain⟨v9,kv2,v10,rfl,o5,hs5,e5,ep5,tv5,hl5,ag5⟩:=hh
   rw [List.getElem?_map]at hi
   obtain⟨k,hk9,rfl⟩:=Option.map_eq_some_iff.mp hi
   have hil:=(List.getElem?_eq_some_iff.mp hk9).1
   have etk:ss.take (i+1)=ss.take i++[k]:=by rw [List.take_add_one,hk9];rfl
   walk_at "d"
   have et5:=o5 _ _ et nts
   have en:(lo+wd - lo).toNat=wd.toNat:=by omega
   refine⟨_,rfl,t,_,0,_,rfl,rfl,SqT.of et5,rfl,_,rfl,t,_,0,_,rfl,rfl,SqT.of et5,rfl,_,rfl,t,_,1,_,rfl,rfl,SqT.of et5,rfl,_,_,rfl,rfl,lo,lo+wd,rfl,⟨by omega,by omega,by omega,by omega⟩,?_⟩
   rw [en]
   refine cE (lo:=lo) (n:=wd.toNat) (λj σ H6=>SsI H s ln t tb la kp p v6 (1+sh) kvs kn rs (400 * i+j) (λk' d=>(k'∈ss.take i/\lo<=d/\d < lo+wd)\/(k'=k/\lo<=d/\d < lo+j)) (some (.str k)) σ H6) ⟨kv2,_,rfl,o5,hs5,e5,ep5,tv5,hl5,λk' d h=>ag5 k' d (h.resolve_right λz=>by omega)⟩ (λj σ H6 hj hh=>?_) λσ H6 hh=>?_
   ·obtain⟨kv3,v10,rfl,o6,hs6,e6,ep6,tv6,hl6,ag6⟩:=hh
    walk_at "d"
    have hS:∀(k':Str) (d:Int),((k'∈ss.take i/\lo<=d/\d < lo+wd)\/(k'=k/\lo<=d/\d < lo+((j+1:Nat):Int)))->(k',d)≠(k,lo+(j:Int))->(k'∈ss.take i/\lo<=d/\d < lo+wd)\/(k'=k/\lo<=d/\d < lo+(j:Int)):=λk' d h n=>by
     rcases h with h | ⟨h1,h2,h3⟩
     ·exact .inl h
     ·refine .inr ⟨h1,h2,?_⟩
      have:d≠lo+(j:Int):=λz=>n (by rw [h1,z])
      omega
    have fin:∀(v:V) (tq:Addr) (H7:Hp),di v->((k,lo+(j:Int))∈prs rs->v=tel kvs k (lo+j))->aZ H6 H7->H7 tq=some (.tup [.str k,.int (lo+j)])->∃a H8,V.ref p=.ref a/\Bt H7 a (.ref tq) v H8/\SsI H s ln t tb la kp p v6 (1+sh) kvs kn rs (400 * i+(j+1)) (λk' d=>(k'∈ss.take i/\lo<=d/\d < lo+wd)\/(k'=k/\lo<=d/\d < lo+((j+1:Nat):Int))) (some (.str k)) [some (.ref s),some (.ref ln),some (.ref t),some (.ref tb),some (.ref la),some (.ref kp),v6,some (.int (1+sh)),some (.ref p),some (.str k),some (.int (lo+j))] H8:=λv tq H7 hv hm g7 etq=>by
     refine⟨p,_,rfl,.inr ⟨kv3,kz (k,lo+j),tq,g7 _ _ ep6,rfl,etq,Nat.lt_of_le_of_lt (show _<=100000 by omega) (by decide),rfl⟩,eE kv3 (kz (k,lo+j)) v,_,rfl,λb o e nb=>?_,(hs6.keep g7).off nps (λb o e nb=>by rw [ai nb];exact e),?_,ar,tv6.put hv _,?_,ag6.put hm hS⟩
     ·rw [ai (ao e np0)];exact g7 _ _ (o6 _ _ e nb)
     ·rw [ai nkp'];exact g7 _ _ e6
     ·have:=dg kv3 (kz (k,lo+j)) v;omega
    refine aE ⟨_,rfl,_,rfl,by show 2<=sizeLine;decide,λt1 nt1=>?_⟩
    obtain⟨g7,e7⟩:=laid (o:=.tup [V.str k,V.int (lo+j)]) nt1
    generalize upd H6 t1 _=H7 at g7 e7 ⊢
    refine⟨_,rfl,kp,_,rfl,.inr ⟨kn,kz (k,lo+j),t1,.of (g7 _ _ e6),rfl,e7,rfl⟩,?_⟩
    cases hkn:(valV kn (kz (k,lo+(j:Int)))).isSome with
    | true=>
     refine⟨_,rfl,bb ?_⟩
     refine⟨_,rfl,tb,rfl,.inr ⟨kvs,.of (g7 _ _ (o6 _ _ etb ntb))⟩,_,rfl,_,rfl,by show 2<=sizeLine;decide,λt2 nt2=>?_⟩
     obtain⟨g8,e8⟩:=laid (o:=.tup [V.str k,V.int (lo+j)]) nt2
     generalize upd H7 t2 _=H8 at g8 e8 ⊢
     refine⟨_,.inr ⟨kvs,kz (k,lo+j),t2,.of (g8 _ _ (g7 _ _ (o6 _ _ etb ntb))),rfl,e8,rfl⟩,_,rfl,_,rfl,_,rfl,by show 2<=sizeLine;decide,λt3 nt3=>?_⟩
     obtain⟨g9,e9⟩:=laid (o:=.tup [V.str k,V.int (lo+j)]) nt3
     exact fin (tel kvs k (lo+j)) t3 _ (tv.ok k _) (λ_=>rfl) ((g7.trans g8).trans g9) e9
    | false=>
     have hnot:(k,lo+(j:Int))∉prs rs:=λz=>by rw [(kw2 _).mpr z]at hkn;cases hkn
     refine⟨_,rfl,aS (aE ⟨_,rfl,_,rfl,_,_,rfl,rfl,_,_,rfl,rfl,by decide,_,_,rfl,rfl,_,rfl,dX (λ_=>?_) λ_=>aB ?_⟩)⟩
     ·refine⟨_,rfl,_,rfl,_,_,rfl,rfl,_,_,rfl,rfl,.inl ⟨by omega,by omega⟩,_,_,rfl,rfl,by decide,_,_,rfl,rfl,_,rfl,_,rfl,_,rfl,by show 2<=sizeLine;decide,λt3 nt3=>?_⟩
      obtain⟨g9,e9⟩:=laid (o:=.tup [V.str k,V.int (lo+j)]) nt3
      exact fin _ t3 _ (.inr ⟨_,rfl⟩) (λz=>absurd z hnot) (g7.trans g9) e9
     ·exact⟨kv3,_,rfl,o6.trans (Off.grow g7),hs6.keep g7,g7 _ _ e6,g7 _ _ ep6,tv6,by omega,λk' d h hm=>by
       by_cases z:(k',d)=(k,lo+(j:Int))
       ·rw [z]at hm;exact absurd hm hnot
       ·exact ag6 k' d (hS k' d h z) hm⟩
   ·obtain⟨kv3,v10,rfl,o6,hs6,e6,ep6,tv6,hl6,ag6⟩:=hh
    refine⟨_,kv3,v10,rfl,o6,hs6,e6,ep6,tv6,by omega,λk' d h hm=>ag6 k' d ?_ hm⟩
    obtain⟨h1',h2',h3'⟩:=h
    rw [etk]at h1'
    rcases List.mem_append.mp h1' with h1' | h1'
    ·exact .inl ⟨h1',h2',h3'⟩
    ·exact .inr ⟨List.mem_singleton.mp h1',h2',by omega⟩
  ·obtain⟨v9,kv2,v10,rfl,o5,hs5,e5,ep5,tv5,hl5,ag5⟩:=hh
   rw [List.length_map]at hl5
   rw [List.length_map,List.take_length]at ag5
   exact aA ⟨_,rfl,q p kv2 H5 np0 o5 hs5 ep5 tv5 ‹1› ag5⟩
end Mine
namespace L2
open PySem PySem.Spec PySem.SetTable PyProof.Rows
section
variable {prog:Program}{w:World}{A:Around}{E:Value->Shared->Prop}{s:Shared}
theorem ul {a:Addr}{o:Obj}{es:Array (Int × Value)}{ep:Nat}{t:SetTable}{zs:List KZ}{Q:Array (Int × Value)->Shared->Prop} (ho:s.heap.get? a=some o) (hd:o.data=.set es ep t) (D:SetD prog w (dq w) zs es t)
  (hQ:∀(ys:Array (Int × Value)) d,ys.toList.Perm es.toList->Q ys { s with drawn:=d }):wpAny (model prog w) A (setWalk a) Q E s:=by
 unfold setWalk
 refine zB0 (wpAny_setState_of ho hd D.fits ?_)
 dsimp only
 refine zB0 (yH ?_)
 k_delta "drawn"
 cases hw:dq w with
 | false=>
  simp only [Bool.not_false,if_true]
  exact zB0 (wpAny_askSetting (zP0 (hQ _ s.drawn (sr _ _))))
 | true=>
  simp only [Bool.not_true,Bool.false_eq_true,if_false]
  show wpAny _ _ (if (!t.plain && decide (es.size > 1))=true then _ else _) _ _ _
  cases hdr:(!t.plain && decide (es.size > 1)) with
  | false=>
   simp only [Bool.false_eq_true,if_false]
   k_delta "mustBeLed"
   have hl:t.led=true:=D.ld.trans hw
   simp only [hl,Bool.not_true,Bool.false_and,Bool.false_eq_true,if_false]
   exact zB0 (zP0 (zP0 (hQ _ s.drawn (List.Perm.refl _))))
  | true=>
   simp only [if_true]
   exact zB0 (zF es.size es.toList s (Array.length_toList) λys d hp=>zP0 (hQ _ d (by simpa using hp)))
theorem vT {k:List Key}{b:Addr}{Q:Bool->Shared->Prop} (hk:IsTupleKey (aJ prog w) s.heap k b) (h:Q false s):wpAny (model prog w) A (Builtin.Frozenset.quietEq (.ref b)) Q E s:=by
 unfold Builtin.Frozenset.quietEq
 refine zB0 (wpAny_specialOf hk.typeIs F.slot_tuple_eq.lookup (zP0 ?_))
 exact h
theorem zJ {a b:Addr}{o o2:Obj}{es es2:Array (Int × Value)}{ep ep2:Nat}{t t2:SetTable}{zs zs2:List KZ}{Q:List (Int × Value)->Shared->Prop} (ho:s.heap.get? a=some o) (hd:o.data=.set es ep t) (D:SetD prog w (dq w) zs es t) (ho2:s.heap.get? b=some o2) (hd2:o2.data=.set es2 ep2 t2) (D2:SetD prog w (dq w) zs2 es2 t2)
  (his:∀z∈zs,IsTupleKey (aJ prog w) s.heap z.1 z.2) (his2:∀z∈zs2,IsTupleKey (aJ prog w) s.heap z.1 z.2)
  (hQ:∀(ys:List (Int × Value)) d,ys.Perm es.toList->Q ys { s with drawn:=d }):wpAny (model prog w) A (Builtin.Frozenset.walkUnseen a b) Q E s:=by
 unfold Builtin.Frozenset.walkUnseen
 refine zB0 (wpAny_setEntries_of ho hd D.fits ?_)
 refine zB0 (wpAny_setEntries_of ho2 hd2 D2.fits ?_)
 have all:∀e∈es.toList++es2.toList,∃z:KZ,e=iG prog w z/\IsTupleKey (aJ prog w) s.heap z.1 z.2:=λe he=>by
  rcases List.mem_append.mp he with he | he
  ·obtain⟨z,hz,rfl⟩:=List.mem_map.mp (D.pm.mem_iff.mp he)
   exact⟨z,rfl,his z hz⟩
  ·obtain⟨z,hz,rfl⟩:=List.mem_map.mp (D2.pm.mem_iff.mp he)
   exact⟨z,rfl,his2 z hz⟩
 cases hL:es.toList++es2.toList with
 | nil=>
  have e0:es.toList=[]:=(List.append_eq_nil_iff.mp hL).1
  refine zB0 (zP0 ?_)
  exact zP0 (hQ _ s.drawn (List.Perm.refl _))
 | cons e rest=>
  obtain⟨z,rfl,hk⟩:=all e (by rw [hL];exact List.mem_cons_self)
  rw [List.forIn_cons]
  refine zB0 (zB0 (zB0 (vT hk ?_)))
  simp only [Bool.not_false,if_true]
  unfold Builtin.Frozenset.walk
  exact zB0 (zB0 (ul ho hd D λys d hp=>zP0 (zP0 (zP0 (zP0 (hQ _ d hp))))))
theorem Cq {id:String}{a b:Addr}{o o2:Obj}{es es2:Array (Int × Value)}{ep ep2:Nat}{t t2:SetTable}{zs zs2:List KZ}{Q:Bool->Shared->Prop} (hu:A.units < cLine) (ho:s.heap.get? a=some o) (hd:o.data=.set es ep t) (D:SetD prog w (dq w) zs es t) (ho2:s.heap.get? b=some o2) (hd2:o2.data=.set es2 ep2 t2) (D2:SetD prog w (dq w) zs2 es2 t2)
  (his:∀z∈zs,IsTupleKey (aJ prog w) s.heap z.1 z.2) (his2:∀z∈zs2,IsTupleKey (aJ prog w) s.heap z.1 z.2) (hs:es.size=es2.size) (hin:∀z∈zs,z.1∈zs2.map (·.1))
  (hQ:∀d,Q true { s with drawn:=d }):wpAny (model prog w) A (Builtin.Frozenset.subsetOf id a b) Q E s:=by
 unfold Builtin.Frozenset.subsetOf
 refine zB0 (m:=Builtin.Frozenset.sizeOf a) (zB0 (wpAny_setEntries_of ho hd D.fits (zP0 ?_)))
 refine zB0 (m:=Builtin.Frozenset.sizeOf b) (zB0 (wpAny_setEntries_of ho2 hd2 D2.fits (zP0 ?_)))
 rw [if_neg ‹1›]
 refine zB0 (wpAny_setEpoch_of ho hd D.fits ?_)
 refine zB0 (zJ ho hd D ho2 hd2 D2 his his2 λys d hp=>?_)
 have all:∀e∈ys,∃z∈zs,e=iG prog w z:=λe he=>by
  obtain⟨z,hz,rfl⟩:=List.mem_map.mp (D.pm.mem_iff.mp (hp.mem_iff.mp he))
  exact⟨z,hz,rfl⟩
 refine zB0 (wpAny_forIn_list _ (λrest r s'=>r.1=none/\s'={ s with drawn:=d }/\∀e∈rest,∃z∈zs,e=iG prog w z) _ ?_ ?_ _ _ ⟨rfl,rfl,all⟩)
 ·rintro e rest r s' ⟨hr,rfl,hall⟩
  obtain⟨z,hz,rfl⟩:=hall e List.mem_cons_self
  refine zB0 (wpAny_holding (C5 (k:=z.1) hu ho2 hd2 D2 (his z hz) his2 (hin z hz) (λi=>?_) rfl))
  simp only [Option.isNone_some,Bool.false_eq_true,if_false]
  unfold Builtin.Frozenset.unchanged
  refine zB0 (zB0 (wpAny_setEpoch_of ho hd D.fits ?_))
  simp only [bne_self_eq_false,Bool.false_eq_true,if_false]
  exact zP0 (zP0 ⟨rfl,rfl,λe he=>hall e (List.mem_cons_of_mem _ he)⟩)
 ·rintro⟨r1,r2⟩ s' ⟨hr,rfl,_⟩
  simp only at hr
  subst hr
  exact zP0 (hQ d)
theorem entry_set_ne:entryFor table "set.__ne__" = some Builtin.«frozenset.__ne__»:=entryFor_alias (id':="frozenset.__ne__") (by kernel_rfl) ‹0› ‹0› (by kernel_rfl)
theorem AT {a b:Addr}{zs zs2:List KZ}{Q:Value->Shared->Prop} (hu:A.units+8 < cLine) (S:eB prog w a (dq w) zs s.heap) (S2:eB prog w b (dq w) zs2 s.heap)
  (his:∀z∈zs,IsTupleKey (aJ prog w) s.heap z.1 z.2) (his2:∀z∈zs2,IsTupleKey (aJ prog w) s.heap z.1 z.2) (hs:zs.length=zs2.length) (hin:∀z∈zs,z.1∈zs2.map (·.1))
  (hQ:∀d,Q (.bool false) { s with drawn:=d }):wpAny (model prog w) A (compareOp .NotEq (.ref a) (.ref b)) Q E s:=by
 obtain⟨o,es,ep,t,ho,hx,hd,D⟩:=S
 obtain⟨o2,es2,ep2,t2,ho2,hx2,hd2,D2⟩:=S2
 have hT:s.TypeIs (.ref a) "set":=⟨o,ho,hx.1⟩
 have hT2:s.TypeIs (.ref b) "set":=⟨o2,ho2,hx2.1⟩
 have hz:es.size=es2.size:=by
  have h1:=D.pm.length_eq
  have h2:=D2.pm.length_eq
  rw [List.length_map,Array.length_toList]at h1 h2
  omega
 show wpAny _ _ (richCompare .NotEq (.ref a) (.ref b)) _ _ _
 refine wpAny_richCompare_same_room hT hT2 PySem.F.slot_set_ne (wpAny_call_entry PySem.F.slot_set_ne hT entry_set_ne ?_ (PySem.F.args_set_ne_2 _ _)) ‹1›
 unfold Builtin.«frozenset.__ne__»
 k_delta "compare"
 dsimp only
 refine zB0 (m:=Builtin.Frozenset.slot1 "__ne__" _) (zB0 (zP0 (zP0 ?_)))
 dsimp only
 refine zB0 (m:=Builtin.Frozenset.isAnySet (.ref b)) (zB0 (wpAny_isInstance (T:="set") (b:=true) hT2 (by rw [isSubtype_type];kernel_rfl) (zP0 ?_)))
 rw [if_neg (by decide)]
 refine zB0 (m:=Builtin.Frozenset.addrOf (.ref a)) (zP0 ?_)
 refine zB0 (m:=Builtin.Frozenset.addrOf (.ref b)) (zP0 ?_)
 refine zB0 (m:=Builtin.Frozenset.sizeOf a) (zB0 (wpAny_setEntries_of ho hd D.fits (zP0 ?_)))
 refine zB0 (m:=Builtin.Frozenset.sizeOf b) (zB0 (wpAny_setEntries_of ho2 hd2 D2.fits (zP0 ?_)))
 rw [if_neg (by rw [hz];simp)]
 refine zB0 (zB0 (zB0 (wpAny_isInstance (T:="set") (b:=false) hT (by rw [isSubtype_type];kernel_rfl) (zP0 ?_))))
 rw [if_neg Bool.false_ne_true]
 refine Cq (A:=A.in1) (by show A.units+1 < cLine;omega) ho hd D ho2 hd2 D2 his his2 hz hin λd=>?_
 exact zP0 ⟨_,rfl,(λz=>nomatch z),hQ d⟩
end
end L2
namespace L2
open PySem PySem.Spec PyProof.Rows PySem.W
inductive rNeSetT (P:Program) (w:World) (x y:V) (H:Hp) (Q:VK):Prop
 | mk (a b:Addr) (zs ys:List KZ) (h1:x=.ref a) (h2:y=.ref b) (h3:H a=some (.ext (eB P w a (dq w) zs))) (h4:H b=some (.ext (eB P w b (dq w) ys))) (h5:∀z∈zs,H z.2=some (.tup (z.1.map kV))) (h6:∀z∈ys,H z.2=some (.tup (z.1.map kV))) (h7:zs.length=ys.length) (h8:∀z∈zs,z.1∈ys.map (·.1)) (h9:Q (.bl false) H):rNeSetT P w x y H Q
theorem sw {X:Cx} (hu:X.A.units+64 < cLine):OpR X (compareOp .NotEq) (rNeSetT X.prog X.w):=by
 intro pins s σ H x y v u Q I r1 r2 h
 obtain⟨a,b,zs,ys,rfl,rfl,h3,h4,h5,h6,h7,h8,q⟩:=h
 cases (show v=Value.ref a from r1)
 cases (show u=Value.ref b from r2)
 have S:=(show bC X.prog X.w H s.heap a _ from I.hok a _ h3).1
 have S2:=(show bC X.prog X.w H s.heap b _ from I.hok b _ h4).1
 exact AT ‹1› S S2 (λz hz=>gL I.hok (h5 z hz)) (λz hz=>gL I.hok (h6 z hz)) h7 h8 λd=>⟨.bl false,H,I.draw d,rfl,q⟩
end L2
namespace L2
open PySem PySem.Spec PyProof.Rows
inductive rNilL (neg:Bool) (x:V) (y:V) (H:Hp) (Q:VK):Prop
 | mk (a b xs) (h1:x=.ref a) (h2:y=.ref b) (h3:H a=some (.lst xs)) (h4:H b=some (.lst [])) (h6:Q (.bl (if neg=true then !xs.isEmpty else xs.isEmpty)) H):rNilL neg x y H Q
section
variable {X:Cx}
theorem sy (hu:X.A.units+64 < cLine):OpR X (compareOp .Eq) (rNilL false):=by
 intro pins s σ H x y v u Q I r1 r2 h
 obtain⟨a,b,xs,rfl,rfl,ea,eb,q⟩:=h
 cases r1;cases r2
 obtain⟨us,v1,o1⟩:=zC I ea
 obtain⟨vs,v2,o2⟩:=zC I eb
 cases v2
 cases xs with
 | nil=>
  cases v1
  refine SeqAt.eq_listAt (e:=λ_=>true) o1 o2 rfl ‹1› (λj h1 h2=>absurd h1 (Nat.not_lt_zero _)) ?_
  rw [jZ]
  exact⟨.bl true,H,I,rfl,q⟩
 | cons x r=>
  refine SeqAt.eq_list_lengthsAt o1 o2 ?_ ‹1› ⟨.bl false,H,I,rfl,q⟩
  rw [List.size_toArray,List.size_toArray,<- Paired.length v1]
  rfl
end
end L2
namespace Mine
open PySem L2
variable {P:Program}{w:World}{K:W.Frag}{mg:Str->Option Value}{base:Heap}
inductive VE (R:RdT) (c:Cs):Addr->Sp->Prop
 | mk (n:Nat) (hn:n<=3) (nd0:Nd):VE R c (ndC c nd0) (spN R c n (ndK nd0))
theorem mU {P:Program}{w:World}{K:W.Frag}{mg:Str->Option Value}{base:Heap}{R:RdT}{c:Cs}{m:Str}{k:Nat} (h:∀n C sp,VN R c n C sp->MV P w K mg base CX0 m (n+k) ["self", "told"] sp C):∀C sp,VE R c C sp->MV P w K mg base CX0 m (3+k) ["self", "told"] sp C:=by
 rintro _ _ ⟨n,hn,nd⟩
 obtain⟨c1,f,fd,m1,F,b⟩:=h n _ _ (.mk nd)
 exact⟨c1,f,fd,m1,FnOk.mono F ‹1›,b⟩
structure Got (T la:Addr) (H H':Hp):Prop where
 same:∀b o,H b=some o->(∀ps,o≠.tbl ps)->b≠la->H' b=some o
 lam:Lm T H'
 any:∀b o,b≠T->H b=some o->b≠la->H' b=some o
theorem Kq.got {c:Cs}{T la:Addr}{H H':Hp} (g:Got T la H H'):Kq c (bar la H) H':=⟨λb C dx fs e _=>g.same _ _ (cb e).2 (λ_ z=>nomatch z) (cb e).1,λb xs e _=>g.same _ _ (cb e).2 (λ_ z=>nomatch z) (cb e).1⟩
theorem jY {T la tb f x:Addr}{c:Cs}{n:Nat}{nd:Nd}{kvs:List (List Key × V)}{H H1 H2:Hp}{Q:VK}{E:XK}{R:RdT} (L:Lm T H1) (hx:bc c n nd H x) (nl:H la=none) (e1:H1=upd H la (.lst [])) (ok:cI n nd) (hn:n<=3) (tv:iI kvs) (etb:H tb=some (.dT kvs)) (G:Gm T H1 H2) (t:Tld H2 f la tb)
  (q:∀(rs':List RZ) (H':Hp),Got T la H H'->bc c n nd H' x->H' tb=some (.dT kvs)->Askd H' la rs'->prs rs'=R (tel kvs) n nd->Q (bO (tel kvs) n nd) H'):spN R c n (ndK nd) [.ref x,.ref f] H2 Q E:=by
 subst e1
 obtain⟨g,e⟩:=laid (o:=.lst []) nl
 have k2:∀b o,upd H la (.lst []) b=some o->(∀ps,o≠.tbl ps)->H2 b=some o:=λb o e n=>G.at L e n
 have el2:=k2 _ _ e (λ_ z=>nomatch z)
 have hx2:bc c n nd (bar la H2) x:=bc.keep (H:=H) ⟨λb C dx fs eb _=>qt (ao eb nl) (k2 _ _ (g _ _ eb) (λ_ z=>nomatch z)),λb xs eb _=>qt (ao eb nl) (k2 _ _ (g _ _ eb) (λ_ z=>nomatch z))⟩ hx
 have h4:4 ^ n<=4 ^ 3:=Nat.pow_le_pow_right (by decide) hn
 refine⟨x,f,nd,rfl,rfl,la,tb,kvs,[],hx2,ok,⟨t,k2 _ _ (g _ _ etb) (λ_ z=>nomatch z),⟨el2,λr hr=>by cases hr⟩⟩,tv.ok,?_,λrs' H' o a p=>?_⟩
 ·show 0+3200 * 4 ^ n < 900000
  omega
 ·refine q rs' H' ⟨λb o' eb n nb=>o _ _ (k2 _ _ (g _ _ eb) n) nb,Lm.of G.lam o el2,λb o' n eb nb=>o _ _ (G.same b o' n (g _ _ eb)) nb⟩ (bc.keep (Kq.grow (aZ.trans (mP o) gM)) hx2) (o _ _ (k2 _ _ (g _ _ etb) (λ_ z=>nomatch z)) (ao etb nl)) a p
theorem Got.go {T la:Addr}{H0 H H':Hp} (G:Gm T H0 H) (n:H0 la=none) (g:Got T la H H'):Gm T H0 H':=⟨λb o nb e=>g.any _ _ nb (G.same b o nb e) (ao e n),g.lam⟩
theorem SAt.got {T la s:Addr}{H H':Hp} (h:SAt H s) (nl:H la=none) (g:Got T la H H'):SAt H' s:=let ⟨a,c,k,e,z⟩:=h;⟨a,c,k,g.same _ _ e (λ_ z=>nomatch z) (ao e nl),z⟩
theorem Askd.got {T l2 la:Addr}{H H':Hp}{rs:List RZ} (h:Askd H la rs) (nl:H l2=none) (g:Got T l2 H H'):Askd H' la rs:=by
 obtain⟨h1,h2⟩:=h
 exact⟨g.same _ _ h1 (λ_ z=>nomatch z) (ao h1 nl),λr hr=>g.same _ _ (h2 r hr) (λ_ z=>nomatch z) (ao (h2 r hr) nl)⟩
inductive Bd (T:Addr) (H0:Hp) (c:Cs) (n:Nat) (nd:Nd) (x s tb la:Addr) (kvs:List (List Key × V)) (rs:List RZ) (H:Hp):Prop
 | mk (g:Gm T H0 H) (hs:SAt H s) (hx:bc c n nd H x) (etb:H tb=some (.dT kvs)) (ha:Askd H la rs):Bd T H0 c n nd x s tb la kvs rs H
theorem Gm.gr {T:Addr}{H0 H H':Hp} (G:Gm T H0 H) (g:aZ H H'):Gm T H0 H':=⟨λb o n e=>g _ _ (G.same b o n e),Lm.gr G.lam g⟩
theorem Bd.gr {T:Addr}{H0:Hp}{c:Cs}{n:Nat}{nd:Nd}{x s tb la:Addr}{kvs:List (List Key × V)}{rs:List RZ}{H H':Hp} (h:Bd T H0 c n nd x s tb la kvs rs H) (g:aZ H H'):Bd T H0 c n nd x s tb la kvs rs H':=by
 obtain⟨h1,h2,h3,h4,h5⟩:=h
 exact⟨Gm.gr h1 g,h2.keep g,bc.keep (Kq.grow g) h3,g _ _ h4,h5.grow g⟩
theorem Bd.got {T:Addr}{H0:Hp}{c:Cs}{n:Nat}{nd:Nd}{x s tb la l2:Addr}{kvs:List (List Key × V)}{rs:List RZ}{H H':Hp} (h:Bd T H0 c n nd x s tb la kvs rs H) (nl:H l2=none) (g:Got T l2 H H') (hx:bc c n nd H' x) (et:H' tb=some (.dT kvs)) (n0:H0 l2=none):Bd T H0 c n nd x s tb la kvs rs H':=by
 obtain⟨h1,h2,h3,h4,h5⟩:=h
 exact⟨Got.go h1 n0 g,h2.got nl g,hx,et,h5.got nl g⟩
theorem Gm.free {T a s:Addr}{H0 H:Hp} (G:Gm T H0 H) (L:Lm T H0) (h:H a=none):H0 a=none:=by
 cases e:H0 a with
 | none=>rfl
 | some o=>
  by_cases z:a=T
  ·rw [z]at h
   rcases G.lam with e1 | ⟨_,e1,_⟩
   ·rw [h]at e1;cases e1
   ·rw [h]at e1;cases e1
  ·rw [G.same a o z e]at h;cases h
theorem Off.gm {T s:Addr}{H0 H H':Hp} (G:Gm T H0 H) (n:H0 s=none) (o:Off s H H') (hs:SAt H s):Gm T H0 H':=⟨λb u nb e=>o _ _ (G.same b u nb e) (ao e n),by obtain⟨xs,e⟩:=hs.lst;exact Lm.of G.lam o e⟩
theorem Kq.off {c:Cs}{s:Addr}{H H':Hp} (hs:SAt H s) (o:Off s H H'):Kq c H H':=by
 obtain⟨x1,x2,x3,e,_⟩:=hs
 refine⟨λb C dx fs eb _=>o _ _ eb (λz=>by rw [z,e]at eb;cases eb),λb xs eb hv=>o _ _ eb λz=>?_⟩
 rw [z,e]at eb
 have eb:=HO.lst.inj (Option.some.inj eb)
 rcases hv (.int x1) (by rw [<- eb];exact List.mem_cons_self) with h | ⟨_,h⟩ | ⟨_,h⟩ <;> cases h
theorem Askd.offs {la s:Addr}{H H':Hp}{rs:List RZ} (h:Askd H la rs) (hs:SAt H s) (o:Off s H H'):Askd H' la rs:=by
 obtain⟨h1,h2⟩:=h
 obtain⟨x1,x2,x3,e,_⟩:=hs
 refine⟨o _ _ h1 λz=>?_,λr hr=>o _ _ (h2 r hr) λz=>by have:=h2 r hr;rw [z,e]at this;cases this⟩
 rw [z,e]at h1
 have e9:=HO.lst.inj (Option.some.inj h1)
 cases rs with
 | nil=>cases e9
 | cons r rs=>cases e9
theorem da:FnScope ["_law_cell_here", "_law_state", "_law_names_here", "_law_window_here", "_law_table_here", "_law_deep", "_law_node", "_law_question_here", "_law_asked", "_law_answer", "_law_second_here", "_law_again", "_law_other"] ["_law_cell_here"] (aq uQ):=‹2›
theorem yi {f f1 f2 f3 f4 f5 f6 f7 f8 f9 f10 T:Addr}{fd:FuncData} (F:Fun K "_law_good" "_law_good" uQ f fd) (N:Free mg){c:Cs} (VP:∀n C sp,VN prR c n C sp->MV P w K mg base CX0 "plain" (n+4) ["self", "told"] sp C) (VR:∀n C sp,VN bS c n C sp->MV P w K mg base CX0 "read" (n+5) ["self", "told"] sp C){fd1:FuncData} (CDr:Cal P w K mg base "_law_drawn" 5 ["_law_cell_here"] qG f1 fd1){fd2:FuncData} (CF:Cal P w K mg base "_law_fitting" 5 ["_law_node"] za f2 fd2){fd3:FuncData} (CL:Cal P w K mg base "_law_question" 8 ["_law_state", "_law_names_here", "_law_window_here", "_law_deep"] yZ f3 fd3){fd4:FuncData} (CW:Cal P w K mg base "_law_words" 4 ["_law_node"] u5 f4 fd4){fd5:FuncData} (CQ:Cal P w K mg base "question_of" 13 ["text"] (yX c) f5 fd5){fd6:FuncData} (CS:Cal P w K mg base "_law_second" 3 ["_law_state", "_law_names_here", "_law_window_here", "_law_table_here", "_law_asked"] n8 f6 fd6){fd7:FuncData} (CK:Cal P w K mg base "_law_like" 1 ["_law_found", "_law_due"] u8 f7 fd7){fd8:FuncData} (CT:Cal P w K mg base "_law_telling" 2 ["_law_table_here", "_law_asked"] (kK T) f8 fd8){fd9:FuncData} (CP:Cal P w K mg base "_law_pull" 2 ["_law_state", "_law_many"] cZ f9 fd9){fd10:FuncData} (CA:Cal P w K mg base "_law_amount" 3 ["_law_state"] gS f10 fd10):FnOk P w K mg base CX0 14 f fd ["_law_cell_here"] (ug T):=by
 refine F.ok (k:=13) da (λvs H Q E h=>?_) (λcdv A outer s H vs Q E hr h=>?_)
 ·obtain⟨cc,rfl,_⟩:=h
  rfl
 ·obtain⟨cc,rfl,L,q⟩:=h
  have hu:=aK hr
  refine⟨_,(ae (jz (av CDr.ok (hr.mono (by decide)) rfl CDr.nm CDr.kp CDr.bd .nil au (aa (pv 0) ac)) (pU rfl (cL (bi (i:=1) da.nd rfl (Or.inl rfl)) (cL (bi (i:=2) da.nd rfl (Or.inl rfl)) (cL (bi (i:=3) da.nd rfl (Or.inl rfl)) (cL (bi (i:=4) da.nd rfl (Or.inl rfl)) (cL (bi (i:=5) da.nd rfl (Or.inl rfl)) ms)))))))
   (ae (ay (i:=6) da.nd rfl (Or.inl rfl) (av CF.ok (hr.mono (by decide)) rfl CF.nm CF.kp CF.bd .nil au (aa (av CL.ok (hr.mono (by decide)) rfl CL.nm CL.kp CL.bd .nil au (aa (pv 1) (aa (pv 2) (aa (pv 3) (aa (pv 5) ac))))) ac)))
   (ae (ay (i:=7) da.nd rfl (Or.inl rfl) (av CQ.ok (hr.mono (by decide)) rfl CQ.nm CQ.kp CQ.bd .nil au (aa (cM PySem.F.plainAttrs_str PySem.F.slot_str_join PySem.F.type_str_join gq aD (aa (av CW.ok (hr.mono (by decide)) rfl CW.nm CW.kp CW.bd .nil au (aa (pv 6) ac)) ac)) ac)))
   (ae (ay (i:=8) da.nd rfl (Or.inl rfl) (aR ac))
   (ae (ay (i:=9) da.nd rfl (Or.inl rfl) (bH (mU VR) (pv 7) (hr.mono (by decide)) au (aa (av CT.ok (hr.mono (by decide)) rfl CT.nm CT.kp CT.bd .nil au (aa (pv 4) (aa (pv 8) ac))) ac)))
   (ae (ay (i:=10) da.nd rfl (Or.inl rfl) (av CS.ok (hr.mono (by decide)) rfl CS.nm CS.kp CS.bd .nil au (aa (pv 1) (aa (pv 2) (aa (pv 3) (aa (pv 4) (aa (pv 8) ac)))))))
   (ae (ay (i:=11) da.nd rfl (Or.inl rfl) (aR ac))
   (ae (ba (PW.pt (nF (eR (dl (av CK.ok (hr.mono (by decide)) rfl CK.nm CK.kp CK.bd .nil au (aa (bH (mU VR) (pv 7) (hr.mono (by decide)) au (aa (av CT.ok (hr.mono (by decide)) rfl CT.nm CT.kp CT.bd .nil au (aa (pv 10) (aa (pv 11) ac))) ac)) (aa (pv 9) ac))))) (jy (aI (sw hr.units) (aX (lm rfl (Nat.lt_of_le_of_lt (Nat.add_le_add_left (show 8<=64 by decide) _) hr.units)) (by rfl) N.set PyProof.Rows.Boot.«set» (aa (pv 11) ac)) (aX (lm rfl (Nat.lt_of_le_of_lt (Nat.add_le_add_left (show 8<=64 by decide) _) hr.units)) (by rfl) N.set PyProof.Rows.Boot.«set» (aa (pv 8) ac)) (aP _))))) (ah (ax jC)) aF)
   (ae (ba (eR (dl (av CK.ok (hr.mono (by decide)) rfl CK.nm CK.kp CK.bd .nil au (aa (bH (mU VP) (pv 7) (hr.mono (by decide)) au (aa (av CT.ok (hr.mono (by decide)) rfl CT.nm CT.kp CT.bd .nil au (aa (pv 10) (aa (aR ac) ac))) ac)) (aa (pv 9) ac))))) (ah (ax jC)) aF)
   (ae (ba (aI (sy hr.units) (pv 8) (aR ac) (aP _)) (ah (ax jC)) aF)
   (ae (hG hu (pv 10) (aU aO (pv 8) (av CP.ok (hr.mono (by decide)) rfl CP.nm CP.kp CP.bd .nil au (aa (pv 1) (aa (aG aN (by rfl) N.len PySem.boot_len (aa (pv 8) ac)) ac))) (λ_ _=>rfl)) (av CA.ok (hr.mono (by decide)) rfl CA.nm CA.kp CA.bd .nil au (aa (pv 1) ac)) rfl)
   (ae (ay (i:=12) da.nd rfl (Or.inl rfl) (bH (mU VR) (pv 7) (hr.mono (by decide)) au (aa (av CT.ok (hr.mono (by decide)) rfl CT.nm CT.kp CT.bd .nil au (aa (pv 10) (aa (aR ac) ac))) ac)))
   (ah (ax (av CK.ok (hr.mono (by decide)) rfl CK.nm CK.kp CK.bd .nil au (aa (bH (mU VP) (pv 7) (hr.mono (by decide)) au (aa (av CT.ok (hr.mono (by decide)) rfl CT.nm CT.kp CT.bd .nil au (aa (pv 10) (aa (aR ac) ac))) ac)) (aa (pv 12) ac))))))))))))))))),?_⟩
  have L0:Lm T H:=L
  refine af (aw ⟨_,rfl,cc,rfl,⟨λu s ln t tb ss lo wd dp kvs H1 ns g1 eu hdp hs1 eln hss huni nls et h0 h1 h2 etb tv=>?_⟩⟩)
  refine⟨u,_,rfl,SqT.of eu,rfl,_,_,rfl,_,_,rfl,_,_,rfl,_,_,rfl,_,_,rfl,rfl,?_⟩
  walk_at "d"
  refine BI (σ':=[some (.int cc),some (.ref s),some (.ref ln),some (.ref t),some (.ref tb),some (.int (dp:Int)),none,none,none,none,none,none,none]) rfl ?_
  have nts:t≠s:=hs1.ne et
  have ntbs:tb≠s:=λz=>by obtain⟨xs,e⟩:=hs1.lst;rw [z,e]at etb;cases etb
  refine af (aw ⟨_,rfl,_,rfl,_,rfl,_,rfl,dp,hdp,s,ln,t,rfl,ss,lo,wd,hdp,hs1,eln,hss,nls,et,nts,h0,h1,h2,λa nd1 H2 okn hin na o2 hs2 hnd=>⟨dp,nd1,a,rfl,okn,hdp,qw ss lo wd,hin,dt.keep tu hnd,λm nd a2 H3 hm okn hin hnd g3=>?_⟩⟩)
  walk_at "d"
  have hws:=fL okn
  have hwl:=Nat.le_trans (cX okn) (oK hm)
  refine af (aw ⟨rfl,_,rfl,m,hm,a2,nd,rfl,okn,hm,hnd,λp H4 np g4 ep=>?_⟩)
  refine⟨_,p,_,rfl,rfl,ep,j8 (λw hw=>Nat.le_trans (hws w hw).len (by decide)) ‹1›,m,nd,rfl,okn,hm,λx H5 nx g5 qn=>?_⟩
  walk_at "d"
  have g35:=(g3.trans g4).trans g5
  have G5:Gm T H H5:=Gm.gr (Off.gm ⟨λb o n e=>g1 _ _ e,Lm.gr L g1⟩ ns o2 hs1) g35
  have hs5:=hs2.keep g35
  have el5:=g35 _ _ (o2 _ _ eln nls)
  have et5:=g35 _ _ (o2 _ _ et nts)
  have etb5:=g35 _ _ (o2 _ _ etb ntbs)
  have hx5:bc c m nd H5 x:=bc.keep (Kq.grow tu) qn
  clear g1 eu hs1 eln et etb o2 hs2 hnd g3 g4 ep g5 qn g35 np nx na
  refine af (aw ⟨by show 0<=sizeLine;decide,λla nla=>?_⟩)
  walk_at "d"
  have nla0:=Gm.free (s:=s) G5 L0 nla
  have g6:=(laid (o:=.lst []) nla).1
  have hx6:=bc.keep (Kq.grow g6) hx5
  have L6:=Lm.gr G5.lam g6
  generalize e6:upd H5 la (.lst [])=H6 at g6 hx6 L6 ⊢
  obtain⟨dx,fs,ho,lk⟩:=i7 (m:="read") hx6 ‹0›
  refine af (aw ⟨_,rfl,x,ndC c nd,dx,fs,_,rfl,ho,.mk m hm nd,lk,_,rfl,_,rfl,tb,la,rfl,L6,λf H7 nf G7 T7=>jY (E:=E0) L6 hx5 nla e6.symm okn hm tv etb5 G7 T7 λrs H8 g8 hx8 etb8 ha8 p8=>?_⟩)
  walk_at "d"
  have hrl:rs.length < 900000:=by
   have z1:=eQ (T:=tel kvs) okn
   have z2:=kP rs
   rw [p8]at z2
   have z3:4 ^ m<=4 ^ 3:=Nat.pow_le_pow_right (by decide) hm
   omega
  have hs8:=hs5.got nla g8
  have G8:=Got.go G5 nla0 g8
  have nls8:ln≠s:=nls
  refine af (aw ⟨_,rfl,_,rfl,_,rfl,_,rfl,_,rfl,s,ln,t,tb,la,rfl,⟨ss,lo,wd,kvs,rs,hs8,g8.same _ _ el5 (λ_ z=>nomatch z) (ao el5 nla),(by rcases hss.1 with z | z <;> omega),nls,g8.same _ _ et5 (λ_ z=>nomatch z) (ao et5 nla),h0,h1,h2,etb8,tv,ha8,hrl,λtb2 kv2 H9 ntb2 o9 hs9 et9 tv2 hl2 ag=>?_⟩⟩)
  walk_at "d"
  have ntb20:H tb2=none:=Gm.free (s:=s) G8 L0 ntb2
  have B9:Bd T H c m nd x s tb2 la kv2 rs H9:=⟨Off.gm G8 ns o9 hs8,hs9,bc.keep (Kq.off hs8 o9) hx8,et9,ha8.offs hs8 o9⟩
  have inu:∀p∈prs rs,p∈lE ss lo wd:=λp hp=>qX hin okn p (by rw [<- p8];exact hp)
  have agr:=rJ (T:=tel kvs) (T2:=tel kv2) (zz okn) λp hp=>by
   rw [<- p8]at hp
   obtain⟨k,hk,hd⟩:=List.mem_flatMap.mp (inu p hp)
   obtain⟨z1,z2,z3⟩:=fw.mp hd
   exact ag p.1 p.2 ⟨by rw [z1];exact hk,z2,by omega⟩ hp
  clear ag et9 hs9 o9 G8 hs8 ha8 etb8 hx8 g8 G5 hs5 el5 et5 etb5 hx5 nls8
  refine af (aw ⟨by show 0<=sizeLine;decide,λl2 nl2=>?_⟩)
  walk_at "d"
  have nl20:=(let ⟨g,_,_,_,_⟩:=B9;Gm.free (s:=s) g L0 nl2)
  have g10:=(laid (o:=.lst []) nl2).1
  obtain⟨_,_,hx10,_,_⟩:=B9.gr g10
  have L10:=(let ⟨g,_,_,_,_⟩:=B9;Lm.gr g.lam g10)
  generalize e10:upd H9 l2 (.lst [])=H10 at g10 hx10 L10 ⊢
  obtain⟨dx,fs,ho,lk⟩:=i7 (m:="read") hx10 ‹0›
  have hx9:bc c m nd H9 x:=let ⟨_,_,h,_,_⟩:=B9;h
  have et9:H9 tb2=some (.dT kv2):=let ⟨_,_,_,h,_⟩:=B9;h
  refine af (aE ⟨_,rfl,x,ndC c nd,dx,fs,_,rfl,ho,.mk m hm nd,lk,_,rfl,_,rfl,tb2,l2,rfl,L10,λf H11 nf G11 T11=>jY (E:=E0) L10 hx9 nl2 e10.symm okn hm tv2 et9 G11 T11 λrs2 H12 g12 hx12 et12 ha12 p12=>?_⟩)
  have B12:=B9.got nl2 g12 hx12 et12 nl20
  rw [agr.1]
  refine⟨_,rfl,_,_,rfl,bJ tv.ok,bJ tv.ok,?_⟩
  rw [decide_eq_true rfl]
  have esm:prs rs2=prs rs:=by rw [p12,p8,agr.2]
  refine⟨_,rfl,aS ?_⟩
  obtain⟨al2,at2⟩:=id ha12
  have few2:tm (rs2.map cO):=wC (qy huni) λp hp=>inu p (by rw [<- esm];exact hp)
  have few1:tm (rs.map cO):=wC (qy huni) inu
  refine⟨_,rfl,l2,rs2.map cO,rfl,(by rw [List.map_map];exact al2),(λz hz=>by obtain⟨r,hr,rfl⟩:=List.mem_map.mp hz;exact at2 r hr),few2,λsp nsp=>?_⟩
  rw [oA]
  obtain⟨g13,e13⟩:=laid (o:=.ext (eB P w sp (dq w) ((ddR rs2).map cO))) nsp
  have B13:=B12.gr g13
  have at13:∀r∈rs2,upd H12 sp (.ext (eB P w sp (dq w) ((ddR rs2).map cO))) r.2=some (.tup (BG r)):=λr hr=>g13 _ _ (at2 r hr)
  change tCB _ _ _ (upd H12 sp (.ext (eB P w sp (dq w) ((ddR rs2).map cO)))) _
  generalize upd H12 sp _=H13 at g13 e13 B13 at13 ⊢
  obtain⟨al1,at1⟩:Askd H13 la rs:=let ⟨_,_,_,_,h⟩:=B13;h
  refine⟨_,rfl,la,rs.map cO,rfl,(by rw [List.map_map];exact al1),(λz hz=>by obtain⟨r,hr,rfl⟩:=List.mem_map.mp hz;exact at1 r hr),few1,λsp2 nsp2=>?_⟩
  rw [oA]
  obtain⟨g14,e14⟩:=laid (o:=.ext (eB P w sp2 (dq w) ((ddR rs).map cO))) nsp2
  have B14:=B13.gr g14
  obtain⟨ds1,ds2⟩:=yB esm
  have d2:=fZ _ rs2 rfl
  have d1:=fZ _ rs rfl
  change rNeSetT _ _ _ _ (upd H13 sp2 (.ext (eB P w sp2 (dq w) ((ddR rs).map cO)))) _
  generalize upd H13 sp2 _=H14 at g14 e14 B14 ⊢
  refine⟨sp,sp2,_,_,rfl,rfl,g14 _ _ e13,e14,(λz hz=>by obtain⟨r,hr,rfl⟩:=List.mem_map.mp hz;exact g14 _ _ (at13 r (d2.sub r hr))),(λz hz=>by obtain⟨r,hr,rfl⟩:=List.mem_map.mp hz;exact g14 _ _ (at1 r (d1.sub r hr))),ds1,ds2,?_⟩
  refine⟨_,rfl,aS (aB ?_)⟩
  dsimp only
  clear g13 e13 at13 g14 e14 d1 d2 ds1 ds2 al1 at1 al2 at2 few1 few2 B13 B12 B9 ha12 et12 hx12 g12 g10 hx10 L10 hx9 et9 ho lk e10
  obtain⟨gG16,_,hx16,et16,_⟩:=id B14
  obtain⟨dx16,fs16,ho16,lk16⟩:=i7 (m:="plain") hx16 ‹0›
  refine af (aE ⟨_,rfl,x,ndC c nd,dx16,fs16,_,rfl,ho16,.mk m hm nd,lk16,_,rfl,by show 0<=sizeLine;decide,λl16 nl16=>?_⟩)
  have nl016:=Gm.free (s:=s) gG16 L0 nl16
  have LL16:=Lm.gr gG16.lam (laid (o:=.lst []) nl16).1
  refine⟨tb2,l16,rfl,LL16,λf16 HH16 nf16 G16 T16=>jY (E:=E0) LL16 hx16 nl16 rfl okn hm tv2 et16 G16 T16 λrs16 H17 g16 hy16 ey16 ha16 p16=>?_⟩
  have B17:=B14.got nl16 g16 hy16 ey16 nl016
  rw [agr.1]
  refine⟨_,rfl,_,_,rfl,bJ tv.ok,bJ tv.ok,?_⟩
  rw [decide_eq_true rfl]
  refine⟨_,rfl,aS (aB ?_)⟩
  dsimp only
  refine af (aE ⟨_,rfl,by show 0<=sizeLine;decide,λl5 nl5=>?_⟩)
  obtain⟨g18,e18⟩:=laid (o:=.lst []) nl5
  have B18:=B17.gr g18
  change rNilL _ _ _ (upd H17 l5 (.lst [])) _
  generalize upd H17 l5 (.lst [])=H18 at g18 e18 B18 ⊢
  obtain⟨G18,hs18,hx18,et18,⟨al,at1⟩⟩:=id B18
  refine⟨la,l5,_,rfl,rfl,al,e18,?_⟩
  cases hre:(rs.map λr=>V.ref r.2).isEmpty with
  | true=>
   refine⟨_,rfl,bb (aA ?_)⟩
   exact q H18 G18
  | false=>
   refine⟨_,rfl,aS (aB ?_)⟩
   dsimp only
   have hrn:0 < rs.length:=by
    cases rs with
    | nil=>cases hre
    | cons r rs=>exact Nat.succ_pos _
   refine af ⟨_,rfl,s,rfl,hs18,λam H19 o19 hs19 am0 am1=>?_⟩
   have a19:Askd H19 la rs:=Askd.offs ⟨al,at1⟩ hs18 o19
   obtain⟨al19,at19⟩:=id a19
   refine⟨_,rfl,_,rfl,_,rfl,_,rfl,la,_,rfl,.inl (SqL.of al19),s,_,rfl,hs19,by rw [List.length_map];omega,by rw [List.length_map];omega,λix H20 ix0 ix1 o20 hs20=>?_⟩
   rw [List.length_map]at ix1
   have a20:=a19.offs hs19 o20
   obtain⟨al20,at20⟩:=id a20
   obtain⟨j,rfl⟩:∃j:Nat,ix=(j:Int):=⟨ix.toNat,by omega⟩
   have hj:j < rs.length:=by omega
   have ntb2s:tb2≠s:=λz=>by obtain⟨xs,e⟩:=hs18.lst;rw [z,e]at et18;cases et18
   have et20:=o20 _ _ (o19 _ _ et18 ntb2s) ntb2s
   refine⟨la,_,_,.ref rs[j].2,rfl,rfl,SqL.of al20,dH (by rw [List.getElem?_map,List.getElem?_eq_getElem hj];rfl),tb2,_,rfl,.inr ⟨kv2,kz rs[j].1,rs[j].2,et20,rfl,at20 _ (List.getElem_mem hj),Nat.lt_of_le_of_lt (show _<=100000 by omega) (by decide),rfl⟩,?_⟩
   have tv3:=tv2.put (.inr ⟨am,rfl⟩:di (.int am)) (kz rs[j].1)
   have G20:=Off.gm (Off.gm G18 ns o19 hs18) ns o20 hs19
   have hx20:=bc.keep (Kq.off hs19 o20) (bc.keep (Kq.off hs18 o19) hx18)
   have B21:Bd T H c m nd x s tb2 la (eE kv2 (kz rs[j].1) (.int am)) rs (upd H20 tb2 (.dT (eE kv2 (kz rs[j].1) (.int am)))):=by
    have off:∀b o,H20 b=some o->b≠tb2->upd H20 tb2 (.dT (eE kv2 (kz rs[j].1) (.int am))) b=some o:=λb o e n=>by rw [ai n];exact e
    refine⟨⟨λb o n e=>off _ _ (G20.same b o n e) (ao e ntb20),?_⟩,hs20.off (b:=tb2) ntb2s off,bc.keep ⟨λb C dx fs e _=>off _ _ e (λz=>by rw [z,et20]at e;cases e),λb xs e _=>off _ _ e λz=>by rw [z,et20]at e;cases e⟩ hx20,ar,off _ _ al20 (λz=>by rw [z,et20]at al20;cases al20),λr hr=>off _ _ (at20 r hr) λz=>by have:=at20 r hr;rw [z,et20]at this;cases this⟩
    rcases G20.lam with e | ⟨c1,e1,e2⟩
    ·exact .inl (off _ _ e λz=>by rw [z,et20]at e;cases e)
    ·exact .inr ⟨c1,off _ _ e1 (λz=>by rw [z,et20]at e1;cases e1),off _ _ e2 (λz=>by rw [z,et20]at e2;cases e2)⟩
   generalize upd H20 tb2 _=H21 at B21 ⊢
   dsimp only
   clear a19 a20 al19 at19 al20 at20 o19 o20 hs19 hs20 et20 B18 B17 et18 hx18 hs18 G18 G20 hx20 g18 e18
   obtain⟨gG22,_,hx22,et22,_⟩:=id B21
   obtain⟨dx22,fs22,ho22,lk22⟩:=i7 (m:="read") hx22 ‹0›
   refine af (aw ⟨_,rfl,x,ndC c nd,dx22,fs22,_,rfl,ho22,.mk m hm nd,lk22,_,rfl,by show 0<=sizeLine;decide,λl22 nl22=>?_⟩)
   have nl022:=Gm.free (s:=s) gG22 L0 nl22
   have LL22:=Lm.gr gG22.lam (laid (o:=.lst []) nl22).1
   refine⟨tb2,l22,rfl,LL22,λf22 HH22 nf22 G22 T22=>jY (E:=E0) LL22 hx22 nl22 rfl okn hm tv3 et22 G22 T22 λrs22 H23 g22 hy22 ey22 ha22 p22=>?_⟩
   have B23:=B21.got nl22 g22 hy22 ey22 nl022
   walk_at "d"
   obtain⟨gG24,_,hx24,et24,_⟩:=id B23
   obtain⟨dx24,fs24,ho24,lk24⟩:=i7 (m:="plain") hx24 ‹0›
   refine aA ⟨_,rfl,x,ndC c nd,dx24,fs24,_,rfl,ho24,.mk m hm nd,lk24,_,rfl,by show 0<=sizeLine;decide,λl24 nl24=>?_⟩
   have nl024:=Gm.free (s:=s) gG24 L0 nl24
   have LL24:=Lm.gr gG24.lam (laid (o:=.lst []) nl24).1
   refine⟨tb2,l24,rfl,LL24,λf24 HH24 nf24 G24 T24=>jY (E:=E0) LL24 hx24 nl24 rfl okn hm tv3 et24 G24 T24 λrs24 H25 g24 hy24 ey24 ha24 p24=>?_⟩
   have B25:=B23.got nl24 g24 hy24 ey24 nl024
   refine⟨_,rfl,_,_,rfl,bJ tv3.ok,bJ tv3.ok,?_⟩
   rw [decide_eq_true rfl]
   exact q H25 (let ⟨g,_,_,_,_⟩:=B25;g)
noncomputable def qE (K:PySem.W.Frag) (T:Addr):Sp:=λvs H Q _=>∃(a:Addr) (ns:List Int),vs=[.ref a]/\Lm T H/\SqL K H a (ns.map V.int)/\ns.length<=63/\∀H',Q (.bl true) H'
theorem zV {K:W.Frag}{T a:Addr}{H H':Hp}{xs:List V} (h:SqL K H a xs) (L:Lm T H) (G:Gm T H H'):SqL K H' a xs:=by
 rcases h with(h | ⟨o,h⟩) | h
 ·exact .inl (.inl (G.at L h (λ_ z=>nomatch z)))
 ·exact .inl (.inr ⟨o,G.at L h (λ_ z=>nomatch z)⟩)
 ·exact .inr h
theorem zf:FnScope ["_law_script", "_law_k"] ["_law_script"] (aq rY):=‹2›
theorem AN {f f1 f2 T:Addr}{fd:FuncData} (F:Fun K "law" "law" rY f fd) (N:Free mg){fd1:FuncData} (CC:Cal P w K mg base "_law_cell" 1 ["_law_script", "_law_k"] (uh K) f1 fd1){fd2:FuncData} (CG:Cal P w K mg base "_law_good" 14 ["_law_cell_here"] (ug T) f2 fd2):FnOk P w K mg base CX0 15 f fd ["_law_script"] (qE K T):=by
 refine F.ok (k:=14) zf (λvs H Q E h=>?_) (λcdv A outer s H vs Q E hr h=>?_)
 ·obtain⟨sa,ns,rfl,_⟩:=h
  rfl
 ·obtain⟨sa,ns,rfl,L,hS,h63,q⟩:=h
  have hu:=aK hr
  refine⟨_,(ae (cA PassesOwn.never rfl (cC rfl N.range (aa (aG (sY rfl) (by rfl) N.max PyProof.Rows.Boot.«max» (aa aj (aa (aG (iH rfl) (by rfl) N.min PyProof.Rows.Boot.«min» (aa (aG aN (by rfl) N.len PySem.boot_len (aa (pv 0) ac)) (aa aj ac))) ac))) ac)) (bi (i:=1) zf.nd rfl (Or.inl rfl))
   (ah (ba (eR (dl (av CG.ok (hr.mono (by decide)) rfl CG.nm CG.kp CG.bd .nil au (aa (av CC.ok (hr.mono (by decide)) rfl CC.nm CC.kp CC.bd .nil au (aa (pv 0) (aa (pv 1) ac))) ac)))) (ah (ax jC)) aF)))
   (ah (ax jC))),?_⟩
  refine af ?_
  refine⟨_,rfl,sa,_,rfl,.inl hS,_,_,rfl,_,_,rfl,?_⟩
  rw [List.length_map]
  have hr1:∀x:Int,x<=8->(if x > 2 then x else 2)<=8:=λx h=>by split <;> omega
  have hr2:(if (8:Int) < (ns.length:Int) then 8 else (ns.length:Int))<=8:=by split <;> omega
  have hr3:=hr1 _ hr2
  have hr4:2<=(if (if (8:Int) < (ns.length:Int) then 8 else (ns.length:Int)) > 2 then (if (8:Int) < (ns.length:Int) then 8 else (ns.length:Int)) else 2):=by split <;> omega
  generalize (if (if (8:Int) < (ns.length:Int) then 8 else (ns.length:Int)) > 2 then (if (8:Int) < (ns.length:Int) then 8 else (ns.length:Int)) else 2)=m at hr3 hr4 ⊢
  refine⟨m,rfl,by omega,by omega,cE (lo:=0) (n:=m.toNat) (λi σ H2=>Lm T H2/\SqL K H2 sa (ns.map V.int)/\∃v1,σ=[some (.ref sa),v1]) ⟨L,hS,none,rfl⟩ (λk σ H2 hk hh=>?_) λσ H2 hh=>?_⟩
  ·obtain⟨L2,hS2,v1,rfl⟩:=hh
   walk_at "d"
   rw [Int.zero_add]
   refine aE ⟨_,rfl,_,rfl,sa,ns,_,rfl,hS2,by omega,by omega,λc1=>⟨c1,rfl,L2,λH3 G3=>⟨_,rfl,aS (aB ?_)⟩⟩⟩
   exact⟨G3.lam,zV hS2 L2 G3,_,rfl⟩
  ·obtain⟨L2,hS2,v1,rfl⟩:=hh
   dsimp only
   refine aA ?_
   exact q H2
theorem ar1 {P:List Value->Prop} (h:∀a,P [a]):∀us:List Value,us.length=1->P us:=λus e=>by
 obtain⟨a,rfl⟩:=List.length_eq_one_iff.mp e
 exact h a
theorem ar2 {P:List Value->Prop} (h:∀x1 x2,P [x1,x2]) (us:List Value) (e:us.length=2):P us:=by
 cases us with
 | nil=>cases e
 | cons a t=>exact ar1 (P:=λt=>P (a::t)) (λx1=>h a x1) t (Nat.succ.inj e)
theorem ar3 {P:List Value->Prop} (h:∀x1 x2 x3,P [x1,x2,x3]) (us:List Value) (e:us.length=3):P us:=by
 cases us with
 | nil=>cases e
 | cons a t=>exact ar2 (P:=λt=>P (a::t)) (λx1 x2=>h a x1 x2) t (Nat.succ.inj e)
theorem ar4 {P:List Value->Prop} (h:∀x1 x2 x3 x4,P [x1,x2,x3,x4]) (us:List Value) (e:us.length=4):P us:=by
 cases us with
 | nil=>cases e
 | cons a t=>exact ar3 (P:=λt=>P (a::t)) (λx1 x2 x3=>h a x1 x2 x3) t (Nat.succ.inj e)
theorem ar5 {P:List Value->Prop} (h:∀x1 x2 x3 x4 x5,P [x1,x2,x3,x4,x5]) (us:List Value) (e:us.length=5):P us:=by
 cases us with
 | nil=>cases e
 | cons a t=>exact ar4 (P:=λt=>P (a::t)) (λx1 x2 x3 x4=>h a x1 x2 x3 x4) t (Nat.succ.inj e)
theorem ar6 {P:List Value->Prop} (h:∀x1 x2 x3 x4 x5 x6,P [x1,x2,x3,x4,x5,x6]) (us:List Value) (e:us.length=6):P us:=by
 cases us with
 | nil=>cases e
 | cons a t=>exact ar5 (P:=λt=>P (a::t)) (λx1 x2 x3 x4 x5=>h a x1 x2 x3 x4 x5) t (Nat.succ.inj e)
noncomputable def mI (f:Addr):Option (Option Value)->Bool
 | some (some (.ref g))=>decide (g=f)
 | _=>false
noncomputable def qg (n:String):Option (Option Value)->Bool
 | some (some (.builtin m))=>decide (m=n)
 | _=>false
noncomputable def zB:Option (Option Value)->Bool
 | some none=>true
 | _=>false
noncomputable def wm:Option Bool->Bool
 | some true=>true
 | _=>false
theorem iC {f:Addr}:∀{x:Option (Option Value)},mI f x=true->x=some (some (.ref f))
 | some (some (.ref g)),h=>by rw [of_decide_eq_true (show decide (g=f)=true from h)]
theorem kZ {n:String}:∀{x:Option (Option Value)},qg n x=true->x=some (some (.builtin n))
 | some (some (.builtin m)),h=>by rw [of_decide_eq_true (show decide (m=n)=true from h)]
theorem wn:∀{x:Option (Option Value)},zB x=true->x=some none
 | some none,_=>rfl
theorem oo:∀{x:Option Bool},wm x=true->x=some true
 | some true,_=>rfl
noncomputable def quB (K:PySem.W.Frag) (fT fA fD CQ C:Addr):Bool:=PySem.W.plainGet K C Str.empty && (PySem.W.hasDictIn K C && (PySem.W.plainOver K C && (qg "object.__setattr__" (PySem.W.findIn K (.ref C) "__setattr__") && (cK.all (λf=>zB (PySem.W.findIn K (.ref C) f)) && (mI fT (PySem.W.findIn K (.ref C) "text") && (mI fA (PySem.W.findIn K (.ref C) "asked_keys") && (mI fD (PySem.W.findIn K (.ref C) "depth") && (qg "object.__class__" (PySem.W.findIn K (.ref C) "__class__") && (wm (PySem.W.mroIn K C (.type "object")) && wm (PySem.W.kitOne K (.ref C) (.ref CQ)))))))))))
structure QuF (K:PySem.W.Frag) (fT fA fD CQ C:Addr):Prop where
 qu:QuC K C
 tx:‹(K,C,fT,"text")›
 ak:‹(K,C,fA,"asked_keys")›
 dp:‹(K,C,fD,"depth")›
 ha:PySem.W.findIn K (.ref C) "__class__" = some (some (.builtin "object.__class__"))
 hm:PySem.W.mroIn K C (.type "object")=some true
 kt:PySem.W.kitOne K (.ref C) (.ref CQ)=some true
theorem fO {K:W.Frag}{fT fA fD CQ C:Addr} (h:quB K fT fA fD CQ C=true):QuF K fT fA fD CQ C:=by
 unfold quB at h
 simp only [Bool.and_eq_true]at h
 obtain⟨h1,h2,h3,h4,h5,h6,h7,h8,h9,h10,h11⟩:=h
 exact⟨⟨⟨h1,h2,h3,kZ h4⟩,λf hf=>wn (List.all_eq_true.mp h5 f hf)⟩,iC h6,iC h7,iC h8,kZ h9,oo h10,oo h11⟩
noncomputable def tU:Value->Option Str
 | .str x _=>some x
 | _=>none
noncomputable def B3:Value->Bool
 | .type n=>decide (n = "tuple")
 | _=>false
noncomputable def Cr (ws:List Str):PySem.Data->Bool
 | .seq its _=>decide (its.toList.map tU=ws.map some)
 | _=>false
noncomputable def rQ (K:PySem.W.Frag) (a:Addr) (ws:List Str):Bool:=match K.lookup a with
 | some o=>B3 o.cls && Cr ws o.data
 | none=>false
theorem kI:∀{us:List Value}{ws:List Str},us.map tU=ws.map some->aW (ws.map V.str) us
 | [],[],_=>.nil
 | u::us,w::ws,h=>by
  obtain⟨h1,h2⟩:=List.cons.inj h
  refine .cons ?_ (kI h2)
  cases u with
  | str x t=>exact⟨t,by rw [Option.some.inj h1]⟩
  | _=>cases h1
 | [],w::ws,h=>by cases h
 | u::us,[],h=>by cases h
theorem lJ {K:W.Frag}{a:Addr}{ws:List Str} (hl:ws.length<=100) (h:rQ K a ws=true) (H:Hp):SqT K H a (ws.map V.str):=by
 unfold rQ at h
 cases e:K.lookup a with
 | none=>rw [e]at h;cases h
 | some o=>
  rw [e]at h
  rw [Bool.and_eq_true]at h
  obtain⟨h1,h2⟩:=h
  have hc:o.cls=.type "tuple":=by
   cases z:o.cls with
   | type n=>rw [z]at h1;rw [of_decide_eq_true (show decide (n = "tuple")=true from h1)]
   | _=>rw [z]at h1;cases h1
  cases z:o.data with
  | seq its n=>
   rw [z]at h2
   have h3:=of_decide_eq_true (show decide (its.toList.map tU=ws.map some)=true from h2)
   have hz:=congrArg List.length h3
   rw [List.length_map,List.length_map,Array.length_toList]at hz
   exact .inr ⟨o,its,n,e,hc,z,Nat.le_trans (show its.size<=100 by omega) (by decide),kI h3⟩
  | _=>rw [z]at h2;cases h2
theorem all_mk {l:PySem.W.OpenLaw}{w:World}{K:W.Frag}{h:Heap}{mg:Str->Option Value}{fa cT L R CQ CB c1 c2 c3 c4 c5 c6 c7 c8 t1 t2 t3 t4 f1 f2 f3 f4 f5 f6 f7 f8 f9 f10 f11 f12 f13 f14 f15 f16 f17 f18 f19 f20 f21 f22 f23 f24 f25 f26 f27 f28 f29 f30 f31 f32 f33 f34 f35 f36 f37 f38 f39 f40 f41 f42 f43 f44 f45 f46 f47 f48 f49 f50 f51 f52 f53 f54 f55 f56 f57 f58 f59 f60 f61 f62 f63 f64 f65 f66 f67 f68 f69 f70 f71 f72:Addr}{d1 d2 d3 d4 d5 d6 d7 d8 d9 d10 d11 d12 d13 d14 d15 d16 d17 d18 d19 d20 d21 d22 d23 d24 d25 d26 d27 d28 d29 d30 d31 d32 d33 d34 d35 d36 d37 d38 d39 d40 d41 d42 d43 d44 d45 d46 d47 d48 d49 d50 d51 d52 d53 d54 d55 d56 d57 d58 d59 d60 d61 d62 d63 d64 d65 d66 d67 d68 d69 d70 d71 d72:FuncData}{odT anT:Option Addr}{slT:Array (Option Value)}{ocT kVT dcT pmT ctT:Value} (X:K.In h) (G:h.Ns mainGlobals mg) (hfa:mg "law" = some (.ref fa))
  (amR:‹(K,R,"Reader")›)
  (amCQ:‹(K,CQ,"Question")›)
  (amCB:‹(K,CB,"Bracketed")›)
  (amc1:‹(K,c1,"Number")›)
  (amc2:‹(K,c2,"Value")›)
  (amc3:‹(K,c3,"Gathering")›)
  (amc4:‹(K,c4,"Since")›)
  (amc5:‹(K,c5,"Part")›)
  (amc6:‹(K,c6,"Change")›)
  (amc7:‹(K,c7,"Reckoning")›)
  (amc8:‹(K,c8,"Choice")›)
  (a1:‹(K,f1,"law")›) (F1:Fun K "law" "law" rY f1 d1)
  (a2:‹(K,f2,"_law_cell")›) (F2:Fun K "_law_cell" "_law_cell" uU f2 d2)
  (a3:‹(K,f3,"_law_good")›) (F3:Fun K "_law_good" "_law_good" uQ f3 d3)
  (a4:‹(K,c1,f4,"plain")›) (i4:‹[K,f4]›) (F4:Fun K "plain" "Number.plain" pr f4 d4)
  (a5:‹(K,c2,f5,"plain")›) (i5:‹[K,f5]›) (F5:Fun K "plain" "Value.plain" pj f5 d5)
  (a6:‹(K,c3,f6,"plain")›) (i6:‹[K,f6]›) (F6:Fun K "plain" "Gathering.plain" pz f6 d6)
  (a7:‹(K,f7,"tellings")›) (F7:Fun K "tellings" "tellings" ip f7 d7)
  (a8:‹(K,f8,"gathered")›) (F8:Fun K "gathered" "gathered" iq f8 d8)
  (a9:‹(K,c4,f9,"plain")›) (i9:‹[K,f9]›) (F9:Fun K "plain" "Since.plain" pp f9 d9)
  (a10:‹(K,c4,f10,"reaches")›) (i10:‹[K,f10]›) (F10:Fun K "reaches" "Since.reaches" pe f10 d10)
  (a11:‹(K,c5,f11,"plain")›) (i11:‹[K,f11]›) (F11:Fun K "plain" "Part.plain" pq f11 d11)
  (a12:‹(K,c6,f12,"plain")›) (i12:‹[K,f12]›) (F12:Fun K "plain" "Change.plain" pA f12 d12)
  (a13:‹(K,f13,"reckoned")›) (F13:Fun K "reckoned" "reckoned" uB f13 d13)
  (a14:‹(K,f14,"place_chosen")›) (F14:Fun K "place_chosen" "place_chosen" uT f14 d14)
  (a15:‹(K,c7,f15,"plain")›) (i15:‹[K,f15]›) (F15:Fun K "plain" "Reckoning.plain" mf f15 d15)
  (a16:‹(K,c8,f16,"plain")›) (i16:‹[K,f16]›) (F16:Fun K "plain" "Choice.plain" mh f16 d16)
  (a17:‹(K,CQ,f17,"read")›) (i17:‹[K,f17]›) (F17:Fun K "read" "Question.read" pd f17 d17)
  (a18:‹(K,c4,f18,"read")›) (i18:‹[K,f18]›) (F18:Fun K "read" "Since.read" pf f18 d18)
  (a19:‹(K,c6,f19,"read")›) (i19:‹[K,f19]›) (F19:Fun K "read" "Change.read" ph f19 d19)
  (a20:‹(K,c7,f20,"read")›) (i20:‹[K,f20]›) (F20:Fun K "read" "Reckoning.read" md f20 d20)
  (a21:‹(K,c8,f21,"read")›) (i21:‹[K,f21]›) (F21:Fun K "read" "Choice.read" me f21 d21)
  (a22:‹(K,f22,"_law_drawn")›) (F22:Fun K "_law_drawn" "_law_drawn" pL f22 d22)
  (a23:‹(K,f23,"_law_begun")›) (F23:Fun K "_law_begun" "_law_begun" pN f23 d23)
  (a24:‹(K,f24,"_law_names")›) (F24:Fun K "_law_names" "_law_names" pD f24 d24)
  (a25:‹(K,f25,"_law_pull")›) (F25:Fun K "_law_pull" "_law_pull" uD f25 d25)
  (a26:‹(K,f26,"_law_mix")›) (F26:Fun K "_law_mix" "_law_mix" Ag f26 d26)
  (a27:‹(K,f27,"_law_window")›) (F27:Fun K "_law_window" "_law_window" lZ f27 d27)
  (a28:‹(K,f28,"_law_table")›) (F28:Fun K "_law_table" "_law_table" pc f28 d28)
  (a29:‹(K,f29,"_law_days")›) (F29:Fun K "_law_days" "_law_days" uR f29 d29)
  (a30:‹(K,f30,"_law_amount")›) (F30:Fun K "_law_amount" "_law_amount" ml f30 d30)
  (a31:‹(K,f31,"_law_fitting")›) (F31:Fun K "_law_fitting" "_law_fitting" Ah f31 d31)
  (a32:‹(K,f32,"_law_words")›) (F32:Fun K "_law_words" "_law_words" sLw f32 d32)
  (a33:‹(K,f33,"_law_question")›) (F33:Fun K "_law_question" "_law_question" sLq f33 d33)
  (a34:‹(K,f34,"_law_leaf")›) (F34:Fun K "_law_leaf" "_law_leaf" pE f34 d34)
  (a35:‹(K,f35,"_law_some")›) (F35:Fun K "_law_some" "_law_some" uA f35 d35)
  (a36:‹(K,f36,"question_of")›) (F36:Fun K "question_of" "question_of" Af f36 d36)
  (a37:‹(K,R,f37,"__init__")›) (i37:‹[K,f37]›) (F37:Fun K "__init__" "Reader.__init__" pG f37 d37)
  (a38:‹(K,f38,"question_here")›) (F38:Fun K "question_here" "question_here" sQh f38 d38)
  (a39:‹(K,f39,"questions_here")›) (F39:Fun K "questions_here" "questions_here" uC f39 d39)
  (a40:‹(K,R,f40,"beginning_here")›) (i40:‹[K,f40]›) (F40:Fun K "beginning_here" "Reader.beginning_here" Al f40 d40)
  (a41:‹(K,R,f41,"here")›) (i41:‹[K,f41]›) (F41:Fun K "here" "Reader.here" uP f41 d41)
  (a42:‹(K,R,f42,"go_on")›) (i42:‹[K,f42]›) (F42:Fun K "go_on" "Reader.go_on" sGo f42 d42)
  (a43:‹(K,R,f43,"day_here")›) (i43:‹[K,f43]›) (F43:Fun K "day_here" "Reader.day_here" uS f43 d43)
  (a44:‹(K,R,f44,"number_here")›) (i44:‹[K,f44]›) (F44:Fun K "number_here" "Reader.number_here" uF f44 d44)
  (a45:‹(K,f45,"number_of")›) (F45:Fun K "number_of" "number_of" mi f45 d45)
  (a46:‹(K,f46,"has_only")›) (F46:Fun K "has_only" "has_only" Aj f46 d46)
  (a47:‹(K,R,f47,"keys_here")›) (i47:‹[K,f47]›) (F47:Fun K "keys_here" "Reader.keys_here" pF f47 d47)
  (a48:‹(K,f48,"are_keys")›) (F48:Fun K "are_keys" "are_keys" jw f48 d48)
  (a49:‹(K,f49,"is_name")›) (F49:Fun K "is_name" "is_name" uG f49 d49)
  (a50:‹(K,f50,"single_here")›) (F50:Fun K "single_here" "single_here" m8 f50 d50)
  (a51:‹(K,R,f51,"value_here")›) (i51:‹[K,f51]›) (F51:Fun K "value_here" "Reader.value_here" uy f51 d51)
  (a52:‹(K,R,f52,"key_here")›) (i52:‹[K,f52]›) (F52:Fun K "key_here" "Reader.key_here" uI f52 d52)
  (a53:‹(K,c1,f53,"__init__")›) (i53:‹[K,f53]›) (F53:Fun K "__init__" "Number.__init__" uM f53 d53)
  (a54:‹(K,CQ,f54,"__init__")›) (i54:‹[K,f54]›) (F54:Fun K "__init__" "Question.__init__" pH f54 d54)
  (a55:‹(K,f55,"each_once")›) (F55:Fun K "each_once" "each_once" uE f55 d55)
  (a56:‹(K,c2,f56,"__init__")›) (i56:‹[K,f56]›) (F56:Fun K "__init__" "Value.__init__" uJ f56 d56)
  (a57:‹(K,c4,f57,"__init__")›) (i57:‹[K,f57]›) (F57:Fun K "__init__" "Since.__init__" uK f57 d57)
  (a58:‹(K,c5,f58,"__init__")›) (i58:‹[K,f58]›) (F58:Fun K "__init__" "Part.__init__" uL f58 d58)
  (a59:‹(K,c6,f59,"__init__")›) (i59:‹[K,f59]›) (F59:Fun K "__init__" "Change.__init__" uO f59 d59)
  (a60:‹(K,c3,f60,"__init__")›) (i60:‹[K,f60]›) (F60:Fun K "__init__" "Gathering.__init__" uN f60 d60)
  (a61:‹(K,c7,f61,"__init__")›) (i61:‹[K,f61]›) (F61:Fun K "__init__" "Reckoning.__init__" pI f61 d61)
  (a62:‹(K,CB,f62,"__init__")›) (i62:‹[K,f62]›) (F62:Fun K "__init__" "Bracketed.__init__" pK f62 d62)
  (a63:‹(K,CQ,f63,"text")›) (i63:‹[K,f63]›) (F63:Fun K "text" "Question.text" uz f63 d63)
  (a64:‹(K,CQ,f64,"asked_keys")›) (i64:‹[K,f64]›) (F64:Fun K "asked_keys" "Question.asked_keys" pO f64 d64)
  (a65:‹(K,CQ,f65,"depth")›) (i65:‹[K,f65]›) (F65:Fun K "depth" "Question.depth" pM f65 d65)
  (a66:‹(K,c8,f66,"__init__")›) (i66:‹[K,f66]›) (F66:Fun K "__init__" "Choice.__init__" pJ f66 d66)
  (a67:‹(K,R,f67,"bracket_opens")›) (i67:‹[K,f67]›) (F67:Fun K "bracket_opens" "Reader.bracket_opens" pB f67 d67)
  (a68:‹(K,R,f68,"bracket_closes")›) (i68:‹[K,f68]›) (F68:Fun K "bracket_closes" "Reader.bracket_closes" mj f68 d68)
  (a69:‹(K,R,f69,"check_end")›) (i69:‹[K,f69]›) (F69:Fun K "check_end" "Reader.check_end" Ak f69 d69)
  (a70:‹(K,f70,"_law_second")›) (F70:Fun K "_law_second" "_law_second" ma f70 d70)
  (a71:‹(K,f71,"_law_like")›) (F71:Fun K "_law_like" "_law_like" uH f71 d71)
  (a72:‹(K,f72,"_law_telling")›) (F72:Fun K "_law_telling" "_law_telling" bR f72 d72)
  (lkT:K.lookup f72=some ⟨ocT,odT,.func (PySem.W.fnOf "_law_telling" "_law_telling" (dG bR) (cz bR) (aq bR) .none kVT dcT pmT anT (.ref cT) ctT),slT⟩)
  (wread1:‹(K,c1,f17,"read")›)
  (wread2:‹(K,c2,f17,"read")›)
  (wread3:‹(K,c3,f17,"read")›)
  (wread5:‹(K,c5,f17,"read")›)
  (mkR:PySem.W.makesIn K R=true) (kpR:PySem.W.keepIn K (.ref R)=true)
  (mkc1:PySem.W.makesIn K c1=true) (kpc1:PySem.W.keepIn K (.ref c1)=true)
  (mkc2:PySem.W.makesIn K c2=true) (kpc2:PySem.W.keepIn K (.ref c2)=true)
  (mkc3:PySem.W.makesIn K c3=true) (kpc3:PySem.W.keepIn K (.ref c3)=true)
  (mkc4:PySem.W.makesIn K c4=true) (kpc4:PySem.W.keepIn K (.ref c4)=true)
  (mkc5:PySem.W.makesIn K c5=true) (kpc5:PySem.W.keepIn K (.ref c5)=true)
  (mkc6:PySem.W.makesIn K c6=true) (kpc6:PySem.W.keepIn K (.ref c6)=true)
  (mkc7:PySem.W.makesIn K c7=true) (kpc7:PySem.W.keepIn K (.ref c7)=true)
  (mkc8:PySem.W.makesIn K c8=true) (kpc8:PySem.W.keepIn K (.ref c8)=true)
  (TR:RdC K R)
  (g1CQ:PySem.W.specialIn K (.ref CQ) "__getattribute__" = some (some (.builtin "type.__getattribute__"))) (g2CQ:PySem.W.readsIn K CQ (.type "type")=true) (g3CQ:PySem.W.findCls K (.ref CQ) (.type "type") "__init__" = some (.val (.ref f54)))
  (g1CB:PySem.W.specialIn K (.ref CB) "__getattribute__" = some (some (.builtin "type.__getattribute__"))) (g2CB:PySem.W.readsIn K CB (.type "type")=true) (g3CB:PySem.W.findCls K (.ref CB) (.type "type") "__init__" = some (.val (.ref f62)))
  (tyn:PySem.W.specialIn K (.builtin "object.__class__") "__get__" = some (some (.builtin "getset_descriptor.__get__"))) (tyk:PySem.W.takesIn K (.builtin "object.__class__")=some true)
  (qb1:quB K f63 f64 f65 CQ c1=true)
  (qb2:quB K f63 f64 f65 CQ c2=true)
  (qb3:quB K f63 f64 f65 CQ c3=true)
  (qb4:quB K f63 f64 f65 CQ c4=true)
  (qb5:quB K f63 f64 f65 CQ c5=true)
  (qb6:quB K f63 f64 f65 CQ c6=true)
  (qb7:quB K f63 f64 f65 CQ c7=true)
  (qb8:quB K f63 f64 f65 CQ c8=true)
  (tn1:‹(K,t1,"SINGLE")›) (tb1:rQ K t1 iQ=true)
  (tn2:‹(K,t2,"GATHERING")›) (tb2:rQ K t2 fK=true)
  (tn3:‹(K,t3,"RECKONING")›) (tb3:rQ K t3 bA=true)
  (tn4:‹(K,t4,"CHOICE")›) (tb4:rQ K t4 eF=true)
  {tq1 tq2 tq3 tq4 tq5 tq6 tq7 tq8 tq9:Tok} (q1:PySem.W.nsIn K mainGlobals "LETTERS" = some (some (.str dE tq1))) (q2:PySem.W.nsIn K mainGlobals "FIGURES" = some (some (.str ij tq2))) (q3:PySem.W.nsIn K mainGlobals "MOST_LETTERS" = some (some (.int 8 tq3))) (q4:PySem.W.nsIn K mainGlobals "MOST_FIGURES" = some (some (.int 12 tq4))) (q5:PySem.W.nsIn K mainGlobals "LAST_DAY" = some (some (.int 399 tq5))) (q6:PySem.W.nsIn K mainGlobals "MOST_KEYS" = some (some (.int 8 tq6))) (q7:PySem.W.nsIn K mainGlobals "MOST_VALUE" = some (some (.int 1000000000 tq7))) (q8:PySem.W.nsIn K mainGlobals "MOST_OPEN" = some (some (.int 3 tq8))) (q9:PySem.W.nsIn K mainGlobals "MOST_RANK" = some (some (.int 400 tq9)))
  (z1:PySem.W.nsIn K mainGlobals "len" = some none) (z2:PySem.W.nsIn K mainGlobals "range" = some none) (z3:PySem.W.nsIn K mainGlobals "sorted" = some none) (z4:PySem.W.nsIn K mainGlobals "isinstance" = some none) (z5:PySem.W.nsIn K mainGlobals "int" = some none) (z6:PySem.W.nsIn K mainGlobals "bool" = some none) (z7:PySem.W.nsIn K mainGlobals "str" = some none) (z8:PySem.W.nsIn K mainGlobals "list" = some none) (z9:PySem.W.nsIn K mainGlobals "tuple" = some none) (z10:PySem.W.nsIn K mainGlobals "dict" = some none) (z11:PySem.W.nsIn K mainGlobals "set" = some none) (z12:PySem.W.nsIn K mainGlobals "max" = some none) (z13:PySem.W.nsIn K mainGlobals "min" = some none) (z14:PySem.W.nsIn K mainGlobals "all" = some none) (z15:PySem.W.nsIn K mainGlobals "enumerate" = some none) (z16:PySem.W.nsIn K mainGlobals "abs" = some none) (z17:PySem.W.nsIn K mainGlobals "reversed" = some none) (z18:PySem.W.nsIn K mainGlobals "sum" = some none) :
  ∃fd:FuncData,(∀(s:Shared) (v:Value),BindsTo s fd ⟨[v],[]⟩ [("_law_script", v)])/\∀base:Heap,K.In base->base.Ns mainGlobals mg->PySem.W.CodeHd base cT L->base.BuiltinsAt mg L->FnOk l.prog w K mg base CX0 15 fa fd ["_law_script"] (qE K L):=by
 have e:=hfa.symm.trans (PySem.W.mg_of X G a1)
 cases e
 have N:Free mg:=⟨PySem.W.mg_none_of X G z1,PySem.W.mg_none_of X G z2,PySem.W.mg_none_of X G z3,PySem.W.mg_none_of X G z4,PySem.W.mg_none_of X G z5,PySem.W.mg_none_of X G z6,PySem.W.mg_none_of X G z7,PySem.W.mg_none_of X G z8,PySem.W.mg_none_of X G z9,PySem.W.mg_none_of X G z10,PySem.W.mg_none_of X G z11,PySem.W.mg_none_of X G z12,PySem.W.mg_none_of X G z13,PySem.W.mg_none_of X G z14,PySem.W.mg_none_of X G z15,PySem.W.mg_none_of X G z16,PySem.W.mg_none_of X G z17,PySem.W.mg_none_of X G z18⟩
 have Z:Con mg:=⟨⟨_,PySem.W.mg_of X G q1⟩,⟨_,PySem.W.mg_of X G q2⟩,⟨_,PySem.W.mg_of X G q3⟩,⟨_,PySem.W.mg_of X G q4⟩,⟨_,PySem.W.mg_of X G q5⟩,⟨_,PySem.W.mg_of X G q6⟩,⟨_,PySem.W.mg_of X G q7⟩,⟨_,PySem.W.mg_of X G q8⟩,⟨_,PySem.W.mg_of X G q9⟩⟩
 have ZT:ConT K mg:=⟨⟨t1,PySem.W.mg_of X G tn1,lJ (by decide) tb1⟩,⟨t2,PySem.W.mg_of X G tn2,lJ (by decide) tb2⟩,⟨t3,PySem.W.mg_of X G tn3,lJ (by decide) tb3⟩,⟨t4,PySem.W.mg_of X G tn4,lJ (by decide) tb4⟩⟩
 have QB:∀C∈Cs.all (⟨c1,c2,c3,c4,c5,c6,c7,c8⟩:Cs),QuF K f63 f64 f65 CQ C:=λC hC=>by
  simp only [Cs.all,List.mem_cons,List.not_mem_nil,or_false]at hC
  rcases hC with rfl | rfl | rfl | rfl | rfl | rfl | rfl | rfl
  ·exact fO qb1
  ·exact fO qb2
  ·exact fO qb3
  ·exact fO qb4
  ·exact fO qb5
  ·exact fO qb6
  ·exact fO qb7
  ·exact fO qb8
 obtain⟨oc,od,kV,doc,pm,an,cdv,ct,osl,rfl,lk,hcd⟩:=id F1.ex
 refine⟨PySem.W.fnOf "law" "law" (dG rY) (cz rY) (aq rY) .none kV doc pm an cdv ct,λs v=>.of_eq rfl,λbase hK hN hC hB=>?_⟩
 have ky:∀{x:Str}{k:Nat}{ps:List Str}{sp:Sp}{f:Addr}{fd:FuncData},FnOk l.prog w K mg base CX0 k f fd ps sp->PySem.W.nsIn K mainGlobals x=some (some (.ref f))->PySem.W.keepIn K (.ref f)=true->bE K fd ps []->Cal l.prog w K mg base x k ps sp f fd:=λa b c d=>⟨a,PySem.W.mg_of X G b,c,d⟩
 have km:∀{m:Str}{k:Nat}{ps:List Str}{sp:Sp}{f:Addr}{fd:FuncData},FnOk l.prog w K mg base CX0 k f fd ps sp->PySem.W.findIn K (.ref R) m=some (some (.ref f))->‹[K,f]›->PySem.W.keepIn K (.ref f)=true->bE K fd ps []->MC l.prog w K mg base R m k ps [] [] sp f fd:=λa b c d e=>⟨TR.cl,⟨b,c,d⟩,a,e,.nil⟩
 have kc:∀{cn:Str}{k:Nat}{ps:List Str}{sp:Sp}{C f:Addr}{fd:FuncData},FnOk l.prog w K mg base CX0 k f fd ps sp->Mk K C f->PySem.W.nsIn K mainGlobals cn=some (some (.ref C))->bE K fd ps []->MkC l.prog w K mg base cn k ps sp C f fd:=λa b c d=>⟨b,a,PySem.W.mg_of X G c,d⟩
 have kg:∀{cn m:Str}{k:Nat}{ps:List Str}{sp:Sp}{C f:Addr}{fd:FuncData}{mc:Value},FnOk l.prog w K mg base CX0 k f fd ps sp->PySem.W.nsIn K mainGlobals cn=some (some (.ref C))->PySem.W.specialIn K (.ref C) "__getattribute__" = some (some (.builtin "type.__getattribute__"))->PySem.W.readsIn K C mc=true->PySem.W.findCls K (.ref C) mc m=some (.val (.ref f))->PySem.W.keepIn K (.ref f)=true->bE K fd ps []->CMc l.prog w K mg base cn m k ps sp C f fd mc:=λa b c d e g i=>⟨PySem.W.mg_of X G b,c,d,e,a,g,i⟩
 have K1:=ky (ym F2 N) a2 F2.kp (F2.binds λ_ _ _ _ _ _=>ar2 λ_ _=>rfl)
 have K2:=ky (nQ F7 N) a7 F7.kp (F7.binds λ_ _ _ _ _ _=>ar4 λ_ _ _ _=>rfl)
 have K3:=ky (nR F8 N) a8 F8.kp (F8.binds λ_ _ _ _ _ _=>ar2 λ_ _=>rfl)
 have K4:∀C sp,VRe (⟨c1,c2,c3,c4,c5,c6,c7,c8⟩:Cs) C sp->MV l.prog w K mg base CX0 "reaches" 1 ["self", "value"] sp C:=by
  rintro _ _ ⟨⟩
  exact⟨(QB c4 (by simp [Cs.all])).qu.cl,f10,d10,⟨a10,i10,F10.kp⟩,(vo (c:=(⟨c1,c2,c3,c4,c5,c6,c7,c8⟩:Cs)) F10 (λC hC=>(QB C hC).qu)),(F10.binds λ_ _ _ _ _ _=>ar2 λ_ _=>rfl)⟩
 have K5:∀C sp,VPl (⟨c1,c2,c3,c4,c5,c6,c7,c8⟩:Cs) C sp->MV l.prog w K mg base CX0 "plain" 4 ["self", "told"] sp C:=by
  rintro _ _ ⟨l0⟩
  cases l0 with
  | num=>exact⟨(QB c1 (by simp [Cs.all])).qu.cl,f4,d4,⟨a4,i4,F4.kp⟩,(FnOk.mono (j:=1) (k:=4) (vB (c:=(⟨c1,c2,c3,c4,c5,c6,c7,c8⟩:Cs)) F4 (λC hC=>(QB C hC).qu)) (by decide)),(F4.binds λ_ _ _ _ _ _=>ar2 λ_ _=>rfl)⟩
  | val=>exact⟨(QB c2 (by simp [Cs.all])).qu.cl,f5,d5,⟨a5,i5,F5.kp⟩,(FnOk.mono (j:=2) (k:=4) (vx (c:=(⟨c1,c2,c3,c4,c5,c6,c7,c8⟩:Cs)) F5 (λC hC=>(QB C hC).qu)) (by decide)),(F5.binds λ_ _ _ _ _ _=>ar2 λ_ _=>rfl)⟩
  | gth=>exact⟨(QB c3 (by simp [Cs.all])).qu.cl,f6,d6,⟨a6,i6,F6.kp⟩,(vC (c:=(⟨c1,c2,c3,c4,c5,c6,c7,c8⟩:Cs)) F6 N (λC hC=>(QB C hC).qu) K2 K3),(F6.binds λ_ _ _ _ _ _=>ar2 λ_ _=>rfl)⟩
  | snc=>exact⟨(QB c4 (by simp [Cs.all])).qu.cl,f9,d9,⟨a9,i9,F9.kp⟩,(FnOk.mono (j:=3) (k:=4) (vy (c:=(⟨c1,c2,c3,c4,c5,c6,c7,c8⟩:Cs)) F9 N (λC hC=>(QB C hC).qu) K4) (by decide)),(F9.binds λ_ _ _ _ _ _=>ar2 λ_ _=>rfl)⟩
  | prt=>exact⟨(QB c5 (by simp [Cs.all])).qu.cl,f11,d11,⟨a11,i11,F11.kp⟩,(vA (c:=(⟨c1,c2,c3,c4,c5,c6,c7,c8⟩:Cs)) F11 N (λC hC=>(QB C hC).qu) K2),(F11.binds λ_ _ _ _ _ _=>ar2 λ_ _=>rfl)⟩
  | chg=>exact⟨(QB c6 (by simp [Cs.all])).qu.cl,f12,d12,⟨a12,i12,F12.kp⟩,(vD (c:=(⟨c1,c2,c3,c4,c5,c6,c7,c8⟩:Cs)) F12 N (λC hC=>(QB C hC).qu) K2),(F12.binds λ_ _ _ _ _ _=>ar2 λ_ _=>rfl)⟩
 have K6:=ky (xY F13) a13 F13.kp (F13.binds λ_ _ _ _ _ _=>ar2 λ_ _=>rfl)
 have K7:=ky (yl F14) a14 F14.kp (F14.binds λ_ _ _ _ _ _=>ar3 λ_ _ _=>rfl)
 have K8:=sq (c:=(⟨c1,c2,c3,c4,c5,c6,c7,c8⟩:Cs)) K5 (λC hC=>(QB C hC).qu) N K6 K7 F15 ⟨a15,i15,F15.kp⟩ (F15.binds λ_ _ _ _ _ _=>ar2 λ_ _=>rfl) F16 ⟨a16,i16,F16.kp⟩ (F16.binds λ_ _ _ _ _ _=>ar2 λ_ _=>rfl)
 have K9:∀C sp,VRd (⟨c1,c2,c3,c4,c5,c6,c7,c8⟩:Cs) C sp->MV l.prog w K mg base CX0 "read" 5 ["self", "told"] sp C:=by
  rintro _ _ ⟨l0⟩
  cases l0 with
  | num=>exact⟨(QB c1 (by simp [Cs.all])).qu.cl,f17,d17,⟨wread1,i17,F17.kp⟩,(hZ (c:=(⟨c1,c2,c3,c4,c5,c6,c7,c8⟩:Cs)) F17 rfl K5),(F17.binds λ_ _ _ _ _ _=>ar2 λ_ _=>rfl)⟩
  | val=>exact⟨(QB c2 (by simp [Cs.all])).qu.cl,f17,d17,⟨wread2,i17,F17.kp⟩,(hZ (c:=(⟨c1,c2,c3,c4,c5,c6,c7,c8⟩:Cs)) F17 rfl K5),(F17.binds λ_ _ _ _ _ _=>ar2 λ_ _=>rfl)⟩
  | gth=>exact⟨(QB c3 (by simp [Cs.all])).qu.cl,f17,d17,⟨wread3,i17,F17.kp⟩,(hZ (c:=(⟨c1,c2,c3,c4,c5,c6,c7,c8⟩:Cs)) F17 rfl K5),(F17.binds λ_ _ _ _ _ _=>ar2 λ_ _=>rfl)⟩
  | snc=>exact⟨(QB c4 (by simp [Cs.all])).qu.cl,f18,d18,⟨a18,i18,F18.kp⟩,(FnOk.mono (j:=3) (k:=5) (vp (c:=(⟨c1,c2,c3,c4,c5,c6,c7,c8⟩:Cs)) F18 N (λC hC=>(QB C hC).qu) K4) (by decide)),(F18.binds λ_ _ _ _ _ _=>ar2 λ_ _=>rfl)⟩
  | prt=>exact⟨(QB c5 (by simp [Cs.all])).qu.cl,f17,d17,⟨wread5,i17,F17.kp⟩,(hZ (c:=(⟨c1,c2,c3,c4,c5,c6,c7,c8⟩:Cs)) F17 rfl K5),(F17.binds λ_ _ _ _ _ _=>ar2 λ_ _=>rfl)⟩
  | chg=>exact⟨(QB c6 (by simp [Cs.all])).qu.cl,f19,d19,⟨a19,i19,F19.kp⟩,(FnOk.mono (j:=3) (k:=5) (vt (c:=(⟨c1,c2,c3,c4,c5,c6,c7,c8⟩:Cs)) F19 N (λC hC=>(QB C hC).qu)) (by decide)),(F19.binds λ_ _ _ _ _ _=>ar2 λ_ _=>rfl)⟩
 have K10:=se (c:=(⟨c1,c2,c3,c4,c5,c6,c7,c8⟩:Cs)) K9 (λC hC=>(QB C hC).qu) N K6 K7 F20 ⟨a20,i20,F20.kp⟩ (F20.binds λ_ _ _ _ _ _=>ar2 λ_ _=>rfl) F21 ⟨a21,i21,F21.kp⟩ (F21.binds λ_ _ _ _ _ _=>ar2 λ_ _=>rfl)
 have K11:=ky (vP F23) a23 F23.kp (F23.binds λ_ _ _ _ _ _=>ar1 λ_=>rfl)
 have K12:=ky (AJ F26) a26 F26.kp (F26.binds λ_ _ _ _ _ _=>ar2 λ_ _=>rfl)
 have K13:=ky (xZ F25 K12) a25 F25.kp (F25.binds λ_ _ _ _ _ _=>ar2 λ_ _=>rfl)
 have K14:=ky (vG F24 N K11 K13) a24 F24.kp (F24.binds λ_ _ _ _ _ _=>ar1 λ_=>rfl)
 have K15:=ky (sB F27 K13) a27 F27.kp (F27.binds λ_ _ _ _ _ _=>ar1 λ_=>rfl)
 have K16:=ky (yj F29 K13) a29 F29.kp (F29.binds λ_ _ _ _ _ _=>ar2 λ_ _=>rfl)
 have K17:=ky (sH F30 K13) a30 F30.kp (F30.binds λ_ _ _ _ _ _=>ar1 λ_=>rfl)
 have K18:=ky (vn F28 N K13 K16 K17) a28 F28.kp (F28.binds λ_ _ _ _ _ _=>ar3 λ_ _ _=>rfl)
 have K19:=ky (vO F22 N K11 K14 K12 K15 K18) a22 F22.kp (F22.binds λ_ _ _ _ _ _=>ar1 λ_=>rfl)
 have K20:=ky (AK F32 (PySem.W.mg_of X G a32) (F32.binds λ_ _ _ _ _ _=>ar1 λ_=>rfl) N) a32 F32.kp (F32.binds λ_ _ _ _ _ _=>ar1 λ_=>rfl)
 have K21:=ky (AM F31 N K20) a31 F31.kp (F31.binds λ_ _ _ _ _ _=>ar1 λ_=>rfl)
 have K22:=ky (xX F35 N K13) a35 F35.kp (F35.binds λ_ _ _ _ _ _=>ar3 λ_ _ _=>rfl)
 have K23:=ky (vH F34 N K13 K22 K16 K17) a34 F34.kp (F34.binds λ_ _ _ _ _ _=>ar4 λ_ _ _ _=>rfl)
 have K24:=ky (AL F33 (PySem.W.mg_of X G a33) (F33.binds λ_ _ _ _ _ _=>ar4 λ_ _ _ _=>rfl) N K13 K23) a33 F33.kp (F33.binds λ_ _ _ _ _ _=>ar4 λ_ _ _ _=>rfl)
 have K25:=kc (vJ F37 N TR) ⟨mkR,a37,i37,kpR⟩ amR (F37.binds λ_ _ _ _ _ _=>ar2 λ_ _=>rfl)
 have K26:=km (yh F41 N TR) a41 i41 F41.kp (F41.binds λ_ _ _ _ _ _=>ar1 λ_=>rfl)
 have K27:=km (BQ F42 N TR) a42 i42 F42.kp (F42.binds λ_ _ _ _ _ _=>ar2 λ_ _=>rfl)
 have K28:=km (AR F40 N ZT TR K26 K27) a40 i40 F40.kp (F40.binds λ_ _ _ _ _ _=>ar1 λ_=>rfl)
 have K29:=ky (AO F46 N) a46 F46.kp (F46.binds λ_ _ _ _ _ _=>ar3 λ_ _ _=>rfl)
 have K30:=ky (sE F45 N Z K29) a45 F45.kp (F45.binds λ_ _ _ _ _ _=>ar3 λ_ _ _=>rfl)
 have K31:=km (y6 F44 N TR K26 K27 K30) a44 i44 F44.kp (F44.binds λ_ _ _ _ _ _=>ar3 λ_ _ _=>rfl)
 have K32:=km (yk F43 N Z TR K31) a43 i43 F43.kp (F43.binds λ_ _ _ _ _ _=>ar2 λ_ _=>rfl)
 have K33:=ky (y8 F49 N Z K29) a49 F49.kp (F49.binds λ_ _ _ _ _ _=>ar1 λ_=>rfl)
 have K34:=ky (pY F48 N Z K33) a48 F48.kp (F48.binds λ_ _ _ _ _ _=>ar1 λ_=>rfl)
 have K35:=km (vI F47 N TR K26 K27 K34) a47 i47 F47.kp (F47.binds λ_ _ _ _ _ _=>ar1 λ_=>rfl)
 have K36:=km (xV F51 N Z TR K31) a51 i51 F51.kp (F51.binds λ_ _ _ _ _ _=>ar1 λ_=>rfl)
 have K37:=km (ya F52 N TR K26 K27 K33) a52 i52 F52.kp (F52.binds λ_ _ _ _ _ _=>ar1 λ_=>rfl)
 have K38:=ky (y4 F55) a55 F55.kp (F55.binds λ_ _ _ _ _ _=>ar1 λ_=>rfl)
 have K39:=kg (vK F54 N K38) amCQ g1CQ g2CQ g3CQ F54.kp (F54.binds λ_ _ _ _ _ _=>ar4 λ_ _ _ _=>rfl)
 have K40:=kc (ye F53 N K39) ⟨mkc1,a53,i53,kpc1⟩ amc1 (F53.binds λ_ _ _ _ _ _=>ar2 λ_ _=>rfl)
 have K41:=kc (yb F56 N K39) ⟨mkc2,a56,i56,kpc2⟩ amc2 (F56.binds λ_ _ _ _ _ _=>ar3 λ_ _ _=>rfl)
 have K42:=kc (yc F57 N K39) ⟨mkc4,a57,i57,kpc4⟩ amc4 (F57.binds λ_ _ _ _ _ _=>ar5 λ_ _ _ _ _=>rfl)
 have K43:=kc (yd F58 N K39) ⟨mkc5,a58,i58,kpc5⟩ amc5 (F58.binds λ_ _ _ _ _ _=>ar5 λ_ _ _ _ _=>rfl)
 have K44:=kc (yg F59 N K39) ⟨mkc6,a59,i59,kpc6⟩ amc6 (F59.binds λ_ _ _ _ _ _=>ar5 λ_ _ _ _ _=>rfl)
 have K45:=ky (sC (c:=(⟨c1,c2,c3,c4,c5,c6,c7,c8⟩:Cs)) F50 N Z (λC hC=>(QB C hC).qu) K36 K32 K37 K31 K40 K41 K42 K43 K44) a50 F50.kp (F50.binds λ_ _ _ _ _ _=>ar2 λ_ _=>rfl)
 have K46:=kc (yf F60 N K39) ⟨mkc3,a60,i60,kpc3⟩ amc3 (F60.binds λ_ _ _ _ _ _=>ar5 λ_ _ _ _ _=>rfl)
 have K47:∀C∈Cs.all (⟨c1,c2,c3,c4,c5,c6,c7,c8⟩:Cs),MV l.prog w K mg base CX0 "text" 1 ["self"] (oR K) C:=λC hC=>⟨(QB C hC).qu.cl,f63,d63,⟨(QB C hC).tx,i63,F63.kp⟩,(xW F63),(F63.binds λ_ _ _ _ _ _=>ar1 λ_=>rfl)⟩
 have K48:∀C∈Cs.all (⟨c1,c2,c3,c4,c5,c6,c7,c8⟩:Cs),MV l.prog w K mg base CX0 "asked_keys" 1 ["self"] (lQ K) C:=λC hC=>⟨(QB C hC).qu.cl,f64,d64,⟨(QB C hC).ak,i64,F64.kp⟩,(vQ F64 N),(F64.binds λ_ _ _ _ _ _=>ar1 λ_=>rfl)⟩
 have K49:∀C∈Cs.all (⟨c1,c2,c3,c4,c5,c6,c7,c8⟩:Cs),MV l.prog w K mg base CX0 "depth" 1 ["self"] (jp K) C:=λC hC=>⟨(QB C hC).qu.cl,f65,d65,⟨(QB C hC).dp,i65,F65.kp⟩,(sF F65),(F65.binds λ_ _ _ _ _ _=>ar1 λ_=>rfl)⟩
 have K50:=kg (vN (c:=(⟨c1,c2,c3,c4,c5,c6,c7,c8⟩:Cs)) F62 N K39 (λC hC=>(QB C hC).qu) K47 K48 K49) amCB g1CB g2CB g3CB F62.kp (F62.binds λ_ _ _ _ _ _=>ar3 λ_ _ _=>rfl)
 have K51:=kc (vL (c:=(⟨c1,c2,c3,c4,c5,c6,c7,c8⟩:Cs)) F61 N K50) ⟨mkc7,a61,i61,kpc7⟩ amc7 (F61.binds λ_ _ _ _ _ _=>ar4 λ_ _ _ _=>rfl)
 have K52:=kc (vM (c:=(⟨c1,c2,c3,c4,c5,c6,c7,c8⟩:Cs)) F66 N K50) ⟨mkc8,a66,i66,kpc8⟩ amc8 (F66.binds λ_ _ _ _ _ _=>ar6 λ_ _ _ _ _ _=>rfl)
 have K53:=km (vF F67 N Z TR K26 K27) a67 i67 F67.kp (F67.binds λ_ _ _ _ _ _=>ar1 λ_=>rfl)
 have K54:=km (sG F68 N TR K26 K27) a68 i68 F68.kp (F68.binds λ_ _ _ _ _ _=>ar1 λ_=>rfl)
 have K55:=ky (AI (c:=(⟨c1,c2,c3,c4,c5,c6,c7,c8⟩:Cs)) F38 (PySem.W.mg_of X G a38) (F38.binds λ_ _ _ _ _ _=>ar1 λ_=>rfl) F39 (PySem.W.mg_of X G a39) (F39.binds λ_ _ _ _ _ _=>ar2 λ_ _=>rfl) N ZT (λC hC=>(QB C hC).qu) K28 K32 K35 K45 K46 K51 K52 K53 K54) a38 F38.kp (F38.binds λ_ _ _ _ _ _=>ar1 λ_=>rfl)
 have K56:=km (AQ F69 N TR) a69 i69 F69.kp (F69.binds λ_ _ _ _ _ _=>ar1 λ_=>rfl)
 have K57:=ky (AH (c:=(⟨c1,c2,c3,c4,c5,c6,c7,c8⟩:Cs)) F36 N K25 K55 K56) a36 F36.kp (F36.binds λ_ _ _ _ _ _=>ar1 λ_=>rfl)
 have K58:=ky (sD F70 N K13) a70 F70.kp (F70.binds λ_ _ _ _ _ _=>ar5 λ_ _ _ _ _=>rfl)
 have K59:=ky (y9 F71 N) a71 F71.kp (F71.binds λ_ _ _ _ _ _=>ar2 λ_ _=>rfl)
 have K60:=ky (pW F72 lkT hC hB) a72 F72.kp (F72.binds λ_ _ _ _ _ _=>ar2 λ_ _=>rfl)
 have K61:=ky (yi (c:=(⟨c1,c2,c3,c4,c5,c6,c7,c8⟩:Cs)) F3 N K8 K10 K19 K21 K24 K20 K57 K58 K59 K60 K13 K17) a3 F3.kp (F3.binds λ_ _ _ _ _ _=>ar1 λ_=>rfl)
 exact AN F1 N K1 K61
theorem walk {l:PySem.W.OpenLaw}{q:Program}{loose:List Str}{XP:(Str->Option Value)->Heap->Prop}{YP:World->Heap->Prop}{d dj:DefRec}{K:Params->PySem.W.Frag}{c L:Addr} (hn:l.most=some 63) (hdf:d.params.defaults=[])
  (hY:∀(w:World) (h:Heap),YP w h->(K w.params).In h)
  (hrj:(PyProof.Rows.recsOf q).find? (λe=>e.name == ("_law_telling" : Str))=some dj) (htab:∀(w:World) (h:Heap),(K w.params).In h->PySem.W.tabIn (K w.params) "_law_telling" = some (c,L)) (hnt:∀(w:World) (h:Heap),(K w.params).In h->PySem.W.noTabs (K w.params)=true)
  (F:∀(w:World) (mg:Str->Option Value) (fa:Addr) (h:Heap),(K w.params).In h->h.Ns mainGlobals mg->mg d.name=some (.ref fa)->
   ∃fd:FuncData,(∀(s:Shared) (u:Value),BindsTo s fd ⟨[u],[]⟩ [("_law_script", u)])/\
    ∀base:Heap,(K w.params).In base->base.Ns mainGlobals mg->PySem.W.CodeHd base c L->base.BuiltinsAt mg L->FnOk l.prog w (K w.params) mg base CX0 15 fa fd ["_law_script"] (qE (K w.params) L)) :
  PySem.W.WalkO q loose XP YP l.row.toRowW d [] (λf vs=>PySem.call f vs):=
 tF (n:=63) (k:=15) (x:="_law_script") (xj:="_law_telling") (sp:=λw=>qE (K w.params) L) hn (by decide) hdf ⟨rfl,by decide,by decide,rfl⟩ hY hrj htab hnt F λw H a ns hl hO hS=>⟨a,ns,rfl,.inl hO.1,hS,hl,λ_=>rfl⟩
end Mine
open PySem PySem.W PyProof.Rows
namespace PySem.W.Fast
theorem tw11511073249903163601:True:=⟨⟩
theorem tw5909498422617276758:True:=⟨⟩
theorem tw995858066483113066:True:=⟨⟩
theorem tw13881884708816199896:True:=⟨⟩
theorem tw16054822117193258817:True:=⟨⟩
theorem tw492968068721786555:True:=⟨⟩
theorem tw17431593049982355444:True:=⟨⟩
theorem tw697677988605684569:True:=⟨⟩
theorem tw6760930993078867392:True:=⟨⟩
theorem tw8725909903511679774:True:=⟨⟩
theorem tw1279663549200786317:True:=⟨⟩
theorem tw5155524707551785922:True:=⟨⟩
theorem tw1526420374725203924:True:=⟨⟩
theorem tw7087155348766276781:True:=⟨⟩
theorem tw6093688374820430461:True:=⟨⟩
theorem tw623453581723960220:True:=⟨⟩
theorem tw17909074873649814642:True:=⟨⟩
theorem tw8411674521766203509:True:=⟨⟩
theorem tw9347647292991663954:True:=⟨⟩
theorem tw14428334340798386606:True:=⟨⟩
theorem tw6182491943253686821:True:=⟨⟩
theorem tw7985427078050170247:True:=⟨⟩
theorem tw4312218995874319553:True:=⟨⟩
theorem tw15473105945747825165:True:=⟨⟩
theorem tw14382479809682002054:True:=⟨⟩
theorem tw5003179231683188407:True:=⟨⟩
theorem tw11355649529851980044:True:=⟨⟩
theorem tw7975114090101981731:True:=⟨⟩
theorem tw7919930960682677842:True:=⟨⟩
theorem tw6849974690079396347:True:=⟨⟩
theorem tw1027384183423822192:True:=⟨⟩
theorem tw8499276138426683398:True:=⟨⟩
theorem tw1712486702549054343:True:=⟨⟩
theorem tw1987661034459913395:True:=⟨⟩
theorem tw17695501948423152418:True:=⟨⟩
theorem tw18400284325274899151:True:=⟨⟩
theorem tw17899033898599298201:True:=⟨⟩
theorem tw15125397981110308198:True:=⟨⟩
theorem tw15585435255412374794:True:=⟨⟩
theorem tw7301293286225833318:True:=⟨⟩
theorem tw4898037540414413682:True:=⟨⟩
theorem tw9330051499863534340:True:=⟨⟩
theorem tw8789930289673043509:True:=⟨⟩
theorem tw13844763769227568628:True:=⟨⟩
theorem tw17459221337610767455:True:=⟨⟩
theorem tw257627153052123830:True:=⟨⟩
theorem tw6208767784400992730:True:=⟨⟩
theorem tw9267845363213477401:True:=⟨⟩
theorem tw17579032616582572667:True:=⟨⟩
theorem tw10843552116288440362:True:=⟨⟩
theorem tw6916251924071239384:True:=⟨⟩
theorem tw4227717066572229026:True:=⟨⟩
theorem tw6566010183428458398:True:=⟨⟩
theorem tw17826226774708417004:True:=⟨⟩
theorem tw16447105161390958229:True:=⟨⟩
theorem tw3705988287328785327:True:=⟨⟩
theorem tw7061417031247233433:True:=⟨⟩
theorem tw1669663026262870340:True:=⟨⟩
theorem tw9943022400200338963:True:=⟨⟩
theorem tw8148178233156853900:True:=⟨⟩
theorem tw4564367240446748178:True:=⟨⟩
theorem tw12615271814146324503:True:=⟨⟩
theorem tw10594208535467982175:True:=⟨⟩
theorem tw10655796717655937673:True:=⟨⟩
theorem tw14018909430127358596:True:=⟨⟩
theorem tw11725099228023407631:True:=⟨⟩
theorem tw6197359205878470264:True:=⟨⟩
theorem tw3296404646795937262:True:=⟨⟩
theorem tw18242093763208581227:True:=⟨⟩
theorem tw3761934952339529953:True:=⟨⟩
theorem tw9933632558708905962:True:=⟨⟩
theorem tw16259902717078152349:True:=⟨⟩
theorem tw12640047337274564530:True:=⟨⟩
theorem tw17646071547100617046:True:=⟨⟩
theorem tw13100163307186464523:True:=⟨⟩
theorem tw4242846407852034430:True:=⟨⟩
theorem tw2748778977909893588:True:=⟨⟩
theorem tw3243477280854570003:True:=⟨⟩
theorem tw8606555239539068507:True:=⟨⟩
theorem tw14264759414247473198:True:=⟨⟩
theorem tw11797602475214878867:True:=⟨⟩
theorem tw14858687063828045227:True:=⟨⟩
theorem tw14113231765638303964:True:=⟨⟩
theorem tw11688459440849050952:True:=⟨⟩
theorem tw7718031800942013042:True:=⟨⟩
theorem tw8621839877666094437:True:=⟨⟩
theorem tw17006372313596856798:True:=⟨⟩
theorem tw1398240645549925375:True:=⟨⟩
theorem tw17126767491041112590:True:=⟨⟩
theorem tw17353996157263904483:True:=⟨⟩
theorem tw1784067115103048845:True:=⟨⟩
theorem tw13141462839867792078:True:=⟨⟩
theorem tw6123508927778132507:True:=⟨⟩
theorem tw16264971246042968506:True:=⟨⟩
theorem tw12189278487590353652:True:=⟨⟩
theorem tw2576502583769318746:True:=⟨⟩
theorem tw9288249824620957188:True:=⟨⟩
theorem tw5881706237390329451:True:=⟨⟩
theorem tw4008536088142025780:True:=⟨⟩
theorem tw14793996643869560934:True:=⟨⟩
theorem tw13196827048008399926:True:=⟨⟩
theorem tw16789758711840080132:True:=⟨⟩
theorem tw612403811631022563:True:=⟨⟩
theorem tw11971303518437749801:True:=⟨⟩
theorem tw4399387855972171498:True:=⟨⟩
theorem tw5561607894764906125:True:=⟨⟩
theorem tw10876610969433295417:True:=⟨⟩
theorem tw8317058960135299453:True:=⟨⟩
theorem tw10324736742946996726:True:=⟨⟩
theorem tw5956110611298951105:True:=⟨⟩
theorem tw9276630477822127245:True:=⟨⟩
theorem tw11130255694765877032:True:=⟨⟩
theorem tw12086936291105206478:True:=⟨⟩
theorem tw3713986158207175101:True:=⟨⟩
theorem tw3037157173389638318:True:=⟨⟩
theorem tw9408621398907118117:True:=⟨⟩
theorem tw16518913858839890300:True:=⟨⟩
theorem tw15206004607623106889:True:=⟨⟩
theorem tw12784949896073764132:True:=⟨⟩
theorem tw5484119148735909418:True:=⟨⟩
theorem tw12848219203990451291:True:=⟨⟩
theorem tw15879675107261283661:True:=⟨⟩
theorem tw10715613443991640241:True:=⟨⟩
theorem tw5937112491769964790:True:=⟨⟩
theorem tw10716273166106913818:True:=⟨⟩
theorem tw17143579237641652654:True:=⟨⟩
theorem tw11714785057747690038:True:=⟨⟩
theorem tw15992750551080135409:True:=⟨⟩
theorem tw10710130508215621726:True:=⟨⟩
theorem tw1347070666184472948:True:=⟨⟩
theorem tw12448775649807551257:True:=⟨⟩
theorem tw12047395061133762545:True:=⟨⟩
theorem tw9881480943795576263:True:=⟨⟩
theorem tw6373639715688281851:True:=⟨⟩
theorem tw10513723208937093311:True:=⟨⟩
theorem tw17761182707141983127:True:=⟨⟩
theorem tw10877222816623945488:True:=⟨⟩
theorem tw13306922805041788126:True:=⟨⟩
theorem tw10327932515673795956:True:=⟨⟩
theorem tw4946737979136822475:True:=⟨⟩
theorem tw10459835863678561580:True:=⟨⟩
theorem tw14369854405190593809:True:=⟨⟩
theorem tw5346159886271570274:True:=⟨⟩
theorem tw13373653867558851371:True:=⟨⟩
theorem tw1031145781507380231:True:=⟨⟩
theorem tw13599283341020600922:True:=⟨⟩
theorem tw16693483999127604899:True:=⟨⟩
theorem tw10559207544584808755:True:=⟨⟩
theorem tw15002421438168896585:True:=⟨⟩
theorem tw4133688855902141235:True:=⟨⟩
theorem tw4599803683599765292:True:=⟨⟩
theorem tw4095958101875398840:True:=⟨⟩
theorem tw13451956967255304047:True:=⟨⟩
theorem tw17325778131319021030:True:=⟨⟩
theorem tw16632850895442362162:True:=⟨⟩
theorem tw13911124850041426952:True:=⟨⟩
theorem tw6273479236891529420:True:=⟨⟩
theorem tw7041998302427944265:True:=⟨⟩
theorem tw11191863183704401593:True:=⟨⟩
theorem tw1688153757542449657:True:=⟨⟩
theorem tw12579446479676395557:True:=⟨⟩
theorem tw8157260534942851629:True:=⟨⟩
theorem tw4353803359165808754:True:=⟨⟩
theorem tw12621800773467385085:True:=⟨⟩
theorem tw1243149238244791942:True:=⟨⟩
theorem tw15408339485208497880:True:=⟨⟩
theorem tw3435244895371208208:True:=⟨⟩
theorem tw17426000840861168708:True:=⟨⟩
theorem tw1354334615716208614:True:=⟨⟩
theorem tw9967535800188021114:True:=⟨⟩
theorem tw10034102181346563056:True:=⟨⟩
theorem tw6081337279043155564:True:=⟨⟩
theorem tw11194054486125436603:True:=⟨⟩
theorem tw3851652542650181265:True:=⟨⟩
theorem tw9385074635410662417:True:=⟨⟩
theorem tw35000775687865786:True:=⟨⟩
theorem tw10595399645834784774:True:=⟨⟩
theorem tw14454457900682199524:True:=⟨⟩
theorem tw18062691448850179199:True:=⟨⟩
theorem tw7903132780429407498:True:=⟨⟩
theorem tw2090307245661055181:True:=⟨⟩
theorem tw9497652567707489387:True:=⟨⟩
theorem tw12615795456403262397:True:=⟨⟩
theorem tw2370886292116991936:True:=⟨⟩
theorem tw12437017598991646708:True:=⟨⟩
theorem tw8570506963412541775:True:=⟨⟩
theorem tw10958024965830278631:True:=⟨⟩
theorem tw2857741824073921273:True:=⟨⟩
theorem tw5793348745785814337:True:=⟨⟩
theorem tw10254939805639117075:True:=⟨⟩
theorem tw12864462855989479120:True:=⟨⟩
theorem tw3806085326054787506:True:=⟨⟩
theorem tw12375243116908937130:True:=⟨⟩
theorem tw105349381494639722:True:=⟨⟩
theorem tw3835131773865119156:True:=⟨⟩
theorem tw12441378482060733392:True:=⟨⟩
theorem tw2479160844386405174:True:=⟨⟩
theorem tw10991545441418433569:True:=⟨⟩
theorem tw13689924305057079848:True:=⟨⟩
theorem tw8256535136903355170:True:=⟨⟩
theorem tw6655756736795709478:True:=⟨⟩
theorem tw15436961589754626057:True:=⟨⟩
theorem tw7255420915866376311:True:=⟨⟩
theorem tw14818571681222493452:True:=⟨⟩
theorem tw11830110694915584924:True:=⟨⟩
theorem tw16800276137344335009:True:=⟨⟩
theorem tw4346662687443557371:True:=⟨⟩
theorem tw4725870195949254672:True:=⟨⟩
theorem tw2755333267420190682:True:=⟨⟩
theorem tw1488073732277847629:True:=⟨⟩
theorem tw14925414072973592872:True:=⟨⟩
theorem tw1353373035275818809:True:=⟨⟩
theorem tw15818829865160346904:True:=⟨⟩
theorem tw3325915470432001191:True:=⟨⟩
theorem tw10293854937116695411:True:=⟨⟩
theorem tw9185175816557122632:True:=⟨⟩
theorem tw9332728200507427174:True:=⟨⟩
theorem tw13392640687777336598:True:=⟨⟩
theorem tw8875880415596938134:True:=⟨⟩
theorem tw11065691764073031786:True:=⟨⟩
theorem tw3088730016959805284:True:=⟨⟩
theorem tw4896336690530288728:True:=⟨⟩
theorem tw1349148990865003559:True:=⟨⟩
theorem tw14632844010885102655:True:=⟨⟩
theorem tw15628819140129967440:True:=⟨⟩
theorem tw9123890119264365687:True:=⟨⟩
theorem tw517749411045783258:True:=⟨⟩
theorem tw7647018468305503092:True:=⟨⟩
theorem tw5998863353469516110:True:=⟨⟩
theorem tw3011203531517163358:True:=⟨⟩
theorem tw4818813680665268313:True:=⟨⟩
theorem tw165591707754559082:True:=⟨⟩
theorem tw4182033698962277843:True:=⟨⟩
theorem tw16947895102882702749:True:=⟨⟩
theorem tw11219602017664643203:True:=⟨⟩
theorem tw3026885403650246877:True:=⟨⟩
theorem tw1193702220121045214:True:=⟨⟩
theorem tw16053986777274151238:True:=⟨⟩
theorem tw11720081749522513612:True:=⟨⟩
theorem tw9947721684503522521:True:=⟨⟩
theorem tw10036362936005124218:True:=⟨⟩
theorem tw5349242713339003046:True:=⟨⟩
theorem tw13492404550150133086:True:=⟨⟩
theorem tw16601732361251609658:True:=⟨⟩
theorem tw13980967264261600073:True:=⟨⟩
theorem tw202896901743420691:True:=⟨⟩
theorem tw5755361634079110605:True:=⟨⟩
theorem tw17260136999225260292:True:=⟨⟩
theorem tw18128520471247515443:True:=⟨⟩
theorem tw9796234479331070476:True:=⟨⟩
theorem tw13508201095236384217:True:=⟨⟩
theorem tw18220954114284749149:True:=⟨⟩
theorem tw17748072856536126609:True:=⟨⟩
theorem tw5079421379036229820:True:=⟨⟩
theorem tw8972120552686684495:True:=⟨⟩
theorem tw533634102426118352:True:=⟨⟩
theorem tw14725254848649343456:True:=⟨⟩
theorem tw12311220853139664015:True:=⟨⟩
theorem tw7353344320647082210:True:=⟨⟩
theorem tw11069094860785928605:True:=⟨⟩
theorem tw17642174453089153532:True:=⟨⟩
theorem tw9078740589418717609:True:=⟨⟩
theorem tw9982418981496717101:True:=⟨⟩
theorem tw17954848456322301926:True:=⟨⟩
theorem tw7566250180098951189:True:=⟨⟩
theorem tw1587262346896144172:True:=⟨⟩
theorem tw13728021528941278301:True:=⟨⟩
theorem tw5556597335959009117:True:=⟨⟩
theorem tw13004384172246293411:True:=⟨⟩
theorem tw1328926868269355881:True:=⟨⟩
theorem tw13795193524321805803:True:=⟨⟩
theorem tw5399543681134901715:True:=⟨⟩
theorem tw12072913297105794936:True:=⟨⟩
theorem tw7999926552877958513:True:=⟨⟩
theorem tw10597703936276546939:True:=⟨⟩
theorem tw8459778429333301252:True:=⟨⟩
theorem tw6288511995994521249:True:=⟨⟩
theorem tw2598158186437052177:True:=⟨⟩
theorem tw8174578886440008361:True:=⟨⟩
theorem tw17291974423393145547:True:=⟨⟩
theorem tw6407900032687343378:True:=⟨⟩
theorem tw1533803047188241254:True:=⟨⟩
theorem tw885815585527314259:True:=⟨⟩
theorem tw7543150023641219645:True:=⟨⟩
theorem tw13924798353295175693:True:=⟨⟩
theorem tw17625486404879037758:True:=⟨⟩
theorem tw12560485772827779760:True:=⟨⟩
theorem tw6198980971479616256:True:=⟨⟩
theorem tw5415592801588324211:True:=⟨⟩
theorem tw1056908476566680017:True:=⟨⟩
theorem tw9433134591660844409:True:=⟨⟩
theorem tw4919657768015100072:True:=⟨⟩
theorem tw13180654909642038408:True:=⟨⟩
theorem tw11474730538052900537:True:=⟨⟩
theorem tw7997270854526335606:True:=⟨⟩
theorem tw9336795517698557607:True:=⟨⟩
theorem tw18137534668464849374:True:=⟨⟩
theorem tw15092666075048274152:True:=⟨⟩
theorem tw8097766066352756972:True:=⟨⟩
theorem tw13850922920343329101:True:=⟨⟩
theorem tw5202887062744653786:True:=⟨⟩
theorem tw62929986506409753:True:=⟨⟩
theorem tw17257208071561822968:True:=⟨⟩
theorem tw3407845365430939043:True:=⟨⟩
theorem tw12346572277987494579:True:=⟨⟩
theorem tw5602608925232616965:True:=⟨⟩
theorem tw7983971851712855540:True:=⟨⟩
theorem tw9471589637196897688:True:=⟨⟩
theorem tw14597054312516273666:True:=⟨⟩
theorem tw3510525290204973590:True:=⟨⟩
theorem tw16087266079023042497:True:=⟨⟩
theorem tw7674595312038915375:True:=⟨⟩
theorem tw9083238800499083258:True:=⟨⟩
theorem tw14763142368579817997:True:=⟨⟩
theorem tw15644009529469994896:True:=⟨⟩
theorem tw8889406285283467718:True:=⟨⟩
theorem tw17071155530672226540:True:=⟨⟩
theorem tw662991822990759912:True:=⟨⟩
theorem tw13193827757245403595:True:=⟨⟩
theorem tw18342343223078055707:True:=⟨⟩
theorem tw14257057968400199330:True:=⟨⟩
theorem tw13798342523720172176:True:=⟨⟩
theorem tw11688625451126380770:True:=⟨⟩
theorem tw15957133751562656635:True:=⟨⟩
theorem tw16661226190707654247:True:=⟨⟩
theorem tw10537309415153751779:True:=⟨⟩
theorem tw10114051394522380671:True:=⟨⟩
theorem tw14532357391586386220:True:=⟨⟩
theorem tw15564586207879180175:True:=⟨⟩
theorem tw12859961929075073202:True:=⟨⟩
theorem tw17544768576476892026:True:=⟨⟩
theorem tw8328642018411553811:True:=⟨⟩
theorem tw13584895773015783721:True:=⟨⟩
theorem tw7994268235922152964:True:=⟨⟩
theorem tw10600919936075729115:True:=⟨⟩
theorem tw591162309154808909:True:=⟨⟩
theorem tw11454035615510230235:True:=⟨⟩
theorem tw17614867726861306589:True:=⟨⟩
theorem tw8583627519927573939:True:=⟨⟩
theorem tw12433373388883389200:True:=⟨⟩
theorem tw15449119256082247872:True:=⟨⟩
end PySem.W.Fast
set_option maxRecDepth 100000 in
set_option maxHeartbeats 0 in
theorem PySem.Challenge.cw_unsaybook_k36_whole_by_what_was_read_alo_holds : PySem.Challenge.rw_unsaybook_k36_whole_by_what_was_read_alo.Holds := by
 w_on;o_law;k_head;(case hw=>w_witness2)
 k_fill
 refine' Mine.walk (l:=PySem.Challenge.rw_unsaybook_k36_whole_by_what_was_read_alo) (L:=631) rfl rfl (λw h Y=>PySem.W.km_in_of Y) ?hrj ?htab ?hnt ?F
 case hrj=>exact rfl
 case F=>
  intro w mg fa h KX G hmg
  refine' Mine.all_mk KX G hmg ?amR ?amCQ ?amCB ?amc1 ?amc2 ?amc3 ?amc4 ?amc5 ?amc6 ?amc7 ?amc8 ?a1 (L2.fun_mk ?l1 ?e1 ?k1) ?a2 (L2.fun_mk ?l2 ?e2 ?k2) ?a3 (L2.fun_mk ?l3 ?e3 ?k3) ?a4 ?i4 (L2.fun_mk ?l4 ?e4 ?k4) ?a5 ?i5 (L2.fun_mk ?l5 ?e5 ?k5) ?a6 ?i6 (L2.fun_mk ?l6 ?e6 ?k6) ?a7 (L2.fun_mk ?l7 ?e7 ?k7) ?a8 (L2.fun_mk ?l8 ?e8 ?k8) ?a9 ?i9 (L2.fun_mk ?l9 ?e9 ?k9) ?a10 ?i10 (L2.fun_mk ?l10 ?e10 ?k10) ?a11 ?i11 (L2.fun_mk ?l11 ?e11 ?k11) ?a12 ?i12 (L2.fun_mk ?l12 ?e12 ?k12) ?a13 (L2.fun_mk ?l13 ?e13 ?k13) ?a14 (L2.fun_mk ?l14 ?e14 ?k14) ?a15 ?i15 (L2.fun_mk ?l15 ?e15 ?k15) ?a16 ?i16 (L2.fun_mk ?l16 ?e16 ?k16) ?a17 ?i17 (L2.fun_mk ?l17 ?e17 ?k17) ?a18 ?i18 (L2.fun_mk ?l18 ?e18 ?k18) ?a19 ?i19 (L2.fun_mk ?l19 ?e19 ?k19) ?a20 ?i20 (L2.fun_mk ?l20 ?e20 ?k20) ?a21 ?i21 (L2.fun_mk ?l21 ?e21 ?k21) ?a22 (L2.fun_mk ?l22 ?e22 ?k22) ?a23 (L2.fun_mk ?l23 ?e23 ?k23) ?a24 (L2.fun_mk ?l24 ?e24 ?k24) ?a25 (L2.fun_mk ?l25 ?e25 ?k25) ?a26 (L2.fun_mk ?l26 ?e26 ?k26) ?a27 (L2.fun_mk ?l27 ?e27 ?k27) ?a28 (L2.fun_mk ?l28 ?e28 ?k28) ?a29 (L2.fun_mk ?l29 ?e29 ?k29) ?a30 (L2.fun_mk ?l30 ?e30 ?k30) ?a31 (L2.fun_mk ?l31 ?e31 ?k31) ?a32 (L2.fun_mk ?l32 ?e32 ?k32) ?a33 (L2.fun_mk ?l33 ?e33 ?k33) ?a34 (L2.fun_mk ?l34 ?e34 ?k34) ?a35 (L2.fun_mk ?l35 ?e35 ?k35) ?a36 (L2.fun_mk ?l36 ?e36 ?k36) ?a37 ?i37 (L2.fun_mk ?l37 ?e37 ?k37) ?a38 (L2.fun_mk ?l38 ?e38 ?k38) ?a39 (L2.fun_mk ?l39 ?e39 ?k39) ?a40 ?i40 (L2.fun_mk ?l40 ?e40 ?k40) ?a41 ?i41 (L2.fun_mk ?l41 ?e41 ?k41) ?a42 ?i42 (L2.fun_mk ?l42 ?e42 ?k42) ?a43 ?i43 (L2.fun_mk ?l43 ?e43 ?k43) ?a44 ?i44 (L2.fun_mk ?l44 ?e44 ?k44) ?a45 (L2.fun_mk ?l45 ?e45 ?k45) ?a46 (L2.fun_mk ?l46 ?e46 ?k46) ?a47 ?i47 (L2.fun_mk ?l47 ?e47 ?k47) ?a48 (L2.fun_mk ?l48 ?e48 ?k48) ?a49 (L2.fun_mk ?l49 ?e49 ?k49) ?a50 (L2.fun_mk ?l50 ?e50 ?k50) ?a51 ?i51 (L2.fun_mk ?l51 ?e51 ?k51) ?a52 ?i52 (L2.fun_mk ?l52 ?e52 ?k52) ?a53 ?i53 (L2.fun_mk ?l53 ?e53 ?k53) ?a54 ?i54 (L2.fun_mk ?l54 ?e54 ?k54) ?a55 (L2.fun_mk ?l55 ?e55 ?k55) ?a56 ?i56 (L2.fun_mk ?l56 ?e56 ?k56) ?a57 ?i57 (L2.fun_mk ?l57 ?e57 ?k57) ?a58 ?i58 (L2.fun_mk ?l58 ?e58 ?k58) ?a59 ?i59 (L2.fun_mk ?l59 ?e59 ?k59) ?a60 ?i60 (L2.fun_mk ?l60 ?e60 ?k60) ?a61 ?i61 (L2.fun_mk ?l61 ?e61 ?k61) ?a62 ?i62 (L2.fun_mk ?l62 ?e62 ?k62) ?a63 ?i63 (L2.fun_mk ?l63 ?e63 ?k63) ?a64 ?i64 (L2.fun_mk ?l64 ?e64 ?k64) ?a65 ?i65 (L2.fun_mk ?l65 ?e65 ?k65) ?a66 ?i66 (L2.fun_mk ?l66 ?e66 ?k66) ?a67 ?i67 (L2.fun_mk ?l67 ?e67 ?k67) ?a68 ?i68 (L2.fun_mk ?l68 ?e68 ?k68) ?a69 ?i69 (L2.fun_mk ?l69 ?e69 ?k69) ?a70 (L2.fun_mk ?l70 ?e70 ?k70) ?a71 (L2.fun_mk ?l71 ?e71 ?k71) ?a72 (L2.fun_mk ?l72 ?e72 ?k72) ?lkT ?wread1 ?wread2 ?wread3 ?wread5 ?mkR ?kpR ?mkc1 ?kpc1 ?mkc2 ?kpc2 ?mkc3 ?kpc3 ?mkc4 ?kpc4 ?mkc5 ?kpc5 ?mkc6 ?kpc6 ?mkc7 ?kpc7 ?mkc8 ?kpc8 ⟨⟨?pg,?hd,?po,?sa⟩,?nn1,?nn2,?nn3⟩ ?g1CQ ?g2CQ ?g3CQ ?g1CB ?g2CB ?g3CB ?tyn ?tyk ?qb1 ?qb2 ?qb3 ?qb4 ?qb5 ?qb6 ?qb7 ?qb8 ?tn1 ?tb1 ?tn2 ?tb2 ?tn3 ?tb3 ?tn4 ?tb4 ?q1 ?q2 ?q3 ?q4 ?q5 ?q6 ?q7 ?q8 ?q9 ?z1 ?z2 ?z3 ?z4 ?z5 ?z6 ?z7 ?z8 ?z9 ?z10 ?z11 ?z12 ?z13 ?z14 ?z15 ?z16 ?z17 ?z18
  case amR | amCQ | amCB | amc1 | amc2 | amc3 | amc4 | amc5 | amc6 | amc7 | amc8 | a1 | l1 | e1 | k1 | a2 | l2 | e2 | k2 | a3 | l3 | e3 | k3 | a4 | i4 | l4 | e4 | k4 | a5 | i5 | l5 | e5 | k5 | a6 | i6 | l6 | e6 | k6 | a7 | l7 | e7 | k7 | a8 | l8 | e8 | k8 | a9 | i9 | l9 | e9 | k9 | a10 | i10 | l10 | e10 | k10 | a11 | i11 | l11 | e11 | k11 | a12 | i12 | l12 | e12 | k12 | a13 | l13 | e13 | k13 | a14 | l14 | e14 | k14 | a15 | i15 | l15 | e15 | k15 | a16 | i16 | l16 | e16 | k16 | a17 | i17 | l17 | e17 | k17 | a18 | i18 | l18 | e18 | k18 | a19 | i19 | l19 | e19 | k19 | a20 | i20 | l20 | e20 | k20 | a21 | i21 | l21 | e21 | k21 | a22 | l22 | e22 | k22 | a23 | l23 | e23 | k23 | a24 | l24 | e24 | k24 | a25 | l25 | e25 | k25 | a26 | l26 | e26 | k26 | a27 | l27 | e27 | k27 | a28 | l28 | e28 | k28 | a29 | l29 | e29 | k29 | a30 | l30 | e30 | k30 | a31 | l31 | e31 | k31 | a32 | l32 | e32 | k32 | a33 | l33 | e33 | k33 | a34 | l34 | e34 | k34 | a35 | l35 | e35 | k35 | a36 | l36 | e36 | k36 | a37 | i37 | l37 | e37 | k37 | a38 | l38 | e38 | k38 | a39 | l39 | e39 | k39 | a40 | i40 | l40 | e40 | k40 | a41 | i41 | l41 | e41 | k41 | a42 | i42 | l42 | e42 | k42 | a43 | i43 | l43 | e43 | k43 | a44 | i44 | l44 | e44 | k44 | a45 | l45 | e45 | k45 | a46 | l46 | e46 | k46 | a47 | i47 | l47 | e47 | k47 | a48 | l48 | e48 | k48 | a49 | l49 | e49 | k49 | a50 | l50 | e50 | k50 | a51 | i51 | l51 | e51 | k51 | a52 | i52 | l52 | e52 | k52 | a53 | i53 | l53 | e53 | k53 | a54 | i54 | l54 | e54 | k54 | a55 | l55 | e55 | k55 | a56 | i56 | l56 | e56 | k56 | a57 | i57 | l57 | e57 | k57 | a58 | i58 | l58 | e58 | k58 | a59 | i59 | l59 | e59 | k59 | a60 | i60 | l60 | e60 | k60 | a61 | i61 | l61 | e61 | k61 | a62 | i62 | l62 | e62 | k62 | a63 | i63 | l63 | e63 | k63 | a64 | i64 | l64 | e64 | k64 | a65 | i65 | l65 | e65 | k65 | a66 | i66 | l66 | e66 | k66 | a67 | i67 | l67 | e67 | k67 | a68 | i68 | l68 | e68 | k68 | a69 | i69 | l69 | e69 | k69 | a70 | l70 | e70 | k70 | a71 | l71 | e71 | k71 | a72 | l72 | e72 | k72 | lkT | wread1 | wread2 | wread3 | wread5 | mkR | kpR | mkc1 | kpc1 | mkc2 | kpc2 | mkc3 | kpc3 | mkc4 | kpc4 | mkc5 | kpc5 | mkc6 | kpc6 | mkc7 | kpc7 | mkc8 | kpc8 | pg | hd | po | sa | nn1 | nn2 | nn3 | g1CQ | g2CQ | g3CQ | g1CB | g2CB | g3CB | tyn | tyk | tn1 | tn2 | tn3 | tn4 | q1 | q2 | q3 | q4 | q5 | q6 | q7 | q8 | q9 | z1 | z2 | z3 | z4 | z5 | z6 | z7 | z8 | z9 | z10 | z11 | z12 | z13 | z14 | z15 | z16 | z17 | z18=>first | k_is | (unfold L2.NoAttr;k_is)
  case qb1 | qb2 | qb3 | qb4 | qb5 | qb6 | qb7 | qb8 | tb1 | tb2 | tb3 | tb4=>kernel_rfl
 case htab=>intro w h KX;kernel_rfl
 case hnt=>intro w h KX;kernel_rfl
