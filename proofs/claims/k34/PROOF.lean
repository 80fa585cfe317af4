import PyProof.Rows.All
import Wide.All
import OpenK.AllK
import Wide.FinOn
import Lean
import PyProof.EqAt
import PyProof.EqKinds
import PyProof.TupleCall
import KE.IntTextText
import PyProof.SeqI3
import KE.KSortTup
import KE.KMinKey
import PySem.Challenge.RW_unsaybook_k34_since_part_and_change
set_option Elab.async false
set_option linter.all false
set_option maxRecDepth 100000
local macro_rules|`(‹0›)=>`(by decide +kernel)
local macro_rules|`(‹1›)=>`(by omega)
local macro_rules|`(‹$s:str›)=>`(PySem.Str.ofString $s)
local macro_rules|`(‹2›)=>`(⟨rfl,rfl,rfl,by decide +kernel,rfl,by decide +kernel,by decide +kernel⟩)
local macro_rules|`(‹($k,$f,$s:str)›)=>`(PySem.W.nsIn $k PySem.mainGlobals $s = some (some (PySem.Value.ref $f)))
local macro_rules|`(‹($k,$c,$f,$s:str)›)=>`(PySem.W.findIn $k (PySem.Value.ref $c) $s = some (some (PySem.Value.ref $f)))
local macro_rules|`(‹[$k,$f]›)=>`(PySem.W.isFn $k (PySem.Value.ref $f) = true)
open PySem PySem.Spec PyProof.Rows in abbrev zB0:=@wpAny_bind
open PySem PySem.Spec PyProof.Rows in abbrev zP0:=@wpAny_pure
open PySem PySem.Spec PyProof.Rows in abbrev zH0:=@Heap.get?_push_of_some
namespace L2
open PySem PySem.Spec PyProof.Rows
noncomputable abbrev Key:=Sum Int Str
noncomputable def gc:Key->Value->Bool
 | .inl k,v=>Value.isInt k v
 | .inr x,v=>Value.isStrOf x v
noncomputable def Co (w:World):Key->Int
 | .inl k=>hashInt k
 | .inr x=>hashStr w x
theorem keyIs_shape:∀{k:Key}{v:Value},gc k v=true->(∃i t,k=Sum.inl i/\v=Value.int i t)\/(∃x t,k=Sum.inr x/\v=Value.str x t)
 | .inl i,v,h=>by
  obtain⟨t,e⟩:=Value.isInt_shape (k:=i) (v:=v) h
  exact .inl ⟨i,t,rfl,e⟩
 | .inr x,v,h=>by
  obtain⟨t,e⟩:=Value.isStrOf_shape (x:=x) (v:=v) h
  exact .inr ⟨x,t,rfl,e⟩
theorem sU (i:Int) (t:Tok):gc (.inl i) (.int i t)=true:=by simp [gc,Value.isInt]
theorem sT (x:Str) (t:Tok):gc (.inr x) (.str x t)=true:=by simp [gc,Value.isStrOf]
theorem AI (a b:Int):decide ((Sum.inl a:Key)=Sum.inl b)=(a == b):=by
 by_cases e:a=b
 ·subst e;simp
 ·have h:¬(Sum.inl a:Key)=Sum.inl b:=λq=>e (Sum.inl.inj q)
  rw [decide_eq_false h]
  exact(beq_eq_false_iff_ne.mpr e).symm
theorem AF (a b:Str):decide ((Sum.inr a:Key)=Sum.inr b)=decide (a=b):=by
 by_cases e:a=b
 ·subst e;simp
 ·have h:¬(Sum.inr a:Key)=Sum.inr b:=λq=>e (Sum.inr.inj q)
  rw [decide_eq_false h,decide_eq_false e]
theorem AH (a:Int) (b:Str):decide ((Sum.inl a:Key)=Sum.inr b)=false:=decide_eq_false (λq=>nomatch q)
theorem AG (a:Str) (b:Int):decide ((Sum.inr a:Key)=Sum.inl b)=false:=decide_eq_false (λq=>nomatch q)
noncomputable def aG (prog:Program) (w:World):PySem.KeyKind prog w Key where
 is:=gc
 hash:=Co w
 inj:=λv a b ha hb=>by
  rcases keyIs_shape ha with⟨i,t,rfl,rfl⟩ | ⟨x,t,rfl,rfl⟩
  ·rcases keyIs_shape hb with⟨j,u,rfl,e⟩ | ⟨y,u,rfl,e⟩
   ·injection e with e1 _;rw [e1]
   ·exact nomatch e
  ·rcases keyIs_shape hb with⟨j,u,rfl,e⟩ | ⟨y,u,rfl,e⟩
   ·exact nomatch e
   ·injection e with e1 _;rw [e1]
 byValue:=λk v h=>by
  rcases keyIs_shape h with⟨i,t,rfl,rfl⟩ | ⟨x,t,rfl,rfl⟩ <;> rfl
 pyHash:=λhv h=>by
  rcases keyIs_shape hv with⟨i,t,rfl,rfl⟩ | ⟨x,t,rfl,rfl⟩
  ·exact wpAny_pyHash_int h
  ·exact wpAny_pyHash_str h
 eqBool:=λhu hv h=>by
  rcases keyIs_shape hu with⟨i,t,rfl,rfl⟩ | ⟨x,t,rfl,rfl⟩
  ·rcases keyIs_shape hv with⟨j,u,rfl,rfl⟩ | ⟨y,u,rfl,rfl⟩
   ·rw [AI]at h;exact wpAny_eqBool_int h
   ·rw [AH]at h;exact SeqAt.EqAt.int_str i t y u _ _ _ _ h
  ·rcases keyIs_shape hv with⟨j,u,rfl,rfl⟩ | ⟨y,u,rfl,rfl⟩
   ·rw [AG]at h;exact SeqAt.EqAt.str_int x t j u _ _ _ _ h
   ·rw [AF]at h;exact wpAny_eqBool_str h
 «strs»:=λk x t v h=>by
  rcases keyIs_shape h with⟨i,u,rfl,e⟩ | ⟨y,u,rfl,e⟩
  ·exact nomatch e
  ·injection e with e1 _
   subst e1
   cases v <;> rfl
theorem on (prog:Program) (w:World) (i:Int) (t:Tok):(aG prog w).is (.inl i) (.int i t)=true:=sU i t
theorem om (prog:Program) (w:World) (x:Str) (t:Tok):(aG prog w).is (.inr x) (.str x t)=true:=sT x t
inductive V where
 | non | bl (b:Bool) | int (i:Int) | str (x:Str) | byt (b:Array UInt8) | flt (b:UInt64) | ref (a:Addr) | ty (n:String)
 deriving DecidableEq
noncomputable def aW:V->Value->Prop
 | .non,u=>u=Value.none
 | .bl b,u=>u=Value.bool b
 | .int i,u=>∃t,u=Value.int i t
 | .str x,u=>∃t,u=Value.str x t
 | .byt b,u=>∃t,u=Value.bytes b t
 | .flt b,u=>∃t,u=Value.float b t
 | .ref a,u=>u=Value.ref a
 | .ty n,u=>u=Value.type n
noncomputable abbrev aU:List V->List Value->Prop:=Paired aW
theorem aU.length {xs:List V}{us:List Value} (r:aU xs us):xs.length=us.length:=Paired.length r
theorem aU.get:∀{xs:List V}{us:List Value}{i:Nat}{x:V},aU xs us->xs[i]?=some x->∃u,us[i]?=some u/\aW x u
 | _,_,_,_,.nil,e=>by simp at e
 | _,_,0,_,.cons r _,e=>by simp at e;subst e;exact⟨_,rfl,r⟩
 | _,_,i+1,x,.cons _ t,e=>by
  obtain⟨u,h1,h2⟩:=aU.get (i:=i) (x:=x) t (by simpa using e)
  exact⟨u,by simpa using h1,h2⟩
theorem aU.set {x:V}{u:Value} (r:aW x u):∀{xs:List V}{us:List Value} (i:Nat),aU xs us->aU (xs.set i x) (us.set i u)
 | _,_,_,.nil=>.nil
 | _,_,0,.cons _ t=>.cons r t
 | _,_,i+1,.cons q t=>.cons q (aU.set r i t)
theorem aU.append:∀{xs ys:List V}{us ws:List Value},aU xs us->aU ys ws->aU (xs++ys) (us++ws)
 | _,_,_,_,.nil,s=>s
 | _,_,_,_,.cons r t,s=>.cons r (aU.append t s)
theorem aU.take:∀{xs:List V}{us:List Value} (n:Nat),aU xs us->aU (xs.take n) (us.take n)
 | _,_,0,_=>.nil
 | _,_,_+1,.nil=>.nil
 | _,_,n+1,.cons r t=>.cons r (aU.take n t)
theorem aU.drop:∀{xs:List V}{us:List Value} (n:Nat),aU xs us->aU (xs.drop n) (us.drop n)
 | _,_,0,r=>r
 | _,_,_+1,.nil=>.nil
 | _,_,n+1,.cons _ t=>aU.drop n t
noncomputable def fc:Option V->Option Value->Prop
 | some v,some u=>aW v u
 | none,none=>True
 | _,_=>False
noncomputable def KV {κ:Type}:List (κ × V)->List (κ × Value)->Prop:=Paired λ(p:κ × V) (q:κ × Value)=>p.1=q.1/\aW p.2 q.2
noncomputable def kV:Key->V
 | .inl i=>.int i
 | .inr x=>.str x
inductive HO where
 /-- a list -/
 | lst (xs:List V)
 /-- a tuple (never changes) -/
 | tup (xs:List V)
 /-- a dict whose keys are ints and texts;one whose keys are tuples of ints and texts (the empty one is both) -/
 | dK (kvs:List (Key × V)) | dT (kvs:List (List Key × V))
 /-- a set of ints: its members,its size -/
 | set (S:Int->Bool) (n:Nat)
 /-- an instance of the class at C,its dict at dx,its attributes -/
 | ins (C dx:Addr) (fs:List (Str × V))
 /-- the dict of the instance at x -/
 | own (x:Addr)
 /-- the dict of an exception -/
 | xd (fs:List (Str × V))
 /-- a bound method,f of x -/
 | met (f x:Addr)
 /-- a range object lo,lo+1,.. below hi -/
 | rng (lo hi:Int)
 /-- a thing that is known to the object (the script;a dict while a loop walks it): read,never written while it is so -/
 | frz (o:Obj) (u:HO)
 /-- a code object's table -/
 | tbl (ps:Array Value)
 /-- any other thing,by what is true of its one object (a def of one's own: SetO a S n:=HO.ext λh=>..) -/
 | ext (φ:Heap->Prop)
noncomputable abbrev Hp:=Addr->Option HO
noncomputable def upd (H:Hp) (a:Addr) (o:HO):Hp:=λb=>if b=a then some o else H b
theorem ai {H:Hp}{a:Addr}{o:HO}:upd H a o a=some o:=by unfold upd;rw [if_pos rfl]
theorem ah {H:Hp}{a b:Addr}{o:HO} (h:b≠a):upd H a o b=H b:=by unfold upd;rw [if_neg h]
theorem bE {H:Hp}{a:Addr}{o u:HO}:upd (upd H a o) a u=upd H a u:=by
 funext b;unfold upd;split <;> rfl
theorem cQ {H:Hp}{a b:Addr}{o u:HO} (h:H a=some o) (h':H b=some u) (d:o≠u):a≠b:=by
 intro e;subst e;rw [h]at h';exact d (Option.some.inj h')
theorem ao {H:Hp}{a b:Addr}{o:HO} (h:H a=some o) (h':H b=none):a≠b:=by
 intro e;subst e;rw [h]at h';cases h'
section
variable (P:Program) (w:World)
noncomputable def bB (H:Hp) (h:Heap) (a:Addr):HO->Prop
 | .lst xs=>xs.length<=sizeLine/\∃(its:List Value) (n:Nat),aU xs its/\h.get? a=some { cls:=.type "list", data:=.seq its.toArray n }
 | .tup xs=>xs.length<=sizeLine/\∃its:List Value,aU xs its/\IsTup h a its.toArray
 | .dK kvs=>kvs.length<=sizeLine/\(a == sysModules)=false/\∃vs,KV kvs vs/\h.DictOf (aG P w) a vs
 | .dT kvs=>kvs.length<=sizeLine/\(a == sysModules)=false/\∃xs:List (List Key × Addr × Value),
   Paired (λ(p:List Key × V) (q:List Key × Addr × Value)=>p.1=q.1/\H q.2.1=some (.tup (p.1.map kV))/\aW p.2 q.2.2) kvs xs/\
   ∃o es ep,h.get? a=some o/\o.ExactDict/\o.data=.dict es ep/\es.toList=xs.map (entryOfKey (tupleKind (aG P w)))/\(xs.map (·.1)).Nodup
 | .set S n=>h.SetOf (intKind P w) a S n
 | .ins C dx fs=>H dx=some (.own a)/\fs.length<=1000/\dx≠a/\h.get? a=some (PySem.W.instObj C dx)/\
   ∃mA,h.Ns1 dx mA/\(∀f,fc (fs.lookup f) (mA f))/\PySem.Within mA (fs.map (·.1))
 | .own _=>∃o,h.get? a=some o
 | .xd fs=>∃mA,h.Ns1 a mA/\∀f,fc (fs.lookup f) (mA f)
 | .rng lo hi=>∃t u v,h.get? a=some { cls:=.type "range", data:=.fields #[.int lo t,.int hi u,.int 1 v] }
 | .frz o u=>h.get? a=some o/\bB H h a u
 | .tbl ps=>h.get? a=some { cls:=.none,data:=.fields ps }
 | .met f x=>h.get? a=some (PySem.W.methodObj (.ref f) (.ref x))
 | .ext φ=>φ h/\(∃o,h.get? a=some o)/\∀h1 h2:Heap,φ h1->(∀o,h1.get? a=some o->h2.get? a=some o)->φ h2
def HOk (H:Hp) (h:Heap):Prop:=∀a o,H a=some o->bB P w H h a o
end
section
variable {P:Program}{w:World}{H H':Hp}{h h':Heap}{a:Addr}{o:HO}
theorem bB.lt (x:bB P w H h a o):a < h.objs.size:=by
 cases o with
 | lst xs=>obtain⟨_,_,_,_,e⟩:=x;exact Heap.lt_size e
 | tup xs=>obtain⟨_,_,_,p⟩:=x;exact p.lt
 | dK kvs=>obtain⟨_,_,_,_,o,_,_,e,_⟩:=x;exact Heap.lt_size e
 | dT kvs=>obtain⟨_,_,_,_,o,_,_,e,_⟩:=x;exact Heap.lt_size e
 | set S n=>obtain⟨o,_,_,_,e,_⟩:=x;exact Heap.lt_size e
 | ins C dx fs=>obtain⟨_,_,_,e,_⟩:=x;exact Heap.lt_size e
 | own y=>obtain⟨_,e⟩:=x;exact Heap.lt_size e
 | xd fs=>obtain⟨_,⟨_,_,_,e,_⟩,_⟩:=x;exact Heap.lt_size e
 | rng lo hi=>obtain⟨_,_,_,e⟩:=x;exact Heap.lt_size e
 | frz ob u=>obtain⟨e,_⟩:=x;exact Heap.lt_size e
 | tbl ps=>exact Heap.lt_size (show h.get? a=some _ from x)
 | met f y=>exact Heap.lt_size (show h.get? a=some _ from x)
 | ext φ=>obtain⟨_,⟨_,e⟩,_⟩:=x;exact Heap.lt_size e
theorem Paired.mapP {α β:Type}{F G:α->β->Prop}:∀{l₁:List α}{l₂:List β},Paired F l₁ l₂->(∀a b,F a b->G a b)->Paired G l₁ l₂
 | _,_,.nil,_=>.nil
 | _,_,.cons r t,f=>.cons (f _ _ r) (Paired.mapP t f)
theorem bB.stay (x:bB P w H h a o) (k:∀b u,(b=a\/H b=some (.own a))->h.get? b=some u->h'.get? b=some u)
  (ho:∀b,H b=some (.own a)->H' b=some (.own a)) (ht:∀b xs,H b=some (.tup xs)->H' b=some (.tup xs)):bB P w H' h' a o:=by
 induction o with
 | lst xs=>obtain⟨z,its,n,r,e⟩:=x;exact⟨z,its,n,r,k _ _ (.inl rfl) e⟩
 | tup xs=>obtain⟨z,its,r,ob,e,c⟩:=x;exact⟨z,its,r,ob,k _ _ (.inl rfl) e,c⟩
 | dK kvs=>obtain⟨z,y,vs,r,ob,es,ep,e,c⟩:=x;exact⟨z,y,vs,r,ob,es,ep,k _ _ (.inl rfl) e,c⟩
 | dT kvs=>
  obtain⟨z,y,xs,r,ob,es,ep,e,c⟩:=x
  exact⟨z,y,xs,Paired.mapP r λp q z=>⟨z.1,ht _ _ z.2.1,z.2.2⟩,ob,es,ep,k _ _ (.inl rfl) e,c⟩
 | set S n=>obtain⟨ob,es,ep,t,e,c⟩:=x;exact⟨ob,es,ep,t,k _ _ (.inl rfl) e,c⟩
 | ins C dx fs=>
  obtain⟨d,z,ne,e,mA,⟨od,es,ep,e2,c⟩,r⟩:=x
  exact⟨ho _ d,z,ne,k _ _ (.inl rfl) e,mA,⟨od,es,ep,k _ _ (.inr d) e2,c⟩,r⟩
 | own y=>obtain⟨ob,e⟩:=x;exact⟨ob,k _ _ (.inl rfl) e⟩
 | xd fs=>obtain⟨mA,⟨od,es,ep,e,c⟩,r⟩:=x;exact⟨mA,⟨od,es,ep,k _ _ (.inl rfl) e,c⟩,r⟩
 | rng lo hi=>obtain⟨t,u,v,e⟩:=x;exact⟨t,u,v,k _ _ (.inl rfl) e⟩
 | frz ob u ih=>obtain⟨e,q⟩:=x;exact⟨k _ _ (.inl rfl) e,ih q⟩
 | tbl ps=>
  have e:h.get? a=some { cls:=.none,data:=.fields ps }:=x
  show h'.get? a=some { cls:=.none,data:=.fields ps }
  exact k a _ (.inl rfl) e
 | met f y=>
  have e:h.get? a=some (PySem.W.methodObj (.ref f) (.ref y)):=x
  show h'.get? a=some (PySem.W.methodObj (.ref f) (.ref y))
  exact k a _ (.inl rfl) e
 | ext φ=>obtain⟨p,⟨o,e⟩,st⟩:=x;exact⟨st _ _ p λo q=>k _ _ (.inl rfl) q,⟨o,k _ _ (.inl rfl) e⟩,st⟩
theorem HOk.lt (x:HOk P w H h) (e:H a=some o):a < h.objs.size:=(x a o e).lt
theorem HOk.fresh (x:HOk P w H h) (e:h.objs.size<=a):H a=none:=by
 cases q:H a with
 | none=>rfl
 | some u=>exact absurd (Nat.lt_of_lt_of_le (x.lt q) e) (Nat.lt_irrefl _)
theorem HOk.kept (x:HOk P w H h) (k:∀b u,h.get? b=some u->h'.get? b=some u):HOk P w H h':=λa o e=>
 (x a o e).stay (λb u _ q=>k b u q) (λ_ q=>q) λ_ _ q=>q
theorem HOk.laid (x:HOk P w H h) (k:∀b u,h.get? b=some u->h'.get? b=some u) (hp:h.objs.size<=a) (new:bB P w (upd H a o) h' a o):HOk P w (upd H a o) h':=λb u e=>by
 have hn:=x.fresh hp
 by_cases hb:b=a
 ·subst hb;rw [ai]at e;cases e;exact new
 ·rw [ah hb]at e
  exact(x b u e).stay (λc v _ q=>k c v q) (λc q=>by rw [ah (ao q hn)];exact q) λc xs q=>by rw [ah (ao q hn)];exact q
end
def Rd (H:Hp) (a:Addr) (u:HO):Prop:=H a=some u\/∃o,H a=some (.frz o u)
theorem Rd.of {H:Hp}{a:Addr}{u:HO} (h:H a=some u):Rd H a u:=.inl h
theorem Rd.ok {P:Program}{w:World}{H:Hp}{h:Heap}{a:Addr}{u:HO} (r:Rd H a u) (x:HOk P w H h):bB P w H h a u:=by
 rcases r with r | ⟨o,r⟩
 ·exact x a u r
 ·obtain⟨_,q⟩:=x a _ r
  exact q
noncomputable def Mut:Option HO->Prop
 | some (.lst _)=>True
 | some (.dK _)=>True
 | some (.dT _)=>True
 | some (.set _ _)=>True
 | some (.ins _ _ _)=>True
 | some (.ext _)=>True
 | _=>False
section
variable {P:Program}{w:World}{H:Hp}{h h':Heap}{x e:Addr}{o':HO}
theorem HOk.write (ok:HOk P w H h) (mu:Mut (H x)) (he:e=x\/H e=some (.own x)) (k:∀b u,b≠e->h.get? b=some u->h'.get? b=some u) (heo:∃u,h'.get? e=some u)
  (new:bB P w (upd H x o') h' x o'):HOk P w (upd H x o') h':=λb u q=>by
 have nown:∀c y,H c=some (.own y)->c≠x:=λc y r z=>by subst z;rw [r]at mu;exact mu
 have ntup:∀c xs,H c=some (.tup xs)->c≠x:=λc xs r z=>by subst z;rw [r]at mu;exact mu
 by_cases hb:b=x
 ·subst hb;rw [ai]at q;cases q;exact new
 ·rw [ah hb]at q
  by_cases hbe:b=e
  ·have q':H b=some (.own x):=by
    rcases he with z | z
    ·exact absurd (hbe.trans z) hb
    ·rw [hbe];exact z
   rw [q]at q';cases q'
   obtain⟨v,hv⟩:=heo
   exact⟨v,by rw [hbe];exact hv⟩
  ·refine(ok b u q).stay (λc v hc r=>k c v ?_ r) (λc r=>by rw [ah (nown c b r)];exact r) λc xs r=>by rw [ah (ntup c xs r)];exact r
   rcases hc with rfl | hc
   ·exact hbe
   ·rintro rfl
    rcases he with z | z
    ·exact nown c b hc z
    ·rw [hc]at z;cases z;exact hb rfl
end
structure Un (fs ex:List Addr) (H H':Hp) (h h':Heap):Prop where
 keep:∀b o,h.get? b=some o->H b=none->b∉fs->b∉ex->h'.get? b=some o
 slot:∀b o,h.get? b=some o->H b=none->b∈fs->b∉ex->∃sl,h'.get? b=some { o with slots:=sl }
 free:∀b o,h.get? b=some o->H b=none->b∉ex->H' b=none
 there:∀b o,h.get? b=some o->b∉ex->∃o',h'.get? b=some o'
 tups:∀b xs,H b=some (.tup xs)->H' b=some (.tup xs)
 frzs:∀b o u,H b=some (.frz o u)->H' b=some (.frz o u)
 tbls:∀b ps,H b=some (.tbl ps)->∃more,H' b=some (.tbl (ps++more))
section
variable {fs fs' ex ex':List Addr}{H H1 H2:Hp}{h h1 h2 h':Heap}{a x e:Addr}{o:HO}
theorem Un.any (u:Un fs ex H H1 h h1){b:Addr}{ob:Obj} (q:h.get? b=some ob) (n:H b=none) (hx:b∉ex):∃sl,h1.get? b=some { ob with slots:=sl }:=by
 by_cases hb:b∈fs
 ·exact u.slot b ob q n hb hx
 ·exact⟨ob.slots,u.keep b ob q n hb hx⟩
theorem Un.kept (k:∀b u,h.get? b=some u->h'.get? b=some u):Un fs ex H H h h':=
 ⟨λb ob q _ _ _=>k b ob q,λb ob q _ _ _=>⟨ob.slots,k b ob q⟩,λ_ _ _ n _=>n,λb ob q _=>⟨ob,k b ob q⟩,λ_ _ q=>q,λ_ _ _ q=>q,λ_ ps q=>⟨#[],by rw [q];simp⟩⟩
theorem Un.refl:Un fs ex H H h h:=Un.kept λ_ _ q=>q
theorem Un.laid (k:∀b u,h.get? b=some u->h'.get? b=some u) (hp:h.objs.size<=a) (hn:H a=none):Un fs ex H (upd H a o) h h' where
 keep:=λb u q _ _ _=>k b u q
 slot:=λb u q _ _ _=>⟨u.slots,k b u q⟩
 free:=λb u q n _=>by rw [ah (Nat.ne_of_lt (Nat.lt_of_lt_of_le (Heap.lt_size q) hp))];exact n
 there:=λb u q _=>⟨u,k b u q⟩
 tups:=λb xs q=>by rw [ah (ao q hn)];exact q
 frzs:=λb u xs q=>by rw [ah (ao q hn)];exact q
 tbls:=λb ps q=>⟨#[],by rw [ah (ao q hn),q];simp⟩
theorem Un.write (mu:Mut (H x)) (he:e=x\/H e=some (.own x)) (k:∀b u,b≠e->h.get? b=some u->h'.get? b=some u) (heo:∃u,h'.get? e=some u):Un fs ex H (upd H x o) h h':=by
 have hx:∀b,H b=none->b≠x:=λb n z=>by subst z;rw [n]at mu;exact mu
 have hb:∀b,H b=none->b≠e:=λb n z=>by
  subst z
  rcases he with r | r
  ·exact hx b n r
  ·rw [n]at r;cases r
 have hm:∀b u,H b=some u->¬Mut (some u)->b≠x:=λb u q nm z=>by subst z;rw [q]at mu;exact nm mu
 refine⟨λb u q n _ _=>k b u (hb b n) q,λb u q n _ _=>⟨u.slots,k b u (hb b n) q⟩,λb u q n _=>by rw [ah (hx b n)];exact n,λb u q _=>?_,
  λb xs q=>by rw [ah (hm b _ q λz=>z)];exact q,λb u xs q=>by rw [ah (hm b _ q λz=>z)];exact q,λb ps q=>⟨#[],by rw [ah (hm b _ q λz=>z),q];simp⟩⟩
 by_cases hbe:b=e
 ·subst hbe;exact heo
 ·exact⟨u,k b u hbe q⟩
end
noncomputable def trk (h:Heap) (H:Hp):List Addr:=(List.range h.objs.size).filter λa=>(H a).isSome
noncomputable def jU (h:Heap) (H:Hp):Heap:=PySem.W.hideAll h (trk h H)
theorem sW (h:Heap) (H:Hp):(jU h H).objs.size=h.objs.size:=PySem.W.hideAll_size _ _
theorem wc {h:Heap}{H:Hp}{b:Addr}{o:Obj} (e:h.get? b=some o) (n:H b=none):(jU h H).get? b=some o:=
 PySem.W.hideAll_get _ e λhm=>by
  have q:(H b).isSome=true:=(List.mem_filter.mp hm).2
  rw [n]at q;simp at q
theorem ye {h:Heap}{H:Hp}{b:Addr}{o:Obj} (e:(jU h H).get? b=some o):h.get? b=some o/\H b=none:=by
 have e':h.get? b=some o:=PySem.W.of_hideAll (trk h H) e
 refine⟨e',?_⟩
 cases q:H b with
 | none=>rfl
 | some x=>
  have hm:b∈trk h H:=List.mem_filter.mpr ⟨List.mem_range.mpr (Heap.lt_size e'),by simp [q]⟩
  have z:(jU h H).get? b=none:=PySem.W.hideAll_none (trk h H) hm
  rw [z]at e;cases e
structure Mod (K:PySem.W.Frag) (mg:Str->Option Value) (base:Heap):Prop where
 kin:K.In base
 glob:base.Ns mainGlobals mg
 blt:∃mb,base.Ns builtinsNs mb/\∀x:Str,x≠"__name__"->mb x=bootBuiltins x
 nolimit:base.NoLimit
structure Cx where
 prog:Program
 w:World
 K:PySem.W.Frag
 mg:Str->Option Value
 base:Heap
 A:Around
 N:List Str
 s₀:Shared
 H₀:Hp
 env:Env
 outer:List Env
 stack:List Env
 ex:List Addr
 fn:Str->Bool
 calm:Bool
 pn:List (Addr × Obj)
 xe:Value->Shared->Prop
noncomputable def frs (l:List Env):List Addr:=l.filterMap (·.frame)
noncomputable abbrev Cx.fs (X:Cx):List Addr:=frs X.outer
def Vis (sc:Scope) (x:Str):Prop:=sc.names.lookup x=some .local\/sc.names.lookup x=some .cell\/sc.names.lookup x=some .free
def Loc (sc:Scope) (x:Str):Prop:=sc.names.lookup x=some .local\/sc.names.lookup x=some .cell
def CF (env:Env) (h:Heap) (m:Str->Option Value) (x:Str) (u:Value):Prop:=
 (env.kindOf x=some .local/\m x=some u)\/((env.kindOf x=some .cell\/env.kindOf x=some .free)/\∃c,env.cells.lookup x=some c/\h.IsCell c (some u))
structure Cx.Ok (X:Cx):Prop where
 mod:Mod X.K X.mg X.base
 kind:X.env.scope.kind=.function
 glob:X.env.globals=mainGlobals
 blt:X.env.builtins=builtinsNs
 above:X.s₀.heap.objs.size<=X.env.locals
 inj:∀x y c,X.env.cells.lookup x=some c->X.env.cells.lookup y=some c->x=y
 has:∀x,(X.env.kindOf x=some .cell\/X.env.kindOf x=some .free)->∃c,X.env.cells.lookup x=some c
 cab:∀x c,X.fn x=true->X.env.cells.lookup x=some c->X.s₀.heap.objs.size<=c
 hd:X.calm=true->X.A.handled=none
 frames:X.A.frames=some X.stack
 stk:X.stack=X.outer\/(X.stack=X.env::X.outer/\X.env.frame=some X.env.locals)
 exf:∀b∈X.ex,b≠X.env.locals/\∀x c,X.env.cells.lookup x=some c->c≠b
 bs:∀b o,X.base.get? b=some o->X.s₀.heap.get? b=some o/\X.H₀ b=none
 bsz:X.base.objs.size<=X.s₀.heap.objs.size
 noex:∀b o,X.base.get? b=some o->b∉X.ex
 exfs:∀b∈X.ex,b∉X.fs
 funs:X.s₀.heap.FunFrames X.base X.outer
 frf:∀b∈X.fs,X.H₀ b=none
structure Inv (X:Cx) (pins:List (Addr × Obj)) (σ:List (Option V)) (H:Hp) (s:Shared):Prop where
 ok:X.Ok
 os:s.os=X.s₀.os
 bare:AllBare s.gens
 base:Un X.fs X.ex X.H₀ H X.s₀.heap s.heap
 loc:∃m,s.heap.Ns X.env.locals m/\∀(i:Nat) (x:Str) (v:V),X.N[i]?=some x->σ[i]?=some (some v)->Vis X.env.scope x->∃u,aW v u/\CF X.env s.heap m x u
 cell:∀x c,X.env.cells.lookup x=some c->∃v,s.heap.IsCell c v
 free:H X.env.locals=none
 freeC:∀x c,X.env.cells.lookup x=some c->H c=none
 pin:∀p∈X.pn++pins,s.heap.get? p.1=some p.2/\H p.1=none/\p.1≠X.env.locals/\p.1∉X.fs/\∀v,p.2.data≠.cell v
 hok:HOk X.prog X.w H s.heap
 len:σ.length=X.N.length
section
variable {X:Cx}{pins:List (Addr × Obj)}{σ:List (Option V)}{H H':Hp}{s:Shared}{h':Heap}
theorem Cx.Ok.nofr (ok:X.Ok){b:Addr}{o:Obj} (e:X.base.get? b=some o):b∉X.fs:=λhb=>by
 have:=(ok.funs.mem hb).1
 rw [e]at this;cases this
theorem Inv.bs (I:Inv X pins σ H s):∀b o,X.base.get? b=some o->s.heap.get? b=some o/\H b=none:=λb o e=>
 ⟨I.base.keep b o (I.ok.bs b o e).1 (I.ok.bs b o e).2 (I.ok.nofr e) (I.ok.noex b o e),I.base.free b o (I.ok.bs b o e).1 (I.ok.bs b o e).2 (I.ok.noex b o e)⟩
theorem Inv.bk (I:Inv X pins σ H s):∀b o,X.base.get? b=some o->s.heap.get? b=some o:=λb o e=>(I.bs b o e).1
theorem Inv.mod (I:Inv X pins σ H s):Mod X.K X.mg X.base:=I.ok.mod
theorem Inv.kIn (I:Inv X pins σ H s):X.K.In s.heap:=I.ok.mod.kin.keeps I.bk
theorem Inv.lt (I:Inv X pins σ H s):X.env.locals < s.heap.objs.size:=let ⟨_,hn,_⟩:=I.loc;hn.lt
theorem Inv.sz (I:Inv X pins σ H s):X.s₀.heap.objs.size<=s.heap.objs.size:=Nat.le_trans I.ok.above (Nat.le_of_lt I.lt)
theorem Inv.nofs (I:Inv X pins σ H s){a:Addr} (h:s.heap.objs.size<=a):a∉X.fs:=λhb=>by
 obtain⟨_,o,ho,_⟩:=I.ok.funs.mem hb
 exact absurd (Nat.lt_of_lt_of_le (Heap.lt_size ho) (Nat.le_trans I.sz h)) (Nat.lt_irrefl _)
theorem Inv.cne (I:Inv X pins σ H s):∀x c,X.env.cells.lookup x=some c->c≠X.env.locals:=λx c e z=>by
 obtain⟨v,o,ho,hd⟩:=I.cell x c e
 obtain⟨m,⟨o',es,ep,ho',hd',_⟩,_⟩:=I.loc
 rw [z,ho']at ho;cases ho;rw [hd']at hd;cases hd
theorem Inv.funs (I:Inv X pins σ H s):s.heap.FunFrames X.base X.outer:=by
 have all:∀(l:List Env),(∀b∈frs l,b∈X.fs)->X.s₀.heap.FunFrames X.base l->s.heap.FunFrames X.base l:=by
  intro l
  induction l with
  | nil=>intro _ _;trivial
  | cons env r ih=>
   intro hs hl
   obtain⟨hk,⟨L,o,hf,hn,ho,hd⟩,hr⟩:=hl
   have hL:L∈X.fs:=hs L (by unfold frs;rw [List.filterMap_cons,hf];exact List.mem_cons_self)
   obtain⟨sl,e⟩:=I.base.slot L o ho (I.ok.frf L hL) hL λz=>I.ok.exfs L z hL
   exact⟨hk,⟨L,_,hf,hn,e,hd⟩,ih (λb hb=>hs b (by unfold frs;rw [List.filterMap_cons,hf];exact List.mem_cons_of_mem _ hb)) hr⟩
 exact all X.outer (λ_ hb=>hb) I.ok.funs
theorem Inv.stack (I:Inv X pins σ H s):s.heap.FunFrames X.base X.stack:=by
 rcases I.ok.stk with e | ⟨e,hf⟩
 ·rw [e];exact I.funs
 ·rw [e]
  obtain⟨m,hn,_⟩:=I.loc
  refine .cons (by rw [I.ok.kind];decide) hf hn ?_ I.funs
  exact Heap.get?_none_of_le (Nat.le_trans I.ok.bsz I.ok.above)
theorem Inv.stkSub (I:Inv X pins σ H s):∀b∈frs X.stack,b∈X.env.locals::X.fs:=λb hb=>by
 rcases I.ok.stk with e | ⟨e,hf⟩
 ·rw [e]at hb;exact List.mem_cons_of_mem _ hb
 ·rw [e]at hb
  unfold frs at hb
  rw [List.filterMap_cons,hf]at hb
  exact hb
theorem Inv.stkFree (I:Inv X pins σ H s):∀b∈frs X.stack,H b=none:=λb hb=>by
 rcases List.mem_cons.mp (I.stkSub b hb) with e | hb
 ·rw [e];exact I.free
 ·obtain⟨_,o,ho,_⟩:=I.ok.funs.mem hb
  exact I.base.free b o ho (I.ok.frf b hb) λz=>I.ok.exfs b z hb
theorem Inv.step {g':Array GenState}{t':Nat}{d':Drawn}{ch:List Addr} (I:Inv X pins σ H s)
  (hch:∀b∈ch,(b∈X.ex\/X.s₀.heap.objs.size<=b)/\b≠X.env.locals/\(∀x c,X.env.cells.lookup x=some c->c≠b)/\∀p∈X.pn++pins,p.1≠b)
  (keep:∀b o,b≠X.env.locals->b∉X.fs->b∉ch->s.heap.get? b=some o->H b=none->h'.get? b=some o)
  (slot:∀b o,b≠X.env.locals->b∈X.fs->b∉ch->s.heap.get? b=some o->H b=none->∃sl,h'.get? b=some { o with slots:=sl }) (free:∀b o,b∉ch->s.heap.get? b=some o->H b=none->H' b=none)
  (there:∀b o,b∉ch->s.heap.get? b=some o->∃o',h'.get? b=some o')
  (tups:∀b xs,H b=some (.tup xs)->H' b=some (.tup xs)) (frzs:∀b o u,H b=some (.frz o u)->H' b=some (.frz o u)) (tbls:∀b ps,H b=some (.tbl ps)->∃more,H' b=some (.tbl (ps++more)))
  (ns:∀m,s.heap.Ns X.env.locals m->h'.Ns X.env.locals m) (hok:HOk X.prog X.w H' h') (hg:AllBare g') :
  Inv X pins σ H' { s with heap:=h',gens:=g',drawn:=d',toks:=t' }:=by
 have neL:∀b o,X.s₀.heap.get? b=some o->b≠X.env.locals:=λb o e=>Nat.ne_of_lt (Nat.lt_of_lt_of_le (Heap.lt_size e) I.ok.above)
 have neC:∀b o,X.s₀.heap.get? b=some o->b∉X.ex->b∉ch:=λb o e hx hb=>by
  rcases (hch b hb).1 with z | z
  ·exact hx z
  ·exact absurd (Nat.lt_of_lt_of_le (Heap.lt_size e) z) (Nat.lt_irrefl _)
 have cellK:∀x c,X.env.cells.lookup x=some c->∀v,s.heap.IsCell c v->h'.IsCell c v:=λx c e v ⟨o,ho,hd⟩=>by
  have nch:c∉ch:=λz=>(hch c z).2.2.1 x c e rfl
  by_cases hc:c∈X.fs
  ·obtain⟨sl,q⟩:=slot c o (I.cne x c e) hc nch ho (I.freeC x c e)
   exact⟨_,q,hd⟩
  ·exact⟨o,keep c o (I.cne x c e) hc nch ho (I.freeC x c e),hd⟩
 refine⟨I.ok,I.os,hg,⟨λb o e n hb hx=>?_,λb o e n hb hx=>?_,λb o e n hx=>?_,λb o e hx=>?_,λb xs e=>tups b xs (I.base.tups b xs e),λb o xs e=>frzs b o xs (I.base.frzs b o xs e),λb ps e=>?_⟩,?_,λx c e=>?_,?_,λx c e=>?_,λp hp=>?_,hok,I.len⟩
 ·exact keep b o (neL b o e) hb (neC b o e hx) (I.base.keep b o e n hb hx) (I.base.free b o e n hx)
 ·obtain⟨sl,e1⟩:=I.base.slot b o e n hb hx
  obtain⟨sl',e2⟩:=slot b _ (neL b o e) hb (neC b o e hx) e1 (I.base.free b o e n hx)
  exact⟨sl',e2⟩
 ·obtain⟨o',e1⟩:=I.base.there b o e hx
  exact free b o' (neC b o e hx) e1 (I.base.free b o e n hx)
 ·obtain⟨o',e1⟩:=I.base.there b o e hx
  exact there b o' (neC b o e hx) e1
 ·obtain⟨m1,e1⟩:=I.base.tbls b ps e
  obtain⟨m2,e2⟩:=tbls b _ e1
  exact⟨m1++m2,by rw [e2,Array.append_assoc]⟩
 ·obtain⟨m,hn,hl⟩:=I.loc
  refine⟨m,ns m hn,λi x v e1 e2 e3=>?_⟩
  obtain⟨u,r,l⟩:=hl i x v e1 e2 e3
  refine⟨u,r,?_⟩
  rcases l with l | ⟨k,c,e,z⟩
  ·exact .inl l
  ·exact .inr ⟨k,c,e,cellK x c e _ z⟩
 ·obtain⟨v,z⟩:=I.cell x c e
  exact⟨v,cellK x c e v z⟩
 ·obtain⟨m,⟨o,_,_,ho,_⟩,_⟩:=I.loc
  exact free _ o (λz=>(hch _ z).2.1 rfl) ho I.free
 ·obtain⟨v,o,ho,hd⟩:=I.cell x c e
  exact free c o (λz=>(hch c z).2.2.1 x c e rfl) ho (I.freeC x c e)
 ·obtain⟨e,n,ne,nf,d⟩:=I.pin p hp
  have nch:p.1∉ch:=λz=>(hch p.1 z).2.2.2 p hp rfl
  exact⟨keep p.1 p.2 ne nf nch e n,free p.1 p.2 nch e n,ne,nf,d⟩
theorem Inv.un {t':Nat} (I:Inv X pins σ H s) (u:Un X.fs [] H H' s.heap h') (hok:HOk X.prog X.w H' h'):Inv X pins σ H' { s with heap:=h',toks:=t' }:=by
 obtain⟨m,⟨o,es,ep,ho,r⟩,_⟩:=id I.loc
 obtain⟨sl,hL⟩:=u.any ho I.free (by simp)
 exact I.step (g':=s.gens) (d':=s.drawn) (ch:=[]) (λ_ z=>nomatch z) (λb o _ hb _ e n=>u.keep b o e n hb (by simp)) (λb o _ hb _ e n=>u.slot b o e n hb (by simp)) (λb o _ e n=>u.free b o e n (by simp)) (λb o _ e=>u.there b o e (by simp)) u.tups u.frzs u.tbls (λm' hm=>by
  obtain⟨o',es',ep',ho',r'⟩:=hm
  rw [ho]at ho';cases ho'
  exact⟨_,es',ep',hL,r'⟩) hok I.bare
theorem Inv.call {g':Array GenState}{t':Nat}{d':Drawn}{ch:List Addr} (I:Inv X pins σ H s) (u:Un (frs X.stack) ch H H' s.heap h') (hok:HOk X.prog X.w H' h') (hg:AllBare g')
  (hch:∀b∈ch,(b∈X.ex\/X.s₀.heap.objs.size<=b)/\b≠X.env.locals/\(∀x c,X.env.cells.lookup x=some c->c≠b)/\∀p∈X.pn++pins,p.1≠b) :
  Inv X pins σ H' { s with heap:=h',gens:=g',drawn:=d',toks:=t' }:=by
 obtain⟨m,⟨o,es,ep,ho,r⟩,_⟩:=id I.loc
 obtain⟨sl,hL⟩:=u.any ho I.free λz=>(hch _ z).2.1 rfl
 exact I.step (ch:=ch) hch (λb o hL hb hc e n=>u.keep b o e n (λz=>(List.mem_cons.mp (I.stkSub b z)).elim hL hb) hc) (λb o _ _ hc e n=>u.any e n hc) (λb o hc e n=>u.free b o e n hc) (λb o hc e=>u.there b o e hc) u.tups u.frzs u.tbls (λm' hm=>by
  obtain⟨o',es',ep',ho',r'⟩:=hm
  rw [ho]at ho';cases ho'
  exact⟨_,es',ep',hL,r'⟩) hok hg
theorem Inv.turned {t':Nat}{it:Addr} (I:Inv X pins σ H s) (k:∀b o,b≠it->s.heap.get? b=some o->h'.get? b=some o) (hn:H it=none) (hL:it≠X.env.locals)
  (h1:it∈X.ex\/X.s₀.heap.objs.size<=it) (h2:∀x c,X.env.cells.lookup x=some c->c≠it) (h3:∀p∈X.pn++pins,p.1≠it):Inv X pins σ H { s with heap:=h',toks:=t' }:=by
 have nit:∀b u,H b=some u->b≠it:=λb u e z=>by rw [z,hn]at e;cases e
 refine I.step (g':=s.gens) (d':=s.drawn) (ch:=[it]) (λb hb=>?_) (λb o _ _ hc e _=>k b o (λz=>hc (by simp [z])) e) (λb o _ _ hc e _=>⟨o.slots,k b o (λz=>hc (by simp [z])) e⟩) (λ_ _ _ _ n=>n)
  (λb o hc e=>⟨o,k b o (λz=>hc (by simp [z])) e⟩) (λ_ _ e=>e) (λ_ _ _ e=>e) (λb ps e=>⟨#[],by rw [e];simp⟩) (λm hm=>?_) (λb u e=>?_) I.bare
 ·have e:b=it:=by simpa using hb
  subst e
  exact⟨h1,hL,h2,h3⟩
 ·obtain⟨o,es,ep,ho,r⟩:=hm
  exact⟨o,es,ep,k _ o (Ne.symm hL) ho,r⟩
 ·refine(I.hok b u e).stay (λc v hc q=>k c v ?_ q) (λ_ q=>q) λ_ _ q=>q
  rcases hc with z | z
  ·rw [z];exact nit b u e
  ·exact nit c _ z
theorem Inv.tok (I:Inv X pins σ H s) (t:Nat):Inv X pins σ H { s with toks:=t }:=I.un (h':=s.heap) (t':=t) Un.refl I.hok
theorem Inv.kept {t':Nat} (I:Inv X pins σ H s) (k:∀b u,s.heap.get? b=some u->h'.get? b=some u):Inv X pins σ H { s with heap:=h',toks:=t' }:=I.un (Un.kept k) (I.hok.kept k)
theorem Inv.laid {a:Addr}{o:HO}{t':Nat} (I:Inv X pins σ H s) (k:∀b u,s.heap.get? b=some u->h'.get? b=some u) (hp:s.heap.objs.size<=a) (new:bB X.prog X.w (upd H a o) h' a o) :
  Inv X pins σ (upd H a o) { s with heap:=h',toks:=t' }:=I.un (Un.laid k hp (I.hok.fresh hp)) (I.hok.laid k hp new)
theorem Inv.write {x e:Addr}{o:HO}{t':Nat} (I:Inv X pins σ H s) (mu:Mut (H x)) (he:e=x\/H e=some (.own x)) (k:∀b u,b≠e->s.heap.get? b=some u->h'.get? b=some u) (heo:∃u,h'.get? e=some u)
  (new:bB X.prog X.w (upd H x o) h' x o):Inv X pins σ (upd H x o) { s with heap:=h',toks:=t' }:=I.un (Un.write mu he k heo) (I.hok.write mu he k heo new)
theorem Inv.pins_of {pins':List (Addr × Obj)} (I:Inv X pins σ H s) (h:∀p∈pins',s.heap.get? p.1=some p.2/\H p.1=none/\p.1≠X.env.locals/\p.1∉X.fs/\∀v,p.2.data≠.cell v):Inv X pins' σ H s:=
 ⟨I.ok,I.os,I.bare,I.base,I.loc,I.cell,I.free,I.freeC,λp hp=>(List.mem_append.mp hp).elim (λz=>I.pin p (List.mem_append_left _ z)) (h p),I.hok,I.len⟩
theorem oh {N:List Str} (hN:N.Nodup){i j:Nat}{x:Str} (a:N[i]?=some x) (b:N[j]?=some x):i=j:=by
 obtain⟨h1,e1⟩:=List.getElem?_eq_some_iff.mp a
 obtain⟨h2,e2⟩:=List.getElem?_eq_some_iff.mp b
 exact(List.getElem_inj hN).mp (e1.trans e2.symm)
theorem kX {M:Model}{A:Around}{E:Value->Shared->Prop}{i:Nat}{x:Str}{v:V}{u:Value}{Q:Unit->Shared->Prop} (I:Inv X pins σ H s) (hN:X.N.Nodup) (hi:X.N[i]?=some x) (hx:Loc X.env.scope x) (r:aW v u)
  (h:∀s',Inv X pins (σ.set i (some v)) H s'->(∃a,Heap.SameBut a s.heap s'.heap/\(a=X.env.locals\/X.env.cells.lookup x=some a))->Q () s') (hf:X.fn x=true\/X.env.scope.names.lookup x=some .local:=by first | exact .inl rfl | exact .inr rfl | assumption):wpAny M A (storeName X.env x u) Q E s:=by
 obtain⟨m,hn,hl⟩:=id I.loc
 have hcls:(X.env.scope.kind == .class || (X.env.scope.kind == .module && X.env.locals != X.env.globals))=false:=by rw [I.ok.kind];rfl
 have hiσ:i < σ.length:=by rw [I.len];exact(List.getElem?_eq_some_iff.mp hi).1
 have cne:=I.cne
 have tracked:∀{a:Addr}{h':Heap},(∃o,s.heap.get? a=some o/\H a=none)->Heap.SameBut a s.heap h'->HOk X.prog X.w H h':=λ{a h'} ha hs b ob e=>by
  obtain⟨_,_,hfree⟩:=ha
  refine(I.hok b ob e).stay (λc w' hc q=>(hs.2 c ?_).trans q) (λ_ q=>q) λ_ _ q=>q
  rintro rfl
  rcases hc with rfl | hc
  ·rw [hfree]at e;cases e
  ·rw [hfree]at hc;cases hc
 rcases hx with hk | hk
 ·refine wpAny_storeName_local hk hn (λh' hn' hs=>?_) hcls
  obtain⟨oL,_,_,hoL,_⟩:=id hn
  refine h _ ⟨I.ok,I.os,I.bare,⟨λb o e n hb hx=>?_,λb o e n hb hx=>?_,I.base.free,λb o e hx=>?_,I.base.tups,I.base.frzs,I.base.tbls⟩,⟨_,hn',λj y v' e1 e2 e3=>?_⟩,λy c e=>?_,I.free,I.freeC,λp hp=>?_,tracked ⟨oL,hoL,I.free⟩ hs,by simpa using I.len⟩ ⟨_,hs,.inl rfl⟩
  ·exact(hs.2 b (Nat.ne_of_lt (Nat.lt_of_lt_of_le (Heap.lt_size e) I.ok.above))).trans (I.base.keep b o e n hb hx)
  ·obtain⟨sl,e1⟩:=I.base.slot b o e n hb hx
   exact⟨sl,(hs.2 b (Nat.ne_of_lt (Nat.lt_of_lt_of_le (Heap.lt_size e) I.ok.above))).trans e1⟩
  ·obtain⟨o',e1⟩:=I.base.there b o e hx
   exact⟨o',(hs.2 b (Nat.ne_of_lt (Nat.lt_of_lt_of_le (Heap.lt_size e) I.ok.above))).trans e1⟩
  ·by_cases hj:j=i
   ·subst hj
    rw [hi]at e1;cases e1
    rw [List.getElem?_set_self hiσ]at e2
    cases e2
    exact⟨u,r,.inl ⟨hk,by simp⟩⟩
   ·rw [List.getElem?_set_ne (Ne.symm hj)]at e2
    obtain⟨u',r',q⟩:=hl j y v' e1 e2 e3
    refine⟨u',r',?_⟩
    rcases q with⟨k,e⟩ | ⟨k,c,e,z⟩
    ·refine .inl ⟨k,?_⟩
     have:y≠x:=λe=>hj (oh hN e1 (e ▸ hi))
     simp [this,e]
    ·exact .inr ⟨k,c,e,z.sameBut hs (cne y c e)⟩
  ·obtain⟨w',z⟩:=I.cell y c e
   exact⟨w',z.sameBut hs (cne y c e)⟩
  ·obtain⟨e,n,ne,nf,d⟩:=I.pin p hp
   exact⟨(hs.2 p.1 ne).trans e,n,ne,nf,d⟩
 ·have hfn:X.fn x=true:=by
   rcases hf with z | z
   ·exact z
   ·rw [z]at hk;cases hk
  obtain⟨c,hc⟩:=I.ok.has x (.inl hk)
  obtain⟨w',z⟩:=I.cell x c hc
  refine wpAny_storeName_cell I.ok.kind hk hc z (λh' hc' hs=>?_)
  obtain⟨oc,hoc,hocd⟩:=id z
  refine h { s with heap:=h' } ⟨I.ok,I.os,I.bare,⟨λb o e n hb hx=>?_,λb o e n hb hx=>?_,I.base.free,λb o e hx=>?_,I.base.tups,I.base.frzs,I.base.tbls⟩,⟨m,hn.sameBut hs (Ne.symm (cne x c hc)),λj y v' e1 e2 e3=>?_⟩,λy c' e=>?_,I.free,I.freeC,λp hp=>?_,tracked ⟨oc,hoc,I.freeC x c hc⟩ hs,by simpa using I.len⟩ ⟨c,hs,.inr hc⟩
  ·exact(hs.2 b (Nat.ne_of_lt (Nat.lt_of_lt_of_le (Heap.lt_size e) (I.ok.cab x c hfn hc)))).trans (I.base.keep b o e n hb hx)
  ·obtain⟨sl,e1⟩:=I.base.slot b o e n hb hx
   exact⟨sl,(hs.2 b (Nat.ne_of_lt (Nat.lt_of_lt_of_le (Heap.lt_size e) (I.ok.cab x c hfn hc)))).trans e1⟩
  ·obtain⟨o',e1⟩:=I.base.there b o e hx
   exact⟨o',(hs.2 b (Nat.ne_of_lt (Nat.lt_of_lt_of_le (Heap.lt_size e) (I.ok.cab x c hfn hc)))).trans e1⟩
  ·by_cases hj:j=i
   ·subst hj
    rw [hi]at e1;cases e1
    rw [List.getElem?_set_self hiσ]at e2
    cases e2
    exact⟨u,r,.inr ⟨.inl hk,c,hc,hc'⟩⟩
   ·rw [List.getElem?_set_ne (Ne.symm hj)]at e2
    obtain⟨u',r',q⟩:=hl j y v' e1 e2 e3
    refine⟨u',r',?_⟩
    rcases q with q | ⟨k,c',e,z'⟩
    ·exact .inl q
    ·refine .inr ⟨k,c',e,z'.sameBut hs ?_⟩
     rintro rfl
     exact hj (oh hN e1 (I.ok.inj _ _ _ e hc ▸ hi))
  ·by_cases hcc:c'=c
   ·subst hcc;exact⟨_,hc'⟩
   ·obtain⟨w2,z2⟩:=I.cell y c' e
    exact⟨w2,z2.sameBut hs hcc⟩
  ·obtain⟨e,n,ne,nf,d⟩:=I.pin p hp
   refine⟨(hs.2 p.1 ?_).trans e,n,ne,nf,d⟩
   intro q
   rw [q,hoc]at e
   have q':oc=p.2:=Option.some.inj e
   exact d w' (by rw [<- q'];exact hocd)
theorem fe {M:Model}{A:Around}{E:Value->Shared->Prop}{i:Nat}{x:Str}{v:V}{u:Value}{Q:Unit->Shared->Prop} (I:Inv X pins σ H s) (hN:X.N.Nodup) (hi:X.N[i]?=some x) (hx:Loc X.env.scope x) (r:aW v u)
  (h:∀s',Inv X pins (σ.set i (some v)) H s'->Q () s') (hf:X.fn x=true\/X.env.scope.names.lookup x=some .local:=by first | exact .inl rfl | exact .inr rfl | assumption):wpAny M A (storeName X.env x u) Q E s:=
 kX I hN hi hx r (λs' I' _=>h s' I') hf
theorem Inv.call' {s':Shared}{ch:List Addr} (I:Inv X pins σ H s) (ho:s'.os=s.os) (u:Un (frs X.stack) ch H H' s.heap s'.heap) (hok:HOk X.prog X.w H' s'.heap) (hg:AllBare s'.gens)
  (hch:∀b∈ch,(b∈X.ex\/X.s₀.heap.objs.size<=b)/\b≠X.env.locals/\(∀x c,X.env.cells.lookup x=some c->c≠b)/\∀p∈X.pn++pins,p.1≠b):Inv X pins σ H' s':=by
 obtain⟨h',g',d',t',o'⟩:=s'
 have e:o'=s.os:=ho
 subst e
 exact I.call (g':=g') (t':=t') (d':=d') u hok hg hch
end
noncomputable abbrev XK:=Value->Option Addr->Hp->Prop
noncomputable abbrev St:=List (Option V)
noncomputable abbrev VK:=V->Hp->Prop
noncomputable abbrev TE:=St->Hp->VK->Prop
noncomputable abbrev TT:=St->Hp->(Bool->Hp->Prop)->Prop
noncomputable abbrev TA:=St->Hp->(List V->Hp->Prop)->Prop
structure Ends where
 nx:St->Hp->Prop
 rt:VK
 bk:St->Hp->Prop:=λ_ _=>False
 ct:St->Hp->Prop:=λ_ _=>False
noncomputable abbrev TS:=Ends->St->Hp->Prop
inductive EP (X:Cx) (pins:List (Addr × Obj)) (σ:St) (Q:VK) (u:Value) (s':Shared):Prop
 | mk (v H') (h1:Inv X pins σ H' s') (h2:aW v u) (h3:Q v H')
def TP (X:Cx) (pins:List (Addr × Obj)) (σ:St) (Q:Bool->Hp->Prop) (b:Bool) (s':Shared):Prop:=∃H',Inv X pins σ H' s'/\Q b H'
inductive AP (X:Cx) (pins:List (Addr × Obj)) (σ:St) (Q:List V->Hp->Prop) (us:List Value) (s':Shared):Prop
 | mk (vs H') (h1:Inv X pins σ H' s') (h2:aU vs us) (h3:Q vs H')
def SP (X:Cx) (pins:List (Addr × Obj)) (D:Ends) (f:Flow) (s':Shared):Prop:=
 match f with
 | .next=>∃σ' H',Inv X pins σ' H' s'/\D.nx σ' H'
 | .brk=>∃σ' H',Inv X pins σ' H' s'/\D.bk σ' H'
 | .cont=>∃σ' H',Inv X pins σ' H' s'/\D.ct σ' H'
 | .ret u=>∃v σ' H',Inv X pins σ' H' s'/\aW v u/\D.rt v H'
def PE (X:Cx) (e:Expr) (t:TE):Prop:=
 ∀(pins:List (Addr × Obj)) (s:Shared) (σ:St) (H:Hp) (Q:VK),Inv X pins σ H s->t σ H Q->wpAny (model X.prog X.w) X.A (eval e X.env) (EP X pins σ Q) X.xe s
def PT (X:Cx) (e:Expr) (t:TT):Prop:=
 ∀(pins:List (Addr × Obj)) (s:Shared) (σ:St) (H:Hp) (Q:Bool->Hp->Prop),Inv X pins σ H s->t σ H Q->wpAny (model X.prog X.w) X.A (isTrue e X.env (eval e X.env)) (TP X pins σ Q) X.xe s
def PW (X:Cx) (e:Expr) (t:TT):Prop:=
 ∀(whole:Sem Value) (pins:List (Addr × Obj)) (s:Shared) (σ:St) (H:Hp) (Q:Bool->Hp->Prop),Inv X pins σ H s->t σ H Q->wpAny (model X.prog X.w) X.A (isTrue e X.env whole) (TP X pins σ Q) X.xe s
theorem PW.pt {X:Cx}{e:Expr}{t:TT} (h:PW X e t):PT X e t:=h _
def PA (X:Cx) (es:List Expr) (t:TA):Prop:=
 ∀(pos:Pos) (pins:List (Addr × Obj)) (s:Shared) (σ:St) (H:Hp) (Q:List V->Hp->Prop),Inv X pins σ H s->t σ H Q->wpAny (model X.prog X.w) X.A (spliced (backTo pos (starEach es X.env))) (AP X pins σ Q) X.xe s
def PS (X:Cx) (st:Stmt) (t:TS):Prop:=
 ∀(pins:List (Addr × Obj)) (s:Shared) (σ:St) (H:Hp) (D:Ends),Inv X pins σ H s->t D σ H->wpAny (model X.prog X.w) X.A (exec st X.env) (SP X pins D) X.xe s
def PSs (X:Cx) (st:List Stmt) (t:TS):Prop:=
 ∀(pins:List (Addr × Obj)) (s:Shared) (σ:St) (H:Hp) (D:Ends),Inv X pins σ H s->t D σ H->wpAny (model X.prog X.w) X.A (execs st X.env) (SP X pins D) X.xe s
theorem thn {α:Type}{t:Sem α}{Q Q':α->Shared->Prop}{M:Model}{A:Around}{E:Value->Shared->Prop}{s:Shared} (h:wpAny M A t Q E s) (hQ:∀a s,Q a s->Q' a s):wpAny M A t Q' E s:=wpAny_mono h hQ λ_ _ x=>x
section
variable {X:Cx}
inductive jv (i:Nat) (σ:St) (H:Hp) (Q:VK):Prop
 | mk (v) (h1:σ[i]?=some (some v)) (h2:Q v H):jv i σ H Q
noncomputable def tC (v:V):TE:=λ_ H Q=>Q v H
theorem Ap {i:Nat}{x:Str}{pos:Pos} (hN:X.N[i]?=some x) (hv:Vis X.env.scope x) (hd:(x == ("__debug__" : Str))=false:=by decide) (hcd:(x == ("__classdict__" : Str))=false:=by decide):PE X (.Name x pos) (jv i):=by
 intro pins s σ H Q I h
 obtain⟨v,e,h⟩:=h
 obtain⟨m,hn,hl⟩:=I.loc
 obtain⟨u,r,l⟩:=hl i x v hN e hv
 have fin:EP X pins σ Q u s:=⟨v,H,I,r,h⟩
 rcases l with⟨hk,hm⟩ | ⟨hk,c,hc,hcell⟩
 ·exact wpAny_Name (wpAny_loadName_local I.ok.kind hk hn hm fin) hd
 ·rcases hk with hk | hk
  ·exact wpAny_Name (wpAny_loadName_cell I.ok.kind hk hc hcell fin) hd
  ·exact wpAny_Name (wpAny_loadName_free I.ok.kind hk hc hcell fin hcd) hd
theorem aj {i j pos}:PE X (.Constant (.int i) j pos) (tC (.int i)):=λ_ _ _ H _ I h=>wpAny_Constant_int ⟨.int i,H,I.tok _,⟨_,rfl⟩,h⟩
theorem jN {b j pos}:PE X (.Constant (.bool b) j pos) (tC (.bl b)):=λ_ _ _ H _ I h=>Constant_bool ⟨.bl b,H,I,rfl,h⟩
theorem dC {j pos}:PE X (.Constant .none j pos) (tC .non):=λ_ _ _ H _ I h=>Constant_none ⟨.non,H,I,rfl,h⟩
theorem aR {x j pos}:PE X (.Constant (.str x) j pos) (tC (.str x)):=λ_ _ _ H _ I h=>Calls.Constant_str ⟨.str x,H,I.tok _,⟨_,rfl⟩,h⟩
def Gl (X:Cx) (x:Str):Prop:=X.env.kindOf x=some .globalImplicit
theorem jk {E:Value->Shared->Prop}{pins:List (Addr × Obj)}{s:Shared}{σ:St}{H:Hp}{x:Str}{u:Value}{pos:Pos}{Q:Value->Shared->Prop} (I:Inv X pins σ H s) (hg:Gl X x) (hm:X.mg x=some u) (h:Q u s)
  (hd:(x == ("__debug__" : Str))=false:=by decide):wpAny (model X.prog X.w) X.A (eval (.Name x pos) X.env) Q E s:=
 Calls.Name_function_global I.ok.kind hg (Calls.loadGlobal_global (by rw [I.ok.glob];exact I.mod.glob.keeps I.bk) hm h) hd
theorem iD {E:Value->Shared->Prop}{pins:List (Addr × Obj)}{s:Shared}{σ:St}{H:Hp}{x:Str}{u:Value}{pos:Pos}{Q:Value->Shared->Prop} (I:Inv X pins σ H s) (hg:Gl X x) (hm:X.mg x=none) (hv:bootBuiltins x=some u) (h:Q u s)
  (hn:x≠"__name__":=by decide) (hd:(x == ("__debug__" : Str))=false:=by decide):wpAny (model X.prog X.w) X.A (eval (.Name x pos) X.env) Q E s:=by
 obtain⟨mb,h1,h2⟩:=I.mod.blt
 exact Calls.Name_function_global I.ok.kind hg (Calls.loadGlobal_builtin (by rw [I.ok.glob];exact I.mod.glob.keeps I.bk) hm (by rw [I.ok.blt];exact h1.keeps I.bk) ((h2 x hn).trans hv) h) hd
theorem bO {x:Str}{v:V}{u:Value}{pos:Pos} (hg:Gl X x) (hm:X.mg x=some u) (r:aW v u) (hd:(x == ("__debug__" : Str))=false:=by decide):PE X (.Name x pos) (tC v):=
 λ_ _ _ H _ I h=>jk I hg hm ⟨v,H,I,r,h⟩ hd
theorem gY {x:Str}{v:V}{u:Value}{pos:Pos} (hg:Gl X x) (hm:X.mg x=none) (hv:bootBuiltins x=some u) (r:aW v u) (hn:x≠"__name__":=by decide) (hd:(x == ("__debug__" : Str))=false:=by decide):PE X (.Name x pos) (tC v):=
 λ_ _ _ H _ I h=>iD I hg hm hv ⟨v,H,I,r,h⟩ hn hd
variable {a b:Expr}{ta tb:TE}{pos:Pos}
def PC (X:Cx) (op:CmpOp) (a b:Expr) (t:TE):Prop:=
 ∀(pins:List (Addr × Obj)) (s:Shared) (σ:St) (H:Hp) (Q:VK),Inv X pins σ H s->t σ H Q->
  wpAny (model X.prog X.w) X.A (eval a X.env) (λv s₁=>wpAny (model X.prog X.w) X.A (eval b X.env) (λu s₂=>wpAny (model X.prog X.w) X.A (compareOp op v u) (EP X pins σ Q) X.xe s₂) X.xe s₁) X.xe s
theorem oi (b:Expr){op:CmpOp} (h:op≠.In) (h2:op≠.NotIn):behindInMarks op b=false:=by
 have e1:(op == CmpOp.In)=false:=by cases op <;> first | rfl | exact absurd rfl h
 have e2:(op == CmpOp.NotIn)=false:=by cases op <;> first | rfl | exact absurd rfl h2
 cases b <;> simp [behindInMarks,e1,e2]
noncomputable def Cd (ta:TE):TE:=λσ H Q=>ta σ H λx H1=>Q (.bl (decide (x=.non))) H1
noncomputable def Bm (ta:TE):TE:=λσ H Q=>ta σ H λx H1=>Q (.bl (!decide (x=.non))) H1
theorem aW.none_iff {x:V}{v:Value} (r:aW x v):(v == Value.none)=decide (x=.non):=by
 cases x with
 | non=>cases r;rfl
 | bl _=>cases r;rfl
 | int _=>obtain⟨t,rfl⟩:=r;rfl
 | str _=>obtain⟨t,rfl⟩:=r;rfl
 | byt _=>obtain⟨t,rfl⟩:=r;rfl
 | flt _=>obtain⟨t,rfl⟩:=r;rfl
 | ref _=>cases r;rfl
 | ty _=>cases r;rfl
theorem iB {j pos'} (ha:PE X a ta):PC X .Is a (.Constant .none j pos') (Cd ta):=by
 intro pins s σ H Q I h
 refine thn (ha pins s σ H _ I h) λv s1 ⟨x,H1,I1,r1,q1⟩=>?_
 exact Constant_none (is_none_gen ⟨.bl _,H1,I1,by rw [r1.none_iff];rfl,q1⟩)
theorem re {j pos'} (ha:PE X a ta):PC X .IsNot a (.Constant .none j pos') (Bm ta):=by
 intro pins s σ H Q I h
 refine thn (ha pins s σ H _ I h) λv s1 ⟨x,H1,I1,r1,q1⟩=>?_
 exact Constant_none (isnot_none_gen ⟨.bl _,H1,I1,by rw [r1.none_iff];rfl,q1⟩)
inductive tbR (x:V) (H1:Hp) (Q:Bool->Hp->Prop):Prop
 | mk (c) (h1:x=.bl c) (h2:Q c H1):tbR x H1 Q
noncomputable def tB (t:TE):TT:=λσ H Q=>t σ H λx H1=>tbR x H1 Q
theorem mH {op:CmpOp}{t:TE} (h:PC X op a b t) (h1:behindInMarks op b=false:=by first | exact oi _ (by decide) (by decide) | rfl):PE X (.Compare a [op] [b] pos) t:=λpins s σ H Q I hw=>wpAny_Compare1 (h pins s σ H Q I hw) h1
theorem mG {op:CmpOp}{t:TE} (h:PC X op a b t) (h1:behindInMarks op b=false:=by first | exact oi _ (by decide) (by decide) | rfl):PT X (.Compare a [op] [b] pos) (tB t):=by
 intro pins s σ H Q I hw
 refine wpAny_isTrue_Compare1 (thn (h pins s σ H _ I hw) λv s1 h1=>thn h1 λu s2 h2=>thn h2 λc s3 ⟨x,H1,I1,r1,q1⟩=>?_) h1
 obtain⟨d,rfl,q⟩:=q1
 cases r1
 exact wpAny_truthy_bool ⟨H1,I1,q⟩
theorem dB {e:Expr}{t:TE} (h:PE X e t) (he:∀whole,isTrue e X.env whole=(do let v <- whole;standAt e.pos;holding [v] (truthy v)):=by intro _;rfl):PT X e (tB t):=by
 intro pins s σ H Q I hw
 refine isTrue_plain (thn (h pins s σ H _ I hw) λv s1 ⟨x,H1,I1,r1,q1⟩=>?_) (he _)
 obtain⟨d,rfl,q⟩:=q1
 cases r1
 exact wpAny_truthy_bool ⟨H1,I1,q⟩
variable {tA tB':TT}{rest:List Expr}
noncomputable def Ch (t u:TT):TT:=λσ H Q=>t σ H λc H1=>if c=true then u σ H1 Q else Q false H1
noncomputable def tOr (t u:TT):TT:=λσ H Q=>t σ H λc H1=>if c=true then Q true H1 else u σ H1 Q
noncomputable def Cb (t:TT):TT:=λσ H Q=>t σ H λc H1=>Q (!c) H1
theorem xI (ha:PT X a tA):PW X (.BoolOp .And [a] pos) tA:=by
 intro wh pins s σ H Q I h
 refine isTrue_and (thn (ha pins s σ H Q I h) λc s1 e=>?_)
 cases c with
 | true=>exact isTrue_and_nil e
 | false=>exact e
theorem qd (ha:PT X a tA):PW X (.BoolOp .Or [a] pos) tA:=by
 intro wh pins s σ H Q I h
 refine isTrue_or (thn (ha pins s σ H Q I h) λc s1 e=>?_)
 cases c with
 | false=>exact isTrue_or_nil e
 | true=>exact e
theorem Aj (ha:PT X a tA) (hb:PW X (.BoolOp .And (b::rest) pos) tB'):PW X (.BoolOp .And (a::b::rest) pos) (Ch tA tB'):=by
 intro wh pins s σ H Q I h
 refine isTrue_and (thn (ha pins s σ H _ I h) λc s1 ⟨H1,I1,q1⟩=>?_)
 cases c with
 | true=>exact hb wh pins s1 σ H1 Q I1 q1
 | false=>exact⟨H1,I1,q1⟩
theorem v0 (ha:PT X a tA) (hb:PW X (.BoolOp .Or (b::rest) pos) tB'):PW X (.BoolOp .Or (a::b::rest) pos) (tOr tA tB'):=by
 intro wh pins s σ H Q I h
 refine isTrue_or (thn (ha pins s σ H _ I h) λc s1 ⟨H1,I1,q1⟩=>?_)
 cases c with
 | true=>exact⟨H1,I1,q1⟩
 | false=>exact hb wh pins s1 σ H1 Q I1 q1
theorem dZ (ha:PT X a tA):PT X (.UnaryOp .Not a pos) (Cb tA):=by
 intro pins s σ H Q I h
 exact isTrue_not (ha pins s σ H (λc H1=>Q (!c) H1) I h)
noncomputable def yN (ta tb:TE):TE:=λσ H Q=>ta σ H λx H1=>∃c,x=.bl c/\if c=true then tb σ H1 Q else Q (.bl false) H1
noncomputable def Ca (ta tb:TE):TE:=λσ H Q=>ta σ H λx H1=>∃c,x=.bl c/\if c=true then Q (.bl true) H1 else tb σ H1 Q
noncomputable def Bl (ta:TE):TE:=λσ H Q=>ta σ H λx H1=>∃c,x=.bl c/\Q (.bl (!c)) H1
theorem fo {op}{t:TE} (h:PE X a t):PE X (.BoolOp op [a] pos) t:=λpins s σ H Q I hw=>BoolOp_one (h pins s σ H Q I hw)
theorem fw (ha:PE X a ta) (hb:PE X (.BoolOp .And (b::rest) pos) tb):PE X (.BoolOp .And (a::b::rest) pos) (yN ta tb):=by
 intro pins s σ H Q I h
 refine BoolOp_and (thn (ha pins s σ H _ I h) λv s1 ⟨x,H1,I1,r1,q1⟩=>?_)
 obtain⟨c,rfl,q1⟩:=q1
 cases r1
 refine wpAny_truthy_bool ?_
 cases c with
 | true=>exact hb pins s1 σ H1 Q I1 q1
 | false=>exact⟨.bl false,H1,I1,rfl,q1⟩
theorem ve (ha:PE X a ta) (hb:PE X (.BoolOp .Or (b::rest) pos) tb):PE X (.BoolOp .Or (a::b::rest) pos) (Ca ta tb):=by
 intro pins s σ H Q I h
 refine BoolOp_or (thn (ha pins s σ H _ I h) λv s1 ⟨x,H1,I1,r1,q1⟩=>?_)
 obtain⟨c,rfl,q1⟩:=q1
 cases r1
 refine wpAny_truthy_bool ?_
 cases c with
 | false=>exact hb pins s1 σ H1 Q I1 q1
 | true=>exact⟨.bl true,H1,I1,rfl,q1⟩
theorem Aq (ha:PE X a ta):PE X (.UnaryOp .Not a pos) (Bl ta):=by
 intro pins s σ H Q I h
 refine UnaryOp_ (thn (ha pins s σ H _ I h) λv s1 ⟨x,H1,I1,r1,q1⟩=>?_)
 obtain⟨c,rfl,q1⟩:=q1
 cases r1
 exact not_of (wpAny_truthy_bool ⟨.bl (!c),H1,I1,rfl,q1⟩)
noncomputable def tIf (t:TT) (ta tb:TE):TE:=λσ H Q=>t σ H λc H1=>if c=true then ta σ H1 Q else tb σ H1 Q
theorem jM {c:Expr} (hc:PT X c tA) (ha:PE X a ta) (hb:PE X b tb):PE X (.IfExp c a b pos) (tIf tA ta tb):=by
 intro pins s σ H Q I h
 refine wpAny_IfExp (thn (hc pins s σ H _ I h) λd s1 ⟨H1,I1,q1⟩=>?_)
 cases d with
 | true=>exact ha pins s1 σ H1 Q I1 q1
 | false=>exact hb pins s1 σ H1 Q I1 q1
end
def SqL (K:PySem.W.Frag) (H:Hp) (a:Addr) (xs:List V):Prop:=
 Rd H a (.lst xs)\/
  ∃(o:Obj) (its:Array Value) (n:Nat),K.lookup a=some o/\o.cls=.type "list"/\o.dict=none/\o.data=.seq its n/\its.size<=sizeLine/\aU xs its.toList
def SqT (K:PySem.W.Frag) (H:Hp) (a:Addr) (xs:List V):Prop:=
 Rd H a (.tup xs)\/
  ∃(o:Obj) (its:Array Value) (n:Nat),K.lookup a=some o/\o.cls=.type "tuple"/\o.data=.seq its n/\its.size<=sizeLine/\aU xs its.toList
noncomputable def Cz:Value->Option V
 | .none=>some .non
 | .bool b=>some (.bl b)
 | .int i _=>some (.int i)
 | .str x _=>some (.str x)
 | .bytes b _=>some (.byt b)
 | .float b _=>some (.flt b)
 | .ref a=>some (.ref a)
 | .type n=>some (.ty n)
 | _=>none
theorem aW.abs {x:V}{u:Value} (r:aW x u):Cz u=some x:=by
 cases x with
 | non=>cases r;rfl
 | bl _=>cases r;rfl
 | int _=>obtain⟨t,rfl⟩:=r;rfl
 | str _=>obtain⟨t,rfl⟩:=r;rfl
 | byt _=>obtain⟨t,rfl⟩:=r;rfl
 | flt _=>obtain⟨t,rfl⟩:=r;rfl
 | ref _=>cases r;rfl
 | ty _=>cases r;rfl
theorem aW.inj {x y:V}{u:Value} (r:aW x u) (q:aW y u):x=y:=Option.some.inj (r.abs.symm.trans q.abs)
theorem aU.inj:∀{xs ys:List V}{us:List Value},aU xs us->aU ys us->xs=ys
 | _,_,_,.nil,.nil=>rfl
 | _,_,_,.cons r t,.cons r' t'=>by rw [r.inj r',aU.inj t t']
section
variable {X:Cx}{pins:List (Addr × Obj)}{σ:St}{H:Hp}{s:Shared}{a:Addr}{xs ys:List V}
theorem SqL.of {K:W.Frag} (h:H a=some (.lst xs)):SqL K H a xs:=.inl (.inl h)
theorem SqT.of {K:W.Frag} (h:H a=some (.tup xs)):SqT K H a xs:=.inl (.inl h)
theorem Inv.list (I:Inv X pins σ H s) (h:SqL X.K H a xs):∃its:List Value,aU xs its/\PlainL s.heap a its.toArray/\xs.length<=sizeLine:=by
 rcases h with h | ⟨o,its,n,hk,hc,hd,hs,hz,r⟩
 ·obtain⟨z,its,n,r,e⟩:=h.ok I.hok
  exact⟨its,r,⟨_,n,e,rfl,rfl,rfl⟩,z⟩
 ·refine⟨its.toList,r,⟨o,n,I.kIn a o hk,hc,hd,by simpa using hs⟩,?_⟩
  have e:=r.length
  simp only [Array.length_toList]at e
  omega
theorem Inv.tuple (I:Inv X pins σ H s) (h:SqT X.K H a xs):∃its:List Value,aU xs its/\IsTup s.heap a its.toArray/\xs.length<=sizeLine:=by
 rcases h with h | ⟨o,its,n,hk,hc,hs,hz,r⟩
 ·obtain⟨z,its,r,p⟩:=h.ok I.hok
  exact⟨its,r,p,z⟩
 ·refine⟨its.toList,r,⟨o,I.kIn a o hk,hc,n,by simpa using hs⟩,?_⟩
  have e:=r.length
  simp only [Array.length_toList]at e
  omega
theorem Inv.list_inj (I:Inv X pins σ H s) (h:SqL X.K H a xs) (h':SqL X.K H a ys):xs=ys:=by
 obtain⟨its,r,⟨o,n,e,_,_,d⟩,_⟩:=I.list h
 obtain⟨its',r',⟨o',n',e',_,_,d'⟩,_⟩:=I.list h'
 rw [e]at e';cases e'
 rw [d]at d'
 injection d' with d1 _
 have:its=its':=by simpa using congrArg Array.toList d1
 subst this
 exact r.inj r'
theorem Inv.tuple_inj (I:Inv X pins σ H s) (h:SqT X.K H a xs) (h':SqT X.K H a ys):xs=ys:=by
 obtain⟨its,r,⟨o,e,_,n,d⟩,_⟩:=I.tuple h
 obtain⟨its',r',⟨o',e',_,n',d'⟩,_⟩:=I.tuple h'
 rw [e]at e';cases e'
 rw [d]at d'
 injection d' with d1 _
 have:its=its':=by simpa using congrArg Array.toList d1
 subst this
 exact r.inj r'
end
noncomputable abbrev Cx.wish (X:Cx) (E:Value->Shared->Prop):Cx:={ X with xe:=E }
noncomputable abbrev Cx.nox (X:Cx):Cx:=X.wish λ_ _=>False
theorem Cx.Ok.wish {X:Cx} (ok:X.Ok) (E:Value->Shared->Prop):(X.wish E).Ok:=
 ⟨ok.mod,ok.kind,ok.glob,ok.blt,ok.above,ok.inj,ok.has,ok.cab,ok.hd,ok.frames,ok.stk,ok.exf,ok.bs,ok.bsz,ok.noex,ok.exfs,ok.funs,ok.frf⟩
theorem Cx.Ok.unwish {X:Cx}{E:Value->Shared->Prop} (ok:(X.wish E).Ok):X.Ok:=
 ⟨ok.mod,ok.kind,ok.glob,ok.blt,ok.above,ok.inj,ok.has,ok.cab,ok.hd,ok.frames,ok.stk,ok.exf,ok.bs,ok.bsz,ok.noex,ok.exfs,ok.funs,ok.frf⟩
section
variable {X:Cx}{pins:List (Addr × Obj)}{σ:St}{H:Hp}{s:Shared}{E:Value->Shared->Prop}
theorem Inv.wish (I:Inv X pins σ H s) (E:Value->Shared->Prop):Inv (X.wish E) pins σ H s:=⟨I.ok.wish E,I.os,I.bare,I.base,I.loc,I.cell,I.free,I.freeC,I.pin,I.hok,I.len⟩
theorem Inv.unwish (I:Inv (X.wish E) pins σ H s):Inv X pins σ H s:=⟨I.ok.unwish,I.os,I.bare,I.base,I.loc,I.cell,I.free,I.freeC,I.pin,I.hok,I.len⟩
theorem SP.unwish {D:Ends}{f:Flow}{s':Shared} (h:SP (X.wish E) pins D f s'):SP X pins D f s':=by
 cases f with
 | next=>obtain⟨σ',H',I,q⟩:=h;exact⟨σ',H',I.unwish,q⟩
 | brk=>obtain⟨σ',H',I,q⟩:=h;exact⟨σ',H',I.unwish,q⟩
 | cont=>obtain⟨σ',H',I,q⟩:=h;exact⟨σ',H',I.unwish,q⟩
 | ret u=>obtain⟨v,σ',H',I,r,q⟩:=h;exact⟨v,σ',H',I.unwish,r,q⟩
theorem PSs.nox {st:List Stmt}{t:TS} (h:PSs X.nox st t):PSs X st t:=λpins s σ H D I hw=>
 wpAny_mono (h pins s σ H D (I.wish _) hw) (λ_ _ q=>q.unwish) λ_ _ z=>False.elim z
end
section
variable {X:Cx}{st:Stmt}{rest:List Stmt}{t u:TS}{e:Expr}{te:TE}{pos:Pos}
noncomputable def yK:TS:=λD σ H=>D.nx σ H
noncomputable def x9 (t u:TS):TS:=λD σ H=>t { D with nx:=u D } σ H
theorem aL:PSs X [] yK:=λ_ _ σ H _ I h=>wpAny_execs_nil ⟨σ,H,I,h⟩
theorem af (h1:PS X st t) (h2:PSs X rest u):PSs X (st::rest) (x9 t u):=by
 intro pins s σ H D I h
 refine wpAny_execs_cons (thn (h1 pins s σ H { D with nx:=u D } I h) λf s1 q=>?_)
 cases f with
 | next=>
  obtain⟨σ',H',I',q⟩:=q
  exact h2 pins s1 σ' H' D I' q
 | ret v=>exact q
 | brk=>exact q
 | cont=>exact q
theorem aq (h1:PS X st t):PSs X [st] t:=by
 intro pins s σ H D I h
 refine wpAny_execs_cons (thn (h1 pins s σ H D I h) λf s1 q=>?_)
 cases f with
 | next=>exact wpAny_execs_nil q
 | ret v=>exact q
 | brk=>exact q
 | cont=>exact q
theorem Inv.quiet {pins:List (Addr × Obj)}{σ:St}{H:Hp}{s:Shared} (I:Inv X pins σ H s):interactive X.env=false:=by simp [interactive,I.ok.kind]
noncomputable def yM (te:TE):TS:=λD σ H=>te σ H λ_ H1=>D.nx σ H1
theorem bo (he:PE X e te) (hs:swapsWith e none pos.line X.env=pure false:=by rfl):PS X (.Expr e pos) (yM te):=by
 intro pins s σ H D I h
 exact wpAny_Expr_any (thn (he pins s σ H _ I h) λv s1 ⟨x,H1,I1,r1,q1⟩=>⟨σ,H1,I1,q1⟩) I.quiet hs
noncomputable def Bj (te:TE):TS:=λD σ H=>te σ H D.rt
theorem aB (he:PE X e te):PS X (.Return (some e) pos) (Bj te):=by
 intro pins s σ H D I h
 exact wpAny_Return_some (thn (he pins s σ H _ I h) λv s1 ⟨x,H1,I1,r1,q1⟩=>⟨x,σ,H1,I1,r1,q1⟩)
noncomputable def Bp (c:TT) (t u:TS):TS:=λD σ H=>c σ H λb H1=>if b=true then t D σ H1 else u D σ H1
theorem bx {c:Expr}{a b:List Stmt}{tc:TT} (hc:PT X c tc) (ha:PSs X a t) (hb:PSs X b u):PS X (.If c a b pos) (Bp tc t u):=by
 intro pins s σ H D I h
 refine wpAny_If (thn (hc pins s σ H _ I h) λd s1 ⟨H1,I1,q1⟩=>?_)
 cases d with
 | true=>exact ha pins s1 σ H1 D I1 q1
 | false=>exact hb pins s1 σ H1 D I1 q1
noncomputable def zI:TS:=λ_ _ _=>False
theorem gS:PS X st zI:=λ_ _ _ _ _ _ h=>h.elim
end
noncomputable abbrev TG:=V->St->Hp->(St->Hp->Prop)->Prop
noncomputable abbrev TGs:=List V->St->Hp->(St->Hp->Prop)->Prop
def PG (X:Cx) (target:Expr) (t:TG):Prop:=
 ∀(pins:List (Addr × Obj)) (s:Shared) (σ:St) (H:Hp) (v:V) (u:Value) (Q:St->Hp->Prop),Inv X pins σ H s->aW v u->t v σ H Q->
  wpAny (model X.prog X.w) X.A (assign target X.env u) (λ_ s'=>∃σ' H',Inv X pins σ' H' s'/\Q σ' H') X.xe s
def PGs (X:Cx) (ts:List Expr) (t:TGs):Prop:=
 ∀(pins:List (Addr × Obj)) (s:Shared) (σ:St) (H:Hp) (vs:List V) (us:List Value) (Q:St->Hp->Prop),Inv X pins σ H s->aU vs us->t vs σ H Q->
  wpAny (model X.prog X.w) X.A (assignInOrder ((assignEach ts X.env).map (·.2)) us) (λ_ s'=>∃σ' H',Inv X pins σ' H' s'/\Q σ' H') X.xe s
noncomputable abbrev B6:=V->V->V->Hp->(Hp->Prop)->Prop
def C2 (X:Cx) (t:B6):Prop:=
 ∀(pins:List (Addr × Obj)) (s:Shared) (σ:St) (H:Hp) (o i v:V) (ov iv u:Value) (Q:Hp->Prop),Inv X pins σ H s->aW o ov->aW i iv->aW v u->t o i v H Q->
  wpAny (model X.prog X.w) X.A (setItem ov iv u) (λ_ s'=>∃H',Inv X pins σ H' s'/\Q H') X.xe s
noncomputable abbrev TIp:=V->V->Hp->VK->Prop
def PIp (X:Cx) (op:Operator) (t:TIp):Prop:=
 ∀(pins:List (Addr × Obj)) (s:Shared) (σ:St) (H:Hp) (x y:V) (v u:Value) (Q:VK),Inv X pins σ H s->aW x v->aW y u->t x y H Q->
  wpAny (model X.prog X.w) X.A (inplaceOp op v u) (EP X pins σ Q) X.xe s
section
variable {X:Cx}{pos:Pos}
noncomputable def az (i:Nat):TG:=λv σ H Q=>Q (σ.set i (some v)) H
theorem aI {i:Nat}{x:Str} (hN:X.N.Nodup) (hi:X.N[i]?=some x) (hx:Loc X.env.scope x) (hf:X.fn x=true\/X.env.scope.names.lookup x=some .local:=by first | exact .inl rfl | exact .inr rfl | assumption):PG X (.Name x pos) (az i):=by
 intro pins s σ H v u Q I r h
 exact wpAny_assign_Name (fe I hN hi hx r (λs' I'=>⟨_,H,I',h⟩) hf)
noncomputable def Cr:TGs:=λvs σ H Q=>vs=[]/\Q σ H
inductive zo (t:TG) (u:TGs) (vs:List V) (σ:St) (H:Hp) (Q:St->Hp->Prop):Prop
 | mk (v r) (h1:vs=v::r) (h2:t v σ H λσ' H'=>u r σ' H' Q):zo t u vs σ H Q
theorem eS:PGs X [] Cr:=by
 intro pins s σ H vs us Q I r h
 obtain⟨e,h⟩:=h
 subst e
 cases r
 exact assignInOrder_nil ⟨σ,H,I,h⟩
theorem aS {e:Expr}{es:List Expr}{t:TG}{u:TGs} (h1:PG X e t) (h2:PGs X es u)
  (hs:(assignEach (e::es) X.env).map (·.2)=assign e X.env::(assignEach es X.env).map (·.2):=by rfl):PGs X (e::es) (zo t u):=by
 intro pins s σ H vs us Q I r h
 obtain⟨v,vr,e1,h⟩:=h
 subst e1
 cases r with
 | cons r rr=>
  rw [hs]
  refine assignInOrder_cons (thn (h1 pins s σ H _ _ _ I r h) λ_ s1 ⟨σ1,H1,I1,q1⟩=>?_)
  exact h2 pins s1 σ1 H1 _ _ Q I1 rr q1
inductive BR (K:PySem.W.Frag) (n:Nat) (t:TGs) (v:V) (σ:St) (H:Hp) (Q:St->Hp->Prop):Prop
 | mk (a xs) (h1:v=.ref a) (h2:SqT K H a xs) (h3:xs.length=n) (h4:t xs σ H Q):BR K n t v σ H Q
theorem gx {es:List Expr}{k:Nat}{t:TGs}{n:Nat} (hc:X.calm=true) (h:PGs X es t)
  (hn:(assignEach es X.env).length=n:=by rfl) (hst:(assignEach es X.env).findIdx? (·.1)=none:=by rfl):PG X (.Tuple es k pos) (BR X.K n t):=by
 intro pins s σ H v u Q I r hw
 obtain⟨a,xs,e1,hq,hl,hw⟩:=hw
 subst e1
 cases r
 obtain⟨its,rv,ht,hz⟩:=I.tuple hq
 refine assign_Tuple_tuple (I.ok.hd hc) ht (by simp [hn,<- hl,rv.length]) hst λh' hx=>?_
 have I1:Inv X pins σ H { s with heap:=h' }:=I.kept (t':=s.toks) λb o e=>hx b o (Nat.ne_of_lt (Heap.lt_size e)) e
 exact h pins _ σ H xs _ Q I1 (by simpa using rv) hw
noncomputable def Cq (to ti:TE) (t:B6):TG:=λv σ H Q=>to σ H λo H1=>ti σ H1 λi H2=>t o i v H2 λH3=>Q σ H3
theorem vd {o i:Expr}{to ti:TE}{t:B6} (ho:PE X o to) (hi:PE X i ti) (hs:C2 X t)
  (ha:∀v,assign (.Subscript o i pos) X.env v=(do
   let ov <- holding [v] (eval o X.env)
   let iv <- holding [v,ov] (eval i X.env)
   standAt pos
   holding [v,ov,iv] (setItem ov iv v)
   release [v,ov,iv] []):=by intro _;rfl):PG X (.Subscript o i pos) (Cq to ti t):=by
 intro pins s σ H v u Q I r h
 rw [ha]
 refine zB0 (wpAny_holding (thn (ho pins s σ H _ I h) λov s1 ⟨x,H1,I1,r1,q1⟩=>?_))
 refine zB0 (wpAny_holding (thn (hi pins s1 σ H1 _ I1 q1) λiv s2 ⟨y,H2,I2,r2,q2⟩=>?_))
 refine zB0 (wpAny_standAt (zB0 (wpAny_holding (thn (hs pins s2 σ H2 x y v ov iv u _ I2 r1 r2 r q2) λ_ s3 ⟨H3,I3,q3⟩=>?_))))
 exact wpAny_release ⟨σ,H3,I3,q3⟩
noncomputable def xb (te:TE) (g:TG):TS:=λD σ H=>te σ H λx H1=>g x σ H1 D.nx
theorem eQ {tg e:Expr}{te:TE}{g:TG} (he:PE X e te) (hg:PG X tg g) (hs:swapsWithSole [tg] e pos.line X.env=pure false:=by rfl) (hw:swappedStores [tg] e X.env=pure none:=by rfl)
  (h1:(assignEach [tg] X.env).map (·.2)=[assign tg X.env]:=by rfl):PS X (.Assign [tg] e pos) (xb te g):=by
 intro pins s σ H D I h
 refine wpAny_Assign_stores (thn (he pins s σ H _ I h) λv s1 ⟨x,H1,I1,r1,q1⟩=>?_) hs hw
 rw [h1]
 exact thn (hg pins s1 σ H1 x v _ I1 r1 q1) λ_ s2 q=>q
theorem aA {i:Nat}{x:Str}{e:Expr}{te:TE}{pos':Pos} (hN:X.N.Nodup) (hi:X.N[i]?=some x) (hx:Loc X.env.scope x) (he:PE X e te) (hs:swapsWith e (some (.Name x pos')) pos.line X.env=pure false:=by rfl) (hf:X.fn x=true\/X.env.scope.names.lookup x=some .local:=by first | exact .inl rfl | exact .inr rfl | assumption) :
  PS X (.Assign [.Name x pos'] e pos) (xb te (az i)):=by
 intro pins s σ H D I h
 refine wpAny_Assign_Name (thn (he pins s σ H _ I h) λv s1 ⟨y,H1,I1,r1,q1⟩=>?_) hs
 exact fe I1 hN hi hx r1 (λs2 I2=>⟨_,H1,I2,q1⟩) hf
noncomputable def Cg (i:Nat) (te:TE) (ti:TIp):TS:=λD σ H=>∃x,σ[i]?=some (some x)/\te σ H λy H1=>ti x y H1 λz H2=>D.nx (σ.set i (some z)) H2
theorem Am {i:Nat}{x:Str}{e:Expr}{te:TE}{op:Operator}{ti:TIp}{pos':Pos} (hN:X.N.Nodup) (hi:X.N[i]?=some x) (hx:Loc X.env.scope x) (he:PE X e te) (ho:PIp X op ti) (hf:X.fn x=true\/X.env.scope.names.lookup x=some .local:=by first | exact .inl rfl | exact .inr rfl | assumption) :
  PS X (.AugAssign (.Name x pos') op e pos) (Cg i te ti):=by
 intro pins s σ H D I h
 obtain⟨v,e1,h⟩:=h
 obtain⟨m,hn,hl⟩:=I.loc
 have vis:Vis X.env.scope x:=by rcases hx with k | k;exact .inl k;exact .inr (.inl k)
 obtain⟨u,r,l⟩:=hl i x v hi e1 vis
 refine wpAny_AugAssign_Name ?_
 have go:wpAny (model X.prog X.w) X.A (eval e X.env) (λw s₂=>wpAny (model X.prog X.w) X.A (inplaceOp op u w) (λr s₃=>wpAny (model X.prog X.w) X.A (storeName X.env x r) (λ_=>SP X pins D .next) X.xe s₃) X.xe s₂) X.xe s:=by
  refine thn (he pins s σ H _ I h) λw s1 ⟨y,H1,I1,r1,q1⟩=>?_
  refine thn (ho pins s1 σ H1 v y u w _ I1 r r1 q1) λz s2 ⟨zv,H2,I2,r2,q2⟩=>?_
  exact fe I2 hN hi hx r2 (λs3 I3=>⟨_,H2,I3,q2⟩) hf
 rcases l with⟨hk,hm⟩ | ⟨hk,c,hc,hcell⟩
 ·exact wpAny_loadName_local I.ok.kind hk hn hm go
 ·rcases hk with hk | hk
  ·exact wpAny_loadName_cell I.ok.kind hk hc hcell go
  ·rcases hx with k | k
   ·have:X.env.scope.names.lookup x=some .free:=hk
    rw [k]at this;cases this
   ·have:X.env.scope.names.lookup x=some .free:=hk
    rw [k]at this;cases this
noncomputable def ipI (f:Int->Int->Int):TIp:=λx y H Q=>∃i j,x=.int i/\y=.int j/\Q (.int (f i j)) H
theorem AM:PIp X .Sub (ipI λi j=>i - j):=by
 intro pins s σ H x y v u Q I r1 r2 h
 obtain⟨i,j,e1,e2,q⟩:=h
 subst e1;subst e2
 obtain⟨t,rfl⟩:=r1
 obtain⟨t',rfl⟩:=r2
 exact isub_int ⟨.int _,H,I.tok _,⟨_,rfl⟩,q⟩
end
section
variable {X:Cx}{pos:Pos}
noncomputable def tR (c:TT) (tb:TS):TS:=λD σ H=>∃W:Nat->St->Hp->Prop,(∃m,W m σ H)/\∀m σ H,W m σ H->
 c σ H λb H1=>if b=true then ∃N:St->Hp->Prop,(∀σ' H',N σ' H'->∃m',m' < m/\W m' σ' H')/\tb { D with nx:=N,ct:=N,bk:=D.nx } σ H1 else D.nx σ H1
theorem vb {c:Expr}{body:List Stmt}{tc:TT}{tb:TS} (hp:PassesOwn (model X.prog X.w) X.A X.env X.xe) (hc:PT X c tc) (hb:PSs X body tb):PS X (.While c body [] pos) (tR tc tb):=by
 intro pins s σ H D I h
 obtain⟨W,⟨m0,w0⟩,turn⟩:=h
 refine wpAny_While (codeAny_whileLoop (λn s'=>∃σ' H',Inv X pins σ' H' s'/\W n σ' H') ?_ m0 ⟨σ,H,I,w0⟩)
 rintro n s1 ⟨σ1,H1,I1,w1⟩
 refine wpAny_passesOwn hp (thn (hc pins s1 σ1 H1 _ I1 (turn n σ1 H1 w1)) λb s2 ⟨H2,I2,q2⟩=>?_)
 cases b with
 | true=>
  obtain⟨N,hN,q2⟩:=q2
  rw [if_pos rfl]
  refine wpAny_passesOwn hp (thn (hb pins s2 σ1 H2 _ I2 q2) λf s3 q3=>?_)
  cases f with
  | next=>
   obtain⟨σ3,H3,I3,n3⟩:=q3
   obtain⟨m',hm,w3⟩:=hN σ3 H3 n3
   exact⟨m',hm,σ3,H3,I3,w3⟩
  | cont=>
   obtain⟨σ3,H3,I3,n3⟩:=q3
   obtain⟨m',hm,w3⟩:=hN σ3 H3 n3
   exact⟨m',hm,σ3,H3,I3,w3⟩
  | brk=>exact q3
  | ret v=>exact q3
 | false=>
  rw [if_neg Bool.false_ne_true]
  exact wpAny_execs_nil ⟨σ1,H2,I2,q2⟩
end
structure It where
 go:Nat->Hp->Prop
 yld:Nat->Hp->V->Hp->Prop
 stop:Nat->Hp->Prop
def iM (X:Cx) (pins:List (Addr × Obj)) (H:Hp) (b:Addr):Prop:=
 H b=none/\b≠X.env.locals/\b∉X.fs/\(b∈X.ex\/X.s₀.heap.objs.size<=b)/\(∀x c,X.env.cells.lookup x=some c->c≠b)/\∀p∈X.pn++pins,p.1≠b
theorem Inv.fpOk {X:Cx}{pins:List (Addr × Obj)}{σ:St}{H H':Hp}{s:Shared}{b:Addr} (I:Inv X pins σ H s) (hb:s.heap.objs.size<=b) (hn:H' b=none):iM X pins H' b:=by
 refine⟨hn,Nat.ne_of_gt (Nat.lt_of_lt_of_le I.lt hb),I.nofs hb,.inr (Nat.le_trans I.sz hb),λx c e z=>?_,λp hp z=>?_⟩
 ·obtain⟨v,q⟩:=I.cell x c e
  exact absurd (Nat.lt_of_lt_of_le q.lt (by rw [z];exact hb)) (Nat.lt_irrefl _)
 ·exact absurd (Nat.lt_of_lt_of_le (Heap.lt_size (I.pin p hp).1) (by rw [z];exact hb)) (Nat.lt_irrefl _)
structure Turn (P:Program) (w:World) (K:PySem.W.Frag) (tg:Expr) (J:It) (fp:List Addr) (it:Addr) (tn:Nat->Heap->Prop):Prop where
 mem:it∈fp
 obj:∀i h,tn i h->∀b∈fp,∃o,h.get? b=some o/\∀v,o.data≠.cell v
 keep:∀i h h',tn i h->(∀b∈fp,∀o,h.get? b=some o->h'.get? b=some o)->tn i h'
 item:∀(X:Cx),X.prog=P->X.w=w->X.K=K->X.calm=true->∀(i:Nat) (pins:List (Addr × Obj)) (s:Shared) (σ:St) (H:Hp) (E:Value->Shared->Prop),Inv X pins σ H s->(∀b∈fp,iM X pins H b)->tn i s.heap->J.go i H->
  wpAny (model P w) X.A (pyNext (.ref it)) (λr s1=>∃u,r=some u/\
   wpAny (model P w) X.A (letOwnedTupleGo tg (.ref it) u) (λ_ s2=>∃x H',Inv X pins σ H' s2/\aW x u/\J.yld i H x H'/\tn (i+1) s2.heap/\∀b∈fp,H' b=none) E s1) E s
 done:∀(X:Cx),X.prog=P->X.w=w->X.K=K->X.calm=true->∀(i:Nat) (pins:List (Addr × Obj)) (s:Shared) (σ:St) (H:Hp) (E:Value->Shared->Prop),Inv X pins σ H s->(∀b∈fp,iM X pins H b)->tn i s.heap->J.stop i H->
  wpAny (model P w) X.A (pyNext (.ref it)) (λr s1=>r=none/\Inv X pins σ H s1) E s
 self:∀(A:Around) (i:Nat) (s:Shared) (Q:Value->Shared->Prop) (E:Value->Shared->Prop),tn i s.heap->Q (.ref it) s->wpAny (model P w) A (pyIter (.ref it)) Q E s
noncomputable abbrev TI:=St->Hp->(It->Hp->Prop)->Prop
def PIE (X:Cx) (pins:List (Addr × Obj)) (σ:St) (tg:Expr) (R:It->Hp->Prop) (itv:Value) (s2:Shared):Prop:=
 ∃(it:Addr) (fp:List Addr) (tn:Nat->Heap->Prop) (J:It) (H':Hp),itv=.ref it/\Inv X pins σ H' s2/\Turn X.prog X.w X.K tg J fp it tn/\tn 0 s2.heap/\(∀b∈fp,iM X pins H' b)/\R J H'
def PI (X:Cx) (tg iter:Expr) (wi:TI):Prop:=
 ∀(pins:List (Addr × Obj)) (s:Shared) (σ:St) (H:Hp) (R:It->Hp->Prop),Inv X pins σ H s->wi σ H R->
  wpAny (model X.prog X.w) X.A (eval iter X.env) (λv s1=>wpAny (model X.prog X.w) X.A (pyIter v) (PIE X pins σ tg R) X.xe s1) X.xe s
theorem lF {M : Model} {A : Around} {E : Value → Shared → Prop} {s : Shared} {tg : Expr} {it : Addr} {u : Value} {o : Obj} {n : String} {vs : Array Value} {Q : Unit → Shared → Prop} (ho : s.heap.get? it = some o) (hc : o.cls = .type n) (hd : o.data = .fields vs)
    (hn : ["enumerate", "zip", "dict_itemiterator", "dict_reverseitemiterator", "odict_iterator", "itertools.zip_longest", "itertools.pairwise"].contains n = false) (hQ : Q () s) : wpAny M A (letOwnedTupleGo tg (.ref it) u) Q E s := by
  unfold letOwnedTupleGo
  cases tg <;> first
    | exact zP0 hQ
    | (cases u <;> first
        | exact zP0 hQ
        | (refine zB0 (wpAny_load ho ?_)
           rw [hc, hd]
           show wpAny M A (if (["enumerate", "zip", "dict_itemiterator", "dict_reverseitemiterator", "odict_iterator", "itertools.zip_longest", "itertools.pairwise"].contains n && vs[0]? == some (rawInt _)) = true then _ else _) Q E s
           rw [if_neg (by intro h; rw [hn, Bool.false_and] at h; cases h)]
           exact zP0 hQ))
noncomputable def Itl (K:PySem.W.Frag) (a:Addr):It:=
 ⟨λi H=>∃xs x,SqL K H a xs/\xs[i]?=some x,λi H x H'=>H'=H/\∀xs,SqL K H a xs->xs[i]?=some x,λi H=>∃xs,SqL K H a xs/\xs.length<=i⟩
noncomputable def Itt (K:PySem.W.Frag) (a:Addr):It:=
 ⟨λi H=>∃xs x,SqT K H a xs/\xs[i]?=some x,λi H x H'=>H'=H/\∀xs,SqT K H a xs->xs[i]?=some x,λi H=>∃xs,SqT K H a xs/\xs.length<=i⟩
noncomputable def Itr (lo:Int) (n:Nat):It:=⟨λi _=>i < n,λi H x H'=>H'=H/\x=.int (lo+i),λi _=>n<=i⟩
theorem sd {P:Program}{w:World}{K:W.Frag}{tg:Expr} (a it:Addr):Turn P w K tg (Itl K a) [it] it (λi h=>h.IsListIter it a i) where
 mem:=by simp
 obj:=λi h st b hb=>by
  have e:b=it:=by simpa using hb
  subst e
  obtain⟨o,e,c,d⟩:=st
  exact⟨o,e,λv z=>by rw [d]at z;cases z⟩
 keep:=λi h h' st k=>st.at λo e=>k it (by simp) o e
 item:=by
  intro X hP hw hK hc i pins s σ H E I hf st hg
  subst hP hw hK
  obtain⟨xs,x,hq,hx⟩:=hg
  obtain⟨its,rv,p,hz⟩:=I.list hq
  obtain⟨u,hu,ru⟩:=rv.get hx
  obtain⟨f0,f1,f2,f3,f4,f5⟩:=hf it (by simp)
  refine wpAny_pyNext_list_item st p.isList (x:=u) (by simpa using hu) λh' st' sb=>?_
  have I1:Inv X pins σ H { s with heap:=h' }:=I.turned (t':=s.toks) (λb o hb e=>(sb.2 b hb).trans e) f0 f1 f3 f4 f5
  obtain⟨o,e,c,d⟩:=id st'
  exact⟨u,rfl,lF (s:={ s with heap:=h' }) e c d (by decide) ⟨x,H,I1,ru,⟨rfl,λys hy=>by rw [I.list_inj hy hq];exact hx⟩,st',λb hb=>(hf b hb).1⟩⟩
 done:=by
  intro X hP hw hK hc i pins s σ H E I hf st hg
  subst hP hw hK
  obtain⟨xs,hq,hx⟩:=hg
  obtain⟨its,rv,p,hz⟩:=I.list hq
  obtain⟨f0,f1,f2,f3,f4,f5⟩:=hf it (by simp)
  have hl:=rv.length
  exact wpAny_pyNext_list_end (I.ok.hd hc) st p.isList (by simp;omega) λh' eb=>⟨rfl,I.turned (t':=s.toks) (λb o hb e=>eb b o hb e) f0 f1 f3 f4 f5⟩
 self:=λ_ _ _ _ _ st h=>wpAny_pyIter_listiter st h
theorem pf {P:Program}{w:World}{K:W.Frag}{tg:Expr} (a it:Addr):Turn P w K tg (Itt K a) [it] it (λi h=>h.IsTupleIter it a i) where
 mem:=by simp
 obj:=λi h st b hb=>by
  have e:b=it:=by simpa using hb
  subst e
  obtain⟨o,e,c,d⟩:=st
  exact⟨o,e,λv z=>by rw [d]at z;cases z⟩
 keep:=λi h h' st k=>st.at λo e=>k it (by simp) o e
 item:=by
  intro X hP hw hK hc i pins s σ H E I hf st hg
  subst hP hw hK
  obtain⟨xs,x,hq,hx⟩:=hg
  obtain⟨its,rv,p,hz⟩:=I.tuple hq
  obtain⟨u,hu,ru⟩:=rv.get hx
  obtain⟨f0,f1,f2,f3,f4,f5⟩:=hf it (by simp)
  refine wpAny_pyNext_tuple_item st (show s.heap.IsTuple a its.toArray from p) (x:=u) (by simpa using hu) λh' st' sb=>?_
  have I1:Inv X pins σ H { s with heap:=h' }:=I.turned (t':=s.toks) (λb o hb e=>(sb.2 b hb).trans e) f0 f1 f3 f4 f5
  obtain⟨o,e,c,d⟩:=id st'
  exact⟨u,rfl,lF (s:={ s with heap:=h' }) e c d (by decide) ⟨x,H,I1,ru,⟨rfl,λys hy=>by rw [I.tuple_inj hy hq];exact hx⟩,st',λb hb=>(hf b hb).1⟩⟩
 done:=by
  intro X hP hw hK hc i pins s σ H E I hf st hg
  subst hP hw hK
  obtain⟨xs,hq,hx⟩:=hg
  obtain⟨its,rv,p,hz⟩:=I.tuple hq
  obtain⟨f0,f1,f2,f3,f4,f5⟩:=hf it (by simp)
  have hl:=rv.length
  exact wpAny_pyNext_tuple_end (I.ok.hd hc) st (show s.heap.IsTuple a its.toArray from p) (by simp;omega) λh' eb=>⟨rfl,I.turned (t':=s.toks) (λb o hb e=>eb b o hb e) f0 f1 f3 f4 f5⟩
 self:=λ_ _ _ _ _ st h=>wpAny_pyIter_tupleiter st h
theorem ph {P:Program}{w:World}{K:W.Frag}{tg:Expr} (it:Addr) (lo:Int) (n:Nat):Turn P w K tg (Itr lo n) [it] it (λi h=>IsRangeIter h it (lo+(i:Nat) * 1) ((n:Int) - (i:Nat)) 1) where
 mem:=by simp
 obj:=λi h st b hb=>by
  have e:b=it:=by simpa using hb
  subst e
  exact⟨_,st,λv z=>by
   have z':Data.fields _=Data.cell v:=z
   cases z'⟩
 keep:=λi h h' st k=>k it (by simp) _ st
 item:=by
  intro X hP hw hK hc i pins s σ H E I hf st hg
  subst hP hw hK
  obtain⟨f0,f1,f2,f3,f4,f5⟩:=hf it (by simp)
  have W:=Walks.range (prog:=X.prog) (w:=X.w) (I.ok.hd hc) it lo 1 n
  refine W.item i s _ _ hg st λv h' tk hv st' kk=>?_
  obtain⟨t,rfl⟩:=hv
  have I1:Inv X pins σ H { s with heap:=h',toks:=tk }:=I.turned (λb o hb e=>kk b o (by simpa using hb) e) f0 f1 f3 f4 f5
  refine⟨_,rfl,lF (s:={ s with heap:=h',toks:=tk }) (n:="range_iterator") st' rfl rfl (by decide) ⟨.int (lo+i),H,I1,⟨t,?_⟩,⟨rfl,rfl⟩,st',λb hb=>(hf b hb).1⟩⟩
  rw [Int.mul_one]
 done:=by
  intro X hP hw hK hc i pins s σ H E I hf st hg
  subst hP hw hK
  obtain⟨f0,f1,f2,f3,f4,f5⟩:=hf it (by simp)
  exact wpAny_pyNext_range_end (I.ok.hd hc) st (by have:n<=i:=hg;omega) λh' eb=>⟨rfl,I.turned (t':=s.toks) (λb o hb e=>eb b o hb e) f0 f1 f3 f4 f5⟩
 self:=λ_ _ _ _ _ st h=>wpAny_pyIter_rangeiter st h
section
variable {X:Cx}{tg:Expr}
noncomputable def zm (K:PySem.W.Frag) (tl:TE):TI:=λσ H R=>tl σ H λx H1=>∃a,x=.ref a/\(∃xs,SqL K H1 a xs)/\R (Itl K a) H1
noncomputable def Cp (K:PySem.W.Frag) (tl:TE):TI:=λσ H R=>tl σ H λx H1=>∃a,x=.ref a/\(∃xs,SqT K H1 a xs)/\R (Itt K a) H1
theorem dR {l:Expr}{tl:TE} (hl:PE X l tl):PI X tg l (zm X.K tl):=by
 intro pins s σ H R I h
 refine thn (hl pins s σ H _ I h) λv s1 ⟨x,H1,I1,r1,q1⟩=>?_
 obtain⟨a,e,⟨xs,hq⟩,q⟩:=q1
 subst e
 cases r1
 obtain⟨its,rv,p,hz⟩:=I1.list hq
 refine wpAny_pyIter_list p.isList ?_
 refine⟨s1.heap.objs.size,[s1.heap.objs.size],_,_,H1,rfl,I1.kept (t':=s1.toks) λb o e=>zH0 _ e,sd a _,⟨_,Heap.get?_push_size _ rfl,rfl,rfl⟩,λb hb=>?_,q⟩
 have e:b=s1.heap.objs.size:=by simpa using hb
 subst e
 exact I1.fpOk (Nat.le_refl _) (I1.hok.fresh (Nat.le_refl _))
theorem An {l:Expr}{tl:TE} (hl:PE X l tl):PI X tg l (Cp X.K tl):=by
 intro pins s σ H R I h
 refine thn (hl pins s σ H _ I h) λv s1 ⟨x,H1,I1,r1,q1⟩=>?_
 obtain⟨a,e,⟨xs,hq⟩,q⟩:=q1
 subst e
 cases r1
 obtain⟨its,rv,p,hz⟩:=I1.tuple hq
 refine wpAny_pyIter_tuple (show s1.heap.IsTuple a its.toArray from p) ?_
 refine⟨s1.heap.objs.size,[s1.heap.objs.size],_,_,H1,rfl,I1.kept (t':=s1.toks) λb o e=>zH0 _ e,pf a _,⟨_,Heap.get?_push_size _ rfl,rfl,rfl⟩,λb hb=>?_,q⟩
 have e:b=s1.heap.objs.size:=by simpa using hb
 subst e
 exact I1.fpOk (Nat.le_refl _) (I1.hok.fresh (Nat.le_refl _))
theorem nO {pins:List (Addr × Obj)}{σ:St}{H:Hp}{s:Shared}{R:It->Hp->Prop}{E:Value->Shared->Prop}{lo hi:Int}{t u v:Tok}{tk:Nat} (I:Inv X pins σ H s) (h1 : -(2 ^ 62)<=lo) (h2:lo < 2 ^ 62) (h3 : -(2 ^ 62)<=hi) (h4:hi < 2 ^ 62)
  (q:R (Itr lo (hi - lo).toNat) H):wpAny (model X.prog X.w) X.A (pyIter (.ref s.heap.objs.size)) (PIE X pins σ tg R) E { s with heap:=s.heap.push { cls:=.type "range", data:=.fields #[.int lo t,.int hi u,.int 1 v] },toks:=tk }:=by
 refine wpAny_pyIter_range (IsRange.new ..) (small_one h1 h2 h3 h4) ?_
 have I1:Inv X pins σ H { s with heap:=s.heap.push { cls:=.type "range", data:=.fields #[.int lo t,.int hi u,.int 1 v] },toks:=tk }:=I.kept λb o e=>zH0 _ e
 refine⟨(s.heap.push { cls:=.type "range", data:=.fields #[.int lo t,.int hi u,.int 1 v] }).objs.size,[(s.heap.push { cls:=.type "range", data:=.fields #[.int lo t,.int hi u,.int 1 v] }).objs.size],_,_,H,rfl,
  I1.kept (t':=tk) λb o e=>zH0 _ e,ph _ lo (hi - lo).toNat,?_,λb hb=>?_,q⟩
 ·have e1:lo+((0:Nat):Int) * 1=lo:=by simp
  have e2:(((hi - lo).toNat:Nat):Int) - ((0:Nat):Int)=Builtin.Range.rangeSize lo hi 1:=by rw [rangeSize_one];split <;> omega
  show IsRangeIter _ _ (lo+((0:Nat):Int) * 1) ((((hi - lo).toNat:Nat):Int) - ((0:Nat):Int)) 1
  rw [e1,e2]
  exact Heap.get?_push_size _ rfl
 ·have e:b=(s.heap.push { cls:=.type "range", data:=.fields #[.int lo t,.int hi u,.int 1 v] }).objs.size:=by simpa using hb
  subst e
  exact I1.fpOk (Nat.le_refl _) (I1.hok.fresh (Nat.le_refl _))
noncomputable def BP (ta:TA):TI:=λσ H R=>ta σ H λvs H1=>∃j:Int,vs=[.int j]/\-(2 ^ 62)<=j/\j < 2 ^ 62/\R (Itr 0 j.toNat) H1
noncomputable def BO (ta:TA):TI:=λσ H R=>ta σ H λvs H1=>∃i j:Int,vs=[.int i,.int j]/\(-(2 ^ 62)<=i/\i < 2 ^ 62/\-(2 ^ 62)<=j/\j < 2 ^ 62)/\R (Itr i (j - i).toNat) H1
theorem cV {a:Expr}{ta:TA}{p pos:Pos} (hg:Gl X "range") (hm:X.mg "range" = none) (ha:PA X [a] ta) (hs:starEach [a] X.env=[(false,eval a X.env)]:=by rfl):PI X tg (.Call (.Name "range" p) [a] [] pos) (BP ta):=by
 intro pins s σ H R I h
 refine Call_ (iD I hg hm boot_range (PyProof.Rows.callWith_type1 (thn (ha pos pins s σ H _ I h) λus s1 ⟨vs,H1,I1,r1,q1⟩=>?_) hs rfl))
 obtain⟨j,e,q1,q2,q⟩:=q1
 subst e
 cases r1 with
 | cons r rr=>
  cases rr
  obtain⟨t,rfl⟩:=r
  exact call_range_1 (nO I1 ‹1› ‹1› q1 q2 (by simpa using q))
theorem bX {a b:Expr}{ta:TA}{p pos:Pos} (hg:Gl X "range") (hm:X.mg "range" = none) (ha:PA X [a,b] ta) (hs:starEach [a,b] X.env=[(false,eval a X.env),(false,eval b X.env)]:=by rfl) (hs2:starEach [b] X.env=[(false,eval b X.env)]:=by rfl) :
  PI X tg (.Call (.Name "range" p) [a,b] [] pos) (BO ta):=by
 intro pins s σ H R I h
 refine Call_ (iD I hg hm boot_range (PyProof.Rows.callWith_type1 (thn (ha pos pins s σ H _ I h) λus s1 ⟨vs,H1,I1,r1,q1⟩=>?_) (by rw [hs,hs2]) (by rw [hs2];rfl)))
 obtain⟨i,j,e,⟨q1,q2,q3,q4⟩,q⟩:=q1
 subst e
 cases r1 with
 | cons r rr=>
  cases rr with
  | cons r' rr=>
   cases rr
   obtain⟨t,rfl⟩:=r
   obtain⟨t',rfl⟩:=r'
   exact call_range_2 (nO I1 q1 q2 q3 q4 q)
noncomputable def Ce (wi:TI) (g:TG) (tb:TS):TS:=λD σ H=>wi σ H λJ H1=>∃W:Nat->Nat->St->Hp->Prop,(∃m,W 0 m σ H1)/\∀i m σ H,W i m σ H->
 (J.stop i H/\D.nx σ H)\/(J.go i H/\∃N:St->Hp->Prop,(∀σ' H',N σ' H'->∃m',m' < m/\W (i+1) m' σ' H')/\∀x H',J.yld i H x H'->g x σ H' λσ2 H2=>tb { D with nx:=N,ct:=N,bk:=D.nx } σ2 H2)
noncomputable def jK (fp:List Addr) (h:Heap):List (Addr × Obj):=fp.filterMap λb=>(h.get? b).map λo=>(b,o)
theorem eU {fp:List Addr}{h:Heap}{b:Addr}{o:Obj} (hb:b∈fp) (e:h.get? b=some o):(b,o)∈jK fp h:=List.mem_filterMap.mpr ⟨b,hb,by rw [e];rfl⟩
theorem sN {fp:List Addr}{h:Heap}{p:Addr × Obj} (hp:p∈jK fp h):p.1∈fp/\h.get? p.1=some p.2:=by
 obtain⟨b,hb,e⟩:=List.mem_filterMap.mp hp
 cases q:h.get? b with
 | none=>rw [q]at e;cases e
 | some o=>
  rw [q]at e
  have e':(b,o)=p:=Option.some.inj e
  subst e'
  exact⟨hb,q⟩
theorem Inv.pinned {pins:List (Addr × Obj)}{σ:St}{H:Hp}{s:Shared}{fp:List Addr} (I:Inv X pins σ H s) (hf:∀b∈fp,iM X pins H b) (ho:∀b∈fp,∃o,s.heap.get? b=some o/\∀v,o.data≠.cell v):Inv X (pins++jK fp s.heap) σ H s:=
 I.pins_of λp hp=>(List.mem_append.mp hp).elim (λz=>I.pin p (List.mem_append_right _ z)) λz=>by
  obtain⟨hb,e⟩:=sN z
  obtain⟨f0,f1,f2,_⟩:=hf p.1 hb
  obtain⟨o,e',d⟩:=ho p.1 hb
  rw [e]at e';cases e'
  exact⟨e,f0,f1,f2,d⟩
theorem Inv.unpinned {pins pl:List (Addr × Obj)}{σ:St}{H:Hp}{s:Shared} (I:Inv X (pins++pl) σ H s):Inv X pins σ H s:=I.pins_of λp hp=>I.pin p (List.mem_append_right _ (List.mem_append_left _ hp))
theorem ed {iter:Expr}{body:List Stmt}{wi:TI}{g:TG}{tb:TS}{pos:Pos} (hp:PassesOwn (model X.prog X.w) X.A X.env X.xe) (hc:X.calm=true) (hi:PI X tg iter wi) (hg:PG X tg g) (hb:PSs X body tb)
  (hs:∀x,foldedSetIterable iter X.env x=pure x:=by intro _;rfl):PS X (.For tg iter body [] pos) (Ce wi g tb):=by
 intro pins s σ H D I h
 refine wpAny_For (thn (hi pins s σ H _ I h) λv s1 h1=>thn h1 λitv s2 h2=>?_) hs
 obtain⟨it,fp,tn,J,H2,e,I2,T,st2,f2,W,⟨m0,w0⟩,turn⟩:=h2
 subst e
 have stat:∀{H':Hp},(∀b∈fp,H' b=none)->∀b∈fp,iM X pins H' b:=λhn b hb=>⟨hn b hb,(f2 b hb).2⟩
 refine codeAny_forLoop_any (λn s'=>∃i σ' H',Inv X pins σ' H' s'/\tn i s'.heap/\(∀b∈fp,H' b=none)/\W i n σ' H') ?_ m0 ⟨0,σ,H2,I2,st2,λb hb=>(f2 b hb).1,w0⟩
 rintro n s3 ⟨i,σ3,H3,I3,st3,fr3,w3⟩
 rcases turn i n σ3 H3 w3 with⟨stop,qn⟩ | ⟨go,N,hN,step⟩
 ·refine wpAny_passesOwn hp (thn (T.done X rfl rfl rfl hc i pins s3 σ3 H3 X.xe I3 (stat fr3) st3 stop) λr s4 ⟨hr,I4⟩=>?_)
  subst hr
  exact wpAny_execs_nil ⟨σ3,H3,I4,qn⟩
 ·refine wpAny_passesOwn hp (thn (T.item X rfl rfl rfl hc i pins s3 σ3 H3 X.xe I3 (stat fr3) st3 go) λr s4 ⟨u,hr,h4⟩=>?_)
  subst hr
  refine wpAny_passesOwn hp (thn h4 λ_ s5 ⟨x,H5,I5,r5,y5,st5,fr5⟩=>?_)
  have I5':=I5.pinned (stat fr5) (T.obj _ _ st5)
  refine wpAny_passesOwn hp (thn (hg _ s5 σ3 H5 x u _ I5' r5 (step x H5 y5)) λ_ s6 ⟨σ6,H6,I6,q6⟩=>?_)
  refine wpAny_passesOwn hp (thn (hb _ s6 σ6 H6 _ I6 q6) λf s7 q7=>?_)
  have again:∀{σ7:St}{H7:Hp},Inv X (pins++jK fp s5.heap) σ7 H7 s7->N σ7 H7->∃m,m < n/\∃i σ' H',Inv X pins σ' H' s7/\tn i s7.heap/\(∀b∈fp,H' b=none)/\W i m σ' H':=λ{σ7 H7} I7 n7=>by
   obtain⟨m',hm,w7⟩:=hN σ7 H7 n7
   refine⟨m',hm,i+1,σ7,H7,I7.unpinned,T.keep _ _ _ st5 λb hb o e=>(I7.pin (b,o) (List.mem_append_right _ (List.mem_append_right _ (eU hb e)))).1,λb hb=>?_,w7⟩
   obtain⟨o,e,d⟩:=T.obj _ _ st5 b hb
   exact(I7.pin (b,o) (List.mem_append_right _ (List.mem_append_right _ (eU hb e)))).2.1
  cases f with
  | next=>obtain⟨σ7,H7,I7,n7⟩:=q7;exact again I7 n7
  | cont=>obtain⟨σ7,H7,I7,n7⟩:=q7;exact again I7 n7
  | brk=>obtain⟨σ7,H7,I7,q7⟩:=q7;exact⟨σ7,H7,I7.unpinned,q7⟩
  | ret v=>obtain⟨x7,σ7,H7,I7,r7,q7⟩:=q7;exact⟨x7,σ7,H7,I7.unpinned,r7,q7⟩
end
theorem oH {K:W.Frag}{a:Addr}{xs:List V}{g:TG}{tb:TS}{D:Ends}{σ:St}{H:Hp} (Pv:Nat->St->Hp->Prop) (h0:Pv 0 σ H) (hl:∀i σ H,i<=xs.length->Pv i σ H->SqL K H a xs)
  (hs:∀i x σ H,xs[i]?=some x->Pv i σ H->g x σ H λσ2 H2=>tb { D with nx:=Pv (i+1),ct:=Pv (i+1),bk:=D.nx } σ2 H2) (hd:∀σ H,Pv xs.length σ H->D.nx σ H) :
  ∃W:Nat->Nat->St->Hp->Prop,(∃m,W 0 m σ H)/\∀i m σ H,W i m σ H->
   ((Itl K a).stop i H/\D.nx σ H)\/((Itl K a).go i H/\∃N:St->Hp->Prop,(∀σ' H',N σ' H'->∃m',m' < m/\W (i+1) m' σ' H')/\∀x H',(Itl K a).yld i H x H'->g x σ H' λσ2 H2=>tb { D with nx:=N,ct:=N,bk:=D.nx } σ2 H2):=by
 refine⟨λi m σ H=>m=xs.length - i/\i<=xs.length/\Pv i σ H,⟨xs.length,by simp,Nat.zero_le _,h0⟩,?_⟩
 rintro i m σ H ⟨rfl,hi,p⟩
 have q:=hl i σ H hi p
 by_cases hlt:i < xs.length
 ·refine .inr ⟨⟨xs,xs[i],q,by simp [hlt]⟩,Pv (i+1),λσ' H' p'=>⟨xs.length - (i+1),by omega,rfl,hlt,p'⟩,λx H' y=>?_⟩
  obtain⟨e,y⟩:=y
  subst e
  exact hs i x σ _ (y xs q) p
 ·have e:i=xs.length:=by omega
  subst e
  exact .inl ⟨⟨xs,q,Nat.le_refl _⟩,hd σ H p⟩
theorem cX {lo:Int}{n:Nat}{g:TG}{tb:TS}{D:Ends}{σ:St}{H:Hp} (Pv:Nat->St->Hp->Prop) (h0:Pv 0 σ H)
  (hs:∀i σ H,i < n->Pv i σ H->g (.int (lo+i)) σ H λσ2 H2=>tb { D with nx:=Pv (i+1),ct:=Pv (i+1),bk:=D.nx } σ2 H2) (hd:∀σ H,Pv n σ H->D.nx σ H) :
  ∃W:Nat->Nat->St->Hp->Prop,(∃m,W 0 m σ H)/\∀i m σ H,W i m σ H->
   ((Itr lo n).stop i H/\D.nx σ H)\/((Itr lo n).go i H/\∃N:St->Hp->Prop,(∀σ' H',N σ' H'->∃m',m' < m/\W (i+1) m' σ' H')/\∀x H',(Itr lo n).yld i H x H'->g x σ H' λσ2 H2=>tb { D with nx:=N,ct:=N,bk:=D.nx } σ2 H2):=by
 refine⟨λi m σ H=>m=n - i/\i<=n/\Pv i σ H,⟨n,by simp,Nat.zero_le _,h0⟩,?_⟩
 rintro i m σ H ⟨rfl,hi,p⟩
 by_cases hlt:i < n
 ·refine .inr ⟨hlt,Pv (i+1),λσ' H' p'=>⟨n - (i+1),by omega,rfl,hlt,p'⟩,λx H' y=>?_⟩
  obtain⟨e,y⟩:=y
  subst e y
  exact hs i σ _ hlt p
 ·have e:i=n:=by omega
  subst e
  exact .inl ⟨Nat.le_refl _,hd σ H p⟩
noncomputable abbrev R2:=V->V->Hp->VK->Prop
def OpR (X:Cx) (f:Value->Value->Sem Value) (r:R2):Prop:=
 ∀(pins:List (Addr × Obj)) (s:Shared) (σ:St) (H:Hp) (x y:V) (v u:Value) (Q:VK),Inv X pins σ H s->aW x v->aW y u->r x y H Q->
  wpAny (model X.prog X.w) X.A (f v u) (EP X pins σ Q) X.xe s
def UnR (X:Cx) (f:Value->Sem Value) (r:V->Hp->VK->Prop):Prop:=
 ∀(pins:List (Addr × Obj)) (s:Shared) (σ:St) (H:Hp) (x:V) (v:Value) (Q:VK),Inv X pins σ H s->aW x v->r x H Q->
  wpAny (model X.prog X.w) X.A (f v) (EP X pins σ Q) X.xe s
def cD (X:Cx) (f:Value) (r:List V->Hp->VK->Prop):Prop:=
 ∀(pins:List (Addr × Obj)) (s:Shared) (σ:St) (H:Hp) (xs:List V) (us:List Value) (Q:VK),Inv X pins σ H s->aU xs us->r xs H Q->
  wpAny (model X.prog X.w) X.A (call f us) (EP X pins σ Q) X.xe s
noncomputable def tOp (r:R2) (ta tb:TE):TE:=λσ H Q=>ta σ H λx H1=>tb σ H1 λy H2=>r x y H2 Q
noncomputable def tUn (r:V->Hp->VK->Prop) (ta:TE):TE:=λσ H Q=>ta σ H λx H1=>r x H1 Q
inductive rI (C:Int->Int->Prop) (g:Int->Int->V) (x:V) (y:V) (H:Hp) (Q:VK):Prop
 | mk (i j) (h1:x=.int i) (h2:y=.int j) (h3:C i j) (h4:Q (g i j) H):rI C g x y H Q
inductive rI0 (g:Int->Int->V) (x:V) (y:V) (H:Hp) (Q:VK):Prop
 | mk (i j) (h1:x=.int i) (h2:y=.int j) (h3:Q (g i j) H):rI0 g x y H Q
noncomputable def rU (g:Int->V):V->Hp->VK->Prop:=λx H Q=>∃i,x=.int i/\Q (g i) H
section
variable {X:Cx}{a b c:Expr}{ta tb tc:TE}{pos:Pos}
theorem B4 (ha:PE X a ta) (hb:PE X b tb){pins:List (Addr × Obj)}{s:Shared}{σ:St}{H:Hp}{R:V->V->Hp->Prop} (I:Inv X pins σ H s)
  (h:ta σ H λx H1=>tb σ H1 λy H2=>R x y H2){Q:Value->Shared->Prop}{f:Value->Value->Sem Value}
  (hf:∀v u s2 x y H2,Inv X pins σ H2 s2->aW x v->aW y u->R x y H2->wpAny (model X.prog X.w) X.A (f v u) Q X.xe s2) :
  wpAny (model X.prog X.w) X.A (eval a X.env) (λv s₁=>wpAny (model X.prog X.w) X.A (eval b X.env) (λu s₂=>wpAny (model X.prog X.w) X.A (f v u) Q X.xe s₂) X.xe s₁) X.xe s:=by
 refine thn (ha pins s σ H _ I h) λv s1 ⟨x,H1,I1,r1,q1⟩=>?_
 refine thn (hb pins s1 σ H1 _ I1 q1) λu s2 ⟨y,H2,I2,r2,q2⟩=>?_
 exact hf v u s2 x y H2 I2 r1 r2 q2
theorem aH {op:Operator}{r:R2} (ho:OpR X (binaryOp op) r) (ha:PE X a ta) (hb:PE X b tb):PE X (.BinOp a op b pos) (tOp r ta tb):=by
 intro pins s σ H Q I h
 exact wpAny_BinOp (B4 ha hb I h λv u s2 x y H2 I2 rx ry q=>ho pins s2 σ H2 x y v u Q I2 rx ry q)
theorem zc {op:UnaryOp}{r:V->Hp->VK->Prop} (ho:UnR X (unaryOp op) r) (ha:PE X a ta):PE X (.UnaryOp op a pos) (tUn r ta):=by
 intro pins s σ H Q I h
 exact UnaryOp_ (thn (ha pins s σ H _ I h) λv s1 ⟨x,H1,I1,r1,q1⟩=>ho pins s1 σ H1 x v Q I1 r1 q1)
theorem opI {f:Value->Value->Sem Value}{C:Int->Int->Prop}{g:Int->Int->Int}
  (rule:∀(i j:Int) (t u:Tok) (s:Shared) (Q:Value->Shared->Prop) (E:Value->Shared->Prop),C i j->Q (.int (g i j) s.toks) { s with toks:=s.toks+1 }->wpAny (model X.prog X.w) X.A (f (.int i t) (.int j u)) Q E s) :
  OpR X f (rI C λi j=>.int (g i j)):=by
 intro pins s σ H x y v u Q I rx ry h
 obtain⟨i,j,rfl,rfl,hc,q⟩:=h
 obtain⟨t,rfl⟩:=rx
 obtain⟨t',rfl⟩:=ry
 exact rule i j t t' s _ _ hc ⟨.int (g i j),H,I.tok _,⟨_,rfl⟩,q⟩
theorem BD {f:Value->Value->Sem Value}{g:Int->Int->Int}
  (rule:∀(i j:Int) (t u:Tok) (s:Shared) (Q:Value->Shared->Prop) (E:Value->Shared->Prop),Q (.int (g i j) s.toks) { s with toks:=s.toks+1 }->wpAny (model X.prog X.w) X.A (f (.int i t) (.int j u)) Q E s) :
  OpR X f (rI0 λi j=>.int (g i j)):=by
 intro pins s σ H x y v u Q I rx ry h
 obtain⟨i,j,rfl,rfl,q⟩:=h
 obtain⟨t,rfl⟩:=rx
 obtain⟨t',rfl⟩:=ry
 exact rule i j t t' s _ _ ⟨.int (g i j),H,I.tok _,⟨_,rfl⟩,q⟩
theorem xN {f:Value->Value->Sem Value}{g:Int->Int->Bool}
  (rule:∀(i j:Int) (t u:Tok) (s:Shared) (Q:Value->Shared->Prop) (E:Value->Shared->Prop),Q (.bool (g i j)) s->wpAny (model X.prog X.w) X.A (f (.int i t) (.int j u)) Q E s) :
  OpR X f (rI0 λi j=>.bl (g i j)):=by
 intro pins s σ H x y v u Q I rx ry h
 obtain⟨i,j,rfl,rfl,q⟩:=h
 obtain⟨t,rfl⟩:=rx
 obtain⟨t',rfl⟩:=ry
 exact rule i j t t' s _ _ ⟨.bl (g i j),H,I,rfl,q⟩
def CJ (i j:Int):Prop:=0<=j/\j<=1000000/\i.natAbs < 2 ^ 64
def B9 (i j:Int):Prop:=(-(2 ^ 64) < i/\i < 2 ^ 64)\/(-(2 ^ 64) < j/\j < 2 ^ 64)
theorem B9.ok {i j:Int} (h:B9 i j):IntMulOk i j:=by
 rcases h with⟨h1,h2⟩ | ⟨h1,h2⟩
 ·exact .of_left (intBits_le_64 h1 h2)
 ·exact .of_right (intBits_le_64 h1 h2)
theorem bw:OpR X (binaryOp .Add) (rI0 λi j=>.int (i+j)):=BD λ_ _ _ _ _ _ _ q=>add_int q
theorem dg:OpR X (binaryOp .Sub) (rI0 λi j=>.int (i - j)):=BD λ_ _ _ _ _ _ _ q=>sub_int q
theorem eT:OpR X (binaryOp .Mult) (rI B9 λi j=>.int (i * j)):=opI λ_ _ _ _ _ _ _ hc q=>mul_int q hc.ok
theorem gz:OpR X (binaryOp .Mod) (rI (λ_ j=>0 < j) λi j=>.int (i % j)):=opI λi j _ _ _ _ _ hc q=>by
 have h1:(0:Int) < j:=hc
 exact mod_int' ‹1› (by rw [Int.fmod_eq_emod_of_nonneg i ‹1›];exact q)
theorem qe:OpR X (binaryOp .Pow) (rI CJ λi j=>.int (i ^ j.toNat)):=opI λ_ _ _ _ _ _ _ hc q=>pow_int_small hc.1 hc.2.1 hc.2.2 q
theorem unI {f:Value->Sem Value}{g:Int->Int}
  (rule:∀(i:Int) (t:Tok) (s:Shared) (Q:Value->Shared->Prop) (E:Value->Shared->Prop),Q (.int (g i) s.toks) { s with toks:=s.toks+1 }->wpAny (model X.prog X.w) X.A (f (.int i t)) Q E s) :
  UnR X f (rU λi=>.int (g i)):=by
 intro pins s σ H x v Q I rx h
 obtain⟨i,rfl,q⟩:=h
 obtain⟨t,rfl⟩:=rx
 exact rule i t s _ _ ⟨.int (g i),H,I.tok _,⟨_,rfl⟩,q⟩
theorem tK:UnR X (unaryOp .USub) (rU λi=>.int (-i)):=unI λ_ _ _ _ _ q=>neg_int q
end
noncomputable def zQ:V->V->Bool
 | .non,.non=>true | .non,.int _=>true | .int _,.non=>true | .non,.bl _=>true | .bl _,.non=>true | .non,.str _=>true | .str _,.non=>true
 | .int _,.int _=>true | .bl _,.bl _=>true | .str _,.str _=>true | .byt _,.byt _=>true
 | .int _,.str _=>true | .str _,.int _=>true | .bl _,.str _=>true | .str _,.bl _=>true
 | _,_=>false
noncomputable def rEq:R2:=λx y H Q=>zQ x y=true/\Q (.bl (decide (x=y))) H
noncomputable def rNe:R2:=λx y H Q=>zQ x y=true/\Q (.bl (!decide (x=y))) H
theorem rK {i j:Int}:decide (V.int i=V.int j)=(i == j):=by
 rw [Bool.eq_iff_iff]
 simp
theorem wy {i j:Bool}:decide (V.bl i=V.bl j)=(i == j):=by
 rw [Bool.eq_iff_iff]
 simp
theorem rJ {i j:Str}:decide (V.str i=V.str j)=(i == j):=by
 rw [Bool.eq_iff_iff]
 simp
theorem rL {i j:Array UInt8}:decide (V.byt i=V.byt j)=(i.toList == j.toList):=by
 rw [Bool.eq_iff_iff]
 cases i
 cases j
 simp
section
variable {X:Cx}{a b c:Expr}{ta tb tc:TE}{pos:Pos}
theorem bg {pins:List (Addr × Obj)}{σ:St}{H:Hp}{s:Shared}{Q:VK}{k k':Bool} (I:Inv X pins σ H s) (q:Q (.bl k) H) (e:k=k'):EP X pins σ Q (.bool k') s:=by
 subst e
 exact⟨.bl k,H,I,rfl,q⟩
theorem cH:OpR X (compareOp .Eq) rEq:=by
 intro pins s σ H x y v u Q I rx ry h
 obtain⟨hs,q⟩:=h
 cases x with
 | non=>
  cases rx
  cases y with
  | non=>cases ry;exact PySem.EqNone.eq_none_none (bg I q (by simp))
  | bl j=>cases ry;exact PySem.EqNone.eq_none_bool (bg I q (by simp))
  | int j=>obtain⟨t',rfl⟩:=ry;exact PySem.EqNone.eq_none_int (bg I q (by simp))
  | str j=>obtain⟨t',rfl⟩:=ry;exact PySem.EqNone.eq_none_str (bg I q (by simp))
  | _=>exact absurd (show false=true from hs) Bool.false_ne_true
 | bl i=>
  cases rx
  cases y with
  | non=>cases ry;exact PySem.EqNone.eq_bool_none (bg I q (by simp))
  | bl j=>cases ry;exact eq_bool (bg I q wy)
  | str j=>obtain⟨t',rfl⟩:=ry;exact PySem.EqMixed.eq_bool_str (bg I q (by simp))
  | _=>exact absurd (show false=true from hs) Bool.false_ne_true
 | int i=>
  obtain⟨t,rfl⟩:=rx
  cases y with
  | non=>cases ry;exact PySem.EqNone.eq_int_none (bg I q (by simp))
  | int j=>obtain⟨t',rfl⟩:=ry;exact eq_int (bg I q rK)
  | str j=>obtain⟨t',rfl⟩:=ry;exact PySem.EqMixed.eq_int_str (bg I q (by simp))
  | _=>exact absurd (show false=true from hs) Bool.false_ne_true
 | str i=>
  obtain⟨t,rfl⟩:=rx
  cases y with
  | non=>cases ry;exact PySem.EqNone.eq_str_none (bg I q (by simp))
  | bl j=>cases ry;exact PySem.EqMixed.eq_str_bool (bg I q (by simp))
  | int j=>obtain⟨t',rfl⟩:=ry;exact PySem.EqMixed.eq_str_int (bg I q (by simp))
  | str j=>obtain⟨t',rfl⟩:=ry;exact eq_str (bg I q rJ)
  | _=>exact absurd (show false=true from hs) Bool.false_ne_true
 | byt i=>
  obtain⟨t,rfl⟩:=rx
  cases y with
  | byt j=>obtain⟨t',rfl⟩:=ry;exact PySem.W.eq_bytes (bg I q rL)
  | _=>exact absurd (show false=true from hs) Bool.false_ne_true
 | _=>cases y <;> exact absurd (show false=true from hs) Bool.false_ne_true
theorem lr:OpR X (compareOp .NotEq) rNe:=by
 intro pins s σ H x y v u Q I rx ry h
 obtain⟨hs,q⟩:=h
 cases x with
 | non=>
  cases rx
  cases y with
  | non=>cases ry;exact PySem.EqNone.ne_none_none (bg I q (by simp))
  | bl j=>cases ry;exact PySem.EqNone.ne_none_bool (bg I q (by simp))
  | int j=>obtain⟨t',rfl⟩:=ry;exact PySem.EqNone.ne_none_int (bg I q (by simp))
  | str j=>obtain⟨t',rfl⟩:=ry;exact PySem.EqNone.ne_none_str (bg I q (by simp))
  | _=>exact absurd (show false=true from hs) Bool.false_ne_true
 | bl i=>
  cases rx
  cases y with
  | non=>cases ry;exact PySem.EqNone.ne_bool_none (bg I q (by simp))
  | bl j=>cases ry;exact ne_bool (bg I q (congrArg not wy))
  | str j=>obtain⟨t',rfl⟩:=ry;exact PySem.EqMixed.ne_bool_str (bg I q (by simp))
  | _=>exact absurd (show false=true from hs) Bool.false_ne_true
 | int i=>
  obtain⟨t,rfl⟩:=rx
  cases y with
  | non=>cases ry;exact PySem.EqNone.ne_int_none (bg I q (by simp))
  | int j=>obtain⟨t',rfl⟩:=ry;exact ne_int (bg I q (congrArg not rK))
  | str j=>obtain⟨t',rfl⟩:=ry;exact PySem.EqMixed.ne_int_str (bg I q (by simp))
  | _=>exact absurd (show false=true from hs) Bool.false_ne_true
 | str i=>
  obtain⟨t,rfl⟩:=rx
  cases y with
  | non=>cases ry;exact PySem.EqNone.ne_str_none (bg I q (by simp))
  | bl j=>cases ry;exact PySem.EqMixed.ne_str_bool (bg I q (by simp))
  | int j=>obtain⟨t',rfl⟩:=ry;exact PySem.EqMixed.ne_str_int (bg I q (by simp))
  | str j=>obtain⟨t',rfl⟩:=ry;exact ne_str (bg I q (congrArg not rJ))
  | _=>exact absurd (show false=true from hs) Bool.false_ne_true
 | byt i=>
  obtain⟨t,rfl⟩:=rx
  cases y with
  | byt j=>obtain⟨t',rfl⟩:=ry;exact PySem.W.ne_bytes (bg I q (congrArg not rL))
  | _=>exact absurd (show false=true from hs) Bool.false_ne_true
 | _=>cases y <;> exact absurd (show false=true from hs) Bool.false_ne_true
theorem jO:OpR X (compareOp .Lt) (rI0 λi j=>.bl (decide (i < j))):=xN λ_ _ _ _ _ _ _ q=>lt_int q
theorem jP:OpR X (compareOp .LtE) (rI0 λi j=>.bl (decide (i<=j))):=xN λ_ _ _ _ _ _ _ q=>le_int q
theorem zd:OpR X (compareOp .Gt) (rI0 λi j=>.bl (decide (j < i))):=xN λ_ _ _ _ _ _ _ q=>gt_int q
theorem ze:OpR X (compareOp .GtE) (rI0 λi j=>.bl (decide (j<=i))):=xN λ_ _ _ _ _ _ _ q=>ge_int q
theorem sF:OpR X (compareOp .In) (λx y H Q=>∃i j,x=.str i/\y=.str j/\Q (.bl (!(Builtin.Str.occurrences j i 0 j.length 1).isEmpty)) H):=by
 intro pins s σ H x y v u Q I rx ry h
 obtain⟨i,j,rfl,rfl,q⟩:=h
 obtain⟨t,rfl⟩:=rx
 obtain⟨t',rfl⟩:=ry
 exact in_str (bg I q rfl)
theorem aV (b:Expr){op:CmpOp} (h:op≠.In:=by decide) (h2:op≠.NotIn:=by decide):behindInMarks op b=false:=by
 have e1:(op == CmpOp.In)=false:=by cases op <;> first | rfl | exact absurd rfl h
 have e2:(op == CmpOp.NotIn)=false:=by cases op <;> first | rfl | exact absurd rfl h2
 cases b <;> simp [behindInMarks,e1,e2]
theorem c9 {op:CmpOp}{r:R2} (ho:OpR X (compareOp op) r) (ha:PE X a ta) (hb:PE X b tb) (hm:behindInMarks op b=false):PE X (.Compare a [op] [b] pos) (tOp r ta tb):=by
 intro pins s σ H Q I h
 exact wpAny_Compare1 (B4 ha hb I h λv u s2 x y H2 I2 rx ry q=>ho pins s2 σ H2 x y v u Q I2 rx ry q) hm
inductive ttR (x:V) (H':Hp) (Q:Bool->Hp->Prop):Prop
 | mk (k) (h1:x=.bl k) (h2:Q k H'):ttR x H' Q
noncomputable def yJ (t:TE):TT:=λσ H Q=>t σ H λx H'=>ttR x H' Q
theorem aN {op:CmpOp}{r:R2} (ho:OpR X (compareOp op) r) (ha:PE X a ta) (hb:PE X b tb) (hm:behindInMarks op b=false):PT X (.Compare a [op] [b] pos) (yJ (tOp r ta tb)):=by
 intro pins s σ H Q I h
 refine wpAny_isTrue_Compare1 (thn (ha pins s σ H _ I h) λv s1 ⟨x,H1,I1,r1,q1⟩=>thn (hb pins s1 σ H1 _ I1 q1) λu s2 ⟨y,H2,I2,r2,q2⟩=>
  thn (ho pins s2 σ H2 x y v u _ I2 r1 r2 q2) λc s3 ⟨z,H3,I3,r3,k,e,q3⟩=>?_) hm
 subst e
 cases r3
 exact wpAny_truthy_bool ⟨H3,I3,q3⟩
noncomputable def tS (r r':R2) (ta tb tc:TE):TE:=λσ H Q=>ta σ H λx H1=>tb σ H1 λy H2=>r x y H2 λz H3=>∃k,z=.bl k/\
 (if k=true then tc σ H3 λw' H4=>r' y w' H4 Q else Q (.bl false) H3)
theorem vh {op op':CmpOp}{r r':R2} (ho:OpR X (compareOp op) r) (ho':OpR X (compareOp op') r') (ha:PE X a ta) (hb:PE X b tb) (hc:PE X c tc)
  (hm:lastMarks [op,op'] [b,c]=false:=by with_unfolding_all rfl):PE X (.Compare a [op,op'] [b,c] pos) (tS r r' ta tb tc):=by
 intro pins s σ H Q I h
 refine Compare_chain (thn (ha pins s σ H _ I h) λv s1 ⟨x,H1,I1,r1,q1⟩=>chain_link (thn (hb pins s1 σ H1 _ I1 q1) λu s2 ⟨y,H2,I2,r2,q2⟩=>
  thn (ho pins s2 σ H2 x y v u _ I2 r1 r2 q2) λd s3 ⟨z,H3,I3,r3,k,e,q3⟩=>?_)) hm
 subst e
 cases r3
 refine wpAny_truthy_bool ?_
 cases k with
 | false=>exact ite_ff ⟨.bl false,H3,I3,rfl,q3⟩
 | true=>exact ite_tt (chain_last (thn (hc pins s3 σ H3 _ I3 q3) λw' s4 ⟨z',H4,I4,r4,q4⟩=>ho' pins s4 σ H4 y z' u w' Q I4 r2 r4 q4))
theorem nQ {op op':CmpOp}{r r':R2} (ho:OpR X (compareOp op) r) (ho':OpR X (compareOp op') r') (ha:PE X a ta) (hb:PE X b tb) (hc:PE X c tc)
  (hm:lastMarks [op,op'] [b,c]=false:=by with_unfolding_all rfl):PT X (.Compare a [op,op'] [b,c] pos) (yJ (tS r r' ta tb tc)):=by
 intro pins s σ H Q I h
 refine isTrue_chain (thn (ha pins s σ H _ I h) λv s1 ⟨x,H1,I1,r1,q1⟩=>test_link (thn (hb pins s1 σ H1 _ I1 q1) λu s2 ⟨y,H2,I2,r2,q2⟩=>
  thn (ho pins s2 σ H2 x y v u _ I2 r1 r2 q2) λd s3 ⟨z,H3,I3,r3,k,e,q3⟩=>?_)) hm
 subst e
 cases r3
 refine wpAny_truthy_bool ?_
 cases k with
 | false=>
  obtain⟨k',e',q'⟩:=q3
  cases e'
  exact ite_ff ⟨H3,I3,q'⟩
 | true=>
  refine ite_tt (test_last (thn (hc pins s3 σ H3 _ I3 q3) λw' s4 ⟨z',H4,I4,r4,q4⟩=>thn (ho' pins s4 σ H4 y z' u w' _ I4 r2 r4 q4) λd' s5 ⟨z2,H5,I5,r5,k2,e2,q5⟩=>?_))
  subst e2
  cases r5
  exact wpAny_truthy_bool ⟨H5,I5,q5⟩
theorem iC:(sizeLine:Nat) < 2 ^ 63:=by rw [sizeLine_eq];decide
theorem da {x:V}{us:List Value} (r:aU [x] us):∃u,us=[u]/\aW x u:=by
 cases r with
 | cons r1 r2=>cases r2;exact⟨_,rfl,r1⟩
theorem qM {x y:V}{us:List Value} (r:aU [x,y] us):∃u w',us=[u,w']/\aW x u/\aW y w':=by
 cases r with
 | cons r1 r2=>
  cases r2 with
  | cons r3 r4=>cases r4;exact⟨_,_,rfl,r1,r3⟩
theorem lM (hc:X.calm=true):cD X (.builtin "max") (λxs H Q=>∃i j,xs=[.int i,.int j]/\Q (.int (if j > i then j else i)) H):=by
 intro pins s σ H xs us Q I r h
 obtain⟨i,j,rfl,q⟩:=h
 obtain⟨u,w',rfl,⟨t,rfl⟩,⟨t',rfl⟩⟩:=qM r
 refine max_two_ints (I.ok.hd hc) λh' tk k=>⟨_,H,I.kept k,?_,q⟩
 by_cases hj:j > i
 ·rw [if_pos hj,if_pos hj];exact⟨_,rfl⟩
 ·rw [if_neg hj,if_neg hj];exact⟨_,rfl⟩
theorem iJ (hc:X.calm=true):cD X (.builtin "min") (λxs H Q=>∃i j,xs=[.int i,.int j]/\Q (.int (if j < i then j else i)) H):=by
 intro pins s σ H xs us Q I r h
 obtain⟨i,j,rfl,q⟩:=h
 obtain⟨u,w',rfl,⟨t,rfl⟩,⟨t',rfl⟩⟩:=qM r
 refine min_two_ints (I.ok.hd hc) λh' tk k=>⟨_,H,I.kept k,?_,q⟩
 by_cases hj:j < i
 ·rw [if_pos hj,if_pos hj];exact⟨_,rfl⟩
 ·rw [if_neg hj,if_neg hj];exact⟨_,rfl⟩
theorem iK:cD X (.type "int") (λxs H Q=>(∃i,xs=[.int i]/\Q (.int i) H)\/∃k,xs=[.bl k]/\Q (.int (if k then 1 else 0)) H):=by
 intro pins s σ H xs us Q I r h
 rcases h with⟨i,rfl,q⟩ | ⟨k,rfl,q⟩
 ·obtain⟨u,rfl,t,rfl⟩:=da r
  exact call_int_int ⟨.int i,H,I,⟨_,rfl⟩,q⟩
 ·obtain⟨u,rfl,r1⟩:=da r
  cases r1
  exact call_int_bool ⟨.int (if k then 1 else 0),H,I.tok _,⟨_,rfl⟩,q⟩
theorem b9:cD X (.type "str") (λxs H Q=>∃i,xs=[.int i]/\i.natAbs.log2 < 1920/\Q (.str (toString i)) H):=by
 intro pins s σ H xs us Q I r h
 obtain⟨i,rfl,hz,q⟩:=h
 obtain⟨u,rfl,t,rfl⟩:=da r
 exact PySem.P.str_of_int hz ⟨.str _,H,I.tok _,⟨_,rfl⟩,q⟩
end
structure ObjM (h:Heap) (x dx C:Addr) (mA:Str->Option Value):Prop where
 obj:h.get? x=some (PySem.W.instObj C dx)
 ns:h.Ns1 dx mA
 ne:dx≠x
theorem sP {h:Heap}{dx:Addr}{mA:Str->Option Value} (n:h.Ns1 dx mA):∃od,h.get? dx=some od/\∀name,PySem.W.lookIn name od=some (mA name):=by
 obtain⟨o,es,ep,ho,hd,hk,_,hm⟩:=n
 refine⟨o,ho,λname=>?_⟩
 have e:=hm name
 unfold nsFind findBy at e
 rw [<- Array.find?_toList]at e
 unfold PySem.W.lookIn
 rw [hd]
 dsimp only
 split
 ·rename_i y q
  rw [q]at e
  exact congrArg some e
 ·rename_i q
  rw [q]at e
  have a:es.toList.any (·.refKey)=false:=by
   rw [List.any_eq_false]
   intro y hy
   obtain⟨z,t,hkey⟩:=hk y (Array.mem_toList_iff.mp hy)
   simp [DictEntry.refKey,hkey]
  have a':¬es.toList.any (·.refKey)=true:=by rw [a];exact Bool.false_ne_true
  rw [if_neg a']
  exact congrArg some e
theorem ObjM.look {h:Heap}{x dx C:Addr}{mA:Str->Option Value} (I:ObjM h x dx C mA):∃od,PySem.W.InstAt h x (PySem.W.instObj C dx) C (some od)/\∀name,PySem.W.lookIn name od=some (mA name):=
 let ⟨od,ho,hl⟩:=sP I.ns
 ⟨od,⟨I.obj,rfl,rfl,ho⟩,hl⟩
section
variable {prog:Program}{w:World}{A:Around}{E:Value->Shared->Prop}{s:Shared}{K:W.Frag}{x dx C f:Addr}{mA:Str->Option Value}{name:Str}{v:Value}
theorem ym {expr:Bool}{Q:Value->Shared->Prop} (X:K.In s.heap) (I:ObjM s.heap x dx C mA) (hg:PySem.W.plainGet K C name=true) (hh:PySem.W.hasDictIn K C=true)
  (ha:PySem.W.findIn K (.ref C) name=some none) (hv:mA name=some v) (hv':PySem.W.handedIn v=true) (h:Q v { s with toks:=s.toks+1 }) :
  wpAny (model prog w) A (getAttr (.ref x) name expr) Q E s:=by
 obtain⟨od,J,hl⟩:=I.look
 exact PySem.W.get_value X J (PySem.W.plainGet_of hg).1 (PySem.W.findObj_own hh ha rfl (by rw [hl,hv])) hv' h
theorem we {pl:Sem Bool}{Q:Value × List Value->Shared->Prop} (X:K.In s.heap) (I:ObjM s.heap x dx C mA) (hg:PySem.W.plainGet K C name=true)
  (hf:PySem.W.findIn K (.ref C) name=some (some (.ref f))) (ht:‹[K,f]›) (hv:mA name=none) (h:Q (.ref f,[.ref x]) s) :
  wpAny (model prog w) A (getMethod (.ref x) name pl) Q E s:=by
 obtain⟨od,J,hl⟩:=I.look
 exact PySem.W.method_fn X J (PySem.W.plainGet_of hg).1 (PySem.W.plainGet_of hg).2 hf (beq_iff_eq.mp ht) (by show (PySem.W.lookIn name od).map (·.isSome)=some false;rw [hl,hv];rfl) h
theorem xm {ns:List Str}{Q:Unit->Shared->Prop} (X:K.In s.heap) (I:ObjM s.heap x dx C mA)
  (hs:PySem.W.findIn K (.ref C) "__setattr__" = some (some (.builtin "object.__setattr__"))) (hp:PySem.W.plainOver K C=true) (ht:PySem.W.takerIn K C name=some none) (hh:PySem.W.hasDictIn K C=true)
  (hw:PySem.Within mA ns) (hsz:ns.length<=sizeLine)
  (h:∀h',ObjM h' x dx C (λy=>if y=name then some v else mA y)->Heap.SameBut dx s.heap h'->Q () { s with heap:=h',toks:=s.toks+2 }) :
  wpAny (model prog w) A (setAttr (.ref x) name v) Q E s:=by
 obtain⟨od,J,hl⟩:=I.look
 refine PySem.W.set_plain X J hs (PySem.W.osa_open (s:={ s with toks:=s.toks+1 }) (r:=none) X J hp ht λb=>?_)
 obtain⟨cd,hc,hd'⟩:=PySem.W.any_some hh
 have hx:s.heap.get? x=some ⟨.ref C,some dx,.plain,#[]⟩:=I.obj
 refine zB0 (zP0 (zB0 (zB0 (wpAny_loadPart hx (zB0 (PySem.W.Looks.here (s:={ s with toks:=s.toks+1 }) (PySem.W.looks_clsIn X hc) ?_))))))
 rw [hd']
 refine zP0 (a:=some dx) (zB0 (zP0 (zB0 ?_)))
 refine wpAny_nsSet1 (s:={ s with toks:=s.toks+1 }) I.ns λh' hn2 hs2=>?_
 obtain⟨oD,esD,epD,hoD,hdD,hcD⟩:=hn2.count (PySem.Within.cons name v hw)
 refine zB0 (wpAny_lookBehind hoD (by rw [hdD];exact pastItsLine_dict (Nat.le_trans hcD (by rw [List.length_cons];omega))) ?_)
 exact zP0 (h _ ⟨(hs2.2 _ (Ne.symm I.ne)).trans I.obj,hn2,I.ne⟩ hs2)
theorem vR {R:Result->Shared->Prop}{vs:List Value}{kw:List (Str × Value)} (X:K.In s.heap) (hm:PySem.W.makesIn K C=true)
  (hi:‹(K,C,f,"__init__")›) (hf:PySem.W.typeIn K (.ref f)=some (.type "function"))
  (h:codeAny (model prog w) (A.under (.builtin "type.__call__" ⟨.ref C::vs,kw⟩)) (.call (.ref f) ⟨.ref (s.heap.objs.size+1)::vs,kw⟩) (PySem.W.InitBack (s.heap.objs.size+1) R)
   { s with heap:=(s.heap.push PySem.W.emptyDict).push (PySem.W.instObj C s.heap.objs.size) }) :
  codeAny (model prog w) A (.call (.ref C) ⟨vs,kw⟩) R s:=by
 obtain⟨hh,g,d,t,os⟩:=s
 exact PySem.W.make_core (PySem.W.makes_of X hm) (PySem.W.looks_findIn X hi) (λself=>PySem.W.bind_fn X self hf) (.inl rfl) h
end
noncomputable def cU (f:Str) (v:V):List (Str × V)->List (Str × V)
 | []=>[(f,v)]
 | (g,x)::r=>if g=f then (g,v)::r else (g,x)::cU f v r
theorem iR (f g:Str) (v:V):∀fs:List (Str × V),(cU f v fs).lookup g=if g=f then some v else fs.lookup g
 | []=>by
  show List.lookup g [(f,v)]=_
  by_cases h:g=f
  ·have hb:(g == f)=true:=beq_iff_eq.mpr h
   simp only [List.lookup,hb,if_pos h]
  ·have hb:(g == f)=false:=beq_eq_false_iff_ne.mpr h
   simp only [List.lookup,hb,if_neg h]
 | (k,x)::r=>by
  have ih:=iR f g v r
  rw [show cU f v ((k,x)::r)=(if k=f then (k,v)::r else (k,x)::cU f v r) from rfl]
  by_cases hk:k=f
  ·rw [if_pos hk]
   by_cases h:g=k
   ·have hb:(g == k)=true:=beq_iff_eq.mpr h
    simp only [List.lookup,hb,if_pos (h.trans hk)]
   ·have hb:(g == k)=false:=beq_eq_false_iff_ne.mpr h
    simp only [List.lookup,hb,if_neg (λe:g=f=>h (e.trans hk.symm))]
  ·rw [if_neg hk]
   by_cases h:g=k
   ·have hb:(g == k)=true:=beq_iff_eq.mpr h
    simp only [List.lookup,hb,if_neg (λe:g=f=>hk (h.symm.trans e))]
   ·have hb:(g == k)=false:=beq_eq_false_iff_ne.mpr h
    simp only [List.lookup,hb]
    exact ih
theorem iE (f:Str) (v:V):∀fs:List (Str × V),f∈(cU f v fs).map (·.1)/\∀g,g∈fs.map (·.1)->g∈(cU f v fs).map (·.1)
 | []=>⟨by simp [cU],λg h=>by simp at h⟩
 | (k,x)::r=>by
  obtain⟨i1,i2⟩:=iE f v r
  rw [show cU f v ((k,x)::r)=(if k=f then (k,v)::r else (k,x)::cU f v r) from rfl]
  by_cases hk:k=f
  ·rw [if_pos hk]
   subst hk
   exact⟨by simp,λg h=>by simpa using h⟩
  ·rw [if_neg hk]
   refine⟨?_,λg h=>?_⟩
   ·rw [List.map_cons]
    exact List.mem_cons_of_mem _ i1
   ·rw [List.map_cons]at h ⊢
    rcases List.mem_cons.mp h with e | e
    ·exact List.mem_cons.mpr (.inl e)
    ·exact List.mem_cons_of_mem _ (i2 g e)
theorem dW (f:Str) (v:V):∀fs:List (Str × V),(cU f v fs).length<=fs.length+1
 | []=>by simp [cU]
 | (k,x)::r=>by
  have ih:=dW f v r
  rw [show cU f v ((k,x)::r)=(if k=f then (k,v)::r else (k,x)::cU f v r) from rfl]
  by_cases hk:k=f
  ·rw [if_pos hk,List.length_cons,List.length_cons];omega
  ·rw [if_neg hk,List.length_cons,List.length_cons];omega
theorem fc.some_of {v:V}{o:Option Value} (r:fc (some v) o):∃u,o=some u/\aW v u:=by
 cases o with
 | none=>exact(show False from r).elim
 | some u=>exact⟨u,rfl,r⟩
theorem fc.none_of {o:Option Value} (r:fc none o):o=none:=by
 cases o with
 | none=>rfl
 | some u=>exact(show False from r).elim
theorem sX {v:V}{u:Value} (r:aW v u):PySem.W.handedIn u=true:=by
 cases v with
 | non=>cases (show u=Value.none from r);rfl
 | bl b=>cases (show u=Value.bool b from r);rfl
 | int i=>obtain⟨t,e⟩:=(show ∃t,u=Value.int i t from r);cases e;rfl
 | str x=>obtain⟨t,e⟩:=(show ∃t,u=Value.str x t from r);cases e;rfl
 | byt b=>obtain⟨t,e⟩:=(show ∃t,u=Value.bytes b t from r);cases e;rfl
 | flt b=>obtain⟨t,e⟩:=(show ∃t,u=Value.float b t from r);cases e;rfl
 | ref a=>cases (show u=Value.ref a from r);rfl
 | ty n=>cases (show u=Value.type n from r);rfl
section
variable {P:Program}{w:World}{H H':Hp}{h h':Heap}{a C dx:Addr}{fs fs':List (Str × V)}
theorem jl (hok:HOk P w H h) (e:H a=some (.ins C dx fs)):∃mA,ObjM h a dx C mA/\(∀f,fc (fs.lookup f) (mA f))/\PySem.Within mA (fs.map (·.1))/\fs.length<=1000/\H dx=some (.own a):=by
 obtain⟨d,z,ne,ob,mA,n,r,q⟩:=(show bB P w H h a (.ins C dx fs) from hok a _ e)
 exact⟨mA,⟨ob,n,ne⟩,r,q,z,d⟩
end
structure Cls (K:PySem.W.Frag) (C:Addr):Prop where
 pg:PySem.W.plainGet K C Str.empty=true
 hd:PySem.W.hasDictIn K C=true
 po:PySem.W.plainOver K C=true
 sa:PySem.W.findIn K (.ref C) "__setattr__" = some (some (.builtin "object.__setattr__"))
theorem Cls.get {K:W.Frag}{C:Addr} (c:Cls K C) (f:Str):PySem.W.plainGet K C f=true:=c.pg
def NoAttr (K:PySem.W.Frag) (C:Addr) (f:Str):Prop:=PySem.W.findIn K (.ref C) f=some none
theorem NoAttr.taker {K:W.Frag}{C:Addr}{f:Str} (n:NoAttr K C f):PySem.W.takerIn K C f=some none:=by
 unfold PySem.W.takerIn
 rw [show PySem.W.findIn K (.ref C) f=some none from n]
 rfl
structure Meth (K:PySem.W.Frag) (C:Addr) (m:Str) (f:Addr):Prop where
 at_:PySem.W.findIn K (.ref C) m=some (some (.ref f))
 fn:‹[K,f]›
 kp:PySem.W.keepIn K (.ref f)=true
section
variable {X:Cx}{pins:List (Addr × Obj)}{σ:St}{H:Hp}{s:Shared}{a C dx:Addr}{fs:List (Str × V)}{f:Str}{v:V}{A:Around}{E:Value->Shared->Prop}
theorem jV {b:Bool}{Q:Value->Shared->Prop} (I:Inv X pins σ H s) (e:H a=some (.ins C dx fs)) (c:Cls X.K C) (n:NoAttr X.K C f) (l:fs.lookup f=some v)
  (h:∀u s',Inv X pins σ H s'->aW v u->Q u s'):wpAny (model X.prog X.w) A (getAttr (.ref a) f b) Q E s:=by
 obtain⟨mA,O,r,_,_,_⟩:=jl I.hok e
 obtain⟨u,hu,ru⟩:=fc.some_of (v:=v) (o:=mA f) (by rw [<- l];exact r f)
 exact ym I.kIn O (c.get f) c.hd n hu (sX ru) (h u _ (I.tok _) ru)
theorem eW {m:Str}{g:Addr}{pl:Sem Bool}{Q:Value × List Value->Shared->Prop} (I:Inv X pins σ H s) (e:H a=some (.ins C dx fs)) (c:Cls X.K C) (k:Meth X.K C m g) (l:fs.lookup m=none)
  (h:Q (.ref g,[.ref a]) s):wpAny (model X.prog X.w) A (getMethod (.ref a) m pl) Q E s:=by
 obtain⟨mA,O,r,_,_,_⟩:=jl I.hok e
 have hn:mA m=none:=fc.none_of (by rw [<- l];exact r m)
 exact we I.kIn O (c.get m) k.at_ k.fn hn h
theorem jF {y:V}{u:Value}{Q:Unit->Shared->Prop} (I:Inv X pins σ H s) (e:H a=some (.ins C dx fs)) (c:Cls X.K C) (n:NoAttr X.K C f) (hl:fs.length < 1000) (ry:aW y u)
  (h:∀s',Inv X pins σ (upd H a (.ins C dx (cU f y fs))) s'->Q () s'):wpAny (model X.prog X.w) A (setAttr (.ref a) f u) Q E s:=by
 obtain⟨mA,O,r,wi,_,ho⟩:=jl I.hok e
 have hz:(fs.map (·.1)).length<=sizeLine:=by rw [List.length_map,sizeLine_eq];omega
 refine xm I.kIn O c.sa c.po n.taker c.hd wi hz λh' O' sb=>h _ ?_
 have hd:∃o,h'.get? dx=some o:=let ⟨o,_,_,e',_⟩:=O'.ns;⟨o,e'⟩
 refine I.write (x:=a) (e:=dx) (by rw [e];exact True.intro) (.inr ho) (λb q hb z=>(sb.2 b hb).trans z) hd ?_
 refine⟨by rw [ah O.ne];exact ho,?_,O.ne,O'.obj,_,O'.ns,λg=>?_,λg hg=>?_⟩
 ·have:=dW f y fs;omega
 ·show fc ((cU f y fs).lookup g) (if g=f then some u else mA g)
  rw [iR]
  by_cases q:g=f
  ·rw [if_pos q,if_pos q];exact ry
  ·rw [if_neg q,if_neg q];exact r g
 ·by_cases q:g=f
  ·rw [q];exact(iE f y fs).1
  ·refine(iE f y fs).2 g (wi g λz=>hg ?_)
   show (if g=f then some u else mA g)=none
   rw [if_neg q];exact z
theorem Inv.made (I:Inv X pins σ H s):Inv X pins σ (upd (upd H s.heap.objs.size (.own (s.heap.objs.size+1))) (s.heap.objs.size+1) (.ins C s.heap.objs.size []))
  { s with heap:=(s.heap.push PySem.W.emptyDict).push (PySem.W.instObj C s.heap.objs.size) }:=by
 have e1:(s.heap.push PySem.W.emptyDict).get? s.heap.objs.size=some PySem.W.emptyDict:=Heap.get?_push_size s.heap rfl
 have e2:((s.heap.push PySem.W.emptyDict).push (PySem.W.instObj C s.heap.objs.size)).get? (s.heap.objs.size+1)=some (PySem.W.instObj C s.heap.objs.size):=by
  have:=Heap.get?_push_size (s.heap.push PySem.W.emptyDict) (o:=PySem.W.instObj C s.heap.objs.size) rfl
  rwa [Heap.size_push]at this
 have e3:(s.heap.push PySem.W.emptyDict).Ns s.heap.objs.size (λ_=>none):=⟨PySem.W.emptyDict,#[],_,e1,rfl,(λe he=>absurd he (by simp)),λ_=>rfl⟩
 have I1:=I.laid (a:=s.heap.objs.size) (o:=.own (s.heap.objs.size+1)) (h':=s.heap.push PySem.W.emptyDict) (t':=s.toks) (λb u q=>zH0 _ q) (Nat.le_refl _) ⟨_,e1⟩
 refine I1.laid (a:=s.heap.objs.size+1) (o:=.ins C s.heap.objs.size []) (t':=s.toks) (λb u q=>zH0 _ q) (Nat.le_of_eq (Heap.size_push _ _)) ?_
 have ne:s.heap.objs.size≠s.heap.objs.size+1:=Nat.ne_of_lt (Nat.lt_succ_self _)
 refine⟨by rw [ah ne,ai],Nat.zero_le _,ne,e2,λ_=>none,(Heap.Ns1.of_empty e3).at λo q=>zH0 _ q,λ_=>True.intro,λy hy=>absurd rfl hy⟩
theorem yB {prog:Program}{w:World}{env:Env}{e:Expr}{f:Str}{pos:Pos}{s:Shared}{Q:Value->Shared->Prop} (hb:attributeBase e f env (eval e env)=eval e env)
  (h:wpAny (model prog w) A (eval e env) (λo s₁=>wpAny (model prog w) A (getAttr o f true) Q E s₁) E s):wpAny (model prog w) A (eval (.Attribute e f pos) env) Q E s:=
 Attribute_any_ h (by rw [arm_eval_Attribute,hb])
end
inductive BU (K:PySem.W.Frag) (f:Str) (x:V) (H1:Hp) (Q:VK):Prop
 | mk (a C dx fs v) (h1:x=.ref a) (h2:H1 a=some (.ins C dx fs)) (h3:Cls K C) (h4:NoAttr K C f) (h5:fs.lookup f=some v) (h6:Q v H1):BU K f x H1 Q
noncomputable def Bq (K:PySem.W.Frag) (ta:TE) (f:Str):TE:=λσ H Q=>ta σ H λx H1=>BU K f x H1 Q
noncomputable def Ck (K:PySem.W.Frag) (ta tv:TE) (f:Str):TS:=λD σ H=>tv σ H λy H1=>ta σ H1 λx H2=>∃a C dx fs,x=.ref a/\H2 a=some (.ins C dx fs)/\Cls K C/\NoAttr K C f/\fs.length < 1000/\
 D.nx σ (upd H2 a (.ins C dx (cU f y fs)))
def B7 (X:Cx) (op:Operator) (rd:V->V->Hp->VK->Prop):Prop:=
 ∀(pins:List (Addr × Obj)) (s:Shared) (σ:St) (H:Hp) (x y:V) (u v:Value) (Q:VK),Inv X pins σ H s->aW x u->aW y v->rd x y H Q->wpAny (model X.prog X.w) X.A (inplaceOp op u v) (EP X pins σ Q) X.xe s
noncomputable def xB (K:PySem.W.Frag) (ta tv:TE) (rd:V->V->Hp->VK->Prop) (f:Str):TS:=λD σ H=>ta σ H λx H1=>∃a C dx fs v,x=.ref a/\H1 a=some (.ins C dx fs)/\Cls K C/\NoAttr K C f/\fs.lookup f=some v/\
 tv σ H1 λy H2=>rd v y H2 λz H3=>∃dx' fs',H3 a=some (.ins C dx' fs')/\fs'.length < 1000/\D.nx σ (upd H3 a (.ins C dx' (cU f z fs')))
section
variable {X:Cx}{o e value:Expr}{f:Str}{pos pos' tpos:Pos}{ta tv:TE}
theorem bH (he:PE X e ta) (hb:attributeBase e f X.env (eval e X.env)=eval e X.env):PE X (.Attribute e f pos) (Bq X.K ta f):=by
 intro pins s σ H Q I h
 refine yB hb (thn (he pins s σ H _ I h) λu s1 ⟨x,H1,I1,rx,a,C,dx,fs,v,ex,ea,c,n,l,q⟩=>?_)
 subst ex
 obtain rfl:u=Value.ref a:=rx
 exact jV I1 ea c n l λu' s2 I2 ru=>⟨v,H1,I2,ru,q⟩
theorem bC (ha:PE X o ta) (hv:PE X value tv) (hs:swapsWith value (some (.Attribute o f pos')) pos.line X.env=pure false):PS X (.Assign [.Attribute o f pos'] value pos) (Ck X.K ta tv f):=by
 intro pins s σ H D I h
 refine plainObj_wpAny_Assign_Attribute (thn (hv pins s σ H _ I h) λu s1 ⟨y,H1,I1,ry,q⟩=>thn (ha pins s1 σ H1 _ I1 q) λov s2 ⟨x,H2,I2,rx,a,C,dx,fs,ex,ea,c,n,l,q2⟩=>?_) hs
 subst ex
 obtain rfl:ov=Value.ref a:=rx
 exact jF I2 ea c n l ry λs3 I3=>⟨σ,_,I3,q2⟩
theorem iy {op:Operator}{rd:V->V->Hp->VK->Prop} (ha:PE X o ta) (hv:PE X value tv) (hop:B7 X op rd):PS X (.AugAssign (.Attribute o f tpos) op value pos) (xB X.K ta tv rd f):=by
 intro pins s σ H D I h
 refine wpAny_AugAssign_AttributeAny (thn (ha pins s σ H _ I h) λov s1 ⟨x,H1,I1,rx,a,C,dx,fs,v,ex,ea,c,n,l,q⟩=>?_)
 subst ex
 obtain rfl:ov=Value.ref a:=rx
 refine jV I1 ea c n l λu s2 I2 ru=>thn (hv pins s2 σ H1 _ I2 q) λw3 s3 ⟨y,H2,I3,ry,q3⟩=>thn (hop pins s3 σ H2 v y u w3 _ I3 ru ry q3) λw4 s4 ⟨z,H3,I4,rz,dx',fs',ea',l',q4⟩=>?_
 exact jF I4 ea' c n l' rz λs5 I5=>⟨σ,_,I5,q4⟩
noncomputable def Cm:V->V->Hp->VK->Prop:=λx y H Q=>∃i j,x=.int i/\y=.int j/\Q (.int (i+j)) H
noncomputable def Cl:V->V->Hp->VK->Prop:=λx y H Q=>∃i j,x=.int i/\y=.int j/\Q (.int (i - j)) H
theorem wa:B7 X .Add Cm:=by
 rintro pins s σ H x y u v Q I rx ry ⟨i,j,rfl,rfl,q⟩
 obtain⟨t,rfl⟩:=(show ∃t,u=Value.int i t from rx)
 obtain⟨t',rfl⟩:=(show ∃t',v=Value.int j t' from ry)
 exact PyProof.Rows.iadd_int ⟨.int (i+j),H,I.tok _,⟨_,rfl⟩,q⟩
theorem AO:B7 X .Sub Cl:=by
 rintro pins s σ H x y u v Q I rx ry ⟨i,j,rfl,rfl,q⟩
 obtain⟨t,rfl⟩:=(show ∃t,u=Value.int i t from rx)
 obtain⟨t',rfl⟩:=(show ∃t',v=Value.int j t' from ry)
 exact PyProof.Rows.isub_int ⟨.int (i - j),H,I.tok _,⟨_,rfl⟩,q⟩
end
section
variable {X:Cx}{pins:List (Addr × Obj)}{σ:St}{H:Hp}{s:Shared}{A:Around}{E:Value->Shared->Prop}{Q:Value->Shared->Prop}{c:Value}{b:Bool}
inductive TyOf (K:PySem.W.Frag) (H:Hp):V->Value->Prop where
 | non:TyOf K H .non (.type "NoneType")
 | bl (x:Bool):TyOf K H (.bl x) (.type "bool")
 | int (i:Int):TyOf K H (.int i) (.type "int")
 | str (x:Str):TyOf K H (.str x) (.type "str")
 | flt (x:UInt64):TyOf K H (.flt x) (.type "float")
 | lst {a:Addr}{xs:List V} (e:H a=some (.lst xs)):TyOf K H (.ref a) (.type "list")
 | frz {a:Addr}{o:Obj}{xs:List V} (e:H a=some (.frz o (.lst xs))):TyOf K H (.ref a) (.type "list")
 | tup {a:Addr}{xs:List V} (e:H a=some (.tup xs)):TyOf K H (.ref a) (.type "tuple")
 | dK {a:Addr}{kvs:List (Key × V)} (e:H a=some (.dK kvs)):TyOf K H (.ref a) (.type "dict")
 | dT {a:Addr}{kvs:List (List Key × V)} (e:H a=some (.dT kvs)):TyOf K H (.ref a) (.type "dict")
 | ins {a C dx:Addr}{fs:List (Str × V)} (e:H a=some (.ins C dx fs)) (cl:Cls K C) (ha:PySem.W.findIn K (.ref C) "__class__" = some (some (.builtin "object.__class__")))
   (hn:PySem.W.specialIn K (.builtin "object.__class__") "__get__" = some (some (.builtin "getset_descriptor.__get__"))) (htk:PySem.W.takesIn K (.builtin "object.__class__")=some true)
   (hm:PySem.W.mroIn K C (.type "object")=some true):TyOf K H (.ref a) (.ref C)
theorem sV {x:V}{u t:Value} (I:Inv X pins σ H s) (rx:aW x u) (ty:TyOf X.K H x t) (e:PySem.W.kitOne X.K t c=some b) (h:∀tk,Q (.bool b) { s with toks:=tk }) :
  wpAny (model X.prog X.w) A (call (.builtin "isinstance") [u,c]) Q E s:=by
 cases ty with
 | non=>cases (show u=Value.none from rx);exact PySem.W.kia_one PySem.W.kitx_none I.kIn True.intro e (λz=>nomatch z) h
 | bl y=>cases (show u=Value.bool y from rx);exact PySem.W.kia_one PySem.W.kitx_bool I.kIn True.intro e (λz=>nomatch z) h
 | int i=>obtain⟨t,q⟩:=(show ∃t,u=Value.int i t from rx);cases q;exact PySem.W.kia_one PySem.W.kitx_int I.kIn True.intro e (λz=>nomatch z) h
 | str y=>obtain⟨t,q⟩:=(show ∃t,u=Value.str y t from rx);cases q;exact PySem.W.kia_one PySem.W.kitx_str I.kIn True.intro e (λz=>nomatch z) h
 | flt y=>obtain⟨t,q⟩:=(show ∃t,u=Value.float y t from rx);cases q;exact PySem.W.kia_one PySem.W.kitx_float I.kIn True.intro e (λz=>nomatch z) h
 | @lst a xs ea=>
  cases (show u=Value.ref a from rx)
  obtain⟨_,_,n,_,h1⟩:=(show bB X.prog X.w H s.heap a (.lst xs) from I.hok a _ ea)
  exact PySem.W.kia_one PySem.W.kitx_list I.kIn ⟨_,h1,rfl⟩ e (λz=>nomatch z) h
 | @frz a ob xs ea=>
  cases (show u=Value.ref a from rx)
  obtain⟨_,_,_,n,_,h1⟩:=(show bB X.prog X.w H s.heap a (.frz ob (.lst xs)) from I.hok a _ ea)
  exact PySem.W.kia_one PySem.W.kitx_list I.kIn ⟨_,h1,rfl⟩ e (λz=>nomatch z) h
 | @tup a xs ea=>
  cases (show u=Value.ref a from rx)
  obtain⟨_,_,_,p⟩:=(show bB X.prog X.w H s.heap a (.tup xs) from I.hok a _ ea)
  obtain⟨o,h1,h2,_⟩:=p
  exact PySem.W.kia_one PySem.W.kitx_tuple I.kIn ⟨o,h1,h2⟩ e (λz=>nomatch z) h
 | @dK a kvs ea=>
  cases (show u=Value.ref a from rx)
  obtain⟨_,_,vs,_,p⟩:=(show bB X.prog X.w H s.heap a (.dK kvs) from I.hok a _ ea)
  obtain⟨o,es,ep,h1,h2,_⟩:=p
  exact PySem.W.kia_one PySem.W.kitx_dict I.kIn ⟨o,h1,h2.1⟩ e (λz=>nomatch z) h
 | @dT a kvs ea=>
  cases (show u=Value.ref a from rx)
  obtain⟨_,_,xs,_,o,es,ep,h1,h2,_⟩:=(show bB X.prog X.w H s.heap a (.dT kvs) from I.hok a _ ea)
  exact PySem.W.kia_one PySem.W.kitx_dict I.kIn ⟨o,h1,h2.1⟩ e (λz=>nomatch z) h
 | @ins a C dx fs ea cl ha hn htk hm=>
  cases (show u=Value.ref a from rx)
  obtain⟨mA,O,_⟩:=jl I.hok ea
  obtain⟨od,J,_⟩:=O.look
  exact PySem.W.kia_one (PySem.W.kitx_own (cl.get _) cl.hd ha hn htk hm) I.kIn J e (λz=>nomatch z) h
end
structure Room (k:Nat) (A:Around):Prop where
 hd:A.handled=none
 dp:A.depth+3 * k+5 < recursionLimit
 un:A.units+16 * k+200 < cLine
 gd:A.guards=some []
theorem Room.mono {j k:Nat}{A:Around} (r:Room k A) (h:j<=k):Room j A:=⟨r.hd,by have:=r.dp;omega,by have:=r.un;omega,r.gd⟩
theorem Room.deeper {k:Nat}{A:Around} (r:Room (k+1) A) (env:Env):Room k (A.deeper env):=
 ⟨r.hd,by have:=r.dp;show A.depth+1+3 * k+5 < _;omega,by have:=r.un;show A.units+3+16 * k+200 < _;omega,r.gd⟩
theorem qo {A:Around}{C:Addr}{us:List Value}{kw:List (Str × Value)}:(A.under (.builtin "type.__call__" ⟨.ref C::us,kw⟩)).depth=A.depth+1:=by
 first | rfl | simp [Around.under,Code.weight,Code.isCreation,Code.isGuard,Code.isCaller,Code.frames,Code.isFrame,guardIds]
theorem qm {A:Around}{C:Addr}{us:List Value}{kw:List (Str × Value)}:(A.under (.builtin "type.__call__" ⟨.ref C::us,kw⟩)).units=A.units+1:=by
 first | rfl | simp [Around.under,Code.cUnits,Code.frames,Code.isFrame]
theorem Room.make {k:Nat}{A:Around} (r:Room (k+1) A) (C:Addr) (us:List Value) (kw:List (Str × Value)):Room k (A.under (.builtin "type.__call__" ⟨.ref C::us,kw⟩)):=
 ⟨r.hd,by have:=r.dp;rw [qo];omega,by have:=r.un;rw [qm];omega,by have h:=r.gd;first | (unfold Around.under;simp [h,pushGuards,Code.guards,Code.isGuard,guardIds]) | (simp [Around.under,h,pushGuards,Code.guards,Code.isGuard,guardIds])⟩
theorem Room.depth {k:Nat}{A:Around} (r:Room k A):A.depth < recursionLimit:=by have:=r.dp;omega
theorem Room.units {k:Nat}{A:Around} (r:Room k A):A.units+64 < cLine:=by have:=r.un;omega
noncomputable def iT:TA:=λ_ H Q=>Q [] H
noncomputable def cG (ta:TE) (tr:TA):TA:=λσ H Q=>ta σ H λx H1=>tr σ H1 λxs H2=>Q (x::xs) H2
section
variable {X:Cx}{e:Expr}{es:List Expr}{te:TE}{t:TA}{pos:Pos}
theorem ae:PA X [] iT:=λ_ _ _ _ H Q I h=>Calls.spliced_nil ⟨[],H,I,.nil,h⟩
theorem aC (ha:PE X e te) (hr:PA X es t) (hs:starEach (e::es) X.env=(false,eval e X.env)::starEach es X.env:=by rfl):PA X (e::es) (cG te t):=by
 intro pos pins s σ H Q I h
 rw [hs]
 show wpAny _ _ (spliced ((false,eval e X.env)::backTo pos (starEach es X.env))) _ _ s
 refine Calls.spliced_cons (thn (ha pins s σ H _ I h) λu s1 ⟨x,H1,I1,r1,q1⟩=>?_)
 exact thn (hr pos pins s1 σ H1 _ I1 q1) λus s2 ⟨xs,H2,I2,r2,q2⟩=>⟨x::xs,H2,I2,.cons r1 r2,q2⟩
noncomputable def C9 (t:TA):TE:=λσ H Q=>t σ H λxs H1=>xs.length<=sizeLine/\∀p,H1 p=none->Q (.ref p) (upd H1 p (.tup xs))
noncomputable def Cc (t:TA):TE:=λσ H Q=>t σ H λxs H1=>xs.length<=sizeLine/\∀p,H1 p=none->Q (.ref p) (upd H1 p (.lst xs))
theorem bG {x1} (h:PA X es t):PE X (.Tuple es x1 pos) (C9 t):=by
 intro pins s σ H Q I hq
 refine wpAny_Tuple_spliced (thn (h pos pins s σ H _ I hq) λus s1 ⟨xs,H1,I1,r,z,q⟩=>⟨by rw [<- r.length];exact z,?_⟩)
 have hf:H1 s1.heap.objs.size=none:=I1.hok.fresh (Nat.le_refl _)
 refine⟨.ref s1.heap.objs.size,upd H1 s1.heap.objs.size (.tup xs),I1.laid (t':=s1.toks) (λb u e=>zH0 _ e) (Nat.le_refl _) ?_,rfl,q _ hf⟩
 exact⟨z,us,r,⟨_,Heap.get?_push_size _ rfl,rfl,_,rfl⟩⟩
theorem be (h:PA X es t):PE X (.List es pos) (Cc t):=by
 intro pins s σ H Q I hq
 refine wpAny_List_spliced (thn (h pos pins s σ H _ I hq) λus s1 ⟨xs,H1,I1,r,z,q⟩=>⟨by rw [<- r.length];exact z,?_⟩)
 have hf:H1 s1.heap.objs.size=none:=I1.hok.fresh (Nat.le_refl _)
 refine⟨.ref s1.heap.objs.size,upd H1 s1.heap.objs.size (.lst xs),I1.laid (t':=s1.toks) (λb u e=>zH0 _ e) (Nat.le_refl _) ?_,rfl,q _ hf⟩
 exact⟨z,us,0,r,Heap.get?_push_size _ rfl⟩
end
noncomputable abbrev Sp:=List V->Hp->VK->XK->Prop
noncomputable abbrev CXT:=List Env->Hp->Shared->XK->Value->Shared->Prop
structure Env0 (P:Program) (w:World) (K:PySem.W.Frag) (mg:Str->Option Value) (base:Heap) (A:Around) (outer:List Env) (s:Shared) (H:Hp):Prop where
 frames:A.frames=some outer
 mod:Mod K mg base
 bs:∀b o,base.get? b=some o->s.heap.get? b=some o/\H b=none
 bsz:base.objs.size<=s.heap.objs.size
 funs:s.heap.FunFrames base outer
 frf:∀b∈frs outer,H b=none
 hok:HOk P w H s.heap
 bare:AllBare s.gens
def CE (outer:List Env) (P:Program) (w:World) (H:Hp) (s:Shared) (Q:VK) (u:Value) (s':Shared):Prop:=
 ∃v H',s'.os=s.os/\AllBare s'.gens/\Un (frs outer) [] H H' s.heap s'.heap/\HOk P w H' s'.heap/\aW v u/\Q v H'
def CR (CX:CXT) (outer:List Env) (P:Program) (w:World) (H:Hp) (s:Shared) (Q:VK) (E:XK) (r:Result) (s':Shared):Prop:=
 match r with
 | .ok (.ret u)=>CE outer P w H s Q u s'
 | .ok _=>False
 | .error e=>CX outer H s E e s'
structure FnOk (P:Program) (w:World) (K:PySem.W.Frag) (mg:Str->Option Value) (base:Heap) (CX:CXT) (k:Nat) (f:Addr) (fd:FuncData) (ps:List Str) (sp:Sp):Prop where
 len:∀vs H Q E,sp vs H Q E->vs.length=ps.length
 run:∀(A:Around) (outer:List Env) (s:Shared) (H:Hp) (args:Args) (us:List Value) (vs:List V) (Q:VK) (E:XK),Room k A->Env0 P w K mg base A outer s H->BindsTo s fd args (ps.zip us)->aU vs us->sp vs H Q E->
  codeAny (model P w) A (.call (.ref f) args) (CR CX outer P w H s Q E) s
theorem FnOk.mono {P:Program}{w:World}{K:W.Frag}{mg:Str->Option Value}{base:Heap}{CX:CXT}{j k:Nat}{f:Addr}{fd:FuncData}{ps:List Str}{sp:Sp} (F:FnOk P w K mg base CX j f fd ps sp) (h:j<=k) :
  FnOk P w K mg base CX k f fd ps sp:=⟨F.len,λA outer s H args us vs Q E hr=>F.run A outer s H args us vs Q E (hr.mono h)⟩
theorem Env0.make {P:Program}{w:World}{K:W.Frag}{mg:Str->Option Value}{base:Heap}{A:Around}{outer:List Env}{s:Shared}{H:Hp} (e:Env0 P w K mg base A outer s H) (C:Addr) (us:List Value) (kw:List (Str × Value)) :
  Env0 P w K mg base (A.under (.builtin "type.__call__" ⟨.ref C::us,kw⟩)) outer s H:=⟨by first | exact e.frames | (simpa [Around.under,Code.envs,Code.isFrame,pushEnvs] using e.frames),e.mod,e.bs,e.bsz,e.funs,e.frf,e.hok,e.bare⟩
section
variable {X:Cx}{pins:List (Addr × Obj)}{σ:St}{H:Hp}{s s':Shared}
theorem Inv.env0 (I:Inv X pins σ H s):Env0 X.prog X.w X.K X.mg X.base X.A X.stack s H:=
 ⟨I.ok.frames,I.ok.mod,I.bs,Nat.le_trans I.ok.bsz I.sz,I.stack,I.stkFree,I.hok,I.bare⟩
theorem Inv.after {Q:VK}{u:Value} (I:Inv X pins σ H s) (h:CE X.stack X.prog X.w H s Q u s'):EP X pins σ Q u s':=by
 obtain⟨v,H',os,bare,un,hok,r,q⟩:=h
 obtain⟨hh,g,d,t,os'⟩:=s'
 obtain rfl:os'=s.os:=os
 exact⟨v,H',I.call (h':=hh) (g':=g) (d':=d) (t':=t) (ch:=[]) un hok bare (λb z=>absurd z (by simp)),r,q⟩
end
noncomputable def kU (sp:Sp) (dvs:List V) (E:XK) (t:TA):TE:=λσ H Q=>t σ H λvs H1=>sp (vs++dvs) H1 Q E
noncomputable def yL (C:Addr) (m:Str) (sp:Sp) (dvs:List V) (E:XK) (ta:TE) (t:TA):TE:=λσ H Q=>ta σ H λx H1=>∃a dx fs,x=.ref a/\H1 a=some (.ins C dx fs)/\fs.lookup m=none/\
 t σ H1 λvs H2=>sp (x::(vs++dvs)) H2 Q E
noncomputable def Bo (C:Addr) (sp:Sp) (dvs:List V) (E:XK) (t:TA):TE:=λσ H Q=>t σ H λvs H1=>∀x dx,H1 x=none->H1 dx=none->dx≠x->
 sp (.ref x::(vs++dvs)) (upd (upd H1 dx (.own x)) x (.ins C dx [])) (λv H2=>v=.non/\Q (.ref x) H2) E
def cm (K:PySem.W.Frag) (fd:FuncData) (ps:List Str) (ds:List Value):Prop:=
 ∀(s:Shared) (us:List Value),K.In s.heap->(us++ds).length=ps.length->BindsTo s fd ⟨us,[]⟩ (ps.zip (us++ds))
theorem cm.all {K:W.Frag}{fd:FuncData}{ps:List Str} (h:∀us:List Value,us.length=ps.length->bindArgs fd ⟨us,[]⟩=pure (ps.zip us)):cm K fd ps []:=λs us _ hl=>by
 rw [List.append_nil]at hl ⊢
 exact .of_eq (h us hl)
def dM (CX:CXT) (X:Cx) (E:XK):Prop:=∀(pins:List (Addr × Obj)) (σ:St) (H:Hp) (s:Shared) (e:Value) (s':Shared),Inv X pins σ H s->CX X.stack H s E e s'->X.xe e s'
section
variable {X:Cx}{CX:CXT}{k:Nat}{f C:Addr}{fd:FuncData}{ps:List Str}{sp:Sp}{dvs:List V}{ds:List Value}{E:XK}{x m:Str}{p pos apos:Pos}{e o:Expr}{es:List Expr}{ta:TE}{t:TA}
theorem ix {pins:List (Addr × Obj)}{σ:St}{H:Hp}{s:Shared}{Q:VK}{us:List Value}{vs:List V} (F:FnOk X.prog X.w X.K X.mg X.base CX k f fd ps sp) (hr:Room k X.A) (hb:cm X.K fd ps ds) (hd:aU dvs ds) (hx:dM CX X E)
  (I:Inv X pins σ H s) (r:aU vs us) (h:sp (vs++dvs) H Q E):wpAny (model X.prog X.w) X.A (call (.ref f) us) (EP X pins σ Q) X.xe s:=by
 have r2:aU (vs++dvs) (us++ds):=r.append hd
 have hl:(us++ds).length=ps.length:=by rw [<- r2.length];exact F.len _ _ _ _ h
 refine wpAny_call (codeAny_mono (F.run X.A X.stack s H ⟨us,[]⟩ (us++ds) (vs++dvs) Q E hr I.env0 (hb s us I.kIn hl) r2 h) λr s' hq=>?_)
 cases r with
 | error e=>exact hx pins σ H s e s' I hq
 | ok fl=>
  cases fl with
  | ret u=>exact I.after hq
  | next=>exact False.elim hq
  | brk=>exact False.elim hq
  | cont=>exact False.elim hq
theorem ay (F:FnOk X.prog X.w X.K X.mg X.base CX k f fd ps sp) (hr:Room k X.A) (hg:Gl X x) (hm:X.mg x=some (.ref f)) (hk:PySem.W.keepIn X.K (.ref f)=true) (hb:cm X.K fd ps ds) (hd:aU dvs ds) (hx:dM CX X E)
  (ha:PA X (e::es) t) (hdb:(x == ("__debug__" : Str))=false:=by decide) (he:starEach (e::es) X.env=(false,eval e X.env)::starEach es X.env:=by rfl) (hpl:(backTo pos (starEach es X.env)).any (·.1)=false:=by rfl) :
  PE X (.Call (.Name x p) (e::es) [] pos) (kU sp dvs E t):=by
 intro pins s σ H Q I h
 refine wpAny_Call_Name_kw (jk I hg hm ?_ hdb)
 refine PySem.W.callWith_K (h₀:=X.base) I.ok.mod.kin hk (thn (ha pos pins s σ H _ I h) λus s1 ⟨vs,H1,I1,r,q⟩=>⟨I1.kIn,?_⟩) he hpl
 exact ix F hr hb hd hx I1 r q
theorem bM {pl:Sem Bool} (he:PE X o ta) (c:Cls X.K C) (hm:Meth X.K C m f) (F:FnOk X.prog X.w X.K X.mg X.base CX k f fd ps sp) (hr:Room k X.A) (hb:cm X.K fd ps ds) (hd:aU dvs ds) (hx:dM CX X E) (ha:PA X (e::es) t)
  (hst:starEach (e::es) X.env=(false,eval e X.env)::starEach es X.env:=by rfl) (hpl:(backTo pos (starEach es X.env)).any (·.1)=false:=by rfl)
  (ht:eval (.Call (.Attribute o m apos) (e::es) [] pos) X.env=(do
   let ov <- eval o X.env
   standAt apos.atName
   let (f,first) <- holding [ov] (getMethod ov m pl)
   callWith pos f first (backTo pos (starEach (e::es) X.env)) (backToKw pos (keywordEach [] X.env))):=by rfl) :
  PE X (.Call (.Attribute o m apos) (e::es) [] pos) (yL C m sp dvs E ta t):=by
 intro pins s σ H Q I h
 refine PySem.W.methodCall_KW (pl:=pl) (thn (he pins s σ H _ I h) λu s1 ⟨x,H1,I1,rx,a,dx,fs,ex,ea,l,q⟩=>?_) ht
 subst ex
 obtain rfl:u=Value.ref a:=rx
 refine eW I1 ea c hm l ?_
 refine PySem.W.callWith_K (first:=[.ref a]) (h₀:=X.base) I.ok.mod.kin hm.kp (thn (ha pos pins s1 σ H1 _ I1 q) λus s2 ⟨vs,H2,I2,r,q2⟩=>⟨I2.kIn,?_⟩) hst hpl
 exact ix (us:=.ref a::us) (vs:=.ref a::vs) F hr hb hd hx I2 (.cons rfl r) q2
theorem bz {pl:Sem Bool} (he:PE X o ta) (c:Cls X.K C) (hm:Meth X.K C m f) (F:FnOk X.prog X.w X.K X.mg X.base CX k f fd ps sp) (hr:Room k X.A) (hb:cm X.K fd ps ds) (hd:aU dvs ds) (hx:dM CX X E)
  (ht:eval (.Call (.Attribute o m apos) [] [] pos) X.env=(do
   let ov <- eval o X.env
   standAt apos.atName
   let (f,first) <- holding [ov] (getMethod ov m pl)
   callWith pos f first (backTo pos (starEach [] X.env)) (backToKw pos (keywordEach [] X.env))):=by rfl) :
  PE X (.Call (.Attribute o m apos) [] [] pos) (yL C m sp dvs E ta iT):=by
 intro pins s σ H Q I h
 refine PySem.W.methodCall_KW (pl:=pl) (thn (he pins s σ H _ I h) λu s1 ⟨x,H1,I1,rx,a,dx,fs,ex,ea,l,q⟩=>?_) ht
 subst ex
 obtain rfl:u=Value.ref a:=rx
 refine eW I1 ea c hm l ?_
 exact PySem.W.callWith_K0 (first:=[.ref a]) I1.kIn hm.kp (ix (us:=[.ref a]) (vs:=[.ref a]) F hr hb hd hx I1 (.cons rfl .nil) q)
structure Mk (K:PySem.W.Frag) (C f:Addr):Prop where
 makes:PySem.W.makesIn K C=true
 init:‹(K,C,f,"__init__")›
 fn:‹[K,f]›
 kp:PySem.W.keepIn K (.ref C)=true
theorem uU {pins:List (Addr × Obj)}{σ:St}{H:Hp}{s:Shared}{Q:VK}{us:List Value}{vs:List V} (M:Mk X.K C f) (F:FnOk X.prog X.w X.K X.mg X.base CX k f fd ps sp) (hr:Room (k+1) X.A) (hb:cm X.K fd ps ds) (hd:aU dvs ds)
  (hx:dM CX X E) (I:Inv X pins σ H s) (r:aU vs us)
  (h:∀x dx,H x=none->H dx=none->dx≠x->sp (.ref x::(vs++dvs)) (upd (upd H dx (.own x)) x (.ins C dx [])) (λv H2=>v=.non/\Q (.ref x) H2) E) :
  wpAny (model X.prog X.w) X.A (call (.ref C) us) (EP X pins σ Q) X.xe s:=by
 have hq:=h (s.heap.objs.size+1) s.heap.objs.size (I.hok.fresh (Nat.le_succ _)) (I.hok.fresh (Nat.le_refl _)) (Nat.ne_of_lt (Nat.lt_succ_self _))
 have I2:=Inv.made (C:=C) I
 have r2:aU (V.ref (s.heap.objs.size+1)::(vs++dvs)) (Value.ref (s.heap.objs.size+1)::(us++ds)):=.cons rfl (r.append hd)
 have hl:(Value.ref (s.heap.objs.size+1)::us++ds).length=ps.length:=by
  have e:=r2.length
  rw [F.len _ _ _ _ hq]at e
  exact e.symm
 refine wpAny_call (vR (f:=f) I.kIn M.makes M.init (beq_iff_eq.mp M.fn) (codeAny_mono (F.run _ X.stack _ _ ⟨Value.ref (s.heap.objs.size+1)::us,[]⟩ (Value.ref (s.heap.objs.size+1)::(us++ds)) _ _ E (hr.make C us [])
  (I2.env0.make C us []) (hb _ (Value.ref (s.heap.objs.size+1)::us) I2.kIn hl) r2 hq) λr s' hq'=>?_))
 cases r with
 | error e=>exact hx pins σ _ _ e s' I2 hq'
 | ok fl=>
  cases fl with
  | ret u=>
   obtain⟨v,H',I3,rv,ev,q3⟩:=I2.after hq'
   subst ev
   exact⟨rv,⟨V.ref (s.heap.objs.size+1),H',I3,rfl,q3⟩⟩
  | next=>exact False.elim hq'
  | brk=>exact False.elim hq'
  | cont=>exact False.elim hq'
theorem dk (M:Mk X.K C f) (F:FnOk X.prog X.w X.K X.mg X.base CX k f fd ps sp) (hr:Room (k+1) X.A) (hg:Gl X x) (hm:X.mg x=some (.ref C)) (hb:cm X.K fd ps ds) (hd:aU dvs ds) (hx:dM CX X E)
  (ha:PA X (e::es) t) (hdb:(x == ("__debug__" : Str))=false:=by decide) (he:starEach (e::es) X.env=(false,eval e X.env)::starEach es X.env:=by rfl) (hpl:(backTo pos (starEach es X.env)).any (·.1)=false:=by rfl) :
  PE X (.Call (.Name x p) (e::es) [] pos) (Bo C sp dvs E t):=by
 intro pins s σ H Q I h
 refine wpAny_Call_Name_kw (jk I hg hm ?_ hdb)
 refine PySem.W.callWith_K (h₀:=X.base) I.ok.mod.kin M.kp (thn (ha pos pins s σ H _ I h) λus s1 ⟨vs,H1,I1,r,q⟩=>⟨I1.kIn,?_⟩) he hpl
 exact uU M F hr hb hd hx I1 r q
end
section
variable {X:Cx}{CX:CXT}{k:Nat}{f C:Addr}{fd:FuncData}{ps ks:List Str}{sp:Sp}{E:XK}{x m:Str}{p pos apos kpos:Pos}{e o:Expr}{es:List Expr}{kws:List Keyword}{te ta:TE}{t tk:TA}{nm:Option Str}
variable {g:List Value->List Value->List Value}{gV:List V->List V->List V}
end
structure FnScope (N P:List Str) (sc:Scope):Prop where
 kind:sc.kind=.function
 co:sc.isCoroutine=false
 gen:sc.isGenerator=false
 nd:N.Nodup
 pre:N.take P.length=P
 par:∀x∈P,sc.names.lookup x=some .local\/sc.names.lookup x=some .cell
 nofree:∀y∈sc.names,y.2≠.free
theorem lO {kindOf:Str->Option NameKind}{x:Str}:∀{binds:List (Str × Value)}{m:Str->Option Value},(∀v,(x,v)∉binds)->bindL kindOf binds m x=m x
 | [],_,_=>rfl
 | (n,v)::r,m,h=>by
  unfold bindL
  rw [lO λw hw=>h w (List.mem_cons_of_mem _ hw)]
  split
  ·have:x≠n:=by rintro rfl;exact h v List.mem_cons_self
   simp [this]
  ·rfl
theorem lQ {kindOf:Str->Option NameKind}{x:Str}:∀{binds:List (Str × Value)}{m:Str->Option Value},(∀v,(x,v)∉binds)->bindC kindOf binds m x=m x
 | [],_,_=>rfl
 | (n,v)::r,m,h=>by
  unfold bindC
  rw [lQ λw hw=>h w (List.mem_cons_of_mem _ hw)]
  split
  ·rfl
  ·have:x≠n:=by rintro rfl;exact h v List.mem_cons_self
   simp [this]
theorem lP {kindOf:Str->Option NameKind}{x:Str}{v:Value}:∀{P:List Str}{vs:List Value}{i:Nat}{m:Str->Option Value},P.Nodup->P[i]?=some x->vs[i]?=some v->kindOf x=some .local->
  bindL kindOf (P.zip vs) m x=some v
 | [],_,_,_,_,h,_,_=>by simp at h
 | _::_,[],_,_,_,_,h,_=>by simp at h
 | p::P,w::vs,0,m,nd,h1,h2,hk=>by
  simp at h1 h2;subst h1;subst h2
  show bindL kindOf ((p,w)::P.zip vs) m p=_
  unfold bindL
  rw [lO λv hv=>(List.nodup_cons.mp nd).1 (List.of_mem_zip hv).1,if_pos hk]
  simp
 | p::P,w::vs,i+1,m,nd,h1,h2,hk=>by
  show bindL kindOf ((p,w)::P.zip vs) m x=_
  unfold bindL
  exact lP (i:=i) (List.nodup_cons.mp nd).2 (by simpa using h1) (by simpa using h2) hk
theorem lR {kindOf:Str->Option NameKind}{x:Str}{v:Value}:∀{P:List Str}{vs:List Value}{i:Nat}{m:Str->Option Value},P.Nodup->P[i]?=some x->vs[i]?=some v->kindOf x≠some .local->
  bindC kindOf (P.zip vs) m x=some v
 | [],_,_,_,_,h,_,_=>by simp at h
 | _::_,[],_,_,_,_,h,_=>by simp at h
 | p::P,w::vs,0,m,nd,h1,h2,hk=>by
  simp at h1 h2;subst h1;subst h2
  show bindC kindOf ((p,w)::P.zip vs) m p=_
  unfold bindC
  rw [lQ λv hv=>(List.nodup_cons.mp nd).1 (List.of_mem_zip hv).1,if_neg hk]
  simp
 | p::P,w::vs,i+1,m,nd,h1,h2,hk=>by
  show bindC kindOf ((p,w)::P.zip vs) m x=_
  unfold bindC
  exact lR (i:=i) (List.nodup_cons.mp nd).2 (by simpa using h1) (by simpa using h2) hk
noncomputable def cN (N:List Str) (vs:List V):St:=vs.map some++List.replicate (N.length - vs.length) none
noncomputable def kr (CX:CXT) (P:Program) (w:World) (K:PySem.W.Frag) (mg:Str->Option Value) (base:Heap) (N:List Str) (qual:Str) (scope:Scope) (f:Addr) (cd:Value) (A:Around) (outer:List Env) (s:Shared) (H:Hp) (E:XK):Cx where
 prog:=P
 w:=w
 K:=K
 mg:=mg
 base:=base
 A:=A.deeper (envOfC qual scope s.heap.objs.size f cd)
 N:=N
 s₀:=s
 H₀:=H
 env:=envOfC qual scope s.heap.objs.size f cd
 outer:=outer
 stack:=envOfC qual scope s.heap.objs.size f cd::outer
 ex:=[]
 calm:=true
 fn:=λ_=>true
 pn:=[]
 xe:=λe s'=>wpAny (model P w) (A.deeper (envOfC qual scope s.heap.objs.size f cd)) (leaving (envOfC qual scope s.heap.objs.size f cd) e) (λ_ s''=>CX outer H s E e s'') (λe' s''=>CX outer H s E e' s'') s'
theorem oY {sc:Scope}{n:Nat}{x:Str} (h:sc.names.lookup x=some .cell):∃c,(cellsFrom n sc.names []).lookup x=some c:=by
 have q:=PySem.W.cellsFrom_some sc.names n [] (.inl h)
 exact Option.isSome_iff_exists.mp q
theorem lE {CX:CXT}{P:Program}{w:World}{K:W.Frag}{mg:Str->Option Value}{base:Heap}{N ps:List Str}{qual:Str}{scope:Scope}{f:Addr}{cd:Value}{A:Around}{outer:List Env}{s s1:Shared}{H:Hp}{E:XK}{us:List Value}{vs:List V}
  (S:FnScope N ps scope) (hd:A.handled=none) (e0:Env0 P w K mg base A outer s H) (hl:vs.length=ps.length) (r:aU vs us)
  (x:InCallC s s.heap.objs.size (bindL (envOfC qual scope s.heap.objs.size f cd).kindOf (ps.zip us) λ_=>none) (cellsFrom (s.heap.objs.size+1) scope.names []) (bindC (envOfC qual scope s.heap.objs.size f cd).kindOf (ps.zip us) λ_=>none) s1) :
  Inv (kr CX P w K mg base N qual scope f cd A outer s H E) [] (cN N vs) H s1:=by
 have hpl:ps.length<=N.length:=by have:=congrArg List.length S.pre;rw [List.length_take]at this;omega
 obtain⟨h1,tk,rfl,hk⟩:=x.done
 have noA:∀b:Addr,b∉(kr CX P w K mg base N qual scope f cd A outer s H E).ex:=λb z=>absurd (show b∈([]:List Addr) from z) (by simp)
 refine⟨⟨e0.mod,S.kind,rfl,rfl,Nat.le_refl _,λy z c h1 h2=>?_,λy hy=>?_,λy c _ h=>?_,λ_=>hd,Around.frames_deeper e0.frames,.inr ⟨rfl,rfl⟩,λb z=>absurd z (noA b),e0.bs,e0.bsz,λb _ _=>noA b,λb z=>absurd z (noA b),e0.funs,e0.frf⟩,
  rfl,e0.bare,Un.kept hk,⟨_,x.toInCall.ns,λi y v h1 h2 h3=>?_⟩,λy c h=>⟨_,x.cell y c h⟩,e0.hok.fresh (Nat.le_refl _),λy c h=>?_,λp hp=>absurd (show p∈([]:List (Addr × Obj)) from hp) (by simp),e0.hok.kept hk,?_⟩
 ·exact name_of_addr x.apart (PySem.mem_of_lookup h1) (PySem.mem_of_lookup h2)
 ·have hy:scope.names.lookup y=some .cell\/scope.names.lookup y=some .free:=hy
  rcases hy with hy | hy
  ·exact oY hy
  ·exact absurd rfl (S.nofree _ (PySem.mem_of_lookup hy))
 ·exact Nat.le_of_lt (x.above y c (PySem.mem_of_lookup h))
 ·have hi:i < vs.length:=by
   unfold cN at h2
   by_cases hi:i < vs.length
   ·exact hi
   ·rw [List.getElem?_append_right (by simpa using hi)]at h2
    rw [List.getElem?_replicate]at h2
    split at h2 <;> cases h2
  have ha:vs[i]?=some v:=by
   unfold cN at h2
   rw [List.getElem?_append_left (by simpa using hi),List.getElem?_map]at h2
   cases e:vs[i]? with
   | none=>rw [e]at h2;cases h2
   | some a=>rw [e]at h2;cases h2;rfl
  obtain⟨u,hu,rv⟩:=r.get ha
  have hp:ps[i]?=some y:=by
   rw [<- S.pre,List.getElem?_take_of_lt ‹1›];exact h1
  have ndP:ps.Nodup:=by rw [<- S.pre];exact S.nd.sublist (List.take_sublist _ _)
  refine⟨u,rv,?_⟩
  rcases S.par y (List.mem_of_getElem? hp) with k | k
  ·exact .inl ⟨k,lP ndP hp hu k⟩
  ·obtain⟨c,e⟩:=oY (n:=s.heap.objs.size+1) k
   refine .inr ⟨.inl k,c,e,?_⟩
   have q:=x.cell y c e
   rw [lR ndP hp hu (by show scope.names.lookup y≠_;rw [k];decide)]at q
   exact q
 ·exact e0.hok.fresh (Nat.le_of_lt (x.above y c (PySem.mem_of_lookup h)))
 ·unfold cN
  show _=N.length
  rw [List.length_append,List.length_map,List.length_replicate]
  omega
theorem BT {CX:CXT}{P:Program}{w:World}{K:W.Frag}{mg:Str->Option Value}{base:Heap}{k:Nat}{f:Addr}{name qual:Str}{params:Arguments}{body:List Stmt}{scope:Scope}{dV kV doc pm cdv ct oc:Value}{an od:Option Addr}
  {osl:Array (Option Value)}{N ps:List Str}{sp:Sp} (lk:K.lookup f=some ⟨oc,od,.func (PySem.W.fnOf name qual params body scope dV kV doc pm an cdv ct),osl⟩) (hcd:PySem.W.codeIn K cdv qual=true) (S:FnScope N ps scope)
  (len:∀vs H Q E,sp vs H Q E->vs.length=ps.length)
  (hbody:∀(A:Around) (outer:List Env) (s:Shared) (H:Hp) (vs:List V) (Q:VK) (E:XK),Room k (A.deeper (envOfC qual scope s.heap.objs.size f cdv))->sp vs H Q E->
   ∃t,PSs (kr CX P w K mg base N qual scope f cdv A outer s H E) body t/\t { nx:=λ_ H'=>Q .non H',rt:=Q } (cN N vs) H) :
  FnOk P w K mg base CX (k+1) f (PySem.W.fnOf name qual params body scope dV kV doc pm an cdv ct) ps sp:=by
 refine⟨len,λA outer s H args us vs Q E hr e0 hb r hsp=>?_⟩
 have hl:=len _ _ _ _ hsp
 have KX:K.In s.heap:=e0.mod.kin.keeps λb o e=>(e0.bs b o e).1
 have lim:s.heap.NoLimit:=e0.mod.nolimit.keeps λb o e=>(e0.bs b o e).1
 have hkind:∀y∈ps.zip us,scope.names.lookup y.1=some .local\/(scope.names.lookup y.1=some .cell/\((cellsFrom (s.heap.objs.size+1) scope.names []).lookup y.1).isSome=true):=λ⟨n,v⟩ hy=>by
  rcases S.par n (List.of_mem_zip hy).1 with q | q
  ·exact .inl q
  ·exact .inr ⟨q,PySem.W.cellsFrom_some _ _ _ (.inl q)⟩
 refine codeAny_call_function hr.depth (KX _ _ lk) rfl S.co S.gen rfl (PySem.W.codeRec_of KX hcd) (hb _ _ _ _ ?_)
 refine wpAny_newFunctionEnv_cells S.kind hkind λenv he s1 x=>?_
 subst he
 refine⟨lim.keeps x.toInCall.keep,codeAny_func ?_⟩
 obtain⟨t,ht,hq⟩:=hbody A outer s H vs Q E (hr.deeper _) hsp
 have I:Inv (kr CX P w K mg base N qual scope f cdv A outer s H E) [] (cN N vs) H s1:=lE S hr.hd e0 hl r x
 refine wpAny_mono (ht [] s1 (cN N vs) H _ I hq) (λfl s' hs=>?_) λe s' hs=>hs
 have fin:∀{σ':St}{H':Hp}{v:V}{u:Value},Inv (kr CX P w K mg base N qual scope f cdv A outer s H E) [] σ' H' s'->aW v u->Q v H'->CE outer P w H s Q u s':=
  λ{σ' H' v u} J rv q=>⟨v,H',J.os,J.bare,J.base,J.hok,rv,q⟩
 cases fl with
 | ret u=>
  obtain⟨v,σ',H',J,rv,q⟩:=hs
  exact fin J rv q
 | next=>
  obtain⟨σ',H',J,q⟩:=hs
  exact fin (v:=V.non) (u:=Value.none) J rfl q
 | brk=>
  obtain⟨_,_,_,q⟩:=hs
  exact False.elim q
 | cont=>
  obtain⟨_,_,_,q⟩:=hs
  exact False.elim q
section
variable {X:Cx}{x:Str}{p pos:Pos}{e:Expr}{es:List Expr}{t:TA}{id T:String}{r:List V->Hp->VK->Prop}
noncomputable def tCB (r:List V->Hp->VK->Prop) (t:TA):TE:=λσ H Q=>t σ H λvs H1=>r vs H1 Q
theorem aE (hc:cD X (.builtin id) r) (hg:Gl X x) (hm:X.mg x=none) (hv:bootBuiltins x=some (.builtin id)) (ha:PA X (e::es) t) (hn:x≠"__name__":=by decide) (hdb:(x == ("__debug__" : Str))=false:=by decide)
  (he:starEach (e::es) X.env=(false,eval e X.env)::starEach es X.env:=by rfl) (hpl:(backTo pos (starEach es X.env)).any (·.1)=false:=by rfl):PE X (.Call (.Name x p) (e::es) [] pos) (tCB r t):=by
 intro pins s σ H Q I h
 refine wpAny_Call_Name_kw (iD I hg hm hv ?_ hn hdb)
 exact PyProof.Rows.callWith_builtin1 (thn (ha pos pins s σ H _ I h) λus s1 ⟨vs,H1,I1,r1,q1⟩=>hc pins s1 σ H1 vs us Q I1 r1 q1) he hpl
theorem aM (hc:cD X (.type T) r) (hg:Gl X x) (hm:X.mg x=none) (hv:bootBuiltins x=some (.type T)) (ha:PA X (e::es) t) (hn:x≠"__name__":=by decide) (hdb:(x == ("__debug__" : Str))=false:=by decide)
  (he:starEach (e::es) X.env=(false,eval e X.env)::starEach es X.env:=by rfl) (hpl:(backTo pos (starEach es X.env)).any (·.1)=false:=by rfl):PE X (.Call (.Name x p) (e::es) [] pos) (tCB r t):=by
 intro pins s σ H Q I h
 refine wpAny_Call_Name_kw (iD I hg hm hv ?_ hn hdb)
 exact PyProof.Rows.callWith_type1 (thn (ha pos pins s σ H _ I h) λus s1 ⟨vs,H1,I1,r1,q1⟩=>hc pins s1 σ H1 vs us Q I1 r1 q1) he hpl
end
end L2
local macro_rules|`(tactic|walk_at "d")=>`(tactic|dsimp only [L2.az,List.set_cons_zero,List.set_cons_succ])
namespace HT
open PySem PyProof.Rows
section
open PySem.SeqAt
open PySem.AutoSeq1 (wpAny_loadPart')
open PySem.MeetsSeq PySem.MeetsSeq2 PySem.MeetsSeq3
end
section
variable {prog:Program}{w:World}{A:Around}{E:Value->Shared->Prop}{s:Shared}
noncomputable def sIx (n d:Nat):Option Int->Nat
 | none=>d
 | some v=>if v < 0 then (v+(n:Int)).toNat else min v.toNat n
theorem sIx_nat (n d k:Nat):sIx n d (some (k:Int))=min k n:=by
 show (if (k:Int) < 0 then ((k:Int)+(n:Int)).toNat else min (k:Int).toNat n)=min k n
 rw [if_neg ‹1›,Int.toNat_natCast]
end
end HT
namespace L2
open PySem PySem.Spec PyProof.Rows
noncomputable abbrev TO:=St->Hp->(Option Int->Hp->Prop)->Prop
def PO (X:Cx) (e:Option Expr) (t:TO):Prop:=
 ∀(pins:List (Addr × Obj)) (s:Shared) (σ:St) (H:Hp) (Q:Option Int->Hp->Prop),Inv X pins σ H s->t σ H Q->
  wpAny (model X.prog X.w) X.A (evalPart e X.env) (λu s'=>∃o H',Inv X pins σ H' s'/\IsPart u o/\Q o H') X.xe s
noncomputable def xa:TO:=λ_ H Q=>Q none H
noncomputable def Bk (t:TE):TO:=λσ H Q=>t σ H λx H1=>∃i,x=.int i/\Q (some i) H1
section
variable {X:Cx}{e:Expr}{te:TE}{lo hi:Option Expr}{tl th:TO}{pos p2:Pos}
theorem gU:PO X none xa:=by
 intro pins s σ H Q I h
 rw [evalPart_none]
 exact zP0 ⟨none,H,I,.none,h⟩
theorem gT (h:PE X e te):PO X (some e) (Bk te):=by
 intro pins s σ H Q I hw
 rw [evalPart_some]
 refine thn (h pins s σ H _ I hw) λu s1 ⟨x,H1,I1,r1,q1⟩=>?_
 obtain⟨i,rfl,q⟩:=q1
 obtain⟨t,rfl⟩:=r1
 exact⟨some i,H1,I1,.int i t,q⟩
def SlR (X:Cx) (r:V->Option Int->Option Int->Hp->VK->Prop):Prop:=
 ∀(pins:List (Addr × Obj)) (s:Shared) (σ:St) (H:Hp) (x:V) (v vl vu:Value) (lo hi:Option Int) (sl:Addr) (Q:VK),Inv X pins σ H s->aW x v->s.heap.IsSliceOf sl vl vu .none->IsPart vl lo->IsPart vu hi->r x lo hi H Q->
  ∃T id,typeLookup (.type T) "__getitem__" = pure (some (.builtin id))/\s.TypeIs v T/\wpAny (model X.prog X.w) X.A (getItem v (.ref sl)) (EP X pins σ Q) X.xe s
noncomputable def tSl (r:V->Option Int->Option Int->Hp->VK->Prop) (te:TE) (tl th:TO):TE:=λσ H Q=>te σ H λx H1=>tl σ H1 λl H2=>th σ H2 λu H3=>r x l u H3 Q
theorem fm {r:V->Option Int->Option Int->Hp->VK->Prop} (hr:SlR X r) (he:PE X e te) (hl:PO X lo tl) (hu:PO X hi th):PE X (.Subscript e (.Slice lo hi none p2) pos) (tSl r te tl th):=by
 intro pins s σ H Q I h
 refine Subscript_ (thn (he pins s σ H _ I h) λv s1 ⟨x,H1,I1,r1,q1⟩=>?_)
 refine wpAny_Slice (thn (hl pins s1 σ H1 _ I1 q1) λvl s2 ⟨l,H2,I2,pl,q2⟩=>thn (hu pins s2 σ H2 _ I2 q2) λvu s3 ⟨u,H3,I3,pu,q3⟩=>?_)
 rw [evalPart_none]
 refine zP0 ?_
 have I4:Inv X pins σ H3 { s3 with heap:=s3.heap.push { cls:=.type "slice", data:=.fields #[vl,vu,.none] } }:=I3.kept (t':=s3.toks) λb ob q=>zH0 _ q
 obtain⟨T,id,hT,ht,hg⟩:=hr pins { s3 with heap:=s3.heap.push { cls:=.type "slice", data:=.fields #[vl,vu,.none] } } σ H3 x v vl vu l u s3.heap.objs.size Q I4 r1 (Heap.IsSliceOf.new ..) pl pu q3
 show wpAny (model X.prog X.w) X.A (subscriptTail e (.Slice lo hi none p2) v (.ref s3.heap.objs.size)) (EP X pins σ Q) X.xe { s3 with heap:=s3.heap.push { cls:=.type "slice", data:=.fields #[vl,vu,.none] } }
 exact tail_any (ops:=[.ref s3.heap.objs.size,v]) ht hT hg (by with_unfolding_all rfl)
noncomputable def fK (xs:List V) (lo hi:Option Int):List V:=(xs.drop (HT.sIx xs.length 0 lo)).take (HT.sIx xs.length xs.length hi - HT.sIx xs.length 0 lo)
theorem fJ (xs:List V) (lo hi:Option Int):(fK xs lo hi).length<=xs.length:=by
 unfold fK
 rw [List.length_take,List.length_drop]
 omega
end
noncomputable def ixN (n:Nat) (i:Int):Option Nat:=if 0<=i then (if i < n then some i.toNat else none) else if -(n:Int)<=i then some (i+n).toNat else none
noncomputable def atI {α:Type} (xs:List α) (i:Int):Option α:=(ixN xs.length i).bind λj=>xs[j]?
theorem rB {n:Nat}{i:Int}{j:Nat} (h:ixN n i=some j):seqIndex? i n=some j/\j < n/\-(n:Int)<=i/\i < n:=by
 unfold ixN at h
 by_cases h0:0<=i
 ·rw [if_pos h0]at h
  by_cases h1:i < n
  ·rw [if_pos h1]at h
   have e:i.toNat=j:=Option.some.inj h
   exact⟨by rw [seqIndex_of h0 h1,e],by omega,by omega,h1⟩
  ·rw [if_neg h1]at h;cases h
 ·rw [if_neg h0]at h
  by_cases h1 : -(n:Int)<=i
  ·rw [if_pos h1]at h
   have e:(i+n).toNat=j:=Option.some.inj h
   exact⟨by rw [seqIndex_neg ‹1› h1,e],by omega,h1,by omega⟩
  ·rw [if_neg h1]at h;cases h
theorem mZ {α:Type}{xs:List α}{i:Int}{v:α} (h:atI xs i=some v):∃j,seqIndex? i xs.length=some j/\xs[j]?=some v/\j < xs.length/\-(xs.length:Int)<=i/\i < xs.length:=by
 unfold atI at h
 cases e:ixN xs.length i with
 | none=>rw [e]at h;cases h
 | some j=>
  rw [e]at h
  obtain⟨h1,h2,h3,h4⟩:=rB e
  exact⟨j,h1,h,h2,h3,h4⟩
theorem dY {α:Type}{xs:List α}{j:Nat}{v:α} (h:xs[j]?=some v):atI xs (j:Int)=some v:=by
 have hj:j < xs.length:=(List.getElem?_eq_some_iff.mp h).1
 have e:ixN xs.length (j:Int)=some j:=by
  unfold ixN
  rw [if_pos ‹1›,if_pos ‹1›];simp
 unfold atI;rw [e];exact h
def yD (b:Expr):Prop:=∀o i,subscripted b false o i=operate [o,i] (getItem o i)
def IxR (X:Cx) (r:R2):Prop:=
 ∀(value slice:Expr) (pins:List (Addr × Obj)) (s:Shared) (σ:St) (H:Hp) (x y:V) (v u:Value) (Q:VK),Inv X pins σ H s->aW x v->aW y u->r x y H Q->
  subscripted slice false v u=operate [v,u] (getItem v u)->wpAny (model X.prog X.w) X.A (subscriptTail value slice v u) (EP X pins σ Q) X.xe s
def MtR (X:Cx) (id:String) (r:V->List V->Hp->VK->Prop):Prop:=
 ∀(pins:List (Addr × Obj)) (s:Shared) (σ:St) (H:Hp) (x:V) (xs:List V) (v:Value) (us:List Value) (Q:VK),Inv X pins σ H s->aW x v->aU xs us->r x xs H Q->
  wpAny (model X.prog X.w) X.A (call (.builtin id) (v::us)) (EP X pins σ Q) X.xe s
section
variable {X:Cx}{a b:Expr}{ta tb:TE}{pos:Pos}
theorem bv {r:R2} (hr:IxR X r) (ha:PE X a ta) (hb:PE X b tb) (hs:yD b):PE X (.Subscript a b pos) (tOp r ta tb):=by
 intro pins s σ H Q I h
 exact Subscript_ (B4 ha hb I h λv u s2 x y H2 I2 rx ry q=>hr a b pins s2 σ H2 x y v u Q I2 rx ry q (hs _ _))
inductive xG (K:PySem.W.Frag) (x:V) (y:V) (H:Hp) (Q:VK):Prop
 | mk (p xs i v) (h1:x=.ref p) (h2:y=.int i) (h3:SqL K H p xs) (h4:atI xs i=some v) (h5:Q v H):xG K x y H Q
inductive BA (K:PySem.W.Frag) (x:V) (y:V) (H:Hp) (Q:VK):Prop
 | mk (p xs i v) (h1:x=.ref p) (h2:y=.int i) (h3:SqT K H p xs) (h4:atI xs i=some v) (h5:Q v H):BA K x y H Q
inductive BB (x:V) (y:V) (H:Hp) (Q:VK):Prop
 | mk (z i c) (h1:x=.str z) (h2:y=.int i) (h3:z.length<=sizeLine) (h4:atI z.cps.toList i=some c) (h5:Q (.str ⟨#[c]⟩) H):BB x y H Q
theorem bp:IxR X (xG X.K):=by
 intro value slice pins s σ H x y v u Q I rx ry h hs
 obtain⟨p,xs,i,z,rfl,rfl,hq,he,q⟩:=h
 cases rx
 obtain⟨t,rfl⟩:=ry
 obtain⟨its,r,pl,hz⟩:=I.list hq
 obtain⟨j,h1,h2,h3,h4,h5⟩:=mZ he
 obtain⟨w,ew,rw'⟩:=r.get h2
 have hl:=r.length
 have hn:=iC
 have fin:EP X pins σ Q w s:=⟨z,H,I,rw',q⟩
 by_cases h0:0<=i
 ·have hj:i.toNat=j:=by
   rw [seqIndex_of h0 h5]at h1
   exact Option.some.inj h1
  exact item_listR pl.isList h0 ‹1› (by rw [hj];simpa using ew) fin hs
 ·have hj:(i+(its.toArray.size:Int)).toNat=j:=by
   rw [seqIndex_neg ‹1› h4]at h1
   rw [List.size_toArray,<- hl]
   exact Option.some.inj h1
  exact subscriptTail_builtinR (x:=w) pl.isList.typeIs slot_list_getitem.lookup
   (wpAny_getItem_list_neg (Q:=λr s'=>r=w/\EP X pins σ Q r s') pl.isList ‹1› (by rw [List.size_toArray] <;> omega) ‹1› (by rw [hj];simpa using ew) ⟨rfl,fin⟩) hs
theorem iF:IxR X (BA X.K):=by
 intro value slice pins s σ H x y v u Q I rx ry h hs
 obtain⟨p,xs,i,z,rfl,rfl,hq,he,q⟩:=h
 cases rx
 obtain⟨t,rfl⟩:=ry
 obtain⟨its,r,pl,hz⟩:=I.tuple hq
 obtain⟨j,h1,h2,h3,h4,h5⟩:=mZ he
 obtain⟨w,ew,rw'⟩:=r.get h2
 have hl:=r.length
 have hn:=iC
 have fin:EP X pins σ Q w s:=⟨z,H,I,rw',q⟩
 exact subscriptTail_builtinR (x:=w) pl.typeIs slot_tuple_getitem.lookup
  (getItem_tuple (j:=j) (Q:=λr s'=>r=w/\EP X pins σ Q r s') pl ‹1› ‹1› (by rw [List.size_toArray,<- hl];exact h1) (by simpa using ew) ⟨rfl,fin⟩) hs
theorem AJ:IxR X BB:=by
 intro value slice pins s σ H x y v u Q I rx ry h hs
 obtain⟨z,i,c,rfl,rfl,hz,he,q⟩:=h
 obtain⟨t,rfl⟩:=rx
 obtain⟨t',rfl⟩:=ry
 obtain⟨j,h1,h2,h3,h4,h5⟩:=mZ he
 have hl:z.cps.toList.length=z.length:=by simp [Str.length]
 rw [hl]at h1 h4 h5
 have hn:=iC
 exact tail_any (typeIs_str s z t) slot_str_getitem.lookup (getItem_str (c:=c) (by
  have e1:decide (i < -(2 ^ 63:Int))=false:=decide_eq_false ‹1›
  have e2:decide (i>=2 ^ 63)=false:=decide_eq_false ‹1›
  rw [e1,e2,Bool.or_false]) (by rw [h1];simpa using h2) ⟨.str ⟨#[c]⟩,H,I.tok _,⟨_,rfl⟩,q⟩) hs
theorem ql (its:List Value) (n j:Nat) (u:Value):Obj.mapSeq (·.setIfInBounds j u) { cls:=.type "list", data:=.seq its.toArray n }={ cls:=.type "list", data:=.seq (its.set j u).toArray n }:=by
 simp [Obj.mapSeq]
theorem Inv.lst {pins:List (Addr × Obj)}{σ:St}{H:Hp}{s:Shared}{p:Addr}{xs:List V} (I:Inv X pins σ H s) (h:H p=some (.lst xs)) :
  ∃(its:List Value) (n:Nat),aU xs its/\s.heap.get? p=some { cls:=.type "list", data:=.seq its.toArray n }/\xs.length<=sizeLine:=by
 obtain⟨z,its,n,r,e⟩:=I.hok p _ h
 exact⟨its,n,r,e,z⟩
theorem Inv.lstUpd {pins:List (Addr × Obj)}{σ:St}{H:Hp}{s:Shared}{p:Addr}{xs ys:List V}{its its':List Value}{n n':Nat}{f:Obj->Obj} (I:Inv X pins σ H s) (h:H p=some (.lst xs))
  (ho:s.heap.get? p=some { cls:=.type "list", data:=.seq its.toArray n }) (hf:f { cls:=.type "list", data:=.seq its.toArray n }={ cls:=.type "list", data:=.seq its'.toArray n' }) (r:aU ys its') (hz:ys.length<=sizeLine) (t:Nat) :
  Inv X pins σ (upd H p (.lst ys)) { s with heap:=s.heap.update p f,toks:=t }:=by
 have e:(s.heap.update p f).get? p=some { cls:=.type "list", data:=.seq its'.toArray n' }:=by
  rw [Heap.get?_update_self f ho (by rw [hf] <;> rfl),hf]
 refine I.write (x:=p) (e:=p) (by rw [h];trivial) (.inl rfl) (λb u hb q=>(Heap.get?_update_other _ _ (Ne.symm hb)).trans q) ⟨_,e⟩ ?_
 exact⟨hz,its',n',r,e⟩
noncomputable def Bz:V->V->V->Hp->(Hp->Prop)->Prop:=λo i v H Q=>∃p xs k j,o=.ref p/\i=.int k/\H p=some (.lst xs)/\ixN xs.length k=some j/\Q (upd H p (.lst (xs.set j v)))
theorem nH:C2 X Bz:=by
 intro pins s σ H o i v ov iv u Q I ro ri rv h
 obtain⟨p,xs,k,j,rfl,rfl,hp,hj,q⟩:=h
 cases ro
 obtain⟨t,rfl⟩:=ri
 obtain⟨its,n,r,ho,hz⟩:=I.lst hp
 obtain⟨h1,h2,h3,h4⟩:=rB hj
 have hl:=r.length
 have hn:=iC
 have I':Inv X pins σ (upd H p (.lst (xs.set j v))) { s with heap:=s.heap.update p (Obj.mapSeq (·.setIfInBounds j u)) }:=
  I.lstUpd hp ho (ql its n j u) (r.set rv j) (by rw [List.length_set];exact hz) s.toks
 by_cases h0:0<=k
 ·have hk:k.toNat=j:=by
   rw [seqIndex_of h0 h4]at h1
   exact Option.some.inj h1
  exact PySem.W.ki_setAt ho h0 ‹1› (by rw [List.size_toArray,<- hl];exact h4) (by rw [hk];exact⟨_,I',q⟩)
 ·have hk:(k+(its.toArray.size:Int)).toNat=j:=by
   rw [seqIndex_neg ‹1› h3]at h1
   rw [List.size_toArray,<- hl]
   exact Option.some.inj h1
  exact PySem.W.ki_setBack ho ‹1› (by rw [List.size_toArray,<- hl];exact h3) ‹1› (by rw [hk];exact⟨_,I',q⟩)
theorem mi (lo hi:Option Int) (n:Nat):(sliceBounds lo hi none n).1=((HT.sIx n 0 lo:Nat):Int)/\(sliceBounds lo hi none n).2.1=((HT.sIx n n hi:Nat):Int)/\(sliceBounds lo hi none n).2.2=1:=by
 refine⟨?_,?_,rfl⟩
 ·cases lo with
  | none=>simp [sliceBounds,HT.sIx]
  | some i=>
   simp only [sliceBounds,HT.sIx,Option.getD_none,show (1:Int) > 0 by decide,if_true]
   by_cases h:i < 0
   ·simp only [h,if_true] <;> omega
   ·simp only [h,if_false] <;> omega
 ·cases hi with
  | none=>simp [sliceBounds,HT.sIx]
  | some i=>
   simp only [sliceBounds,HT.sIx,Option.getD_none,show (1:Int) > 0 by decide,if_true]
   by_cases h:i < 0
   ·simp only [h,if_true] <;> omega
   ·simp only [h,if_false] <;> omega
theorem kG (its:List Value) (lo hi:Option Int):slicePick its.toArray lo hi none=((its.drop (HT.sIx its.length 0 lo)).take (HT.sIx its.length its.length hi - HT.sIx its.length 0 lo)).toArray:=by
 obtain⟨h1,h2,h3⟩:=mi lo hi its.toArray.size
 unfold slicePick
 rw [h1,h2,h3]
 simp only [sliceRange_one,pick_run,List.size_toArray] <;> rfl
inductive By (K:PySem.W.Frag) (x:V) (lo:Option Int) (hi:Option Int) (H:Hp) (Q:VK):Prop
 | mk (a xs) (h1:x=.ref a) (h2:SqL K H a xs) (h3:∀p,H p=none->Q (.ref p) (upd H p (.lst (fK xs lo hi)))):By K x lo hi H Q
theorem j7:SlR X (By X.K):=by
 intro pins s σ H x v vl vu lo hi sl Q I rx hs pl pu h
 obtain⟨a,xs,rfl,hx,q⟩:=h
 cases rx
 obtain⟨its,r,ht,hz⟩:=I.list hx
 have hlen:=r.length
 refine⟨"list", _,slot_list_getitem.lookup,ht.isList.typeIs,?_⟩
 refine wpAny_getItem_list_slice ht.isList hs pl pu .none (by simp) ?_ (by rw [List.size_toArray] <;> omega)
 rw [kG,<- hlen]
 refine⟨.ref s.heap.objs.size,_,I.laid (t':=s.toks) (o:=.lst (fK xs lo hi)) (λb ob q=>zH0 _ q) (Nat.le_refl _) ?_,rfl,q _ (I.hok.fresh (Nat.le_refl _))⟩
 exact⟨Nat.le_trans (fJ xs lo hi) hz,_,0,(r.drop (HT.sIx xs.length 0 lo)).take (HT.sIx xs.length xs.length hi - HT.sIx xs.length 0 lo),Heap.get?_push_size _ rfl⟩
noncomputable def i7:V->Bool
 | .non=>true
 | .bl _=>true
 | .int _=>true
 | .str _=>true
 | _=>false
noncomputable def eqV:V->V->Bool
 | .non,.non=>true
 | .bl a,.bl b=>a == b
 | .bl a,.int b=>(if a then 1 else 0) == b
 | .int a,.bl b=>a == (if b then 1 else 0)
 | .int a,.int b=>a == b
 | .str a,.str b=>a == b
 | _,_=>false
theorem AX {A:Around}{s:Shared}{y x:V}{u v:Value} (ry:aW y u) (rx:aW x v) (fy:i7 y=true) (fx:i7 x=true):SeqAt.EqAt A s u v (eqV y x):=by
 cases y with
 | non=>
  cases ry
  cases x with
  | non=>cases rx;exact SeqAt.EqAt.same _
  | bl b=>cases rx;exact SeqAt.EqAt.none_bool b
  | int b=>obtain⟨t,rfl⟩:=rx;exact SeqAt.EqAt.none_int b t
  | str b=>obtain⟨t,rfl⟩:=rx;exact SeqAt.EqAt.none_str b t
  | _=>exact absurd (show false=true from fx) Bool.false_ne_true
 | bl a=>
  cases ry
  cases x with
  | non=>cases rx;exact SeqAt.EqAt.bool_none a
  | bl b=>cases rx;exact SeqAt.EqAt.bool_bool a b
  | int b=>obtain⟨t,rfl⟩:=rx;exact SeqAt.EqAt.bool_int a b t
  | str b=>obtain⟨t,rfl⟩:=rx;exact SeqAt.EqAt.bool_str a b t
  | _=>exact absurd (show false=true from fx) Bool.false_ne_true
 | int a=>
  obtain⟨t',rfl⟩:=ry
  cases x with
  | non=>cases rx;exact SeqAt.EqAt.int_none a t'
  | bl b=>cases rx;exact SeqAt.EqAt.int_bool a t' b
  | int b=>obtain⟨t,rfl⟩:=rx;exact SeqAt.EqAt.int_int a t' b t
  | str b=>obtain⟨t,rfl⟩:=rx;exact SeqAt.EqAt.int_str a t' b t
  | _=>exact absurd (show false=true from fx) Bool.false_ne_true
 | str a=>
  obtain⟨t',rfl⟩:=ry
  cases x with
  | non=>cases rx;exact SeqAt.EqAt.str_none a t'
  | bl b=>cases rx;exact SeqAt.EqAt.str_bool a t' b
  | int b=>obtain⟨t,rfl⟩:=rx;exact SeqAt.EqAt.str_int a t' b t
  | str b=>obtain⟨t,rfl⟩:=rx;exact SeqAt.EqAt.str_str a t' b t
  | _=>exact absurd (show false=true from fx) Bool.false_ne_true
 | _=>exact absurd (show false=true from fy) Bool.false_ne_true
noncomputable def eqU (x:V) (u:Value):Bool:=match u with
 | .none=>eqV .non x
 | .bool b=>eqV (.bl b) x
 | .int i _=>eqV (.int i) x
 | .str z _=>eqV (.str z) x
 | _=>false
theorem wq {x y:V}{u:Value} (r:aW y u) (f:i7 y=true):eqU x u=eqV y x:=by
 cases y with
 | non=>cases r;rfl
 | bl b=>cases r;rfl
 | int i=>obtain⟨t,rfl⟩:=r;rfl
 | str z=>obtain⟨t,rfl⟩:=r;rfl
 | _=>exact absurd (show false=true from f) Bool.false_ne_true
theorem io {x:V}:∀{xs:List V}{us:List Value},aU xs us->xs.all i7=true->us.any (eqU x)=xs.any λy=>eqV y x
 | _,_,.nil,_=>rfl
 | y::xs,u::us,.cons r t,f=>by
  rw [List.all_cons,Bool.and_eq_true]at f
  rw [List.any_cons,List.any_cons,wq r f.1,io t f.2]
theorem fE {A:Around}{s:Shared}{x:V}{v:Value} (rx:aW x v) (fx:i7 x=true):∀{xs:List V}{us:List Value},aU xs us->xs.all i7=true->∀u∈us,SeqAt.EqAt A s u v (eqU x u)
 | _,_,.nil,_=>λu hu=>by cases hu
 | y::xs,u::us,.cons r t,f=>λu' hu=>by
  rw [List.all_cons,Bool.and_eq_true]at f
  rcases List.mem_cons.mp hu with rfl | hu
  ·rw [wq r f.1];exact AX r rx f.1 fx
  ·exact fE rx fx t f.2 u' hu
noncomputable def inV (x:V) (xs:List V):Bool:=xs.any λy=>eqV y x
inductive rIn (K:PySem.W.Frag) (neg:Bool) (x:V) (y:V) (H:Hp) (Q:VK):Prop
 | mk (p xs) (h1:y=.ref p) (h2:(SqL K H p xs\/SqT K H p xs)) (h3:i7 x=true) (h4:xs.all i7=true) (h5:Q (.bl (if neg then !inV x xs else inV x xs)) H):rIn K neg x y H Q
theorem cW:OpR X (compareOp .In) (rIn X.K false):=by
 intro pins s σ H x y v u Q I rx ry h
 obtain⟨p,xs,rfl,hq,fx,fs,q⟩:=h
 cases ry
 rcases hq with hq | hq
 ·obtain⟨its,r,pl,hz⟩:=I.list hq
  refine SeqAt.in_listAt (eqU x) pl.isList (λw hw=>fE rx fx r fs w (by simpa using hw)) ⟨.bl _,H,I,rfl,?_⟩
  rw [show its.toArray.any (eqU x)=its.any (eqU x) by simp,io r fs]
  exact q
 ·obtain⟨its,r,pl,hz⟩:=I.tuple hq
  refine SeqAt.in_tupleAt (eqU x) pl (λw hw=>fE rx fx r fs w (by simpa using hw)) ⟨.bl _,H,I,rfl,?_⟩
  rw [show its.toArray.any (eqU x)=its.any (eqU x) by simp,io r fs]
  exact q
theorem mI:OpR X (compareOp .NotIn) (rIn X.K true):=by
 intro pins s σ H x y v u Q I rx ry h
 obtain⟨p,xs,rfl,hq,fx,fs,q⟩:=h
 cases ry
 rcases hq with hq | hq
 ·obtain⟨its,r,pl,hz⟩:=I.list hq
  refine SeqAt.notIn_listAt (eqU x) pl.isList (λw hw=>fE rx fx r fs w (by simpa using hw)) ⟨.bl _,H,I,rfl,?_⟩
  rw [show its.toArray.any (eqU x)=its.any (eqU x) by simp,io r fs]
  exact q
 ·obtain⟨its,r,pl,hz⟩:=I.tuple hq
  refine SeqAt.notIn_tupleAt (eqU x) pl (λw hw=>fE rx fx r fs w (by simpa using hw)) ⟨.bl _,H,I,rfl,?_⟩
  rw [show its.toArray.any (eqU x)=its.any (eqU x) by simp,io r fs]
  exact q
theorem aJ:cD X (.builtin "len") (λxs H Q=>∃p ys,xs=[.ref p]/\(SqL X.K H p ys\/SqT X.K H p ys)/\Q (.int ys.length) H):=by
 intro pins s σ H xs us Q I r h
 obtain⟨p,ys,rfl,hq,q⟩:=h
 obtain⟨u,rfl,rx⟩:=da r
 cases rx
 have hn:=iC
 rcases hq with hq | hq
 ·obtain⟨its,r',pl,hz⟩:=I.list hq
  have hlen:=r'.length
  exact Calls.call_len_list pl.isList (by simp only [List.size_toArray] <;> omega) ⟨.int ys.length,H,I.tok _,⟨s.toks+1,by rw [List.size_toArray,hlen]⟩,q⟩
 ·obtain⟨its,r',pl,hz⟩:=I.tuple hq
  have hlen:=r'.length
  exact len_tuple pl (by simp only [List.size_toArray] <;> omega) ⟨.int ys.length,H,I.tok _,⟨s.toks+1,by rw [List.size_toArray,hlen]⟩,q⟩
theorem mX:cD X (.builtin "len") (λxs H Q=>∃z,xs=[.str z]/\z.length<=sizeLine/\Q (.int z.length) H):=by
 intro pins s σ H xs us Q I r h
 obtain⟨z,rfl,hz,q⟩:=h
 obtain⟨u,rfl,t,rfl⟩:=da r
 have hn:=iC
 exact len_str ‹1› ⟨.int z.length,H,I.tok _,⟨_,rfl⟩,q⟩
theorem im:cD X (.type "list") (λxs H Q=>∃p ys,xs=[.ref p]/\(SqL X.K H p ys\/SqT X.K H p ys)/\∀l,H l=none->Q (.ref l) (upd H l (.lst ys))):=by
 intro pins s σ H xs us Q I r h
 obtain⟨p,ys,rfl,hq,q⟩:=h
 obtain⟨u,rfl,rx⟩:=da r
 cases rx
 have fin:∀(its:List Value),aU ys its->ys.length<=sizeLine->∀(h':Heap) (c':Nat),(∀b o',s.heap.get? b=some o'->h'.get? b=some o')->
   h'.get? s.heap.objs.size=some { cls:=.type "list", dict:=none,data:=.seq its.toArray c',slots:=#[] }->EP X pins σ Q (.ref s.heap.objs.size) { s with heap:=h' }:=λits r' hz h' c' kp e=>
  ⟨.ref s.heap.objs.size,_,I.laid (t':=s.toks) kp (Nat.le_refl _) (show bB X.prog X.w _ h' _ (.lst ys) from ⟨hz,its,c',r',e⟩),rfl,q _ (I.hok.fresh (Nat.le_refl _))⟩
 rcases hq with hq | hq
 ·obtain⟨its,r',pl,hz⟩:=I.list hq
  have hlen:=r'.length
  obtain⟨o,ho,hc,n,hd⟩:=pl.isList
  exact call_list_seq p (.inl rfl) ho hc hd (λh' c' kp e=>fin its r' hz h' c' kp e) (by simp only [List.size_toArray] <;> omega)
 ·obtain⟨its,r',pl,hz⟩:=I.tuple hq
  have hlen:=r'.length
  obtain⟨o,ho,hc,n,hd⟩:=pl
  exact call_list_seq p (.inr rfl) ho hc hd (λh' c' kp e=>fin its r' hz h' c' kp e) (by simp only [List.size_toArray] <;> omega)
def tyV (K:PySem.W.Frag) (T:String) (x:V) (H:Hp):Prop:=match x with
 | .str _=>T = "str"
 | .int _=>T = "int"
 | .ref p=>(T = "list"/\∃xs,SqL K H p xs)\/(T = "tuple"/\∃o,K.lookup p=some o/\o.cls=.type "tuple"/\o.dict=none)\/
   (T = "dict"/\((∃kvs,H p=some (.dK kvs))\/∃kvs,H p=some (.dT kvs)))\/(T = "set"/\∃S n,H p=some (.set S n))
 | _=>False
theorem zG {pins:List (Addr × Obj)}{σ:St}{H:Hp}{s:Shared}{T:String}{x:V}{v:Value} (I:Inv X pins σ H s) (r:aW x v) (ty:tyV X.K T x H) :
  s.TypeIs v T/\∀a,v=.ref a->∃ob,s.heap.get? a=some ob/\ob.dict=none:=by
 cases x with
 | str z=>
  obtain⟨t,rfl⟩:=r
  cases (show T = "str" from ty)
  exact⟨typeIs_str s z t,λ_ e=>nomatch e⟩
 | int i=>
  obtain⟨t,rfl⟩:=r
  cases (show T = "int" from ty)
  exact⟨typeIs_int s i t,λ_ e=>nomatch e⟩
 | ref p=>
  cases r
  rcases ty with⟨rfl,xs,hq⟩ | ⟨rfl,o,hk,hc,hd⟩ | ⟨rfl,hk⟩ | ⟨rfl,S,n,hk⟩
  ·obtain⟨its,_,pl,_⟩:=I.list hq
   refine⟨pl.isList.typeIs,λa e=>?_⟩
   cases e
   obtain⟨o,n,e,c,hd,_⟩:=pl
   exact⟨o,e,hd⟩
  ·refine⟨⟨o,I.kIn p o hk,hc⟩,λa e=>?_⟩
   cases e
   exact⟨o,I.kIn _ o hk,hd⟩
  ·have z:∃o,s.heap.get? p=some o/\o.ExactDict:=by
    rcases hk with⟨kvs,hk⟩ | ⟨kvs,hk⟩
    ·obtain⟨_,_,_,_,o,_,_,e,ex,_⟩:=I.hok p _ hk
     exact⟨o,e,ex⟩
    ·obtain⟨_,_,_,_,o,_,_,e,ex,_⟩:=I.hok p _ hk
     exact⟨o,e,ex⟩
   obtain⟨o,e,ex⟩:=z
   refine⟨⟨o,e,ex.1⟩,λa e2=>?_⟩
   cases e2
   exact⟨o,e,ex.2.1⟩
  ·obtain⟨o,_,_,_,e,ex,_⟩:=I.hok p _ hk
   refine⟨⟨o,e,ex.1⟩,λa e2=>?_⟩
   cases e2
   exact⟨o,e,ex.2.1⟩
 | _=>exact False.elim ty
noncomputable def tBM (K:PySem.W.Frag) (T:String) (r:V->List V->Hp->VK->Prop) (to:TE) (t:TA):TE:=λσ H Q=>to σ H λx H1=>tyV K T x H1/\t σ H1 λxs H2=>r x xs H2 Q
variable {o e:Expr}{es:List Expr}{to:TE}{t:TA}{name:Str}{apos cpos:Pos}{T id:String}{r:V->List V->Hp->VK->Prop}
theorem dU (pa:PlainAttrs T) (slot:Slot T name id) (hty:typeOf (.builtin id)=pure (.type "method_descriptor")) (hm:MtR X id r) (ho:PE X o to) (ha:PA X (e::es) t)
  (hbase:attributeBase o name X.env (eval o X.env)=eval o X.env:=by rfl)
  (hfew:((backTo cpos (starEach (e::es) X.env)).all (λx=>!x.1) && (backToKw cpos (keywordEach [] X.env)).all (λx=>x.1.isSome)
   && decide ((e::es).length+([]:List Keyword).length+(if ([]:List Keyword).isEmpty then 0 else 1) < 30))=true:=by rfl)
  (hline:(apos.endLine == cpos.line)=true:=by rfl) (hs:starEach (e::es) X.env=(false,eval e X.env)::starEach es X.env:=by rfl) (hplain:(backTo cpos (starEach es X.env)).any (·.1)=false:=by rfl) :
  PE X (.Call (.Attribute o name apos) (e::es) [] cpos) (tBM X.K T r to t):=by
 intro pins s σ H Q I h
 refine wpAny_Call_method_late hbase hfew hline rfl (thn (ho pins s σ H _ I h) λv s1 ⟨x,H1,I1,r1,ty,q1⟩=>?_)
 obtain⟨h1,h2⟩:=zG I1 r1 ty
 refine⟨T,id,pa,slot,hty,h1,h2,?_⟩
 have hA:=ha cpos pins s1 σ H1 _ I1 q1
 rw [hs]at hA ⊢
 refine Calls.callWith_builtin (by show (false || (backTo cpos (starEach es X.env)).any (·.1))=false;rw [hplain] <;> rfl) (Calls.evalArgs_plain ?_)
 exact thn hA λus s2 ⟨vs,H2,I2,r2,q2⟩=>hm pins s2 σ H2 x vs v us Q I2 r1 r2 q2
end
def MtM (X:Cx) (id:String) (r:V->List V->Hp->VK->Prop):Prop:=
 ∀(pins:List (Addr × Obj)) (s:Shared) (σ:St) (H:Hp) (x:V) (xs:List V) (v:Value) (us:List Value) (Q:VK),Inv X pins σ H s->aW x v->aU xs us->r x xs H Q->
  wpAny (model X.prog X.w) X.A (call (.builtin id) (v::us)) (EP X pins σ Q) X.xe s
theorem aU.one:∀{x:V}{us:List Value},aU [x] us->∃u,us=[u]/\aW x u
 | _,_,.cons r .nil=>⟨_,rfl,r⟩
section
variable {X:Cx}{pins:List (Addr × Obj)}{σ:St}{H:Hp}{s:Shared}{l b:Addr}{xs ys zs:List V}
theorem Inv.lset {its its':List Value}{n:Nat}{f:Array Value->Array Value}{t':Nat} (I:Inv X pins σ H s) (hH:H l=some (.lst xs))
  (e:s.heap.get? l=some { cls:=.type "list", data:=.seq its.toArray n }) (hf:f its.toArray=its'.toArray) (hv:aU ys its') (hz:ys.length<=sizeLine) :
  Inv X pins σ (upd H l (.lst ys)) { s with heap:=s.heap.update l (Obj.mapSeq f),toks:=t' }:=by
 have q:=PySem.IsL.update e f
 rw [hf]at q
 refine I.write (x:=l) (e:=l) (by rw [hH];exact trivial) (.inl rfl) (λb' u hb hu=>(Heap.get?_update_other s.heap (Obj.mapSeq f) (Ne.symm hb)).trans hu) ⟨_,q⟩ ?_
 exact⟨hz,its',_,hv,q⟩
theorem Inv.lnew {its:List Value}{t':Nat} (I:Inv X pins σ H s) (hv:aU ys its) (hz:ys.length<=sizeLine) :
  Inv X pins σ (upd H s.heap.objs.size (.lst ys)) { s with heap:=s.heap.push { cls:=.type "list", data:=.seq its.toArray },toks:=t' }:=
 I.laid (λ_ _ q=>zH0 _ q) (Nat.le_refl _) ⟨hz,its,0,hv,Heap.get?_push_size _ rfl⟩
theorem Inv.fresh (I:Inv X pins σ H s):H s.heap.objs.size=none:=I.hok.fresh (Nat.le_refl _)
theorem Inv.lstM (I:Inv X pins σ H s) (hH:H l=some (.lst xs)):xs.length<=sizeLine/\∃(its:List Value) (n:Nat),aU xs its/\xs.length=its.length/\s.heap.get? l=some { cls:=.type "list", data:=.seq its.toArray n }:=by
 obtain⟨z,its,n,r,e⟩:=I.hok l _ hH
 exact⟨z,its,n,r,r.length,e⟩
theorem vO {n:Nat} (h:n<=sizeLine):Builtin.List.listTooLong n=false:=by
 unfold Builtin.List.listTooLong
 exact decide_eq_false ‹1›
end
section
variable {X:Cx}
inductive r9 (x:V) (vs:List V) (H:Hp) (Q:VK):Prop
 | mk (l xs y) (h1:x=.ref l) (h2:vs=[y]) (h3:H l=some (.lst xs)) (h4:xs.length < sizeLine) (h5:Q .non (upd H l (.lst (xs++[y])))):r9 x vs H Q
theorem eJ:MtM X "list.append" r9:=by
 intro pins s σ H x vs v us Q I rx rv h
 obtain⟨l,xs,y,rfl,rfl,hH,hz,q⟩:=h
 cases rx
 obtain⟨u,rfl,ru⟩:=rv.one
 obtain⟨z,its,n,r,hl,e⟩:=I.lstM hH
 refine call_meets F.slot_list_append ⟨_,e,rfl⟩ F.entry_list_append (F.args_list_append_2 _ _) (PySem.list_append l its.toArray n u (by rw [List.size_toArray];omega)) ⟨e,?_⟩
 refine⟨.non,_,I.lset (its':=its++[u]) hH e (by simp) (r.append (.cons ru .nil)) ?_,rfl,q⟩
 rw [List.length_append,List.length_singleton]
 omega
noncomputable def xH:V->List V->Hp->VK->Prop:=λx vs H Q=>∃l b xs zs,x=.ref l/\vs=[.ref b]/\H l=some (.lst xs)/\H b=some (.lst zs)/\xs.length+zs.length<=sizeLine/\Q .non (upd H l (.lst (xs++zs)))
theorem ly:MtM X "list.extend" xH:=by
 intro pins s σ H x vs v us Q I rx rv h
 obtain⟨l,b,xs,zs,rfl,rfl,hH,hB,hz,q⟩:=h
 cases rx
 obtain⟨u,rfl,ru⟩:=rv.one
 cases ru
 obtain⟨z,its,n,r,hl,e⟩:=I.lstM hH
 obtain⟨z2,its2,n2,r2,hl2,e2⟩:=I.lstM hB
 have hsz:its.toArray.size+its2.toArray.size<=sizeLine:=by rw [List.size_toArray,List.size_toArray];omega
 have hlong:¬(!its.toArray.isEmpty && Builtin.List.listTooLong (its.toArray.size+its2.toArray.size))=true:=by
  rw [vO hsz,Bool.and_false]
  exact Bool.false_ne_true
 refine call_meets F.slot_list_extend ⟨_,e,rfl⟩ F.entry_list_extend (F.args_list_extend_2 _ _)
  (AutoSeq1.list_extend_list_list_0 l its.toArray n b its2.toArray n2 hlong (by rw [List.size_toArray];omega) ‹1›) ⟨e,e2,?_⟩
 refine⟨.non,_,I.lset (its':=its++its2) hH e (by simp) (r.append r2) ?_,rfl,q⟩
 rw [List.length_append]
 omega
inductive BC (x:V) (y:V) (H:Hp) (Q:VK):Prop
 | mk (l b xs zs) (h1:x=.ref l) (h2:y=.ref b) (h3:H l=some (.lst xs)) (h4:H b=some (.lst zs)) (h5:xs.length+zs.length<=sizeLine) (h6:∀p,H p=none->Q (.ref p) (upd H p (.lst (xs++zs)))):BC x y H Q
theorem qf:OpR X (binaryOp .Add) BC:=by
 intro pins s σ H x y v u Q I rx ry h
 obtain⟨l,b,xs,zs,rfl,rfl,hH,hB,hz,q⟩:=h
 cases rx
 cases ry
 obtain⟨z,its,n,r,hl,e⟩:=I.lstM hH
 obtain⟨z2,its2,n2,r2,hl2,e2⟩:=I.lstM hB
 refine PySem.P.add_list e e2 ?_ (by rw [List.size_toArray,List.size_toArray];omega)
 have ea:its.toArray++its2.toArray=(its++its2).toArray:=by simp
 rw [ea]
 exact⟨.ref _,_,I.lnew (t':=s.toks) (r.append r2) (by rw [List.length_append];omega),rfl,q _ I.fresh⟩
end
section
variable {prog:Program}{w:World}{A:Around}{E:Value->Shared->Prop}{s:Shared}
end
section
variable {X:Cx}
end
section
variable {κ:Type} [DecidableEq κ]
noncomputable def valV (kvs:List (κ × V)) (k:κ):Option V:=(kvs.find? λkv=>decide (kv.1=k)).map (·.2)
noncomputable def gQ (kvs:List (κ × V)) (k:κ) (v:V):List (κ × V):=
 if (kvs.any λkv=>decide (kv.1=k))=true then kvs.map (λkv=>if kv.1=k then (kv.1,v) else kv) else kvs++[(k,v)]
theorem ce {p:κ × V}{r:List (κ × V)}{k:κ} (e:p.1=k):valV (p::r) k=some p.2:=by simp [valV,List.find?_cons,e]
theorem cg {p:κ × V}{r:List (κ × V)}{k:κ} (e:¬p.1=k):valV (p::r) k=valV r k:=by simp [valV,List.find?_cons,e]
theorem gH (k:κ):∀kvs:List (κ × V),(kvs.any λkv=>decide (kv.1=k))=(valV kvs k).isSome
 | []=>rfl
 | p::r=>by
  rw [List.any_cons]
  by_cases e:p.1=k
  ·simp only [ce e,decide_eq_true e,Bool.true_or,Option.isSome_some]
  ·rw [cg e,decide_eq_false e,Bool.false_or];exact gH k r
theorem ny (k j:κ) (y:V):∀kvs:List (κ × V),valV (kvs.map λkv=>if kv.1=k then (kv.1,y) else kv) j=(valV kvs j).map λx=>if j=k then y else x
 | []=>rfl
 | p::r=>by
  have ih:=ny k j y r
  rw [List.map_cons]
  by_cases h:p.1=k
  ·rw [if_pos h]
   by_cases e:p.1=j
   ·rw [ce (p:=(p.1,y)) e,ce e,Option.map_some,if_pos (e.symm.trans h)]
   ·rw [cg (p:=(p.1,y)) e,cg e,ih]
  ·rw [if_neg h]
   by_cases e:p.1=j
   ·rw [ce (p:=p) e,ce e,Option.map_some,if_neg (λz=>h (e.trans z))]
   ·rw [cg (p:=p) e,cg e,ih]
theorem kS (k j:κ) (y:V):∀kvs:List (κ × V),valV kvs k=none->valV (kvs++[(k,y)]) j=if j=k then some y else valV kvs j
 | [],_=>by
  by_cases e:k=j
  ·rw [if_pos e.symm];exact ce (p:=(k,y)) e
  ·rw [if_neg (λz=>e z.symm)];exact cg (p:=(k,y)) e
 | p::r,hn=>by
  rw [List.cons_append]
  have hk:¬p.1=k:=λz=>by rw [ce z]at hn;cases hn
  rw [cg hk]at hn
  have ih:=kS k j y r hn
  by_cases e:p.1=j
  ·rw [ce e,ce e,if_neg (λz=>hk (e.trans z))]
  ·rw [cg e,cg e,ih]
theorem tJ (kvs:List (κ × V)) (k j:κ) (y:V):valV (gQ kvs k y) j=if j=k then some y else valV kvs j:=by
 unfold gQ
 by_cases a:(kvs.any λkv=>decide (kv.1=k))=true
 ·rw [if_pos a,ny]
  rw [gH]at a
  by_cases e:j=k
  ·obtain⟨x,hx⟩:=Option.isSome_iff_exists.mp a
   rw [if_pos e,e,hx,Option.map_some,if_pos rfl]
  ·rw [if_neg e]
   cases valV kvs j with
   | none=>rfl
   | some x=>rw [Option.map_some,if_neg e]
 ·rw [if_neg a]
  refine kS k j y kvs ?_
  rw [gH]at a
  cases q:valV kvs k with
  | none=>rfl
  | some x=>rw [q]at a;exact(a rfl).elim
theorem fF (kvs:List (κ × V)) (k:κ) (v:V):(gQ kvs k v).length<=kvs.length+1:=by
 unfold gQ
 split
 ·rw [List.length_map];omega
 ·rw [List.length_append,List.length_cons,List.length_nil];omega
theorem fc.isSome_eq {o:Option V}{u:Option Value} (r:fc o u):o.isSome=u.isSome:=by
 cases o with
 | none=>cases u with
  | none=>rfl
  | some _=>exact(show False from r).elim
 | some _=>cases u with
  | none=>exact(show False from r).elim
  | some _=>rfl
theorem fc.getD {o:Option V}{u:Option Value}{d:V}{d':Value} (r:fc o u) (rd:aW d d'):aW (o.getD d) (u.getD d'):=by
 cases o with
 | none=>cases u with
  | none=>exact rd
  | some _=>exact(show False from r).elim
 | some _=>cases u with
  | none=>exact(show False from r).elim
  | some _=>exact r
theorem KV.val {kvs:List (κ × V)}{vs:List (κ × Value)} (r:KV kvs vs) (k:κ):fc (valV kvs k) (valueAt vs k):=by
 unfold KV at r
 induction r with
 | nil=>exact True.intro
 | @cons p q ps qs h t ih=>
  obtain⟨h1,h2⟩:=h
  by_cases e:p.1=k
  ·have e':q.1=k:=h1.symm.trans e
   have b:valueAt (q::qs) k=some q.2:=by simp [valueAt,List.find?_cons,e']
   rw [ce e,b];exact h2
  ·have e':¬q.1=k:=λz=>e (h1.trans z)
   have b:valueAt (q::qs) k=valueAt qs k:=by simp [valueAt,List.find?_cons,e']
   rw [cg e,b];exact ih
theorem KV.any {kvs:List (κ × V)}{vs:List (κ × Value)} (r:KV kvs vs) (k:κ):(kvs.any λkv=>decide (kv.1=k))=vs.any λkv=>decide (kv.1=k):=by
 unfold KV at r
 induction r with
 | nil=>rfl
 | cons h t ih=>rw [List.any_cons,List.any_cons,ih,h.1]
theorem KV.repl {kvs:List (κ × V)}{vs:List (κ × Value)} (r:KV kvs vs) (k:κ){y:V}{u:Value} (ry:aW y u) :
  KV (kvs.map λkv=>if kv.1=k then (kv.1,y) else kv) (vs.map λkv=>if kv.1=k then (kv.1,u) else kv):=by
 unfold KV at r ⊢
 induction r with
 | nil=>exact .nil
 | @cons p q ps qs h t ih=>
  rw [List.map_cons,List.map_cons]
  refine .cons ?_ ih
  obtain⟨h1,h2⟩:=h
  by_cases e:p.1=k
  ·rw [if_pos e,if_pos (h1.symm.trans e)];exact⟨h1,ry⟩
  ·rw [if_neg e,if_neg (λz=>e (h1.trans z))];exact⟨h1,h2⟩
theorem KV.put {kvs:List (κ × V)}{vs:List (κ × Value)} (r:KV kvs vs) (k:κ){y:V}{u:Value} (ry:aW y u):KV (gQ kvs k y) (stored vs k u):=by
 unfold gQ stored
 rw [r.any k]
 by_cases e:(vs.any λkv=>decide (kv.1=k))=true
 ·rw [if_pos e,if_pos e];exact r.repl k ry
 ·rw [if_neg e,if_neg e];exact Paired.snoc r ⟨rfl,ry⟩
theorem KV.length {kvs:List (κ × V)}{vs:List (κ × Value)} (r:KV kvs vs):kvs.length=vs.length:=Paired.length r
end
theorem rp {P:Program}{w:World}{k:Key}{u:Value} (r:aW (kV k) u):(aG P w).is k u=true:=by
 cases k with
 | inl i=>obtain⟨t,e⟩:=(show ∃t,u=Value.int i t from r);subst e;exact on P w i t
 | inr x=>obtain⟨t,e⟩:=(show ∃t,u=Value.str x t from r);subst e;exact om P w x t
theorem lC {P:Program}{w:World}:∀{ks:List Key}{us:List Value},aU (ks.map kV) us->ItemsAre (aG P w) ks us
 | [],_,r=>by rw [List.map_nil]at r;cases r;exact .nil
 | k::ks,_,r=>by
  rw [List.map_cons]at r
  cases r with
  | cons h t=>exact .cons (rp h) (lC t)
noncomputable abbrev KT (H:Hp):List (List Key × V)->List (List Key × Addr × Value)->Prop:=Paired λp q=>p.1=q.1/\H q.2.1=some (.tup (p.1.map kV))/\aW p.2 q.2.2
theorem KT.val {H:Hp}{kvs:List (List Key × V)}{xs:List (List Key × Addr × Value)} (r:KT H kvs xs) (k:List Key):fc (valV kvs k) ((atKey xs k).map (·.2)):=by
 induction r with
 | nil=>exact True.intro
 | @cons p q ps qs h t ih=>
  obtain⟨h1,_,h2⟩:=h
  by_cases e:p.1=k
  ·have e':q.1=k:=h1.symm.trans e
   have b:atKey (q::qs) k=some q.2:=by simp [atKey,List.find?_cons,e']
   rw [ce e,b];exact h2
  ·have e':¬q.1=k:=λz=>e (h1.trans z)
   have b:atKey (q::qs) k=atKey qs k:=by simp [atKey,List.find?_cons,e']
   rw [cg e,b];exact ih
theorem KT.repl {H:Hp}{kvs:List (List Key × V)}{xs:List (List Key × Addr × Value)} (r:KT H kvs xs) (k:List Key){y:V}{u:Value} (ry:aW y u) :
  KT H (kvs.map λkv=>if kv.1=k then (kv.1,y) else kv) (xs.map (putAt k u)):=by
 induction r with
 | nil=>exact .nil
 | @cons p q ps qs h t ih=>
  rw [List.map_cons,List.map_cons]
  refine .cons ?_ ih
  obtain⟨h1,h2,h3⟩:=h
  unfold putAt
  by_cases e:p.1=k
  ·rw [if_pos e,if_pos (h1.symm.trans e)];exact⟨h1,h2,ry⟩
  ·rw [if_neg e,if_neg (λz=>e (h1.trans z))];exact⟨h1,h2,h3⟩
theorem KT.put {H:Hp}{kvs:List (List Key × V)}{xs:List (List Key × Addr × Value)} (r:KT H kvs xs) (k:List Key){b:Addr}{y:V}{u:Value} (hb:H b=some (.tup (k.map kV))) (ry:aW y u) :
  KT H (gQ kvs k y) (storedH xs k b u):=by
 have e:(kvs.any λkv=>decide (kv.1=k))=(atKey xs k).isSome:=by
  rw [gH,(r.val k).isSome_eq,Option.isSome_map]
 unfold gQ storedH
 rw [e]
 by_cases q:(atKey xs k).isSome=true
 ·rw [if_pos q,if_pos q];exact r.repl k ry
 ·rw [if_neg q,if_neg q];exact Paired.snoc r ⟨rfl,hb,ry⟩
theorem KT.keeps {H H':Hp}{kvs:List (List Key × V)}{xs:List (List Key × Addr × Value)} (r:KT H kvs xs) (ht:∀b ys,H b=some (.tup ys)->H' b=some (.tup ys)):KT H' kvs xs:=
 Paired.mapP r λ_ _ z=>⟨z.1,ht _ _ z.2.1,z.2.2⟩
section
variable {P:Program}{w:World}{H:Hp}{h:Heap}{a:Addr}
theorem yY {u:HO} (ok:HOk P w H h) (e:Rd H a u):bB P w H h a u:=e.ok ok
theorem oP {kvs:List (Key × V)} (ok:HOk P w H h) (e:Rd H a (.dK kvs)):kvs.length<=sizeLine/\(a == sysModules)=false/\∃vs,KV kvs vs/\h.DictOf (aG P w) a vs:=
 show bB P w H h a (.dK kvs) from yY ok e
theorem BY {kvs:List (Key × V)} (ok:HOk P w H h) (e:H a=some (.dK kvs)):kvs.length<=sizeLine/\(a == sysModules)=false/\∃vs,KV kvs vs/\h.DictOf (aG P w) a vs:=oP ok (.inl e)
theorem jT {ks:List Key} (ok:HOk P w H h) (e:H a=some (.tup (ks.map kV))):(tupleKind (aG P w)).is h ks a:=by
 obtain⟨_,its,r,o,h1,h2,n,h3⟩:=(show bB P w H h a (.tup (ks.map kV)) from ok a _ e)
 exact⟨o,its.toArray,n,h1,h2,h3,by simpa using lC r⟩
theorem oO {kvs:List (List Key × V)} (ok:HOk P w H h) (e:Rd H a (.dT kvs)):kvs.length<=sizeLine/\(a == sysModules)=false/\
  ∃xs,KT H kvs xs/\h.DictOfH (tupleKind (aG P w)) a xs:=by
 obtain⟨z,y,xs,r,o,es,ep,h1,h2,h3,h4,h5⟩:=(show bB P w H h a (.dT kvs) from yY ok e)
 refine⟨z,y,xs,r,o,es,ep,h1,h2,h3,h4,λx hx=>?_,h5⟩
 have all:∀{l:List (List Key × V)}{m:List (List Key × Addr × Value)},KT H l m->∀x∈m,(tupleKind (aG P w)).is h x.1 x.2.1:=by
  intro l m q
  induction q with
  | nil=>intro x hx;exact nomatch hx
  | @cons p q ps qs hq t ih=>
   intro x hx
   rcases List.mem_cons.mp hx with e | hx
   ·subst e
    exact jT ok (by rw [<- hq.1];exact hq.2.1)
   ·exact ih x hx
 exact all r x hx
theorem BX {kvs:List (List Key × V)} (ok:HOk P w H h) (e:H a=some (.dT kvs)):kvs.length<=sizeLine/\(a == sysModules)=false/\
  ∃xs,KT H kvs xs/\h.DictOfH (tupleKind (aG P w)) a xs:=oO ok (.inl e)
end
def wT (H:Hp) (a:Addr) (y:V) (r:Option V):Prop:=
 (∃kvs k,Rd H a (.dK kvs)/\y=kV k/\r=valV kvs k)\/∃kvs k b,Rd H a (.dT kvs)/\y=.ref b/\H b=some (.tup (k.map kV))/\r=valV kvs k
def C6 (H:Hp) (a:Addr) (y v:V) (H':Hp):Prop:=
 (∃kvs k,H a=some (.dK kvs)/\y=kV k/\kvs.length < sizeLine/\H'=upd H a (.dK (gQ kvs k v)))\/
 ∃kvs k b,H a=some (.dT kvs)/\y=.ref b/\H b=some (.tup (k.map kV))/\kvs.length < sizeLine/\H'=upd H a (.dT (gQ kvs k v))
section
variable {X:Cx}{pins:List (Addr × Obj)}{σ:St}{H:Hp}{s:Shared}{a:Addr}{y v:V}{u r:Value}{o:Option V}{A:Around}{E:Value->Shared->Prop}
theorem Inv.big (I:Inv X pins σ H s):sysModules < s.heap.objs.size:=by
 have h:mainGlobals < s.heap.objs.size:=(I.mod.glob.keeps I.bk).lt
 exact Nat.lt_trans (by decide) h
theorem t5 {Q:Value->Shared->Prop} (hu:A.units+1 < cLine) (I:Inv X pins σ H s) (g:wT H a y (some v)) (ry:aW y u) (h:∀w' s',Inv X pins σ H s'->aW v w'->Q w' s') :
  wpAny (model X.prog X.w) A (getItem (.ref a) u) Q E s:=by
 rcases g with⟨kvs,k,e,ey,l⟩ | ⟨kvs,k,b,e,ey,eb,l⟩
 ·subst ey
  obtain⟨z,hd,vs,rel,dd⟩:=oP I.hok e
  obtain⟨w',hw,rw'⟩:=fc.some_of (v:=v) (o:=valueAt vs k) (by rw [l];exact rel.val k)
  exact wpAny_getItem_of (rp ry) dd.mapOf hw (h w' _ (I.tok _) rw')
 ·subst ey
  cases (show u=Value.ref b from ry)
  obtain⟨z,hd,xs,rel,dd⟩:=oO I.hok e
  obtain⟨w',hw,rw'⟩:=fc.some_of (v:=v) (o:=(atKey xs k).map (·.2)) (by rw [l];exact rel.val k)
  obtain⟨p,hp,hp2⟩:=Option.map_eq_some_iff.mp hw
  refine wpAny_getItem_heap (tupleKind_room_in1 hu) (jT I.hok eb) dd hp ?_
  rw [hp2]
  exact h w' _ (I.tok _) rw'
theorem rN {h':Heap}{t':Nat}{ob:HO} (I:Inv X pins σ H s) (mu:Mut (H a)) (hs:Heap.SameBut a s.heap h') (he:∃q,h'.get? a=some q) (new:bB X.prog X.w (upd H a ob) h' a ob) :
  Inv X pins σ (upd H a ob) { s with heap:=h',toks:=t' }:=
 I.write (x:=a) (e:=a) mu (.inl rfl) (λb q hb z=>(hs.2 b hb).trans z) he new
theorem AZ {P:Program}{w:World}{H':Hp}{h':Heap}{kvs:List (Key × V)}{vs:List (Key × Value)} (z:kvs.length<=sizeLine) (hd:(a == sysModules)=false) (rel:KV kvs vs) (dd:h'.DictOf (aG P w) a vs) :
  bB P w H' h' a (.dK kvs):=⟨z,hd,vs,rel,dd⟩
theorem sZ {H':Hp}{Q:Unit->Shared->Prop} (hu:A.units+1 < cLine) (I:Inv X pins σ H s) (g:C6 H a y v H') (ry:aW y u) (rv:aW v r) (h:∀s',Inv X pins σ H' s'->Q () s') :
  wpAny (model X.prog X.w) A (setItem (.ref a) u r) Q E s:=by
 rcases g with⟨kvs,k,e,ey,l,eH⟩ | ⟨kvs,k,b,e,ey,eb,l,eH⟩
 ·subst ey eH
  obtain⟨z,hd,vs,rel,dd⟩:=BY I.hok e
  have hz:vs.length<=sizeLine:=by rw [<- rel.length];exact z
  have hl:(gQ kvs k v).length<=sizeLine:=by have:=fF kvs k v;omega
  refine wpAny_setItem_pairs (hsz:=hz) (rp ry) dd λh' dd' hs=>h _ ?_
  have he:∃q,h'.get? a=some q:=let ⟨q,_,_,hq,_⟩:=dd';⟨q,hq⟩
  exact rN I (by rw [e];exact True.intro) hs he (AZ hl hd (rel.put k rv) dd')
 ·subst ey eH
  cases (show u=Value.ref b from ry)
  obtain⟨z,hd,xs,rel,dd⟩:=BX I.hok e
  have hz:xs.length<=sizeLine:=by rw [<- Paired.length rel];exact z
  have hl:(gQ kvs k v).length<=sizeLine:=by have:=fF kvs k v;omega
  refine wpAny_setItem_heap (hsz:=hz) (tupleKind_room_in1 hu) (jT I.hok eb) dd λh' dd' hs=>h _ ?_
  obtain⟨q,es,ep,hq,h2,h3,h4,_,h5⟩:=dd'
  refine rN I (by rw [e];exact True.intro) hs ⟨q,hq⟩ ⟨hl,hd,_,(rel.put k eb rv).keeps λc ys ec=>?_,q,es,ep,hq,h2,h3,h4,h5⟩
  rw [ah (cQ ec e (λz=>nomatch z))]
  exact ec
end
section
variable {X:Cx}{pins:List (Addr × Obj)}{σ:St}{H:Hp}{s:Shared}{a:Addr}{kvs:List (Key × V)}{k:Key}{u:Value}{A:Around}{E:Value->Shared->Prop}
end
def C3 (i:Expr):Prop:=∀ov iv,subscripted i false ov iv=operate [ov,iv] (getItem ov iv)
theorem xc {prog:Program}{w:World}{A:Around}{E:Value->Shared->Prop}{s:Shared}{env:Env}{value slice:Expr}{pos:Pos}{T id:String}{Q:Value->Shared->Prop}
  (hl:typeLookup (.type T) "__getitem__" = pure (some (.builtin id))) (hs:C3 slice)
  (h:wpAny (model prog w) A (eval value env) (λo s₁=>wpAny (model prog w) A (eval slice env) (λi s₂=>s₂.TypeIs o T/\wpAny (model prog w) A (getItem o i) Q E s₂) E s₁) E s) :
  wpAny (model prog w) A (eval (.Subscript value slice pos) env) Q E s:=by
 refine Subscript_ (wpAny_mono h (λo s₁ h₁=>wpAny_mono h₁ (λi s₂ h₂=>?_) λ_ _ x=>x) λ_ _ x=>x)
 obtain⟨hT,h₂⟩:=h₂
 unfold subscriptTail
 refine zB0 ?_
 rw [getitemInPython_of_ne hT.not_modules]
 refine zB0 (wpAny_specialOf hT hl ?_)
 have fin:wpAny (model prog w) A (subscripted slice false o i) (λr s₃=>wpAny (model prog w) A (letTemporaryGo value o r >>= λ_=>pure r) Q E s₃) E s₂:=by
  rw [hs o i]
  exact wpAny_operating (wpAny_mono h₂ (λr s₃ h₃=>zB0 (wpAny_letTemporaryGo (zP0 h₃))) λ_ _ x=>x)
 first
  | exact zP0 (zB0 fin)
  | exact zB0 (zP0 (zB0 fin))
  | exact zB0 fin
theorem oQ {X:Cx}{pins:List (Addr × Obj)}{σ:St}{H:Hp}{s:Shared}{a:Addr}{y:V}{o:Option V} (I:Inv X pins σ H s) (g:wT H a y o):s.TypeIs (.ref a) "dict":=by
 rcases g with⟨kvs,k,e,_,_⟩ | ⟨kvs,k,b,e,_,_,_⟩
 ·obtain⟨_,_,vs,_,dd⟩:=oP I.hok e
  exact dd.typeIs
 ·obtain⟨_,_,xs,_,dd⟩:=oO I.hok e
  exact dd.typeIs
inductive zu (x y:V) (H2:Hp) (Q:VK):Prop
 | mk (a v) (h1:x=.ref a) (h2:wT H2 a y (some v)) (h3:Q v H2):zu x y H2 Q
noncomputable def Br (td ty:TE):TE:=λσ H Q=>td σ H λx H1=>ty σ H1 λy H2=>zu x y H2 Q
noncomputable def Bw (td ty tv:TE):TS:=λD σ H=>tv σ H λv H1=>td σ H1 λx H2=>ty σ H2 λy H3=>∃a H4,x=.ref a/\C6 H3 a y v H4/\D.nx σ H4
section
variable {X:Cx}{o i e value:Expr}{pos pos' tpos:Pos}{td ty tv:TE}
theorem xM (hu:X.A.units+1 < cLine) (ho:PE X o td) (hi:PE X i ty) (hs:C3 i):PE X (.Subscript o i pos) (Br td ty):=by
 intro pins s σ H Q I h
 refine xc PySem.F.slot_dict_getitem.lookup hs (thn (ho pins s σ H _ I h) λu s1 ⟨x,H1,I1,rx,q1⟩=>thn (hi pins s1 σ H1 _ I1 q1) λiv s2 ⟨y,H2,I2,ry,a,v,ex,g,q2⟩=>?_)
 subst ex
 obtain rfl:u=Value.ref a:=rx
 exact⟨oQ I2 g,t5 hu I2 g ry λw' s3 I3 rw'=>⟨v,H2,I3,rw',q2⟩⟩
theorem xK (hu:X.A.units+1 < cLine) (ho:PE X o td) (hi:PE X i ty) (hv:PE X value tv) (hs:swapsWith value (some (.Subscript o i pos')) pos.line X.env=pure false) :
  PS X (.Assign [.Subscript o i pos'] value pos) (Bw td ty tv):=by
 intro pins s σ H D I h
 refine wpAny_Assign_Subscript (thn (hv pins s σ H _ I h) λr s1 ⟨v,H1,I1,rv,q1⟩=>thn (ho pins s1 σ H1 _ I1 q1) λu s2 ⟨x,H2,I2,rx,q2⟩=>thn (hi pins s2 σ H2 _ I2 q2) λiv s3 ⟨y,H3,I3,ry,a,H4,ex,g,q3⟩=>?_) hs
 subst ex
 obtain rfl:u=Value.ref a:=rx
 exact sZ hu I3 g ry rv λs4 I4=>⟨σ,H4,I4,q3⟩
end
theorem wv {P:Program}{w:World}{H:Hp} (h:Heap) (hb:sysModules < h.objs.size):bB P w H (h.push { cls:=.type "dict", data:=.dict #[] }) h.objs.size (.dT []):=
 ⟨Nat.zero_le _,beq_eq_false_iff_ne.mpr (Ne.symm (Nat.ne_of_lt hb)),[],.nil,_,#[],0,Heap.get?_push_size _ rfl,⟨rfl,rfl,rfl⟩,rfl,rfl,List.nodup_nil⟩
noncomputable def zL:TE:=λ_ H Q=>∀p,H p=none->Q (.ref p) (upd H p (.dT []))
section
variable {X:Cx}{pos:Pos}
theorem vf:PE X (.Dict [] [] pos) zL:=λpins s σ H Q I h=>
 wpAny_Dict_empty ⟨.ref s.heap.objs.size,_,I.laid (a:=s.heap.objs.size) (o:=.dT []) (t':=s.toks) (λ_ _ q=>zH0 _ q) (Nat.le_refl _) (wv s.heap I.big),rfl,h _ (I.hok.fresh (Nat.le_refl _))⟩
end
structure M1 (X:Cx) (o:Expr) (m:Str) (apos:Pos) (e:Expr) (cpos:Pos):Prop where
 base:attributeBase o m X.env (eval o X.env)=eval o X.env
 few:((backTo cpos (starEach [e] X.env)).all (λx=>!x.1) && (backToKw cpos (keywordEach [] X.env)).all (λx=>x.1.isSome)
  && decide (([e]:List Expr).length+([]:List Keyword).length+(if ([]:List Keyword).isEmpty then 0 else 1) < 30))=true
 line:(apos.endLine == cpos.line)=true
 trees:backTo cpos (starEach [e] X.env)=[(false,eval e X.env)]
def IsD (H:Hp) (a:Addr):Prop:=(∃kvs,Rd H a (.dK kvs))\/∃kvs,Rd H a (.dT kvs)
theorem AL {X:Cx}{pins:List (Addr × Obj)}{σ:St}{H:Hp}{s:Shared}{a:Addr} (I:Inv X pins σ H s) (d:IsD H a) :
  s.TypeIs (.ref a) "dict"/\(∀b,Value.ref a=.ref b->∃ob,s.heap.get? b=some ob/\ob.dict=none)/\(a == sysModules)=false:=by
 rcases d with⟨kvs,e⟩ | ⟨kvs,e⟩
 ·obtain⟨_,hd,vs,_,dd⟩:=oP I.hok e
  refine⟨dd.typeIs,λb q=>?_,hd⟩
  cases q
  obtain⟨ob,_,_,h1,h2,_⟩:=dd
  exact⟨ob,h1,h2.2.1⟩
 ·obtain⟨_,hd,xs,_,dd⟩:=oO I.hok e
  refine⟨dd.typeIs,λb q=>?_,hd⟩
  cases q
  obtain⟨ob,_,_,h1,h2,_⟩:=dd
  exact⟨ob,h1,h2.2.1⟩
section
variable {X:Cx}{pins:List (Addr × Obj)}{σ:St}{H:Hp}{s:Shared}{a:Addr}{y d:V}{u r:Value}{o:Option V}{A:Around}{E:Value->Shared->Prop}
theorem B0 {Q:Value->Shared->Prop} (hu:A.units+1 < cLine) (I:Inv X pins σ H s) (g:wT H a y o) (ry:aW y u) (h:∀w' s',Inv X pins σ H s'->aW (o.getD .non) w'->Q w' s') :
  wpAny (model X.prog X.w) A (call (.builtin "dict.get") [.ref a,u]) Q E s:=by
 rcases g with⟨kvs,k,e,ey,l⟩ | ⟨kvs,k,b,e,ey,eb,l⟩
 ·subst ey
  obtain⟨z,hd,vs,rel,dd⟩:=oP I.hok e
  refine call_meetsIn PySem.F.slot_dict_get dd.typeIs PySem.F.entry_dict_get (PySem.F.args_dict_get_2 _ _) (meets_dict_get (aG X.prog X.w) a (rp ry) hd) ⟨_,dd.mapOf,h _ _ (I.tok _) ?_⟩
  rw [l]
  exact(rel.val k).getD rfl
 ·subst ey
  cases (show u=Value.ref b from ry)
  obtain⟨z,hd,xs,rel,dd⟩:=oO I.hok e
  refine call_meetsIn PySem.F.slot_dict_get dd.typeIs PySem.F.entry_dict_get (PySem.F.args_dict_get_2 _ _) (meetsH_dict_get (tupleKind (aG X.prog X.w)) a b hd) ⟨tupleKind_room_in1 hu,k,xs,jT I.hok eb,dd,h _ _ (I.tok _) ?_⟩
  rw [l]
  exact(rel.val k).getD rfl
end
noncomputable def zM (td ty:TE):TE:=λσ H Q=>td σ H λx H1=>∃a,x=.ref a/\IsD H1 a/\ty σ H1 λy H2=>∃o,wT H2 a y o/\Q (o.getD .non) H2
section
variable {X:Cx}{o e f:Expr}{apos cpos:Pos}{td ty tx:TE}
theorem eF (hu:X.A.units+1 < cLine) (ho:PE X o td) (he:PE X e ty) (m:M1 X o "get" apos e cpos):PE X (.Call (.Attribute o "get" apos) [e] [] cpos) (zM td ty):=by
 intro pins s σ H Q I h
 refine wpAny_Call_method m.base m.few m.line PySem.F.plainAttrs_dict PySem.F.slot_dict_get PySem.F.type_dict_get (thn (ho pins s σ H _ I h) λu s1 ⟨x,H1,I1,rx,a,ex,d,q1⟩=>?_)
 subst ex
 obtain rfl:u=Value.ref a:=rx
 obtain⟨t1,t2,_⟩:=AL I1 d
 refine⟨t1,t2,?_⟩
 rw [m.trees]
 refine Calls.callWith_builtin rfl (Calls.evalArgs_plain (Calls.spliced_cons (thn (he pins s1 σ H1 _ I1 q1) λiv s2 ⟨y,H2,I2,ry,ov,g,q2⟩=>Calls.spliced_nil ?_)))
 exact B0 hu I2 g ry λw' s3 I3 rw'=>⟨_,H2,I3,rw',q2⟩
end
section
variable {X:Cx}{pins:List (Addr × Obj)}{σ:St}{H:Hp}{s:Shared}{a:Addr}{kvs:List (Key × V)}{A:Around}{E:Value->Shared->Prop}
end
section
variable {X:Cx}{pins:List (Addr × Obj)}{σ:St}{H:Hp}{s:Shared}{a:Addr}{y:V}{u:Value}{A:Around}{E:Value->Shared->Prop}
end
end L2
namespace Att
open PySem PySem.W PySem.Calls PyProof.Rows
theorem iW {P:Params}{h:Heap}:∀(ns:List Int) (vs:List Value),WellAll P h vs (ns.map WData.int)->IntsAre vs ns:=by
 intro ns
 induction ns with
 | nil=>
  intro vs w
  rw [List.map_nil]at w
  cases w
  exact .nil
 | cons n ns ih=>
  intro vs w
  rw [List.map_cons]at w
  cases w with
  | cons a b=>
   cases a
   exact .cons _ _ (ih _ b)
theorem su {l:OpenLaw}{n:Nat} (hn:l.most=some n){P:Params}{h:Heap}{args:List WData}{vals:List Value}
  (hpre:l.row.toRowW.claim.pre args=true) (hwl:WellAll P h vals args) :
  ∃a vs ns,vals=[Value.ref a]/\args=[WData.list (ns.map WData.int)]/\h.get? a=some { cls:=.type "list", data:=.seq vs.toArray }/\IntsAre vs ns/\ns.length<=n:=by
 have hsh:WShape.hasAll [] args [.list .int]=true:=(pre_splitW hpre).1
 have hc:l.pre.holds [] { args:=args }=true:=(pre_splitW hpre).2
 obtain⟨d,r,rfl,h1,h2⟩:=hasAllW_cons hsh
 obtain rfl:=hasAllW_nil h2
 obtain⟨xs,rfl,h3⟩:=hasW_list h1
 obtain⟨ns,rfl⟩:=items_int h3
 have hlen:ns.length<=n:=by
  unfold OpenLaw.pre at hc
  have h4:(WTm.not (.lt (.lit (.int (n:Int))) (.len (.arg 0)))).holds [] { args:=[.list (ns.map .int)] }=true:=by
   have h4:=(holds_andW hc).1
   rw [hn]at h4
   exact h4
  have h5:=condW_of h4 (w_not (w_lt w_lit (w_len_list (w_arg rfl))))
  rw [List.length_map]at h5
  refine Nat.le_of_not_lt λq=>?_
  have q':(n:Int) < ((ns.length:Nat):Int):=by omega
  first
   | (rw [decide_eq_true q']at h5;exact absurd h5 (by decide))
   | (simp at h5;omega)
 cases hwl with
 | cons w1 w2=>
  cases w2
  cases w1 with
  | list ho hall=>exact⟨_,_,ns,rfl,rfl,ho,iW ns _ hall,hlen⟩
theorem sC (l:OpenLaw) (args:List WData):l.row.toRowW.claim.post args (.bool true) args=true:=
 postW_of (r:=l.row.toRowW) (X:=(true == true))
  (show WShape.has [] (.bool true) .bool=true by first | rfl | decide | simp [WShape.has,WShape.arms,WShape.armsAll])
  (show (WTm.eq .res (.lit (.bool true))).value [] { args:=args,res:=some (.bool true),after:=args }=some (.bool (true == true)) from w_eq_bool (w_res rfl) w_lit) rfl
theorem attach_call {l:OpenLaw}{n:Nat}{q:Program}{loose:List Str}{XP:(Str->Option Value)->Heap->Prop}{YP:World->Heap->Prop}{d:DefRec}
  (hn:l.most=some n) (hdf:d.params.defaults=[])
  (call:∀(w:World) (s₀ s₁:Shared) (mg mb:Str->Option Value) (fa:Addr) (o:Obj) (pm cd doc:Value) (a:Addr) (vs:List Value) (ns:List Int),
   Ground q loose [] XP w s₀ mg mb s₁.heap->YP w s₁.heap->
   s₁.heap.get? fa=some o->o.data=.func (docDef d.name d.params d.body d.scope pm cd doc)->s₁.heap.CodeRec cd d.name->mg d.name=some (.ref fa)->
   s₁.heap.get? a=some { cls:=.type "list", data:=.seq vs.toArray }->IntsAre vs ns->ns.length<=n->s₁.gens = #[]->
   codeAny (model l.prog w) callerA (.call (.ref fa) ⟨[.ref a],[]⟩) (λr s'=>r=.ok (.ret (.bool true))/\OldK s₁.heap s'.heap/\s'.os=s₁.os/\AllBare s'.gens) s₁) :
  WalkO q loose XP YP l.row.toRowW d [] (λf vs=>PySem.call f vs):=by
 intro w s₀ s₁ mg mb G Y fa o pm cd doc dV kV ho hd hcd hD hmg hg args vals as hpre hlay hrd hwl hlo
 obtain rfl:dV=.none:=Dflts.none hD hdf
 obtain rfl:kV=.none:=Dflts.noKw hD
 obtain⟨a,vs,ns,rfl,rfl,hobj,hints,hlen⟩:=su hn hpre hwl
 refine enter_call (codeAny_mono (call w s₀ s₁ mg mb fa o pm cd doc a vs ns G Y ho (fd_plain hd) hcd hmg hobj hints hlen hg) λr s' hq=>?_)
 obtain⟨rfl,h2,h3,h4⟩:=hq
 exact⟨.inl ⟨.bool true,.bool true,[],rfl,λ_=>rfl,.bool true,sC l _,λ_=>⟨List.Pairwise.nil,λ_ hm=>(nomatch hm)⟩⟩,h2,h3,h4⟩
section
variable {prog:Program}{w:World}{A:Around}{E:Value->Shared->Prop}{s:Shared}{K:Frag}
end
end Att
namespace L2
open PySem PySem.Spec PyProof.Rows
theorem kR:∀{vs:List Value}{ns:List Int},IntsAre vs ns->aU (ns.map V.int) vs
 | _,_,.nil=>.nil
 | _,_,.cons n t h=>.cons ⟨t,rfl⟩ (kR h)
noncomputable def aQ (s:Stmt) (j:Nat):Stmt:=match s with
 | .ClassDef _ _ _ body _ _ _ _ _ _ _=>body.getD j (.Pass ⟨0,0,0,0⟩)
 | _=>.Pass ⟨0,0,0,0⟩
noncomputable def dt (s:Stmt):Arguments:=match s with
 | .FunctionDef _ a _ _ _ _ _ _ _ _=>a
 | _=>{ posonlyargs:=[],args:=[],vararg:=none,kwonlyargs:=[],kw_defaults:=[],kwarg:=none,defaults:=[] }
noncomputable def cB (s:Stmt):List Stmt:=match s with
 | .FunctionDef _ _ b _ _ _ _ _ _ _=>b
 | _=>[]
noncomputable def au (s:Stmt):Scope:=match s with
 | .FunctionDef _ _ _ _ _ _ sc _ _ _=>sc
 | _=>{ kind:=.function,names:=[],isGenerator:=false,isCoroutine:=false }
noncomputable abbrev CX0:CXT:=λ_ _ _ _ _ _=>False
noncomputable abbrev E0:XK:=λ_ _ _=>False
theorem av {X:Cx}:dM CX0 X E0:=λ_ _ _ _ _ _ _ h=>h.elim
structure Fun (K:PySem.W.Frag) (x qual:Str) (st:Stmt) (f:Addr) (fd:FuncData):Prop where
 ex:∃(oc:Value) (od:Option Addr) (kV doc pm:Value) (an:Option Addr) (cdv ct:Value) (osl:Array (Option Value)),
  fd=PySem.W.fnOf x qual (dt st) (cB st) (au st) .none kV doc pm an cdv ct/\K.lookup f=some ⟨oc,od,.func fd,osl⟩/\PySem.W.codeIn K cdv qual=true
 kp:PySem.W.keepIn K (.ref f)=true
section
variable {P:Program}{w:World}{K:W.Frag}{mg:Str->Option Value}{base:Heap}
theorem Fun.ok {x qual:Str}{st:Stmt}{f:Addr}{fd:FuncData}{N ps:List Str}{k:Nat}{sp:Sp} (F:Fun K x qual st f fd) (S:FnScope N ps (au st)) (len:∀vs H Q E,sp vs H Q E->vs.length=ps.length)
  (hbody:∀(cdv:Value) (A:Around) (outer:List Env) (s:Shared) (H:Hp) (vs:List V) (Q:VK) (E:XK),Room k (A.deeper (envOfC qual (au st) s.heap.objs.size f cdv))->sp vs H Q E->
   ∃t,PSs (kr CX0 P w K mg base N qual (au st) f cdv A outer s H E).nox (cB st) t/\t { nx:=λ_ H'=>Q .non H',rt:=Q } (cN N vs) H):FnOk P w K mg base CX0 (k+1) f fd ps sp:=by
 obtain⟨oc,od,kV,doc,pm,an,cdv,ct,osl,rfl,lk,hcd⟩:=F.ex
 refine BT lk hcd S len λA outer s H vs Q E hr hsp=>?_
 obtain⟨t,h,q⟩:=hbody cdv A outer s H vs Q E hr hsp
 exact⟨t,h.nox,q⟩
theorem Fun.binds {x qual:Str}{st:Stmt}{f:Addr}{fd:FuncData}{ps:List Str} (F:Fun K x qual st f fd)
  (h:∀(kV doc pm:Value) (an:Option Addr) (cdv ct:Value) (us:List Value),us.length=ps.length->bindArgs (PySem.W.fnOf x qual (dt st) (cB st) (au st) .none kV doc pm an cdv ct) ⟨us,[]⟩=pure (ps.zip us)):cm K fd ps []:=by
 obtain⟨oc,od,kV,doc,pm,an,cdv,ct,osl,rfl,lk,hcd⟩:=F.ex
 exact .all (h kV doc pm an cdv ct)
theorem fun_mk {x qual:Str}{st:Stmt}{f:Addr}{oc:Value}{od an:Option Addr}{osl:Array (Option Value)}{kV doc pm cdv ct:Value} (l:K.lookup f=some ⟨oc,od,.func (PySem.W.fnOf x qual (dt st) (cB st) (au st) .none kV doc pm an cdv ct),osl⟩)
  (c:PySem.W.codeIn K cdv qual=true) (k:PySem.W.keepIn K (.ref f)=true):Fun K x qual st f (PySem.W.fnOf x qual (dt st) (cB st) (au st) .none kV doc pm an cdv ct):=⟨⟨oc,od,kV,doc,pm,an,cdv,ct,osl,rfl,l,c⟩,k⟩
end
theorem aP {A:Around}{k:Nat} (hr:Room k A):A.units+1 < cLine:=Nat.lt_of_le_of_lt (Nat.add_le_add_left (by decide:1<=64) _) hr.units
theorem bu {n:Nat} (h:n<=1000):n < sizeLine:=Nat.lt_of_le_of_lt h (by decide)
section
variable {X:Cx}
theorem pv (i:Nat){x:Str}{pos:Pos} (hN:X.N[i]?=some x:=by rfl) (hv:Vis X.env.scope x:=by first | exact Or.inl rfl | exact Or.inr (Or.inl rfl) | exact Or.inr (Or.inr rfl)) (hd:(x == ("__debug__" : Str))=false:=by decide)
  (hcd:(x == ("__classdict__" : Str))=false:=by decide):PE X (.Name x pos) (jv i):=Ap hN hv hd hcd
end
theorem br {A B:Prop} (h:B):if false=true then A else B:=by
 rw [if_neg Bool.false_ne_true]
 exact h
theorem bJ {A B:Prop} (h:A):if true=true then A else B:=by
 rw [if_pos rfl]
 exact h
theorem eA {c A B:Prop} [Decidable c] (h1:c->A) (h2:¬c->B):if c then A else B:=by
 by_cases h:c
 ·rw [if_pos h]
  exact h1 h
 ·rw [if_neg h]
  exact h2 h
section
variable {κ:Type} [DecidableEq κ]
end
end L2
set_option maxHeartbeats 4000000
namespace L2
open PySem PySem.Spec PyProof.Rows
section
variable {X:Cx}{pins:List (Addr × Obj)}{σ:St}{H:Hp}{s:Shared}{h':Heap}
theorem Inv.table {P:Addr}{ps more:Array Value}{t':Nat} (I:Inv X pins σ H s) (e:H P=some (.tbl ps)) (k:∀b o,b≠P->s.heap.get? b=some o->h'.get? b=some o)
  (hP:h'.get? P=some { cls:=.none,data:=.fields (ps++more) }):Inv X pins σ (upd H P (.tbl (ps++more))) { s with heap:=h',toks:=t' }:=by
 have nP:∀b,H b=none->b≠P:=λb n z=>by rw [z,e]at n;cases n
 refine I.un ⟨λb o q n _ _=>k b o (nP b n) q,λb o q n _ _=>⟨o.slots,k b o (nP b n) q⟩,λb o q n _=>by rw [ah (nP b n)];exact n,λb o q _=>?_,λb xs q=>?_,λb o u q=>?_,λb qs q=>?_⟩ λb u q=>?_
 ·by_cases z:b=P
  ·exact⟨_,by rw [z];exact hP⟩
  ·exact⟨o,k b o z q⟩
 ·rw [ah (cQ q e (by intro z;cases z))];exact q
 ·rw [ah (cQ q e (by intro z;cases z))];exact q
 ·by_cases z:b=P
  ·subst z;rw [e]at q;cases q;exact⟨more,ai⟩
  ·exact⟨#[],by rw [ah z,q];simp⟩
 ·by_cases z:b=P
  ·subst z;rw [ai]at q;cases q;exact hP
  ·rw [ah z]at q
   refine(I.hok b u q).stay (λc v hc r=>k c v ?_ r) (λc r=>by rw [ah (cQ r e (by intro z;cases z))];exact r) λc xs r=>by rw [ah (cQ r e (by intro z;cases z))];exact r
   rcases hc with hc | hc
   ·rw [hc];exact z
   ·exact cQ hc e (by intro z;cases z)
theorem Inv.track {a:Addr}{o:HO} (I:Inv X pins σ H s) (hs:X.s₀.heap.objs.size<=a) (f:iM X pins H a) (new:bB X.prog X.w (upd H a o) s.heap a o):Inv X pins σ (upd H a o) s:=by
 obtain⟨hn,hL,hfs,_,hcl,hpn⟩:=f
 have ne:∀b u,H b=some u->b≠a:=λb u q=>ao q hn
 refine⟨I.ok,I.os,I.bare,⟨I.base.keep,I.base.slot,λb ob q n hx=>?_,I.base.there,λb xs q=>?_,λb ob u q=>?_,λb ps q=>?_⟩,I.loc,I.cell,?_,λx c q=>?_,λp hp=>?_,λb u q=>?_,I.len⟩
 ·rw [ah (Nat.ne_of_lt (Nat.lt_of_lt_of_le (Heap.lt_size q) hs))];exact I.base.free b ob q n hx
 ·have r:=I.base.tups b xs q
  rw [ah (ne b _ r)];exact r
 ·have r:=I.base.frzs b ob u q
  rw [ah (ne b _ r)];exact r
 ·obtain⟨m,r⟩:=I.base.tbls b ps q
  exact⟨m,by rw [ah (ne b _ r)];exact r⟩
 ·rw [ah (Ne.symm hL)];exact I.free
 ·rw [ah (hcl x c q)];exact I.freeC x c q
 ·obtain⟨e,n,r⟩:=I.pin p hp
  exact⟨e,by rw [ah (hpn p hp)];exact n,r⟩
 ·by_cases z:b=a
  ·subst z;rw [ai]at q;cases q;exact new
  ·rw [ah z]at q
   exact(I.hok b u q).stay (λ_ _ _ r=>r) (λc r=>by rw [ah (ne c _ r)];exact r) λc xs r=>by rw [ah (ne c _ r)];exact r
end
noncomputable def bL (c:Addr) (q:Str):Heap->Prop:=λh=>h.CodeRec (.ref c) q
theorem bL.st {c:Addr}{q:Str}{h1 h2:Heap} (x:bL c q h1) (k:∀o,h1.get? c=some o->h2.get? c=some o):bL c q h2:=by
 obtain⟨c',o,vs,t,e,g,r⟩:=x
 cases e
 exact⟨c,o,vs,t,rfl,k o g,r⟩
theorem bL.obj {c:Addr}{q:Str}{h:Heap} (x:bL c q h):∃o,h.get? c=some o:=by
 obtain⟨c',o,vs,t,e,g,r⟩:=x
 cases e
 exact⟨o,g⟩
def kP (P:Addr) (pos:Pos) (q:Str) (H:Hp):Prop:=
 H P=some (.tbl #[])\/∃c,H P=some (.tbl #[rawInt pos.line,rawInt pos.col,.ref c])/\H c=some (.ext (bL c q))
theorem kP.tbl {P:Addr}{pos:Pos}{q:Str}{H:Hp} (L:kP P pos q H):∃ps,H P=some (.tbl ps):=by
 rcases L with L | ⟨c,L,_⟩
 ·exact⟨_,L⟩
 ·exact⟨_,L⟩
structure Go (P:Addr) (pos:Pos) (q:Str) (H H':Hp):Prop where
 same:∀b o,b≠P->H b=some o->H' b=some o
 lam:kP P pos q H'
theorem Go.at {P:Addr}{pos:Pos}{q:Str}{H H':Hp} (G:Go P pos q H H') (L:kP P pos q H){b:Addr}{o:HO} (e:H b=some o) (n:∀ps,o≠.tbl ps):H' b=some o:=by
 obtain⟨ps,eP⟩:=L.tbl
 exact G.same b o (cQ e eP (n ps)) e
theorem kP.upd_new {P:Addr}{pos:Pos}{q:Str}{H:Hp} (L:kP P pos q H){a:Addr}{o:HO} (hn:H a=none):kP P pos q (upd H a o):=by
 rcases L with L | ⟨c,L,Lc⟩
 ·exact .inl (by rw [ah (ao L hn)];exact L)
 ·exact .inr ⟨c,by rw [ah (ao L hn)];exact L,by rw [ah (ao Lc hn)];exact Lc⟩
theorem Go.new {P:Addr}{pos:Pos}{q:Str}{H:Hp} (L:kP P pos q H){a:Addr}{o:HO} (hn:H a=none):Go P pos q H (upd H a o):=
 ⟨λb u _ e=>by rw [ah (ao e hn)];exact e,L.upd_new hn⟩
section
variable {X:Cx}
end
section
variable {prog:Program}{w:World}{A:Around}{E:Value->Shared->Prop}{s:Shared}
end
class Rk where
 rk:Value->Int
 kd:SortKind
 ok:Value->Prop
class RkOk (prog:Program) (w:World) (A:Around) (s:Shared) extends Rk where
 lt:∀(x y:Value) (E:Value->Shared->Prop) (R:Bool->Shared->Prop),ok x->ok y->R (decide (rk x < rk y)) s->wpAny (model prog w) A (keyLt' kd x y) R E s
noncomputable def Kr [Rk] (xs:Array Keyed) (i:Nat):Int:=match xs[i]? with
 | some p=>Rk.rk p.1
 | none=>0
def zB [Rk] (xs:Array Keyed) (k:Nat):Prop:=∀i j,i<=j->j < k->Kr xs i<=Kr xs j
def dL [Rk] (xs:Array Keyed):Prop:=∀p,p∈xs.toList->Rk.ok p.1
theorem dN [Rk] {xs ys:Array Keyed}{i j:Nat} (h:xs[i]?=ys[j]?):Kr xs i=Kr ys j:=by unfold Kr;rw [h]
theorem iL [Rk] {xs:Array Keyed}{src d:Nat} (hs:src < xs.size) (hd:d<=src) (k:Nat) :
  Kr (bubble xs src d) k=if k=src - d then Kr xs src else if src - d < k/\k<=src then Kr xs (k - 1) else Kr xs k:=by
 have e:=getElem?_bubble hs d hd k
 by_cases h1:k=src - d
 ·rw [if_pos h1]at e ⊢;exact dN e
 ·rw [if_neg h1]at e ⊢
  by_cases h2:src - d < k/\k<=src
  ·rw [if_pos h2]at e ⊢;exact dN e
  ·rw [if_neg h2]at e ⊢;exact dN e
theorem fX [Rk] {xs:Array Keyed}{i j:Nat} (hj:j<=xs.size) (k:Nat) :
  Kr (mirror xs i j ((j - i) / 2)) k=if i<=k/\k < j then Kr xs (i+j - 1 - k) else Kr xs k:=by
 have e:=getElem?_mirror_all (i:=i) hj k
 by_cases h1:i<=k/\k < j
 ·rw [if_pos h1]at e ⊢;exact dN e
 ·rw [if_neg h1]at e ⊢;exact dN e
theorem bF [Rk] {xs:Array Keyed}{i j:Nat} (hj:j<=xs.size) (heq:∀k,i<=k->k < j->Kr xs k=Kr xs (j - 1)) (k:Nat) :
  Kr (mirror xs i j ((j - i) / 2)) k=Kr xs k:=by
 rw [fX hj]
 split
 ·rw [heq _ ‹1› ‹1›,heq k ‹1› ‹1›]
 ·rfl
noncomputable def jm:Bool->Keyed->Array Keyed->Nat->Nat->Nat->StateT SortSt Sem (Option Nat):=sortPriv% PySem.Builtin.gallop
section
variable {prog:Program}{w:World}{A:Around}{E:Value->Shared->Prop}{s:Shared}
theorem oo [RkOk prog w A s] {st:SortSt}{x y:Value}{c d:Int}{p q:Value}{R:Option Bool->SortSt->Prop} (hk:kindOf st=Rk.kd) (hx:Rk.rk x=c/\Rk.ok x) (hy:Rk.rk y=d/\Rk.ok y) (h:R (some (decide (c < d))) st):wpS (model prog w) A E s (lt' (x,p) (y,q)) R st:=by
 rw [lt'_eq]
 refine wpS_bind (wpS_get ?_)
 rw [hk]
 refine wpS_bind (wpS_lift (wpAny_attempt (RkOk.lt x y _ _ hx.2 hy.2 ⟨rfl,?_⟩)))
 rw [hx.1,hy.1]
 exact wpS_pure h
theorem zn {st:SortSt}{n:Nat} (β:Nat->Bool){lo hi:Nat}{Q:(Option (Option Nat) × Nat × Nat)->SortSt->Prop}{F:Nat->(Option (Option Nat) × Nat × Nat)->StateT SortSt Sem (ForInStep (Option (Option Nat) × Nat × Nat))}
  (mono:∀i j,i<=j->j < n->β j=true->β i=true)
  (stop:∀x lo hi {R:ForInStep (Option (Option Nat) × Nat × Nat)->SortSt->Prop},hi<=lo->R (.done (none,lo,hi)) st->wpS (model prog w) A E s (F x (none,lo,hi)) R st)
  (up:∀x lo hi {R:ForInStep (Option (Option Nat) × Nat × Nat)->SortSt->Prop},lo < hi->hi<=n->β (lo+(hi - lo) / 2)=true->R (.yield (none,lo+(hi - lo) / 2+1,hi)) st->wpS (model prog w) A E s (F x (none,lo,hi)) R st)
  (dn:∀x lo hi {R:ForInStep (Option (Option Nat) × Nat × Nat)->SortSt->Prop},lo < hi->hi<=n->β (lo+(hi - lo) / 2)=false->R (.yield (none,lo,lo+(hi - lo) / 2)) st->wpS (model prog w) A E s (F x (none,lo,hi)) R st)
  (h1:lo<=hi) (h2:hi<=n) (h3:∀i,i < lo->β i=true) (h4:∀i,hi<=i->i < n->β i=false)
  (h:∀k,k<=n->(∀i,i < k->β i=true)->(∀i,k<=i->i < n->β i=false)->Q (none,k,k) st):wpS (model prog w) A E s (forIn [:n] (none,lo,hi) F) Q st:=by
 refine wpS_forRange (I:=λi c st'=>st'=st/\∃lo hi,c=(none,lo,hi)/\lo<=hi/\hi<=n/\hi - lo<=n - i/\(∀j,j < lo->β j=true)/\(∀j,hi<=j->j < n->β j=false)) ?_ ?_ ⟨rfl,lo,hi,rfl,h1,h2,by omega,h3,h4⟩
 ·rintro i c st' _ hi' ⟨rfl,lo,hi,rfl,g1,g2,g3,g4,g5⟩
  by_cases hl:hi<=lo
  ·have e:lo=hi:=by omega
   subst e
   exact stop _ _ _ hl (h lo g2 g4 g5)
  ·have l:lo < hi:=by omega
   cases e:β (lo+(hi - lo) / 2) with
   | true=>exact up _ _ _ l g2 e ⟨rfl,_,_,rfl,by omega,g2,by omega,λj hj=>mono j _ ‹1› ‹1› e,g5⟩
   | false=>
    refine dn _ _ _ l g2 e ⟨rfl,_,_,rfl,by omega,by omega,by omega,g4,λj hj hn=>?_⟩
    cases ej:β j with
    | false=>rfl
    | true=>rw [mono _ j hj hn ej]at e;exact absurd e (by decide)
 ·rintro c st' ⟨rfl,lo,hi,rfl,g1,g2,g3,g4,g5⟩
  have e:lo=hi:=by omega
  subst e
  exact h lo g2 g4 g5
theorem jW {st:SortSt}{Q:Option Nat->SortSt->Prop}{left:Bool}{arr:Array Keyed}{key:Keyed}{base n hint:Nat} (β:Nat->Bool) (hh:hint < n)
  (bey:∀(i:Nat){R:Option Bool->SortSt->Prop},i < n->R (some (β i)) st->wpS (model prog w) A E s (do let x <- elem' arr (base+i);if left=true then lt' x key else (do let r <- lt' key x;pure (Option.map (λb=>!b) r))) R st)
  (mono:∀i j,i<=j->j < n->β j=true->β i=true)
  (h:∀k,k<=n->(∀i,i < k->β i=true)->(∀i,k<=i->i < n->β i=false)->Q (some k) st):wpS (model prog w) A E s (jm left key arr base n hint) Q st:=by
 have dmono:∀i j,i<=j->j < n->β i=false->β j=false:=λi j hij hj e=>by
  cases ej:β j with
  | false=>rfl
  | true=>rw [mono i j hij hj ej]at e;exact absurd e (by decide)
 unfold jm
 k_delta "gallop"
 dsimp only
 refine wpS_bind (bey hint hh ?_)
 dsimp only
 cases eh:β hint with
 | true=>
  rw [if_pos rfl]
  refine wpS_bind (wpS_mono (wpS_forRange (I:=λi c st'=>st'=st/\∃last ofs,c=(none,last,ofs)/\last < ofs/\i < ofs/\hint+last < n/\β (hint+last)=true)
   (Q:=λc st'=>st'=st/\∃last ofs,c=(none,last,ofs)/\last < ofs/\hint+last < n/\β (hint+last)=true/\(hint+ofs < n->β (hint+ofs)=false)) ?step ?fin ⟨rfl,0,1,rfl,by omega,by omega,by omega,eh⟩) ?post)
  case fin=>
   rintro c st' ⟨rfl,last,ofs,rfl,a1,a2,a3,a4⟩
   exact⟨rfl,last,ofs,rfl,a1,a3,a4,λ_=>by omega⟩
  case step=>
   rintro i c st' _ hi ⟨rfl,last,ofs,rfl,a1,a2,a3,a4⟩
   dsimp only
   by_cases hm:ofs>=n - hint
   ·rw [if_pos hm]
    exact wpS_pure ⟨rfl,last,ofs,rfl,a1,a3,a4,λ_=>by omega⟩
   ·rw [if_neg hm]
    refine wpS_bind (bey (hint+ofs) ‹1› ?_)
    dsimp only
    cases eo:β (hint+ofs) with
    | true=>
     rw [if_neg (by decide)]
     exact wpS_pure ⟨rfl,ofs,2 * ofs+1,rfl,by omega,by omega,by omega,eo⟩
    | false=>
     rw [if_pos (show (!false)=true from rfl)]
     exact wpS_pure ⟨rfl,last,ofs,rfl,a1,a3,a4,λ_=>eo⟩
  case post=>
   rintro c st' ⟨rfl,last,ofs,rfl,a1,a3,a4,a5⟩
   dsimp only
   refine wpS_bind (zn β mono (λx lo hi R hl r=>?_) (λx lo hi R hl hn e r=>?_) (λx lo hi R hl hn e r=>?_) ‹1› ‹1› (λi hi=>mono i (hint+last) ‹1› a3 a4) (λi hi hn=>?_) λk k1 k2 k3=>?_)
   ·dsimp only
    rw [if_pos hl]
    exact wpS_pure r
   ·dsimp only
    rw [if_neg ‹1›]
    refine wpS_bind (bey _ ‹1› ?_)
    rw [e]
    exact wpS_pure r
   ·dsimp only
    rw [if_neg ‹1›]
    refine wpS_bind (bey _ ‹1› ?_)
    rw [e]
    exact wpS_pure r
   ·exact dmono (hint+ofs) i ‹1› hn (a5 ‹1›)
   ·exact wpS_pure (h k k1 k2 k3)
 | false=>
  rw [if_neg (by decide)]
  refine wpS_bind (wpS_mono (wpS_forRange (I:=λi c st'=>st'=st/\∃last ofs,c=(none,last,ofs)/\last < ofs/\i < ofs/\last<=hint/\β (hint - last)=false)
   (Q:=λc st'=>st'=st/\∃last ofs,c=(none,last,ofs)/\last < ofs/\last<=hint/\β (hint - last)=false/\(ofs<=hint->β (hint - ofs)=true)) ?step ?fin ⟨rfl,0,1,rfl,by omega,by omega,by omega,eh⟩) ?post)
  case fin=>
   rintro c st' ⟨rfl,last,ofs,rfl,a1,a2,a3,a4⟩
   exact⟨rfl,last,ofs,rfl,a1,a3,a4,λ_=>by omega⟩
  case step=>
   rintro i c st' _ hi ⟨rfl,last,ofs,rfl,a1,a2,a3,a4⟩
   dsimp only
   by_cases hm:ofs>=hint+1
   ·rw [if_pos hm]
    exact wpS_pure ⟨rfl,last,ofs,rfl,a1,a3,a4,λ_=>by omega⟩
   ·rw [if_neg hm]
    refine wpS_bind (bey (hint - ofs) ‹1› ?_)
    dsimp only
    cases eo:β (hint - ofs) with
    | false=>
     rw [if_neg (by decide)]
     exact wpS_pure ⟨rfl,ofs,2 * ofs+1,rfl,by omega,by omega,by omega,eo⟩
    | true=>
     rw [if_pos rfl]
     exact wpS_pure ⟨rfl,last,ofs,rfl,a1,a3,a4,λ_=>eo⟩
  case post=>
   rintro c st' ⟨rfl,last,ofs,rfl,a1,a3,a4,a5⟩
   dsimp only
   refine wpS_bind (zn β mono (λx lo hi R hl r=>?_) (λx lo hi R hl hn e r=>?_) (λx lo hi R hl hn e r=>?_) ‹1› ‹1› (λi hi=>?_) (λi hi hn=>dmono (hint - last) i hi hn a4) λk k1 k2 k3=>?_)
   ·dsimp only
    rw [if_pos hl]
    exact wpS_pure r
   ·dsimp only
    rw [if_neg ‹1›]
    refine wpS_bind (bey _ ‹1› ?_)
    rw [e]
    exact wpS_pure r
   ·dsimp only
    rw [if_neg ‹1›]
    refine wpS_bind (bey _ ‹1› ?_)
    rw [e]
    exact wpS_pure r
   ·exact mono i (hint - ofs) ‹1› ‹1› (a5 ‹1›)
   ·exact wpS_pure (h k k1 k2 k3)
end
structure SG [Rk] (a₀:Array Keyed) (p:Array (Nat × Nat × Nat)) (st:SortSt):Prop where
 pm:(arrOf st).Perm a₀
 kd:kindOf st=Rk.kd
 fl:failedOf st=none
 pd:pendingOf st=p
theorem SG.sz [Rk] {a₀ p st} (g:SG a₀ p st):(arrOf st).size=a₀.size:=g.pm.size_eq
theorem SG.arr [Rk] {a₀ p st} (g:SG a₀ p st){xs:Array Keyed} (hp:xs.Perm (arrOf st)):SG a₀ p (setArr st xs):=⟨hp.trans g.pm,g.kd,g.fl,g.pd⟩
theorem SG.get [Rk] {a₀ p st} (g:SG a₀ p st) (h0:dL a₀){i:Nat} (hi:i < a₀.size):∃t q,(arrOf st)[i]?=some (t,q)/\Rk.rk t=Kr (arrOf st) i/\Rk.ok t:=by
 have hi':i < (arrOf st).size:=by rw [g.sz];exact hi
 have hn:=h0 _ ((Array.perm_iff_toList_perm.mp g.pm).mem_iff.mp (show (arrOf st)[i]∈_ by simp))
 have e:=getElem?_pos (arrOf st) i hi'
 refine⟨(arrOf st)[i].1,(arrOf st)[i].2,e,?_,hn⟩
 unfold Kr
 rw [e]
def Ris [Rk] (xs:Array Keyed) (a b:Nat):Prop:=∀i j,a<=i->i<=j->j < b->Kr xs i<=Kr xs j
def Fal [Rk] (xs:Array Keyed) (a b:Nat):Prop:=∀i j,a<=i->i<=j->j < b->Kr xs j<=Kr xs i
def Low [Rk] (xs ys:Array Keyed) (lo:Nat):Prop:=∀k,k < lo->Kr xs k=Kr ys k
theorem Low.rfl' [Rk] {xs:Array Keyed} {lo}:Low xs xs lo:=λ_ _=>rfl
theorem Low.then [Rk] {xs ys zs:Array Keyed} {lo} (h:Low xs ys lo) (g:Low ys zs lo):Low xs zs lo:=λk hk=>(h k hk).trans (g k hk)
theorem Ris.one [Rk] {xs:Array Keyed} {a b} (h:b<=a+1):Ris xs a b:=λi j h1 h2 h3=>by
 have:i=j:=by omega
 rw [this];exact Int.le_refl _
theorem jR [Rk] {xs:Array Keyed}{lo i j:Nat} (hj:j<=xs.size) (hl:lo<=i):Low (mirror xs i j ((j - i) / 2)) xs lo:=λk hk=>by
 rw [fX hj,if_neg ‹1›]
section
variable {prog:Program}{w:World}{A:Around}{E:Value->Shared->Prop}{s:Shared} [RkOk prog w A s] {a₀:Array Keyed}{p:Array (Nat × Nat × Nat)}
theorem ltG {st:SortSt}{i j:Nat}{Q:Option Bool->SortSt->Prop} (g:SG a₀ p st) (h0:dL a₀) (hi:i < a₀.size) (hj:j < a₀.size)
  (h:Q (some (decide (Kr (arrOf st) i < Kr (arrOf st) j))) st):wpS (model prog w) A E s (ltAt' i j) Q st:=by
 obtain⟨x,p1,e1,o1⟩:=g.get h0 hi
 obtain⟨y,p2,e2,o2⟩:=g.get h0 hj
 rw [ltAt'_eq]
 refine wpS_bind (wpS_get ?_)
 show wpS _ _ _ _ (do let x <- elem' (arrOf st) i;let y <- elem' (arrOf st) j;lt' x y) Q st
 rw [elem'_eq,elem'_eq,e1,e2]
 exact wpS_bind (wpS_pure (wpS_bind (wpS_pure (oo g.kd o1 o2 h))))
theorem xE {st:SortSt}{i j:Nat}{Q:Unit->SortSt->Prop} (h:Q () (setArr st (mirror (arrOf st) i j ((j - i) / 2)))):wpS (model prog w) A E s (reverseSlice' i j) Q st:=by
 rw [reverseSlice'_eq]
 exact wpS_modify h
noncomputable def wO (lo a nrem:Nat):StateT SortSt Sem (Option (Option Nat) × Nat):=
 forIn [a:nrem] ((none,a):Option (Option Nat) × Nat) λ_ c=>do
  let x <- ltAt' (lo+c.snd) (lo+c.snd - 1)
  match x with
  | some less=>if less=true then pure (ForInStep.done (none,c.snd)) else pure (ForInStep.yield (none,c.snd+1))
  | _=>pure (ForInStep.done (some none,c.snd))
noncomputable def wt (lo n nrem:Nat):StateT SortSt Sem (Option Nat):=do
 reverseSlice' lo (lo+n)
 let c <- wO lo n nrem
 match c.fst with
 | some r=>pure r
 | none=>pure (some c.snd)
noncomputable def rG (lo n nrem:Nat):StateT SortSt Sem (Option (Option Nat) × Nat × Nat):=
 forIn [n:nrem] ((none,n,0):Option (Option Nat) × Nat × Nat) λ_ c=>do
  let x <- ltAt' (lo+c.snd.fst) (lo+c.snd.fst - 1)
  match x with
  | some less=>
   if less=true then
    if c.snd.snd > 0 then do
     reverseSlice' (lo+c.snd.fst - (c.snd.snd+1)) (lo+c.snd.fst)
     pure (ForInStep.yield (none,c.snd.fst+1,0))
    else pure (ForInStep.yield (none,c.snd.fst+1,0))
   else do
    let x <- ltAt' (lo+c.snd.fst - 1) (lo+c.snd.fst)
    match x with
    | some more=>
     if more=true then pure (ForInStep.done (none,c.snd.fst,c.snd.snd))
     else pure (ForInStep.yield (none,c.snd.fst+1,c.snd.snd+1))
    | _=>pure (ForInStep.done (some none,c.snd.fst,c.snd.snd))
  | _=>pure (ForInStep.done (some none,c.snd.fst,c.snd.snd))
noncomputable def oM (lo n nrem:Nat):StateT SortSt Sem (Option Nat):=do
 liftM (rule "list.sort.descending-run")
 let c <- rG lo (n+1) nrem
 match c.fst with
 | some r=>pure r
 | none=>
  if c.snd.snd > 0 then do
   reverseSlice' (lo+c.snd.fst - (c.snd.snd+1)) (lo+c.snd.fst)
   wt lo c.snd.fst nrem
  else wt lo c.snd.fst nrem
theorem t6 (lo nrem:Nat):countRun' lo nrem=(do
  let c <- wO lo 1 nrem
  match c.fst with
  | some r=>pure r
  | none=>
   if (c.snd == nrem)=true then pure (some c.snd)
   else if c.snd > 1 then do
    let x <- ltAt' lo (lo+c.snd - 1)
    match x with
    | some rose=>if rose=true then pure (some c.snd) else do
      reverseSlice' lo (lo+c.snd)
      oM lo c.snd nrem
    | _=>pure none
   else oM lo c.snd nrem):=by
 rw [countRun'_eq]
 dsimp only
 unfold oM wt rG wO
 congr 1
 funext c
 obtain⟨r,n⟩:=c
 cases r with
 | some r=>rfl
 | none=>
  dsimp only
  split
  ·rfl
  ·split
   ·congr 1
    funext x
    cases x with
    | none=>rfl
    | some rose=>
     dsimp only
     split
     ·rfl
     ·congr 1;funext _;congr 1;funext _;congr 1;funext c2
      obtain⟨r2,n2,q2⟩:=c2
      cases r2 with
      | some r2=>rfl
      | none=>
       dsimp only
       split
       ·congr 1;funext _;congr 1;funext _;congr 1;funext c3
        obtain⟨r3,n3⟩:=c3
        cases r3 <;> rfl
       ·congr 1;funext _;congr 1;funext c3
        obtain⟨r3,n3⟩:=c3
        cases r3 <;> rfl
   ·congr 1;funext _;congr 1;funext c2
    obtain⟨r2,n2,q2⟩:=c2
    cases r2 with
    | some r2=>rfl
    | none=>
     dsimp only
     split
     ·congr 1;funext _;congr 1;funext _;congr 1;funext c3
      obtain⟨r3,n3⟩:=c3
      cases r3 <;> rfl
     ·congr 1;funext _;congr 1;funext c3
      obtain⟨r3,n3⟩:=c3
      cases r3 <;> rfl
theorem qJ {st:SortSt}{lo a nrem:Nat}{Q:Option (Option Nat) × Nat->SortSt->Prop} (h0:dL a₀) (hn:lo+nrem<=a₀.size) (ha:1<=a) (han:a<=nrem) (g:SG a₀ p st)
  (hs:Ris (arrOf st) lo (lo+a))
  (h:∀n,a<=n->n<=nrem->Ris (arrOf st) lo (lo+n)->(n=nrem\/Kr (arrOf st) (lo+n) < Kr (arrOf st) (lo+n - 1))->Q (none,n) st) :
  wpS (model prog w) A E s (wO lo a nrem) Q st:=by
 unfold wO
 refine wpS_forRange (I:=λx c u=>u=st/\c=(none,x)/\Ris (arrOf st) lo (lo+x)) ?step ?fin ⟨rfl,rfl,hs⟩
 case fin=>
  rintro c u ⟨rfl,rfl,r⟩
  rw [Nat.max_eq_right han]at r ⊢
  exact h nrem han (Nat.le_refl _) r (.inl rfl)
 case step=>
  rintro x c u ax xn ⟨rfl,rfl,r⟩
  dsimp only
  refine wpS_bind (ltG g h0 ‹1› ‹1› ?_)
  by_cases less:Kr (arrOf u) (lo+x) < Kr (arrOf u) (lo+x - 1)
  ·rw [decide_eq_true less]
   try dsimp only
   exact wpS_pure (h x ax ‹1› r (.inr less))
  ·rw [decide_eq_false less]
   refine wpS_pure ⟨rfl,rfl,λi j h1 h2 h3=>?_⟩
   by_cases hj:j < lo+x
   ·exact r i j h1 h2 hj
   ·have ej:j=lo+x:=by omega
    by_cases ei:i=j
    ·rw [ei];exact Int.le_refl _
    ·rw [ej]
     exact Int.le_trans (r i (lo+x - 1) h1 ‹1› ‹1›) (Int.not_lt.mp less)
theorem qI {st:SortSt}{lo n nrem:Nat}{Q:Option Nat->SortSt->Prop} (h0:dL a₀) (hn:lo+nrem<=a₀.size) (h1:1<=n) (hnn:n<=nrem) (g:SG a₀ p st)
  (hs:Fal (arrOf st) lo (lo+n)) (h:∀m u,SG a₀ p u->Low (arrOf u) (arrOf st) lo->1<=m->m<=nrem->Ris (arrOf u) lo (lo+m)->Q (some m) u) :
  wpS (model prog w) A E s (wt lo n nrem) Q st:=by
 unfold wt
 have sz:lo+n<=(arrOf st).size:=by rw [g.sz];omega
 refine wpS_bind (xE ?_)
 have g':SG a₀ p (setArr st (mirror (arrOf st) lo (lo+n) ((lo+n - lo) / 2))):=g.arr (mirror_perm _ _ _ _)
 refine wpS_bind (qJ h0 hn h1 hnn g' (λi j a1 a2 a3=>?_) λm m1 m2 m3 _=>wpS_pure (h m _ g' (jR sz (Nat.le_refl _)) ‹1› m2 m3))
 show Kr (mirror (arrOf st) lo (lo+n) _) i<=Kr (mirror (arrOf st) lo (lo+n) _) j
 rw [fX sz,fX sz,if_pos ⟨a1,by omega⟩,if_pos ⟨by omega,a3⟩]
 exact hs _ _ ‹1› ‹1› ‹1›
theorem tE {st:SortSt}{lo n nrem:Nat}{Q:Option (Option Nat) × Nat × Nat->SortSt->Prop} (h0:dL a₀) (hn:lo+nrem<=a₀.size) (h1:1<=n) (hnn:n<=nrem) (g:SG a₀ p st)
  (hs:Fal (arrOf st) lo (lo+n))
  (h:∀m q u,SG a₀ p u->Low (arrOf u) (arrOf st) lo->n<=m->m<=nrem->Fal (arrOf u) lo (lo+m)->q+1<=m->(∀i,lo+m - (q+1)<=i->i < lo+m->Kr (arrOf u) i=Kr (arrOf u) (lo+m - 1))->Q (none,m,q) u) :
  wpS (model prog w) A E s (rG lo n nrem) Q st:=by
 unfold rG
 refine wpS_forRange (I:=λx c u=>∃q,c=(none,x,q)/\SG a₀ p u/\Low (arrOf u) (arrOf st) lo/\Fal (arrOf u) lo (lo+x)/\q+1<=x/\
   (∀i,lo+x - (q+1)<=i->i < lo+x->Kr (arrOf u) i=Kr (arrOf u) (lo+x - 1))) ?step ?fin ⟨0,rfl,g,Low.rfl',hs,by omega,λi a1 a2=>by congr 1;omega⟩
 case fin=>
  rintro c u ⟨q,rfl,g1,l1,f1,q1,e1⟩
  rw [Nat.max_eq_right hnn]at f1 q1 e1 ⊢
  exact h nrem q u g1 l1 hnn (Nat.le_refl _) f1 q1 e1
 case step=>
  rintro x c u ax xn ⟨q,rfl,g1,l1,f1,q1,e1⟩
  dsimp only
  have sz:lo+x<=(arrOf u).size:=by rw [g1.sz];omega
  refine wpS_bind (ltG g1 h0 ‹1› ‹1› ?_)
  by_cases less:Kr (arrOf u) (lo+x) < Kr (arrOf u) (lo+x - 1)
  ·rw [decide_eq_true less]
   try dsimp only
   have st1:∀xs:Array Keyed,(∀k,Kr xs k=Kr (arrOf u) k)->Fal xs lo (lo+(x+1)):=by
    intro xs hk i j a1 a2 a3
    rw [hk,hk]
    by_cases hj:j < lo+x
    ·exact f1 i j a1 a2 hj
    ·have ej:j=lo+x:=by omega
     by_cases ei:i=j
     ·rw [ei];exact Int.le_refl _
     ·rw [ej]
      exact Int.le_trans (Int.le_of_lt less) (f1 i (lo+x - 1) a1 ‹1› ‹1›)
   by_cases hq:q > 0
   ·rw [if_pos rfl,if_pos hq]
    refine wpS_bind (xE (wpS_pure ⟨0,rfl,g1.arr (mirror_perm _ _ _ _),λk hk=>?_,st1 _ (bF sz e1),by omega,λi a1 a2=>by congr 1;omega⟩))
    exact(bF sz e1 k).trans (l1 k hk)
   ·rw [if_pos rfl,if_neg hq]
    exact wpS_pure ⟨0,rfl,g1,l1,st1 _ (λ_=>rfl),by omega,λi a1 a2=>by congr 1;omega⟩
  ·rw [decide_eq_false less]
   dsimp only
   rw [if_neg (by decide)]
   refine wpS_bind (ltG g1 h0 ‹1› ‹1› ?_)
   by_cases more:Kr (arrOf u) (lo+x - 1) < Kr (arrOf u) (lo+x)
   ·rw [decide_eq_true more]
    exact wpS_pure (h x q u g1 l1 ax ‹1› f1 q1 e1)
   ·rw [decide_eq_false more]
    have ex:Kr (arrOf u) (lo+x)=Kr (arrOf u) (lo+x - 1):=by omega
    refine wpS_pure ⟨q+1,rfl,g1,l1,λi j a1 a2 a3=>?_,by omega,λi a1 a2=>?_⟩
    ·by_cases hj:j < lo+x
     ·exact f1 i j a1 a2 hj
     ·have ej:j=lo+x:=by omega
      by_cases ei:i=j
      ·rw [ei];exact Int.le_refl _
      ·rw [ej,ex];exact f1 i (lo+x - 1) a1 ‹1› ‹1›
    ·rw [show lo+(x+1) - 1=lo+x by omega]
     by_cases ei:i=lo+x
     ·rw [ei]
     ·rw [ex];exact e1 i ‹1› ‹1›
theorem nk {st:SortSt}{lo n nrem:Nat}{Q:Option Nat->SortSt->Prop} (h0:dL a₀) (hn:lo+nrem<=a₀.size) (hnn:n+1<=nrem) (g:SG a₀ p st)
  (hs:Fal (arrOf st) lo (lo+(n+1))) (h:∀m u,SG a₀ p u->Low (arrOf u) (arrOf st) lo->1<=m->m<=nrem->Ris (arrOf u) lo (lo+m)->Q (some m) u) :
  wpS (model prog w) A E s (oM lo n nrem) Q st:=by
 unfold oM
 refine wpS_bind (wpS_lift (wpAny_rule ⟨rfl,?_⟩))
 refine wpS_bind (tE h0 hn ‹1› hnn g hs λm q u g1 l1 m1 m2 f1 q1 e1=>?_)
 dsimp only
 have sz:lo+m<=(arrOf u).size:=by rw [g1.sz];omega
 by_cases hq:q > 0
 ·rw [if_pos hq]
  refine wpS_bind (xE (qI h0 hn ‹1› m2 (g1.arr (mirror_perm _ _ _ _)) (λi j a1 a2 a3=>?_) λm' u' g2 l2 k1 k2 k3=>h m' u' g2 (λk hk=>?_) k1 k2 k3))
  ·show Kr (mirror (arrOf u) _ _ _) j<=Kr (mirror (arrOf u) _ _ _) i
   rw [bF sz e1,bF sz e1]
   exact f1 i j a1 a2 a3
  ·exact((l2 k hk).trans (bF sz e1 k)).trans (l1 k hk)
 ·rw [if_neg hq]
  exact qI h0 hn ‹1› m2 g1 f1 λm' u' g2 l2=>h m' u' g2 (l2.then l1)
theorem rX {st:SortSt}{lo nrem:Nat}{Q:Option Nat->SortSt->Prop} (h0:dL a₀) (hn:lo+nrem<=a₀.size) (h1:1<=nrem) (g:SG a₀ p st)
  (h:∀m u,SG a₀ p u->Low (arrOf u) (arrOf st) lo->1<=m->m<=nrem->Ris (arrOf u) lo (lo+m)->Q (some m) u) :
  wpS (model prog w) A E s (countRun' lo nrem) Q st:=by
 rw [t6]
 refine wpS_bind (qJ h0 hn (Nat.le_refl 1) h1 g (Ris.one (Nat.le_refl _)) λn n1 n2 r1 o1=>?_)
 dsimp only
 by_cases hnn:n=nrem
 ·rw [if_pos (by simpa using hnn)]
  exact wpS_pure (h n st g Low.rfl' n1 n2 r1)
 ·rw [if_neg (by simpa using hnn)]
  have less:=o1.resolve_left hnn
  by_cases hgt:n > 1
  ·rw [if_pos hgt]
   refine wpS_bind (ltG g h0 ‹1› ‹1› ?_)
   by_cases rose:Kr (arrOf st) lo < Kr (arrOf st) (lo+n - 1)
   ·rw [decide_eq_true rose]
    exact wpS_pure (h n st g Low.rfl' n1 n2 r1)
   ·rw [decide_eq_false rose]
    dsimp only
    rw [if_neg (by decide)]
    have sz:lo+n<=(arrOf st).size:=by rw [g.sz];omega
    have all:∀k,lo<=k->k < lo+n->Kr (arrOf st) k=Kr (arrOf st) (lo+n - 1):=by
     intro k k1 k2
     have b1:=r1 lo k (Nat.le_refl _) k1 k2
     have b2:=r1 k (lo+n - 1) k1 ‹1› ‹1›
     omega
    refine wpS_bind (xE (nk h0 hn ‹1› (g.arr (mirror_perm _ _ _ _)) (λi j a1 a2 a3=>?_) λm u g2 l2=>h m u g2 (l2.then (jR sz (Nat.le_refl _)))))
    show Kr (mirror (arrOf st) _ _ _) j<=Kr (mirror (arrOf st) _ _ _) i
    rw [bF sz all,bF sz all]
    by_cases hj:j < lo+n
    ·rw [all i a1 ‹1›,all j ‹1› hj];exact Int.le_refl _
    ·have ej:j=lo+n:=by omega
     by_cases ei:i=j
     ·rw [ei];exact Int.le_refl _
     ·rw [all i a1 ‹1›,ej];exact Int.le_of_lt less
  ·rw [if_neg hgt]
   have en:n=1:=by omega
   subst en
   refine nk h0 hn ‹1› g (λi j a1 a2 a3=>?_) h
   by_cases ei:i=j
   ·rw [ei];exact Int.le_refl _
   ·rw [show i=lo+1 - 1 by omega,show j=lo+1 by omega]
    exact Int.le_of_lt less
theorem wV {st:SortSt}{lo n ok:Nat}{Q:Bool->SortSt->Prop} (h0:dL a₀) (hn:lo+n<=a₀.size) (hok:ok<=n) (g:SG a₀ p st) (hs:Ris (arrOf st) lo (lo+ok))
  (h:∀u,SG a₀ p u->Low (arrOf u) (arrOf st) lo->Ris (arrOf u) lo (lo+n)->Q true u):wpS (model prog w) A E s (binarySort' lo n ok) Q st:=by
 rw [binarySort'_eq]
 dsimp only
 refine wpS_bind (wpS_mono (wpS_forRange (I:=λk c u=>c=(none,())/\SG a₀ p u/\Low (arrOf u) (arrOf st) lo/\Ris (arrOf u) lo (lo+min k n))
  (Q:=λc u=>c=(none,())/\SG a₀ p u/\Low (arrOf u) (arrOf st) lo/\Ris (arrOf u) lo (lo+n)) ?step ?fin ?init) ?post)
 case post=>
  rintro c u ⟨rfl,g1,l1,r1⟩
  exact wpS_pure (h u g1 l1 r1)
 case init=>
  refine⟨rfl,g,Low.rfl',?_⟩
  by_cases e:ok=0
  ·exact Ris.one ‹1›
  ·exact λi j a1 a2 a3=>hs i j a1 a2 ‹1›
 case fin=>
  rintro c u ⟨hc,g1,l1,r1⟩
  exact⟨hc,g1,l1,λi j a1 a2 a3=>r1 i j a1 a2 ‹1›⟩
 case step=>
  rintro k c u ak kn ⟨rfl,g1,l1,r1⟩
  rw [Nat.min_eq_left (Nat.le_of_lt kn)]at r1
  try dsimp only
  refine wpS_bind (wpS_mono (wpS_forRange (I:=λx c v=>v=u/\∃l r,c=(none,l,r)/\l<=r/\r<=k/\r - l<=k - x/\
    (∀i,lo<=i->i < lo+l->Kr (arrOf u) i<=Kr (arrOf u) (lo+k))/\(∀i,lo+r<=i->i < lo+k->Kr (arrOf u) (lo+k) < Kr (arrOf u) i))
   (Q:=λc v=>v=u/\∃l r,c=(none,l,r)/\l<=k/\
    (∀i,lo<=i->i < lo+l->Kr (arrOf u) i<=Kr (arrOf u) (lo+k))/\(∀i,lo+l<=i->i < lo+k->Kr (arrOf u) (lo+k) < Kr (arrOf u) i)) ?istep ?ifin ?iinit) ?ipost)
  case iinit=>exact⟨rfl,0,k,rfl,by omega,by omega,by omega,λi _ _=>by omega,λi _ _=>by omega⟩
  case ifin=>
   rintro c v ⟨rfl,l,r,rfl,b1,b2,b3,b4,b5⟩
   have e:l=r:=by omega
   subst e
   exact⟨rfl,l,l,rfl,b2,b4,b5⟩
  case istep=>
   rintro x c v _ xk ⟨rfl,l,r,rfl,b1,b2,b3,b4,b5⟩
   dsimp only
   by_cases ge:l>=r
   ·rw [if_pos ge]
    have e:l=r:=by omega
    subst e
    exact wpS_pure ⟨rfl,l,l,rfl,b2,b4,b5⟩
   ·rw [if_neg ge]
    refine wpS_bind (ltG g1 h0 ‹1› ‹1› ?_)
    by_cases less:Kr (arrOf v) (lo+k) < Kr (arrOf v) (lo+(l+r) / 2)
    ·rw [decide_eq_true less]
     refine wpS_pure ⟨rfl,l,(l+r) / 2,rfl,by omega,by omega,by omega,b4,λi a1 a2=>?_⟩
     exact Int.lt_of_lt_of_le less (r1 _ _ ‹1› a1 a2)
    ·rw [decide_eq_false less]
     refine wpS_pure ⟨rfl,(l+r) / 2+1,r,rfl,by omega,by omega,by omega,λi a1 a2=>?_,b5⟩
     exact Int.le_trans (r1 i (lo+(l+r) / 2) a1 ‹1› ‹1›) (Int.not_lt.mp less)
  case ipost=>
   rintro c v ⟨rfl,l,r,rfl,b1,b2,b3⟩
   dsimp only
   rw [moveDown'_eq]
   have sz:lo+k < (arrOf v).size:=by rw [g1.sz];omega
   refine wpS_bind (wpS_modify (wpS_pure ⟨rfl,g1.arr (bubble_perm _ _ _),λi hi=>?_,λi j a1 a2 a3=>?_⟩))
   ·refine Eq.trans ?_ (l1 i hi)
    show Kr (bubble (arrOf v) (lo+k) (lo+k - (lo+l))) i=_
    rw [iL sz ‹1›,if_neg ‹1›,if_neg ‹1›]
   ·show Kr (bubble (arrOf v) (lo+k) (lo+k - (lo+l))) i<=Kr (bubble (arrOf v) (lo+k) (lo+k - (lo+l))) j
    rw [iL sz ‹1›,iL sz ‹1›,show lo+k - (lo+k - (lo+l))=lo+l from Nat.sub_sub_self ‹1›]
    have a4:j < lo+(k+1):=by omega
    repeat' split
    all_goals first
     | (exfalso;omega)
     | exact Int.le_refl _
     | exact b2 _ ‹1› ‹1›
     | exact Int.le_of_lt (b3 _ ‹1› ‹1›)
     | exact r1 _ _ ‹1› ‹1› ‹1›
end
noncomputable def ky [Rk] (q:Keyed):Int:=Rk.rk q.1
theorem yF [Rk] {xs:Array Keyed}{i:Nat}{q:Keyed} (h:xs[i]?=some q):Kr xs i=ky q:=by
 unfold Kr ky;rw [h]
structure Mg [Rk] (a b out:Array Keyed):Prop where
 pm:out.toList.Perm (a.toList++b.toList)
 so:(out.toList.map ky).Pairwise (·<=·)
structure LoI [Rk] (a b out:Array Keyed) (ia ib:Nat):Prop where
 pm:out.toList.Perm (a.toList.take ia++b.toList.take ib)
 so:(out.toList.map ky).Pairwise (·<=·)
 ba:∀o∈out.toList,∀i,ia<=i->i < a.size->ky o<=Kr a i
 bb:∀o∈out.toList,∀j,ib<=j->j < b.size->ky o<=Kr b j
theorem bj (a:Array Keyed) (i k:Nat):(a.extract i (i+k)).toList=(a.toList.drop i).take k:=by
 rw [Array.toList_extract,List.extract_eq_take_drop,Nat.add_sub_cancel_left]
theorem bi [Rk] {a:Array Keyed}{i k:Nat}{o:Keyed} (h:o∈(a.toList.drop i).take k):∃j,i<=j/\j < i+k/\j < a.size/\ky o=Kr a j:=by
 obtain⟨n,hn,e⟩:=List.getElem_of_mem h
 rw [List.length_take,List.length_drop,Array.length_toList]at hn
 refine⟨i+n,by omega,by omega,by omega,?_⟩
 rw [yF (q:=o)]
 rw [List.getElem_take,List.getElem_drop]at e
 rw [<- e]
 simp only [Array.getElem_toList]
 rw [getElem?_pos a (i+n) ‹1›]
theorem gX [Rk] {a:Array Keyed} (r:Ris a 0 a.size) (i k:Nat):(((a.toList.drop i).take k).map ky).Pairwise (·<=·):=by
 rw [List.pairwise_iff_getElem]
 intro m n hm hn hmn
 rw [List.length_map,List.length_take,List.length_drop,Array.length_toList]at hm hn
 rw [List.getElem_map,List.getElem_map,List.getElem_take,List.getElem_take,List.getElem_drop,List.getElem_drop]
 have h:=r (i+m) (i+n) ‹1› ‹1› ‹1›
 rw [yF (getElem?_pos a (i+m) ‹1›),yF (getElem?_pos a (i+n) ‹1›)]at h
 exact h
theorem ju (l:List Keyed) (i k:Nat):l.take (i+k)=l.take i++(l.drop i).take k:=by
 rw [List.take_add]
theorem LoI.takeA [Rk] {a b out:Array Keyed}{ia ib k:Nat} (h:LoI a b out ia ib) (ra:Ris a 0 a.size) (rb:Ris b 0 b.size) (hb:∀i,ia<=i->i < ia+k->i < a.size->ib < b.size->Kr a i<=Kr b ib) :
  LoI a b (out++a.extract ia (ia+k)) (ia+k) ib:=by
 refine⟨?_,?_,?_,?_⟩
 ·rw [Array.toList_append,bj,ju]
  refine(h.pm.append_right _).trans ?_
  rw [List.append_assoc,List.append_assoc]
  exact List.Perm.append_left _ List.perm_append_comm
 ·rw [Array.toList_append,bj,List.map_append,List.pairwise_append]
  refine⟨h.so,gX ra _ _,λx hx y hy=>?_⟩
  obtain⟨o,ho,rfl⟩:=List.mem_map.mp hx
  obtain⟨q,hq,rfl⟩:=List.mem_map.mp hy
  obtain⟨j,j1,j2,j3,e⟩:=bi hq
  rw [e]
  exact h.ba o ho j j1 j3
 ·intro o ho i i1 i2
  rw [Array.toList_append,bj]at ho
  rcases List.mem_append.mp ho with ho | ho
  ·exact h.ba o ho i ‹1› i2
  ·obtain⟨j,j1,j2,j3,e⟩:=bi ho
   rw [e]
   exact ra j i ‹1› ‹1› i2
 ·intro o ho i i1 i2
  rw [Array.toList_append,bj]at ho
  rcases List.mem_append.mp ho with ho | ho
  ·exact h.bb o ho i i1 i2
  ·obtain⟨j,j1,j2,j3,e⟩:=bi ho
   rw [e]
   exact Int.le_trans (hb j j1 j2 j3 ‹1›) (rb ib i ‹1› i1 i2)
theorem LoI.takeB [Rk] {a b out:Array Keyed}{ia ib k:Nat} (h:LoI a b out ia ib) (ra:Ris a 0 a.size) (rb:Ris b 0 b.size) (hb:∀i,ib<=i->i < ib+k->i < b.size->ia < a.size->Kr b i<=Kr a ia) :
  LoI a b (out++b.extract ib (ib+k)) ia (ib+k):=by
 refine⟨?_,?_,?_,?_⟩
 ·rw [Array.toList_append,bj,ju,<- List.append_assoc]
  exact h.pm.append_right _
 ·rw [Array.toList_append,bj,List.map_append,List.pairwise_append]
  refine⟨h.so,gX rb _ _,λx hx y hy=>?_⟩
  obtain⟨o,ho,rfl⟩:=List.mem_map.mp hx
  obtain⟨q,hq,rfl⟩:=List.mem_map.mp hy
  obtain⟨j,j1,j2,j3,e⟩:=bi hq
  rw [e]
  exact h.bb o ho j j1 j3
 ·intro o ho i i1 i2
  rw [Array.toList_append,bj]at ho
  rcases List.mem_append.mp ho with ho | ho
  ·exact h.ba o ho i i1 i2
  ·obtain⟨j,j1,j2,j3,e⟩:=bi ho
   rw [e]
   exact Int.le_trans (hb j j1 j2 j3 ‹1›) (ra ia i ‹1› i1 i2)
 ·intro o ho i i1 i2
  rw [Array.toList_append,bj]at ho
  rcases List.mem_append.mp ho with ho | ho
  ·exact h.bb o ho i ‹1› i2
  ·obtain⟨j,j1,j2,j3,e⟩:=bi ho
   rw [e]
   exact rb j i ‹1› ‹1› i2
theorem dA {a out:Array Keyed}{i:Nat}{x:Keyed} (h:a[i]?=some x):out.push x=out++a.extract i (i+1):=by
 apply Array.ext'
 obtain⟨hi,e⟩:=Array.getElem?_eq_some_iff.mp h
 rw [Array.toList_push,Array.toList_append,bj,List.drop_eq_getElem_cons (by rw [Array.length_toList];exact hi)]
 rw [List.take_succ_cons,List.take_zero,Array.getElem_toList,e]
theorem LoI.fin [Rk] {a b out:Array Keyed} (h:LoI a b out a.size b.size):Mg a b out:=by
 refine⟨?_,h.so⟩
 have:=h.pm
 rwa [List.take_of_length_le (by simp),List.take_of_length_le (by simp)]at this
theorem LoI.done [Rk] {a b out:Array Keyed}{ia ib:Nat} (h:LoI a b out ia ib) (ra:Ris a 0 a.size) (rb:Ris b 0 b.size) (ha:ia<=a.size) (hb:ib=b.size) :
  Mg a b (out++a.extract ia a.size++b.extract ib b.size):=by
 have h1:=(h.takeA (k:=a.size - ia) ra rb λi _ _ _ hh=>by omega).takeB (k:=b.size - ib) ra rb λi _ _ _ hh=>by omega
 rw [show ia+(a.size - ia)=a.size from Nat.add_sub_of_le ‹1›,show ib+(b.size - ib)=b.size from Nat.add_sub_of_le ‹1›]at h1
 exact h1.fin
theorem LoI.lastA [Rk] {a b out:Array Keyed}{ia ib:Nat} (h:LoI a b out ia ib) (ra:Ris a 0 a.size) (rb:Ris b 0 b.size) (ha:ia+1=a.size) (hb:ib<=b.size)
  (hl:∀j,j < b.size->Kr b j<=Kr a (a.size - 1)):Mg a b (out++b.extract ib b.size++a.extract ia a.size):=by
 have h1:=(h.takeB (k:=b.size - ib) ra rb λi _ _ hi _=>by rw [show ia=a.size - 1 by omega];exact hl i hi).takeA (k:=a.size - ia) ra rb λi _ _ _ hh=>by omega
 rw [show ia+(a.size - ia)=a.size from Nat.add_sub_of_le ‹1›,show ib+(b.size - ib)=b.size from Nat.add_sub_of_le ‹1›]at h1
 exact h1.fin
structure HiI [Rk] (a b o:Array Keyed) (na nb:Nat):Prop where
 pm:o.toList.Perm (a.toList.drop na++b.toList.drop nb)
 so:(o.toList.map ky).Pairwise (·<=·)
 ba:∀q∈o.toList,∀i,i < na->i < a.size->Kr a i<=ky q
 bb:∀q∈o.toList,∀j,j < nb->j < b.size->Kr b j<=ky q
theorem dH (l:List Keyed) (i k:Nat):l.drop i=(l.drop i).take k++l.drop (i+k):=by
 rw [<- List.drop_drop,List.take_append_drop]
theorem HiI.takeA [Rk] {a b o:Array Keyed}{na nb i k:Nat} (h:HiI a b o na nb) (e:na=i+k) (ra:Ris a 0 a.size) (rb:Ris b 0 b.size) (hn:nb<=b.size) (hb:∀j,i<=j->j < na->j < a.size->0 < nb->Kr b (nb - 1)<=Kr a j) :
  HiI a b (a.extract i na++o) i nb:=by
 subst e
 refine⟨?_,?_,?_,?_⟩
 ·rw [Array.toList_append,bj]
  refine(List.Perm.append_left _ h.pm).trans ?_
  rw [<- List.append_assoc,<- dH]
 ·rw [Array.toList_append,bj,List.map_append,List.pairwise_append]
  refine⟨gX ra _ _,h.so,λx hx y hy=>?_⟩
  obtain⟨q,hq,rfl⟩:=List.mem_map.mp hx
  obtain⟨p,hp,rfl⟩:=List.mem_map.mp hy
  obtain⟨j,j1,j2,j3,e⟩:=bi hq
  rw [e]
  exact h.ba p hp j j2 j3
 ·intro q hq j j1 j2
  rw [Array.toList_append,bj]at hq
  rcases List.mem_append.mp hq with hq | hq
  ·obtain⟨m,m1,m2,m3,e⟩:=bi hq
   rw [e]
   exact ra j m ‹1› ‹1› m3
  ·exact h.ba q hq j ‹1› j2
 ·intro q hq j j1 j2
  rw [Array.toList_append,bj]at hq
  rcases List.mem_append.mp hq with hq | hq
  ·obtain⟨m,m1,m2,m3,e⟩:=bi hq
   rw [e]
   exact Int.le_trans (rb j (nb - 1) ‹1› ‹1› ‹1›) (hb m m1 m2 m3 ‹1›)
  ·exact h.bb q hq j j1 j2
theorem HiI.takeB [Rk] {a b o:Array Keyed}{na nb i k:Nat} (h:HiI a b o na nb) (e:nb=i+k) (ra:Ris a 0 a.size) (rb:Ris b 0 b.size) (hn:na<=a.size) (hb:∀j,i<=j->j < nb->j < b.size->0 < na->Kr a (na - 1)<=Kr b j) :
  HiI a b (b.extract i nb++o) na i:=by
 subst e
 refine⟨?_,?_,?_,?_⟩
 ·rw [Array.toList_append,bj]
  refine(List.Perm.append_left _ h.pm).trans ?_
  rw [dH b.toList i k,<- List.append_assoc,<- List.append_assoc,<- dH]
  exact List.Perm.append_right _ List.perm_append_comm
 ·rw [Array.toList_append,bj,List.map_append,List.pairwise_append]
  refine⟨gX rb _ _,h.so,λx hx y hy=>?_⟩
  obtain⟨q,hq,rfl⟩:=List.mem_map.mp hx
  obtain⟨p,hp,rfl⟩:=List.mem_map.mp hy
  obtain⟨j,j1,j2,j3,e⟩:=bi hq
  rw [e]
  exact h.bb p hp j j2 j3
 ·intro q hq j j1 j2
  rw [Array.toList_append,bj]at hq
  rcases List.mem_append.mp hq with hq | hq
  ·obtain⟨m,m1,m2,m3,e⟩:=bi hq
   rw [e]
   exact Int.le_trans (ra j (na - 1) ‹1› ‹1› ‹1›) (hb m m1 m2 m3 ‹1›)
  ·exact h.ba q hq j j1 j2
 ·intro q hq j j1 j2
  rw [Array.toList_append,bj]at hq
  rcases List.mem_append.mp hq with hq | hq
  ·obtain⟨m,m1,m2,m3,e⟩:=bi hq
   rw [e]
   exact rb j m ‹1› ‹1› m3
  ·exact h.bb q hq j ‹1› j2
theorem fk {a out:Array Keyed}{i:Nat}{x:Keyed} (h:a[i]?=some x):(out.push x).reverse=a.extract i (i+1)++out.reverse:=by
 rw [dA h,Array.reverse_append]
 congr 1
 apply Array.ext'
 rw [Array.toList_reverse,bj]
 obtain⟨hi,e⟩:=Array.getElem?_eq_some_iff.mp h
 rw [List.drop_eq_getElem_cons (by rw [Array.length_toList];exact hi)]
 rw [List.take_succ_cons,List.take_zero]
 rfl
theorem qZ (out x:Array Keyed):(out++x.reverse).reverse=x++out.reverse:=by
 rw [Array.reverse_append,Array.reverse_reverse]
theorem HiI.fin [Rk] {a b o:Array Keyed} (h:HiI a b o 0 0):Mg a b o:=⟨h.pm,h.so⟩
theorem HiI.done [Rk] {a b o:Array Keyed}{na nb:Nat} (h:HiI a b o na nb) (ra:Ris a 0 a.size) (rb:Ris b 0 b.size) (ha:na=0) (hb:nb<=b.size) :
  Mg a b (a.extract 0 na++b.extract 0 nb++o):=by
 have h1:=(h.takeB (i:=0) (k:=nb) ‹1› ra rb ‹1› λj _ _ _ hh=>by omega).takeA (i:=0) (k:=na) ‹1› ra rb ‹1› λj _ _ _ hh=>by omega
 rw [<- Array.append_assoc]at h1
 exact h1.fin
theorem HiI.firstB [Rk] {a b o:Array Keyed}{na nb:Nat} (h:HiI a b o na nb) (ra:Ris a 0 a.size) (rb:Ris b 0 b.size) (ha:na<=a.size) (hb:nb=1) (hz:0 < b.size)
  (hl:∀j,j < a.size->Kr b 0<=Kr a j):Mg a b (b.extract 0 nb++a.extract 0 na++o):=by
 subst hb
 have h1:=(h.takeA (i:=0) (k:=na) ‹1› ra rb ‹1› λj _ _ hj _=>hl j hj).takeB (i:=0) (k:=1) ‹1› ra rb ‹1› λj _ _ _ hh=>by omega
 rw [<- Array.append_assoc]at h1
 exact h1.fin
noncomputable def loX:Array Keyed->Array Keyed->StateT SortSt Sem (Array Keyed):=sortPriv% PySem.Builtin.mergeLo
noncomputable def hiX:Array Keyed->Array Keyed->StateT SortSt Sem (Array Keyed):=sortPriv% PySem.Builtin.mergeHi
noncomputable def Bt:Nat->StateT SortSt Sem Unit:=sortPriv% PySem.Builtin.setMinGallop
def IK [Rk] (a:Array Keyed):Prop:=∀i,i < a.size->∃t q,a[i]?=some (t,q)/\Rk.rk t=Kr a i/\Rk.ok t
structure SS [Rk] (st u:SortSt):Prop where
 ar:arrOf u=arrOf st
 pd:pendingOf u=pendingOf st
 kd:kindOf u=Rk.kd
 fl:failedOf u=none
section
variable {prog:Program}{w:World}{A:Around}{E:Value->Shared->Prop}{s:Shared} [RkOk prog w A s]
theorem cw {st:SortSt}{arr:Array Keyed}{i:Nat}{x:Keyed}{Q:Keyed->SortSt->Prop} (h:arr[i]?=some x) (q:Q x st):wpS (model prog w) A E s (elem' arr i) Q st:=by
 rw [elem'_eq,h]
 exact wpS_pure q
theorem qW {st u:SortSt}{g:Nat}{Q:Unit->SortSt->Prop} (h:SS st u) (q:∀v,SS st v->Q () v):wpS (model prog w) A E s (Bt g) Q u:=by
 unfold Bt
 k_delta "setMinGallop"
 exact wpS_modify (q _ ⟨h.ar,h.pd,h.kd,h.fl⟩)
theorem AT {st u:SortSt}{arr:Array Keyed}{c:Int}{t:Value}{q:Value}{base n hint:Nat}{Q:Option Nat->SortSt->Prop} (g:SS st u) (hc:Rk.rk t=c/\Rk.ok t) (ik:IK arr) (hn:base+n<=arr.size) (r:Ris arr base (base+n)) (hh:hint < n)
  (h:∀k,k<=n->(∀i,i < k->Kr arr (base+i)<=c)->(∀i,k<=i->i < n->c < Kr arr (base+i))->Q (some k) u) :
  wpS (model prog w) A E s (jm false (t,q) arr base n hint) Q u:=by
 refine jW (λi=>!decide (c < Kr arr (base+i))) hh (λi R hi hr=>?_) (λi j hij hj e=>?_) λk k1 k2 k3=>h k k1 (λi hi=>?_) λi i1 i2=>?_
 ·obtain⟨t2,q2,e,oe⟩:=ik (base+i) ‹1›
  refine wpS_bind (cw e ?_)
  rw [if_neg (by decide)]
  exact wpS_bind (oo g.kd hc oe (wpS_pure hr))
 ·have:=r (base+i) (base+j) ‹1› ‹1› ‹1›
  simp only [Bool.not_eq_true',decide_eq_false_iff_not]at e ⊢
  omega
 ·have:=k2 i hi
  simp only [Bool.not_eq_true',decide_eq_false_iff_not]at this
  omega
 ·have:=k3 i i1 i2
  simpa using this
theorem AS {st u:SortSt}{arr:Array Keyed}{c:Int}{t:Value}{q:Value}{base n hint:Nat}{Q:Option Nat->SortSt->Prop} (g:SS st u) (hc:Rk.rk t=c/\Rk.ok t) (ik:IK arr) (hn:base+n<=arr.size) (r:Ris arr base (base+n)) (hh:hint < n)
  (h:∀k,k<=n->(∀i,i < k->Kr arr (base+i) < c)->(∀i,k<=i->i < n->c<=Kr arr (base+i))->Q (some k) u) :
  wpS (model prog w) A E s (jm true (t,q) arr base n hint) Q u:=by
 refine jW (λi=>decide (Kr arr (base+i) < c)) hh (λi R hi hr=>?_) (λi j hij hj e=>?_) λk k1 k2 k3=>h k k1 (λi hi=>?_) λi i1 i2=>?_
 ·obtain⟨t2,q2,e,oe⟩:=ik (base+i) ‹1›
  refine wpS_bind (cw e ?_)
  rw [if_pos rfl]
  exact oo g.kd oe hc hr
 ·have:=r (base+i) (base+j) ‹1› ‹1› ‹1›
  simp only [decide_eq_true_eq]at e ⊢
  omega
 ·simpa using k2 i hi
 ·have:=k3 i i1 i2
  simp only [decide_eq_false_iff_not]at this
  omega
theorem Ris.sub [Rk] {xs:Array Keyed}{a b c d:Nat} (r:Ris xs a b) (h1:a<=c) (h2:d<=b):Ris xs c d:=λi j x y z=>r i j ‹1› y ‹1›
theorem Ba {a b:Array Keyed}{st u:SortSt}{Q:Array Keyed->SortSt->Prop} (g:SS st u) (ia:IK a) (ib:IK b) (ra:Ris a 0 a.size) (rb:Ris b 0 b.size) (za:0 < a.size) (zb:0 < b.size)
  (hf:∀i,i < a.size->Kr b 0<=Kr a i) (hl:∀j,j < b.size->Kr b j < Kr a (a.size - 1))
  (h:∀out v,SS st v->Mg a b out->Q out v):wpS (model prog w) A E s (loX a b) Q u:=by
 unfold loX
 k_delta "mergeLo"
 dsimp only
 refine wpS_bind (wpS_lift (wpAny_rule ⟨rfl,?_⟩))
 obtain⟨t0,q0,e0,oe0⟩:=ib 0 zb
 refine wpS_bind (cw e0 ?_)
 have L0:LoI a b #[(t0,q0)] 0 1:=by
  have:=(LoI.takeB (a:=a) (b:=b) (out:=#[]) (ia:=0) (ib:=0) (k:=1) ⟨by simp,by simp,by simp,by simp⟩ ra rb λi i1 i2 i3 i4=>by rw [show i=0 by omega];exact hf 0 i4)
  rw [<- dA e0]at this
  exact this
 by_cases b1:1=b.size
 ·rw [if_pos (by simpa using b1)]
  exact wpS_pure (h _ _ g (L0.done ra rb ‹1› b1))
 rw [if_neg (by simpa using b1)]
 by_cases a1:0+1=a.size
 ·rw [if_pos (by simpa using a1)]
  exact wpS_pure (h _ _ g (L0.lastA ra rb a1 ‹1› λj hj=>Int.le_of_lt (hl j hj)))
 rw [if_neg (by simpa using a1)]
 refine wpS_bind (wpS_get ?_)
 refine wpS_bind (wpS_mono (wpS_forRange (I:=λx c v=>SS st v/\∃out i j m,c=(none,out,i,j,m)/\LoI a b out i j/\i+1 < a.size/\j < b.size/\x+1<=i+j)
  (Q:=λc v=>SS st v/\∃r out i j m,c=(some r,out,i,j,m)/\Mg a b r) ?step ?fin ⟨g,_,0,1,_,rfl,L0,by omega,by omega,by omega⟩) ?post)
 case post=>
  rintro c v ⟨g',r,out,i,j,m,rfl,hm⟩
  exact wpS_pure (h r v g' hm)
 case fin=>
  rintro c v ⟨g',out,i,j,m,rfl,L,x1,x2,x3⟩
  exfalso
  omega
 case step=>
  rintro x c v _ xn ⟨g1,out,i,j,m,rfl,L,x1,x2,x3⟩
  dsimp only
  refine wpS_bind (wpS_mono (wpS_forRange (I:=λy c v=>SS st v/\∃out i' j' ac bc,c=(none,out,i',j',ac,bc)/\LoI a b out i' j'/\i'+1 < a.size/\j' < b.size/\i+j+y<=i'+j')
   (Q:=λc v=>SS st v/\∃o out i' j' ac bc,c=(o,out,i',j',ac,bc)/\((∃r,o=some r/\Mg a b r)\/(o=none/\LoI a b out i' j'/\i'+1 < a.size/\j' < b.size/\i+j+1<=i'+j'))) ?step1 ?fin1 ⟨g1,out,i,j,0,0,rfl,L,x1,x2,by omega⟩) ?post1)
  case fin1=>
   rintro c v ⟨g',out,i',j',ac,bc,rfl,L',y1,y2,y3⟩
   exact⟨g',_,out,i',j',ac,bc,rfl,.inr ⟨rfl,L',y1,y2,by omega⟩⟩
  case step1=>
   rintro y c v _ yn ⟨g2,out,i',j',ac,bc,rfl,L',y1,y2,y3⟩
   dsimp only
   obtain⟨tb,qb,eb,oeb⟩:=ib j' y2
   obtain⟨ta,qa,ea,oea⟩:=ia i' ‹1›
   refine wpS_bind (cw eb ?_)
   refine wpS_bind (cw ea ?_)
   refine wpS_bind (oo g2.kd oeb oea ?_)
   by_cases less:Kr b j' < Kr a i'
   ·rw [decide_eq_true less]
    dsimp only
    rw [if_pos rfl]
    refine wpS_bind (cw eb ?_)
    have L2:=L'.takeB (k:=1) ra rb λn n1 n2 n3 n4=>by rw [show n=j' by omega];exact Int.le_of_lt less
    rw [<- dA eb]at L2
    by_cases eb1:j'+1=b.size
    ·rw [if_pos (by simpa using eb1)]
     exact wpS_pure ⟨g2,_,_,_,_,_,_,rfl,.inl ⟨_,rfl,L2.done ra rb ‹1› eb1⟩⟩
    ·rw [if_neg (by simpa using eb1)]
     split
     ·exact wpS_pure ⟨g2,_,_,_,_,_,_,rfl,.inr ⟨rfl,L2,y1,by omega,by omega⟩⟩
     ·exact wpS_pure ⟨g2,_,_,_,_,_,rfl,L2,y1,by omega,by omega⟩
   ·rw [decide_eq_false less]
    dsimp only
    rw [if_neg (by decide)]
    refine wpS_bind (cw ea ?_)
    have L2:=L'.takeA (k:=1) ra rb λn n1 n2 n3 n4=>by rw [show n=i' by omega];omega
    rw [<- dA ea]at L2
    by_cases ea1:i'+1+1=a.size
    ·rw [if_pos (by simpa using ea1)]
     exact wpS_pure ⟨g2,_,_,_,_,_,_,rfl,.inl ⟨_,rfl,L2.lastA ra rb ea1 ‹1› λj hj=>Int.le_of_lt (hl j hj)⟩⟩
    ·rw [if_neg (by simpa using ea1)]
     split
     ·exact wpS_pure ⟨g2,_,_,_,_,_,_,rfl,.inr ⟨rfl,L2,by omega,y2,by omega⟩⟩
     ·exact wpS_pure ⟨g2,_,_,_,_,_,rfl,L2,by omega,y2,by omega⟩
  case post1=>
   rintro c v ⟨g2,o,out,i',j',ac,bc,rfl,(⟨r,rfl,hm⟩ | ⟨rfl,L',y1,y2,y3⟩)⟩
   ·exact wpS_pure ⟨g2,_,_,_,_,_,rfl,hm⟩
   dsimp only
   refine wpS_bind (wpS_lift (wpAny_rule ⟨rfl,?_⟩))
   refine wpS_bind (wpS_mono (wpS_forRange (I:=λy c v=>SS st v/\∃out i' j' mg ac bc,c=(none,out,i',j',mg,ac,bc)/\LoI a b out i' j'/\i'+1 < a.size/\j' < b.size/\i+j+1<=i'+j')
    (Q:=λc v=>SS st v/\∃o out i' j' mg ac bc,c=(o,out,i',j',mg,ac,bc)/\((∃r,o=some r/\Mg a b r)\/(o=none/\LoI a b out i' j'/\i'+1 < a.size/\j' < b.size/\i+j+1<=i'+j'))) ?step2 ?fin2 ⟨g2,out,i',j',_,ac,bc,rfl,L',y1,y2,y3⟩) ?post2)
   case fin2=>
    rintro c v ⟨g',out,i',j',mg,ac,bc,rfl,L',y1,y2,y3⟩
    exact⟨g',_,out,i',j',mg,ac,bc,rfl,.inr ⟨rfl,L',y1,y2,y3⟩⟩
   case post2=>
    rintro c v ⟨g3,o,out,i',j',mg,ac,bc,rfl,(⟨r,rfl,hm⟩ | ⟨rfl,L',y1,y2,y3⟩)⟩
    ·exact wpS_pure ⟨g3,_,_,_,_,_,rfl,hm⟩
    dsimp only
    refine wpS_bind (qW g3 λv2 g4=>?_)
    exact wpS_pure ⟨g4,_,_,_,_,rfl,L',y1,y2,by omega⟩
   case step2=>
    rintro y c v _ yn ⟨g3,out,i',j',mg,ac,bc,rfl,L',y1,y2,y3⟩
    dsimp only
    obtain⟨tb,qb,eb,oeb⟩:=ib j' y2
    refine Decidable.byCases (p:=mg > 1) (λhmg=>?tA) (λhmg=>?tB)
    case' tA=>
     rw [if_pos hmg]
     clear hmg
     generalize mg - 1=mg'
     revert mg'
    case tB=>
     rw [if_neg hmg]
     exact ?tA mg
    case tA=>
     intro mg'
     refine wpS_bind (qW g3 λv2 g4=>?_)
     refine wpS_bind (cw eb ?_)
     refine wpS_bind (AT g4 oeb ia ‹1› (ra.sub ‹1› ‹1›) ‹1› λk k1 k2 k3=>?_)
     dsimp only
     have kz:i'+k < a.size:=by
      apply Classical.byContradiction
      intro hk
      have e1:=k2 (a.size - 1 - i') ‹1›
      rw [show i'+(a.size - 1 - i')=a.size - 1 from Nat.add_sub_of_le ‹1›]at e1
      have e2:=hl j' y2
      omega
     have kl:Kr b j' < Kr a (i'+k):=k3 k (Nat.le_refl _) ‹1›
     have L2:=L'.takeA (k:=k) ra rb λn n1 n2 n3 n4=>by
      have:=k2 (n - i') ‹1›
      rwa [show i'+(n - i')=n from Nat.add_sub_of_le ‹1›]at this
     refine Decidable.byCases (p:=k > 0) (λhk=>?uA) (λhk=>?uB)
     case' uA=>
      rw [if_pos hk]
      by_cases ea1:i'+k+1=a.size
      ·rw [if_pos (by simpa using ea1)]
       exact wpS_pure ⟨g4,_,_,_,_,_,_,_,rfl,.inl ⟨_,rfl,L2.lastA ra rb ea1 ‹1› λj hj=>Int.le_of_lt (hl j hj)⟩⟩
      rw [if_neg (by simpa using ea1),if_neg (by simp only [beq_iff_eq];omega)]
      have I1:i'+k+1 < a.size:=by omega
      have I2:i+j+1<=i'+k+j':=by omega
      clear ea1 hk kz
      revert L2 kl I1 I2
      generalize out++a.extract i' (i'+k)=O
      generalize i'+k=I
      clear k1 k2 k3
      revert O I
      skip
     case uB=>
      rw [if_neg hk]
      have e:k=0:=by omega
      rw [e,Nat.add_zero]at kl
      exact ?uA out i' kl L' y1 y3
     case uA=>
      intro O I kl L2 I1 I2
      refine wpS_bind (cw eb ?_)
      have L3:=L2.takeB (k:=1) ra rb λn n1 n2 n3 n4=>by rw [show n=j' by omega];exact Int.le_of_lt kl
      by_cases eb1:j'+1=b.size
      ·rw [if_pos (by simpa using eb1)]
       rw [<- dA eb]at L3
       exact wpS_pure ⟨g4,_,_,_,_,_,_,_,rfl,.inl ⟨_,rfl,L3.done ra rb ‹1› eb1⟩⟩
      rw [if_neg (by simpa using eb1)]
      rw [<- dA eb]at L3
      obtain⟨ta,qa,ea,oea⟩:=ia I ‹1›
      refine wpS_bind (cw ea ?_)
      refine wpS_bind (AS g4 oea ib ‹1› (rb.sub ‹1› ‹1›) ‹1› λm m1 m2 m3=>?_)
      dsimp only
      have L4:=L3.takeB (k:=m) ra rb λn n1 n2 n3 n4=>by
       have:=m2 (n - (j'+1)) ‹1›
       rw [show j'+1+(n - (j'+1))=n from Nat.add_sub_of_le ‹1›]at this
       exact Int.le_of_lt this
      refine Decidable.byCases (p:=m > 0) (λhm=>?vA) (λhm=>?vB)
      case' vA=>
       rw [if_pos hm]
       by_cases eb2:j'+1+m=b.size
       ·rw [if_pos (by simpa using eb2)]
        exact wpS_pure ⟨g4,_,_,_,_,_,_,_,rfl,.inl ⟨_,rfl,L4.done ra rb ‹1› eb2⟩⟩
       rw [if_neg (by simpa using eb2)]
       have L5:=L4.takeA (k:=1) ra rb λn n1 n2 n3 n4=>by
        rw [show n=I by omega];exact m3 m (Nat.le_refl _) ‹1›
       have J1:j'+1+m < b.size:=by omega
       have J2:i+j+1<=I+1+(j'+1+m):=by omega
       clear eb2 hm L4
       revert L5 J1 J2
       generalize O.push (tb,qb)++b.extract (j'+1) (j'+1+m)=O2
       generalize j'+1+m=J
       revert O2 J
      case vB=>
       rw [if_neg hm]
       have L5:=L3.takeA (k:=1) ra rb λn n1 n2 n3 n4=>by
        rw [show n=I by omega];exact m3 0 ‹1› ‹1›
       exact ?vA _ (j'+1) L5 ‹1› ‹1›
      case vA=>
       intro O2 J L5 J1 J2
       refine wpS_bind (cw ea ?_)
       rw [<- dA ea]at L5
       by_cases ea2:I+1+1=a.size
       ·rw [if_pos (by simpa using ea2)]
        exact wpS_pure ⟨g4,_,_,_,_,_,_,_,rfl,.inl ⟨_,rfl,L5.lastA ra rb ea2 (Nat.le_of_lt J1) λj hj=>Int.le_of_lt (hl j hj)⟩⟩
       rw [if_neg (by simpa using ea2)]
       split
       ·exact wpS_pure ⟨g4,_,_,_,_,_,_,_,rfl,.inr ⟨rfl,L5,by omega,J1,J2⟩⟩
       ·exact wpS_pure ⟨g4,_,_,_,_,_,_,rfl,L5,by omega,J1,J2⟩
end
section
variable {prog:Program}{w:World}{A:Around}{E:Value->Shared->Prop}{s:Shared} [RkOk prog w A s]
theorem Bb {a b:Array Keyed}{st u:SortSt}{Q:Array Keyed->SortSt->Prop} (g:SS st u) (ia:IK a) (ib:IK b) (ra:Ris a 0 a.size) (rb:Ris b 0 b.size) (za:0 < a.size) (zb:0 < b.size)
  (hf:∀i,i < a.size->Kr b 0 < Kr a i) (hl:∀j,j < b.size->Kr b j < Kr a (a.size - 1))
  (h:∀out v,SS st v->Mg a b out->Q out v):wpS (model prog w) A E s (hiX a b) Q u:=by
 unfold hiX
 k_delta "mergeHi"
 dsimp only
 refine wpS_bind (wpS_lift (wpAny_rule ⟨rfl,?_⟩))
 obtain⟨t0,q0,e0,oe0⟩:=ia (a.size - 1) ‹1›
 refine wpS_bind (cw e0 ?_)
 have hf':∀j,j < a.size->Kr b 0<=Kr a j:=λj hj=>Int.le_of_lt (hf j hj)
 have L0:HiI a b (Array.reverse #[(t0,q0)]) (a.size - 1) b.size:=by
  have:=(HiI.takeA (a:=a) (b:=b) (o:=(#[]:Array Keyed).reverse) (na:=a.size) (nb:=b.size) (i:=a.size - 1) (k:=1) ⟨by simp,by simp,by simp,by simp⟩ ‹1› ra rb ‹1› λj i1 i2 i3 i4=>by rw [show j=a.size - 1 by omega];exact Int.le_of_lt (hl _ ‹1›))
  have e1:=fk (out:=#[]) e0
  rw [show a.size - 1+1=a.size by omega]at e1
  rw [<- e1]at this
  exact this
 by_cases a1:a.size - 1=0
 ·rw [if_pos (by simpa using a1)]
  exact wpS_pure (h _ _ g (L0.done ra rb a1 ‹1›))
 rw [if_neg (by simpa using a1)]
 by_cases b1:b.size=1
 ·rw [if_pos (by simpa using b1)]
  exact wpS_pure (h _ _ g (L0.firstB ra rb ‹1› b1 zb hf'))
 rw [if_neg (by simpa using b1)]
 refine wpS_bind (wpS_get ?_)
 refine wpS_bind (wpS_mono (wpS_forRange (I:=λx c v=>SS st v/\∃i j out m,c=(none,i,j,out,m)/\HiI a b out.reverse i j/\0 < i/\i<=a.size/\1 < j/\j<=b.size/\i+j+x+1<=a.size+b.size)
  (Q:=λc v=>SS st v/\∃r i j out m,c=(some r,i,j,out,m)/\Mg a b r) ?step ?fin ⟨g,_,_,_,_,rfl,L0,by omega,by omega,by omega,by omega,by omega⟩) ?post)
 case post=>
  rintro c v ⟨g',r,i,j,out,m,rfl,hm⟩
  exact wpS_pure (h r v g' hm)
 case fin=>
  rintro c v ⟨g',i,j,out,m,rfl,L,x1,x2,x3,x4,x5⟩
  exfalso
  omega
 case step=>
  rintro x c v _ xn ⟨g1,i,j,out,m,rfl,L,x1,x2,x3,x4,x5⟩
  dsimp only
  refine wpS_bind (wpS_mono (wpS_forRange (I:=λy c v=>SS st v/\∃i' j' out ac bc,c=(none,i',j',out,ac,bc)/\HiI a b out.reverse i' j'/\0 < i'/\i'<=a.size/\1 < j'/\j'<=b.size/\i'+j'+y<=i+j)
   (Q:=λc v=>SS st v/\∃o i' j' out ac bc,c=(o,i',j',out,ac,bc)/\((∃r,o=some r/\Mg a b r)\/(o=none/\HiI a b out.reverse i' j'/\0 < i'/\i'<=a.size/\1 < j'/\j'<=b.size/\i'+j'+1<=i+j))) ?step1 ?fin1 ⟨g1,i,j,out,0,0,rfl,L,x1,x2,x3,x4,by omega⟩) ?post1)
  case fin1=>
   rintro c v ⟨g',i',j',out,ac,bc,rfl,L',y1,y2,y3,y4,y5⟩
   exact⟨g',_,i',j',out,ac,bc,rfl,.inr ⟨rfl,L',y1,y2,y3,y4,by omega⟩⟩
  case step1=>
   rintro y c v _ yn ⟨g2,i',j',out,ac,bc,rfl,L',y1,y2,y3,y4,y5⟩
   dsimp only
   obtain⟨tb,qb,eb,oeb⟩:=ib (j' - 1) ‹1›
   obtain⟨ta,qa,ea,oea⟩:=ia (i' - 1) ‹1›
   refine wpS_bind (cw eb ?_)
   refine wpS_bind (cw ea ?_)
   refine wpS_bind (oo g2.kd oeb oea ?_)
   by_cases less:Kr b (j' - 1) < Kr a (i' - 1)
   ·rw [decide_eq_true less]
    dsimp only
    rw [if_pos rfl]
    refine wpS_bind (cw ea ?_)
    have L2:=L'.takeA (i:=i' - 1) (k:=1) ‹1› ra rb y4 λn n1 n2 n3 n4=>by rw [show n=i' - 1 by omega];exact Int.le_of_lt less
    have e1:=fk (out:=out) ea
    rw [show i' - 1+1=i' by omega]at e1
    rw [<- e1]at L2
    by_cases ea1:i' - 1=0
    ·rw [if_pos (by simpa using ea1)]
     exact wpS_pure ⟨g2,_,_,_,_,_,_,rfl,.inl ⟨_,rfl,L2.done ra rb ea1 y4⟩⟩
    ·rw [if_neg (by simpa using ea1)]
     split
     ·exact wpS_pure ⟨g2,_,_,_,_,_,_,rfl,.inr ⟨rfl,L2,by omega,by omega,y3,y4,by omega⟩⟩
     ·exact wpS_pure ⟨g2,_,_,_,_,_,rfl,L2,by omega,by omega,y3,y4,by omega⟩
   ·rw [decide_eq_false less]
    dsimp only
    rw [if_neg (by decide)]
    refine wpS_bind (cw eb ?_)
    have L2:=L'.takeB (i:=j' - 1) (k:=1) ‹1› ra rb y2 λn n1 n2 n3 n4=>by rw [show n=j' - 1 by omega];omega
    have e1:=fk (out:=out) eb
    rw [show j' - 1+1=j' by omega]at e1
    rw [<- e1]at L2
    by_cases eb1:j' - 1=1
    ·rw [if_pos (by simpa using eb1)]
     exact wpS_pure ⟨g2,_,_,_,_,_,_,rfl,.inl ⟨_,rfl,L2.firstB ra rb y2 eb1 zb hf'⟩⟩
    ·rw [if_neg (by simpa using eb1)]
     split
     ·exact wpS_pure ⟨g2,_,_,_,_,_,_,rfl,.inr ⟨rfl,L2,y1,y2,by omega,by omega,by omega⟩⟩
     ·exact wpS_pure ⟨g2,_,_,_,_,_,rfl,L2,y1,y2,by omega,by omega,by omega⟩
  case post1=>
   rintro c v ⟨g2,o,i',j',out,ac,bc,rfl,(⟨r,rfl,hm⟩ | ⟨rfl,L',y1,y2,y3,y4,y5⟩)⟩
   ·exact wpS_pure ⟨g2,_,_,_,_,_,rfl,hm⟩
   dsimp only
   refine wpS_bind (wpS_lift (wpAny_rule ⟨rfl,?_⟩))
   refine wpS_bind (wpS_mono (wpS_forRange (I:=λy c v=>SS st v/\∃i' j' out mg ac bc,c=(none,i',j',out,mg,ac,bc)/\HiI a b out.reverse i' j'/\0 < i'/\i'<=a.size/\1 < j'/\j'<=b.size/\i'+j'+1<=i+j)
    (Q:=λc v=>SS st v/\∃o i' j' out mg ac bc,c=(o,i',j',out,mg,ac,bc)/\((∃r,o=some r/\Mg a b r)\/(o=none/\HiI a b out.reverse i' j'/\0 < i'/\i'<=a.size/\1 < j'/\j'<=b.size/\i'+j'+1<=i+j))) ?step2 ?fin2 ⟨g2,i',j',out,_,ac,bc,rfl,L',y1,y2,y3,y4,y5⟩) ?post2)
   case fin2=>
    rintro c v ⟨g',i',j',out,mg,ac,bc,rfl,L',y1,y2,y3,y4,y5⟩
    exact⟨g',_,i',j',out,mg,ac,bc,rfl,.inr ⟨rfl,L',y1,y2,y3,y4,y5⟩⟩
   case post2=>
    rintro c v ⟨g3,o,i',j',out,mg,ac,bc,rfl,(⟨r,rfl,hm⟩ | ⟨rfl,L',y1,y2,y3,y4,y5⟩)⟩
    ·exact wpS_pure ⟨g3,_,_,_,_,_,rfl,hm⟩
    dsimp only
    refine wpS_bind (qW g3 λv2 g4=>?_)
    exact wpS_pure ⟨g4,_,_,_,_,rfl,L',y1,y2,y3,y4,by omega⟩
   case step2=>
    rintro y c v _ yn ⟨g3,i',j',out,mg,ac,bc,rfl,L',y1,y2,y3,y4,y5⟩
    dsimp only
    obtain⟨tb,qb,eb,oeb⟩:=ib (j' - 1) ‹1›
    refine Decidable.byCases (p:=mg > 1) (λhmg=>?tA) (λhmg=>?tB)
    case' tA=>
     rw [if_pos hmg]
     clear hmg
     generalize mg - 1=mg'
     revert mg'
    case tB=>
     rw [if_neg hmg]
     exact ?tA mg
    case tA=>
     intro mg'
     refine wpS_bind (qW g3 λv2 g4=>?_)
     refine wpS_bind (cw eb ?_)
     refine wpS_bind (AT g4 oeb ia ‹1› (ra.sub ‹1› ‹1›) ‹1› λk k1 k2 k3=>?_)
     dsimp only
     simp only [Nat.zero_add]at k2 k3
     have kl:0 < k->Kr a (k - 1)<=Kr b (j' - 1):=λhk=>k2 (k - 1) ‹1›
     have L2:=L'.takeA (i:=k) (k:=i' - k) ‹1› ra rb y4 λn n1 n2 n3 n4=>Int.le_of_lt (k3 n n1 n2)
     rw [<- qZ]at L2
     refine Decidable.byCases (p:=i' - k > 0) (λhk=>?uA) (λhk=>?uB)
     case' uA=>
      rw [if_pos hk]
      by_cases ea1:k=0
      ·rw [if_pos (by simpa using ea1)]
       exact wpS_pure ⟨g4,_,_,_,_,_,_,_,rfl,.inl ⟨_,rfl,L2.done ra rb ea1 y4⟩⟩
      rw [if_neg (by simpa using ea1)]
      have kl1:=kl ‹1›
      have I1:0 < k:=by omega
      have I2:k<=a.size:=by omega
      have I3:k+j'+1<=i+j:=by omega
      clear ea1 hk
      revert L2 kl1 I1 I2 I3
      generalize out++(a.extract k i').reverse=O
      generalize i' - k=ct
      generalize k=I
      revert O ct I
     case uB=>
      rw [if_neg hk]
      have e:k=i':=by omega
      have kl1:=kl ‹1›
      rw [e]at kl1
      exact ?uA out _ i' L' kl1 y1 y2 y5
     case uA=>
      intro O ct I L2 kl I1 I2 I3
      refine wpS_bind (cw eb ?_)
      have L3:=L2.takeB (i:=j' - 1) (k:=1) ‹1› ra rb I2 λn n1 n2 n3 n4=>by rw [show n=j' - 1 by omega];exact kl
      have e1:=fk (out:=O) eb
      rw [show j' - 1+1=j' by omega]at e1
      rw [<- e1]at L3
      by_cases eb1:j' - 1=1
      ·rw [if_pos (by simpa using eb1)]
       exact wpS_pure ⟨g4,_,_,_,_,_,_,_,rfl,.inl ⟨_,rfl,L3.firstB ra rb I2 eb1 zb hf'⟩⟩
      rw [if_neg (by simpa using eb1)]
      obtain⟨ta,qa,ea,oea⟩:=ia (I - 1) ‹1›
      refine wpS_bind (cw ea ?_)
      refine wpS_bind (AS g4 oea ib ‹1› (rb.sub ‹1› ‹1›) ‹1› λm m1 m2 m3=>?_)
      dsimp only
      simp only [Nat.zero_add]at m2 m3
      have mz:0 < m:=by
       apply Classical.byContradiction
       intro hm
       have:=m3 0 ‹1› ‹1›
       have:=hf (I - 1) ‹1›
       omega
      have L4:=L3.takeB (i:=m) (k:=j' - 1 - m) ‹1› ra rb I2 λn n1 n2 n3 n4=>m3 n n1 n2
      rw [<- qZ]at L4
      refine Decidable.byCases (p:=j' - 1 - m > 0) (λhm=>?vA) (λhm=>?vB)
      case' vA=>
       rw [if_pos hm]
       by_cases eb2:m=1
       ·rw [if_pos (by simpa using eb2)]
        exact wpS_pure ⟨g4,_,_,_,_,_,_,_,rfl,.inl ⟨_,rfl,L4.firstB ra rb I2 eb2 zb hf'⟩⟩
       rw [if_neg (by simpa using eb2),if_neg (by simp only [beq_iff_eq];omega)]
       have L5:=L4.takeA (i:=I - 1) (k:=1) ‹1› ra rb ‹1› λn n1 n2 n3 n4=>by
        rw [show n=I - 1 by omega];exact Int.le_of_lt (m2 (m - 1) ‹1›)
       have J1:1 < m:=by omega
       have J2:m<=b.size:=by omega
       have J3:I - 1+m+1<=i+j:=by omega
       clear eb2 hm
       revert L5 J1 J2 J3
       generalize O.push (tb,qb)++(b.extract m (j' - 1)).reverse=O2
       generalize j' - 1 - m=ct2
       generalize m=M
       revert O2 ct2 M
      case vB=>
       rw [if_neg hm]
       have L5:=L3.takeA (i:=I - 1) (k:=1) ‹1› ra rb ‹1› λn n1 n2 n3 n4=>by
        rw [show n=I - 1 by omega]
        have:=m2 (j' - 1 - 1) ‹1›
        exact Int.le_of_lt this
       exact ?vA _ _ (j' - 1) L5 ‹1› ‹1› ‹1›
      case vA=>
       intro O2 ct2 M L5 J1 J2 J3
       refine wpS_bind (cw ea ?_)
       have e3:=fk (out:=O2) ea
       rw [show I - 1+1=I by omega]at e3
       rw [<- e3]at L5
       by_cases ea2:I - 1=0
       ·rw [if_pos (by simpa using ea2)]
        exact wpS_pure ⟨g4,_,_,_,_,_,_,_,rfl,.inl ⟨_,rfl,L5.done ra rb ea2 J2⟩⟩
       rw [if_neg (by simpa using ea2)]
       split
       ·exact wpS_pure ⟨g4,_,_,_,_,_,_,_,rfl,.inr ⟨rfl,L5,by omega,by omega,J1,J2,by omega⟩⟩
       ·exact wpS_pure ⟨g4,_,_,_,_,_,_,rfl,L5,by omega,by omega,J1,J2,by omega⟩
end
theorem mE [Rk] {xs:Array Keyed}{a n:Nat} (h:a+n<=xs.size):Ris xs a (a+n)↔(((xs.toList.drop a).take n).map ky).Pairwise (·<=·):=by
 rw [List.pairwise_iff_getElem]
 have hk:∀i (hi:i < (((xs.toList.drop a).take n).map ky).length),(((xs.toList.drop a).take n).map ky)[i]=Kr xs (a+i):=by
  intro i hi
  rw [List.length_map,List.length_take,List.length_drop,Array.length_toList]at hi
  rw [List.getElem_map,List.getElem_take,List.getElem_drop,yF (getElem?_pos xs (a+i) ‹1›)]
  rfl
 constructor
 ·intro r i j hi hj hij
  rw [hk i hi,hk j hj]
  rw [List.length_map,List.length_take,List.length_drop,Array.length_toList]at hi hj
  exact r _ _ ‹1› ‹1› ‹1›
 ·intro r i j h1 h2 h3
  by_cases e:i=j
  ·rw [e];exact Int.le_refl _
  ·have hl:(((xs.toList.drop a).take n).map ky).length=n:=by
    rw [List.length_map,List.length_take,List.length_drop,Array.length_toList];omega
   have:=r (i - a) (j - a) ‹1› ‹1› ‹1›
   rw [hk,hk,show a+(i - a)=i from Nat.add_sub_of_le ‹1›,show a+(j - a)=j from Nat.add_sub_of_le ‹1›]at this
   exact this
theorem oI (base:Nat):∀(l:List Keyed) (n:Nat) (xs:Array Keyed),base+n+l.length<=xs.size->
  ((l.zipIdx n).foldl (λa x=>a.setIfInBounds (base+x.snd) x.fst) xs).toList=xs.toList.take (base+n)++l++xs.toList.drop (base+n+l.length)
 | [],n,xs,h=>by simp
 | x::l,n,xs,h=>by
  rw [List.length_cons]at h
  rw [List.zipIdx_cons,List.foldl_cons,oI base l (n+1) _ (by rw [Array.size_setIfInBounds];omega)]
  dsimp only
  rw [Array.toList_setIfInBounds,List.length_cons]
  have e1:(xs.toList.set (base+n) x).take (base+(n+1))=xs.toList.take (base+n)++[x]:=by
   apply List.ext_getElem?
   intro i
   rw [List.getElem?_take,List.getElem?_set,List.getElem?_append,List.getElem?_take]
   have hl:(xs.toList.take (base+n)).length=base+n:=by rw [List.length_take,Array.length_toList];exact Nat.min_eq_left ‹1›
   rw [hl]
   by_cases c1:i < base+n
   ·rw [if_pos ‹1›,if_neg ‹1›,if_pos c1,if_pos c1]
   ·by_cases c2:i=base+n
    ·subst c2
     rw [if_pos ‹1›,if_pos rfl,if_neg c1,Nat.sub_self,if_pos (by rw [Array.length_toList];omega)]
     rfl
    ·rw [if_neg ‹1›,if_neg c1]
     obtain⟨d,hd⟩:∃d,i - (base+n)=d+1:=⟨i - (base+n) - 1,by omega⟩
     rw [hd]
     simp
  have e2:(xs.toList.set (base+n) x).drop (base+(n+1)+l.length)=xs.toList.drop (base+n+(l.length+1)):=by
   rw [List.drop_set_of_lt ‹1›]
   congr 1
   omega
  rw [e1,e2]
  simp
theorem rC {xs:Array Keyed}{a b i:Nat} (hb:b<=xs.size) (hi:i < b - a):(xs.extract a b)[i]?=xs[a+i]?:=by
 rw [Array.getElem?_extract,if_pos (by rw [Nat.min_eq_left hb];exact hi)]
theorem kD [Rk] {xs:Array Keyed}{a b i:Nat} (hb:b<=xs.size) (hi:i < b - a):Kr (xs.extract a b) i=Kr xs (a+i):=dN (rC hb hi)
theorem ig {xs:Array Keyed}{a b:Nat} (hb:b<=xs.size):(xs.extract a b).size=b - a:=by
 rw [Array.size_extract,Nat.min_eq_left hb]
theorem mS [Rk] {xs:Array Keyed}{a b:Nat} (ik:IK xs) (hb:b<=xs.size):IK (xs.extract a b):=by
 intro i hi
 rw [ig hb]at hi
 obtain⟨t,q,e,oe⟩:=ik (a+i) ‹1›
 exact⟨t,q,by rw [rC hb hi];exact e,by rw [kD hb hi];exact oe⟩
theorem ja [Rk] {xs:Array Keyed}{a b:Nat} (r:Ris xs a b) (hb:b<=xs.size):Ris (xs.extract a b) 0 (xs.extract a b).size:=by
 intro i j h1 h2 h3
 rw [ig hb]at h3
 rw [kD hb ‹1›,kD hb h3]
 exact r _ _ ‹1› ‹1› ‹1›
theorem qr (L:List Keyed){i j k:Nat} (h1:i<=j) (h2:j<=k):L=L.take i++((L.drop i).take (j - i)++(L.drop j).take (k - j))++L.drop k:=by
 have e1:L.drop i=(L.drop i).take (j - i)++L.drop j:=by
  have:=dH L i (j - i)
  rwa [show i+(j - i)=j from Nat.add_sub_of_le ‹1›]at this
 have e2:L.drop j=(L.drop j).take (k - j)++L.drop k:=by
  have:=dH L j (k - j)
  rwa [show j+(k - j)=k from Nat.add_sub_of_le ‹1›]at this
 calc L=L.take i++L.drop i:=(List.take_append_drop i L).symm
  _=L.take i++((L.drop i).take (j - i)++((L.drop j).take (k - j)++L.drop k)):=by rw [<- e2,<- e1]
  _=_:=by simp only [List.append_assoc]
theorem sO [Rk] {xs ys:Array Keyed}{M:Array Keyed}{sa sb na nb i k:Nat} (h1:sa<=i) (h2:i<=sb) (h3:sb<=k) (h4:k<=sb+nb) (h5:sb=sa+na) (hz:sb+nb<=xs.size)
  (m:Mg (xs.extract i sb) (xs.extract sb k) M) (e:ys.toList=xs.toList.take i++M.toList++xs.toList.drop k)
  (ra:Ris xs sa sb) (rb:Ris xs sb (sb+nb)) (lo:∀j,sa<=j->j < i->∀j',sb<=j'->j' < sb+nb->Kr xs j<=Kr xs j') (hi:∀j,sa<=j->j < sb->∀j',k<=j'->j' < sb+nb->Kr xs j<=Kr xs j') :
  ys.Perm xs/\Ris ys sa (sb+nb)/\(∀j,j < sa\/sb+nb<=j->Kr ys j=Kr xs j):=by
 have ex:(xs.extract i sb).toList=(xs.toList.drop i).take (sb - i):=by
  have:=bj xs i (sb - i)
  rwa [show i+(sb - i)=sb from Nat.add_sub_of_le ‹1›]at this
 have ey:(xs.extract sb k).toList=(xs.toList.drop sb).take (k - sb):=by
  have:=bj xs sb (k - sb)
  rwa [show sb+(k - sb)=k from Nat.add_sub_of_le ‹1›]at this
 have mp:=m.pm
 rw [ex,ey]at mp
 have ml:M.toList.length=k - i:=by
  rw [mp.length_eq,List.length_append,List.length_take,List.length_take,List.length_drop,List.length_drop,Array.length_toList,Nat.min_eq_left ‹1›,Nat.min_eq_left ‹1›]
  omega
 have pm:ys.toList.Perm xs.toList:=by
  rw [e]
  conv=>rhs;rw [qr xs.toList h2 h3]
  exact(mp.append_left _).append_right _
 have ysz:ys.size=xs.size:=by rw [<- Array.length_toList,<- Array.length_toList];exact pm.length_eq
 refine⟨Array.perm_iff_toList_perm.mpr pm,?_,?_⟩
 ·rw [show sb+nb=sa+(na+nb) by omega,mE ‹1›]
  have el:(ys.toList.drop sa).take (na+nb)=(xs.toList.drop sa).take (i - sa)++(M.toList++(xs.toList.drop k).take (sb+nb - k)):=by
   rw [e,List.append_assoc,List.drop_append,List.take_append]
   have z:(xs.toList.take i).length=i:=by rw [List.length_take,Array.length_toList];exact Nat.min_eq_left ‹1›
   rw [z,show sa - i=0 by omega,List.drop_zero,List.drop_take,List.take_take]
   rw [List.length_take,List.length_drop,Array.length_toList,Nat.min_eq_right (show i - sa<=na+nb by omega),Nat.min_eq_left (show i - sa<=xs.size - sa by omega)]
   congr 1
   rw [List.take_append,ml]
   rw [List.take_of_length_le ‹1›,Nat.sub_sub,show i - sa+(k - i)=k - sa by omega,show na+nb - (k - sa)=sb+nb - k by rw [h5];omega]
  have mem:∀q∈M.toList,(∃j,i<=j/\j < sb/\ky q=Kr xs j)\/(∃j,sb<=j/\j < k/\ky q=Kr xs j):=by
   intro q hq
   rcases List.mem_append.mp (mp.mem_iff.mp hq) with hq | hq
   ·obtain⟨j,j1,j2,j3,e⟩:=bi hq
    exact .inl ⟨j,j1,by omega,e⟩
   ·obtain⟨j,j1,j2,j3,e⟩:=bi hq
    exact .inr ⟨j,j1,by omega,e⟩
  rw [el,List.map_append,List.map_append,List.pairwise_append,List.pairwise_append]
  refine⟨(mE ‹1›).mp (ra.sub (Nat.le_refl _) ‹1›),⟨m.so,?_,?_⟩,?_⟩
  ·exact(mE ‹1›).mp (rb.sub h3 ‹1›)
  ·intro x hx y hy
   obtain⟨q,hq,rfl⟩:=List.mem_map.mp hx
   obtain⟨p,hp,rfl⟩:=List.mem_map.mp hy
   obtain⟨j',a1,a2,a3,e'⟩:=bi hp
   rw [e']
   rcases mem q hq with⟨j,j1,j2,e⟩ | ⟨j,j1,j2,e⟩
   ·rw [e];exact hi j ‹1› j2 j' a1 ‹1›
   ·rw [e];exact rb j j' j1 ‹1› ‹1›
  ·intro x hx y hy
   obtain⟨q,hq,rfl⟩:=List.mem_map.mp hx
   rw [<- List.map_append]at hy
   obtain⟨p,hp,rfl⟩:=List.mem_map.mp hy
   obtain⟨j,j1,j2,j3,e⟩:=bi hq
   rw [e]
   rcases List.mem_append.mp hp with hp | hp
   ·rcases mem p hp with⟨j',a1,a2,e'⟩ | ⟨j',a1,a2,e'⟩
    ·rw [e'];exact ra j j' j1 ‹1› a2
    ·rw [e'];exact lo j j1 ‹1› j' a1 ‹1›
   ·obtain⟨j',a1,a2,a3,e'⟩:=bi hp
    rw [e'];exact lo j j1 ‹1› j' ‹1› ‹1›
 ·intro j hj
  apply dN
  rw [<- Array.getElem?_toList,<- Array.getElem?_toList,e]
  rcases hj with hj | hj
  ·rw [List.append_assoc,List.getElem?_append_left (by rw [List.length_take,Array.length_toList,Nat.min_eq_left ‹1›];omega),List.getElem?_take,if_pos ‹1›]
  ·rw [List.getElem?_append_right (by rw [List.length_append,List.length_take,Array.length_toList,ml,Nat.min_eq_left ‹1›];omega),List.length_append,List.length_take,Array.length_toList,ml,List.getElem?_drop,Nat.min_eq_left (show i<=xs.size by omega)]
   congr 1
   omega
section
variable {prog:Program}{w:World}{A:Around}{E:Value->Shared->Prop}{s:Shared} [RkOk prog w A s] {a₀:Array Keyed}{p:Array (Nat × Nat × Nat)}
theorem Bd {σ:Type}{st x:σ}{Q:PUnit->σ->Prop} (h:Q ⟨⟩ x):wpS (model prog w) A E s (set x:StateT σ Sem PUnit) Q st:=by
 unfold wpS;rw [StateT.run_set];exact zP0 ⟨rfl,h⟩
theorem Bc {st:SortSt}{i sa na sb nb w1 w2:Nat}{Q:Bool->SortSt->Prop} (h0:dL a₀) (g:SG a₀ p st) (e1:p[i]?=some (sa,na,w1)) (e2:p[i+1]?=some (sb,nb,w2))
  (h5:sb=sa+na) (hz:sb+nb<=a₀.size) (za:0 < na) (zb:0 < nb) (ra:Ris (arrOf st) sa sb) (rb:Ris (arrOf st) sb (sb+nb))
  (h:∀v,SG a₀ ((p.setIfInBounds i (sa,na+nb,w1)).eraseIdxIfInBounds (i+1)) v->Ris (arrOf v) sa (sb+nb)->(∀j,j < sa\/sb+nb<=j->Kr (arrOf v) j=Kr (arrOf st) j)->Q true v) :
  wpS (model prog w) A E s (mergeAt' i) Q st:=by
 unfold mergeAt'
 k_delta "mergeAt"
 dsimp only
 refine wpS_bind (wpS_get ?_)
 have hp:=g.pd
 have sz:=g.sz
 have ik:IK (arrOf st):=λj hj=>g.get h0 ‹1›
 obtain⟨tb,qb,eb,oeb⟩:=ik sb ‹1›
 obtain⟨ta,qa,ea,oea⟩:=ik (sb - 1) ‹1›
 have o1:(pendingOf st)[i]?=some (sa,na,w1):=by rw [hp];exact e1
 have o2:(pendingOf st)[i+1]?=some (sb,nb,w2):=by rw [hp];exact e2
 show wpS _ _ _ _ (match ((pendingOf st)[i]?,(pendingOf st)[i+1]?) with | (some (sa,na,power),some (sb,nb,snd))=>_ | _=>_) _ _
 rw [o1,o2]
 dsimp only
 refine wpS_bind (Bd ?_)
 have hp2:((pendingOf st).setIfInBounds i (sa,na+nb,w1)).eraseIdxIfInBounds (i+1)=(p.setIfInBounds i (sa,na+nb,w1)).eraseIdxIfInBounds (i+1):=by rw [hp]
 have g2:SG a₀ ((p.setIfInBounds i (sa,na+nb,w1)).eraseIdxIfInBounds (i+1)) (SortSt.mk' (kindOf st) (arrOf st) (((pendingOf st).setIfInBounds i (sa,na+nb,w1)).eraseIdxIfInBounds (i+1)) (gallopOf st) (failedOf st)):=⟨g.pm,g.kd,g.fl,hp2⟩
 have s2:SS (SortSt.mk' (kindOf st) (arrOf st) (((pendingOf st).setIfInBounds i (sa,na+nb,w1)).eraseIdxIfInBounds (i+1)) (gallopOf st) (failedOf st)) (SortSt.mk' (kindOf st) (arrOf st) (((pendingOf st).setIfInBounds i (sa,na+nb,w1)).eraseIdxIfInBounds (i+1)) (gallopOf st) (failedOf st)):=⟨rfl,rfl,g.kd,g.fl⟩
 refine wpS_bind (cw eb ?_)
 refine wpS_bind (AT (arr:=arrOf st) s2 oeb ik ‹1› (by rw [<- h5];exact ra) ‹1› λk k1 k2 k3=>?_)
 dsimp only
 by_cases kn:na - k=0
 ·rw [if_pos (by simpa using kn)]
  refine wpS_pure (h _ g2 (λj j' a1 a2 a3=>?_) λ_ _=>rfl)
  by_cases c1:j' < sb
  ·exact ra j j' a1 a2 c1
  ·by_cases c2:j < sb
   ·have:=k2 (j - sa) ‹1›
    rw [show sa+(j - sa)=j from Nat.add_sub_of_le ‹1›]at this
    exact Int.le_trans this (rb sb j' (Nat.le_refl _) ‹1› a3)
   ·exact rb j j' ‹1› a2 a3
 rw [if_neg (by simpa using kn)]
 rw [show sa+k+(na - k) - 1=sb - 1 by rw [Nat.add_assoc,Nat.add_sub_of_le ‹1›,h5]]
 refine wpS_bind (cw ea ?_)
 refine wpS_bind (AS (arr:=arrOf st) s2 oea ik ‹1› rb ‹1› λm m1 m2 m3=>?_)
 dsimp only
 by_cases mz:m=0
 ·rw [if_pos (by simpa using mz)]
  refine wpS_pure (h _ g2 (λj j' a1 a2 a3=>?_) λ_ _=>rfl)
  by_cases c1:j' < sb
  ·exact ra j j' a1 a2 c1
  ·by_cases c2:j < sb
   ·have:=m3 (j' - sb) ‹1› ‹1›
    rw [show sb+(j' - sb)=j' by omega]at this
    exact Int.le_trans (ra j (sb - 1) a1 ‹1› ‹1›) this
   ·exact rb j j' ‹1› a2 a3
 rw [if_neg (by simpa using mz)]
 have zx:((arrOf st).extract (sa+k) sb).size=sb - (sa+k):=ig ‹1›
 have zy:((arrOf st).extract sb (sb+m)).size=m:=by rw [ig ‹1›];omega
 have kk:∀j,sa+k<=j->j < sb->Kr (arrOf st) sb < Kr (arrOf st) j:=λj j1 j2=>by
  have:=k3 (j - sa) ‹1› ‹1›
  rwa [show sa+(j - sa)=j from Nat.add_sub_of_le ‹1›]at this
 have mm:∀j,sb<=j->j < sb+m->Kr (arrOf st) j < Kr (arrOf st) (sb - 1):=λj j1 j2=>by
  have:=m2 (j - sb) ‹1›
  rwa [show sb+(j - sb)=j from Nat.add_sub_of_le ‹1›]at this
 have hf:∀j,j < ((arrOf st).extract (sa+k) sb).size->Kr ((arrOf st).extract sb (sb+m)) 0 < Kr ((arrOf st).extract (sa+k) sb) j:=λj hj=>by
  rw [kD ‹1› ‹1›,kD ‹1› ‹1›]
  exact kk _ ‹1› ‹1›
 have hl:∀j,j < ((arrOf st).extract sb (sb+m)).size->Kr ((arrOf st).extract sb (sb+m)) j < Kr ((arrOf st).extract (sa+k) sb) (((arrOf st).extract (sa+k) sb).size - 1):=λj hj=>by
  rw [kD ‹1› ‹1›,kD ‹1› ‹1›,zx,show sa+k+(sb - (sa+k) - 1)=sb - 1 by rw [<- Nat.add_sub_assoc ‹1›,Nat.add_sub_of_le ‹1›]]
  exact mm _ ‹1› ‹1›
 have fin:∀M v,SS (SortSt.mk' (kindOf st) (arrOf st) (((pendingOf st).setIfInBounds i (sa,na+nb,w1)).eraseIdxIfInBounds (i+1)) (gallopOf st) (failedOf st)) v->Mg ((arrOf st).extract (sa+k) sb) ((arrOf st).extract sb (sb+m)) M->
   Q true (setArr v (M.toList.zipIdx.foldl (λa x=>a.setIfInBounds (sa+k+x.snd) x.fst) (arrOf v))):=by
  intro M v sv mg
  have ml:M.toList.length=sb - (sa+k)+m:=by
   rw [mg.pm.length_eq,List.length_append,Array.length_toList,Array.length_toList,zx,zy]
  have ar:arrOf v=arrOf st:=sv.ar
  have el:=oI (sa+k) M.toList 0 (arrOf v) (by rw [ar,ml];omega)
  rw [ar,Nat.add_zero,ml,show sa+k+(sb - (sa+k)+m)=sb+m by rw [<- Nat.add_assoc,Nat.add_sub_of_le ‹1›]]at el
  have r:=sO ‹1› ‹1› ‹1› ‹1› h5 ‹1› mg el ra rb (λj a1 a2 j' a3 a4=>?_) (λj a1 a2 j' a3 a4=>?_)
  ·have e4:arrOf (setArr v (M.toList.zipIdx.foldl (λa x=>a.setIfInBounds (sa+k+x.snd) x.fst) (arrOf v)))=M.toList.zipIdx.foldl (λa x=>a.setIfInBounds (sa+k+x.snd) x.fst) (arrOf st):=by
    show M.toList.zipIdx.foldl (λa x=>a.setIfInBounds (sa+k+x.snd) x.fst) (arrOf v)=_
    rw [ar]
   refine h _ ⟨?_,sv.kd,sv.fl,sv.pd.trans hp2⟩ ?_ ?_
   ·rw [e4];exact r.1.trans g.pm
   ·rw [e4];exact r.2.1
   ·rw [e4];exact r.2.2
  ·have:=k2 (j - sa) ‹1›
   rw [show sa+(j - sa)=j from Nat.add_sub_of_le ‹1›]at this
   exact Int.le_trans this (rb sb j' (Nat.le_refl _) a3 a4)
  ·have:=m3 (j' - sb) ‹1› ‹1›
   rw [show sb+(j' - sb)=j' by omega]at this
   exact Int.le_trans (ra j (sb - 1) a1 ‹1› ‹1›) this
 have isn:∀v,SS (SortSt.mk' (kindOf st) (arrOf st) (((pendingOf st).setIfInBounds i (sa,na+nb,w1)).eraseIdxIfInBounds (i+1)) (gallopOf st) (failedOf st)) v->∀xs,(failedOf (setArr v xs)).isNone=true:=λv sv xs=>by
  show (failedOf v).isNone=true
  rw [sv.fl];rfl
 by_cases c:na - k<=m
 ·rw [if_pos c]
  refine wpS_bind (Ba (a:=(arrOf st).extract (sa+k) sb) (b:=(arrOf st).extract sb (sb+m)) s2 (mS ik ‹1›) (mS ik ‹1›) (ja (ra.sub ‹1› ‹1›) ‹1›) (ja (rb.sub ‹1› ‹1›) ‹1›) ‹1› ‹1› (λj hj=>Int.le_of_lt (hf j hj)) hl λM v sv mg=>?_)
  refine wpS_bind (wpS_modify (wpS_bind (wpS_get ?_)))
  have:=wpS_pure (M:=model prog w) (A:=A) (E:=E) (s:=s) (fin M v sv mg)
  rw [<- isn v sv]at this
  exact this
 ·rw [if_neg c]
  refine wpS_bind (Bb (a:=(arrOf st).extract (sa+k) sb) (b:=(arrOf st).extract sb (sb+m)) s2 (mS ik ‹1›) (mS ik ‹1›) (ja (ra.sub ‹1› ‹1›) ‹1›) (ja (rb.sub ‹1› ‹1›) ‹1›) ‹1› ‹1› hf hl λM v sv mg=>?_)
  refine wpS_bind (wpS_modify (wpS_bind (wpS_get ?_)))
  have:=wpS_pure (M:=model prog w) (A:=A) (E:=E) (s:=s) (fin M v sv mg)
  rw [<- isn v sv]at this
  exact this
end
noncomputable def pr (q:Nat × Nat × Nat):Nat × Nat:=(q.1,q.2.1)
noncomputable def cL [Rk] (xs:Array Keyed):List (Nat × Nat)->Nat->Nat->Prop
 | [],lo,hi=>lo=hi
 | (b,n)::r,lo,hi=>b=lo/\1<=n/\Ris xs lo (lo+n)/\cL xs r (lo+n) hi
theorem cL.len [Rk] {xs:Array Keyed}:∀{l:List (Nat × Nat)}{lo hi:Nat},cL xs l lo hi->lo+l.length<=hi
 | [],lo,hi,h=>by cases h;simp
 | (b,n)::r,lo,hi,h=>by
  have:=h.2.2.2.len
  have:=h.2.1
  rw [List.length_cons];omega
theorem cL.app [Rk] {xs:Array Keyed}:∀{l r:List (Nat × Nat)}{lo hi:Nat},cL xs (l++r) lo hi↔∃m,cL xs l lo m/\cL xs r m hi
 | [],r,lo,hi=>⟨λh=>⟨lo,rfl,h⟩,λ⟨m,e,h⟩=>by cases e;exact h⟩
 | (b,n)::l,r,lo,hi=>by
  constructor
  ·rintro⟨h1,h2,h3,h4⟩
   obtain⟨m,a,b⟩:=cL.app.mp h4
   exact⟨m,⟨h1,h2,h3,a⟩,b⟩
  ·rintro⟨m,⟨h1,h2,h3,h4⟩,h5⟩
   exact⟨h1,h2,h3,cL.app.mpr ⟨m,h4,h5⟩⟩
theorem Ris.same [Rk] {xs ys:Array Keyed}{a b:Nat} (r:Ris xs a b) (h:∀k,a<=k->k < b->Kr ys k=Kr xs k):Ris ys a b:=λi j h1 h2 h3=>by
 rw [h i h1 ‹1›,h j ‹1› h3];exact r i j h1 h2 h3
theorem cL.same [Rk] {xs ys:Array Keyed}:∀{l:List (Nat × Nat)}{lo hi:Nat},cL xs l lo hi->(∀k,lo<=k->k < hi->Kr ys k=Kr xs k)->cL ys l lo hi
 | [],lo,hi,h,_=>h
 | (b,n)::r,lo,hi,h,e=>⟨h.1,h.2.1,h.2.2.1.same λk k1 k2=>e k k1 (by have:=h.2.2.2.len;omega),h.2.2.2.same λk k1 k2=>e k ‹1› k2⟩
theorem kj {p:Array (Nat × Nat × Nat)}{i:Nat}{x y z:Nat × Nat × Nat}{l r:List (Nat × Nat × Nat)} (e:p.toList=l++x::y::r) (hl:l.length=i) :
  ((p.setIfInBounds i z).eraseIdxIfInBounds (i+1)).toList=l++z::r:=by
 have hs:(p.setIfInBounds i z).toList=l++z::y::r:=by
  rw [Array.toList_setIfInBounds,e,<- hl,List.set_append_right _ _ (Nat.le_refl _),Nat.sub_self]
  rfl
 have hz:i+1 < (p.setIfInBounds i z).size:=by
  rw [<- Array.length_toList,hs,List.length_append,hl]
  simp
 unfold Array.eraseIdxIfInBounds
 rw [dif_pos hz,Array.toList_eraseIdx,hs,<- hl,List.eraseIdx_append_of_length_le ‹1›,Nat.add_sub_cancel_left]
 rfl
section
variable {prog:Program}{w:World}{A:Around}{E:Value->Shared->Prop}{s:Shared} [RkOk prog w A s] {a₀:Array Keyed}
theorem qH {st:SortSt}{p:Array (Nat × Nat × Nat)}{i hi:Nat}{Q:Bool->SortSt->Prop} (h0:dL a₀) (g:SG a₀ p st) (r:cL (arrOf st) (p.toList.map pr) 0 hi) (hh:hi<=a₀.size) (hi2:i+1 < p.size)
  (h:∀v p',SG a₀ p' v->cL (arrOf v) (p'.toList.map pr) 0 hi->p'.size+1=p.size->(∀k,hi<=k->Kr (arrOf v) k=Kr (arrOf st) k)->Q true v) :
  wpS (model prog w) A E s (mergeAt' i) Q st:=by
 obtain⟨sa,na,w1,e1⟩:∃sa na w1,p[i]?=some (sa,na,w1):=⟨_,_,_,getElem?_pos p i ‹1›⟩
 obtain⟨sb,nb,w2,e2⟩:∃sb nb w2,p[i+1]?=some (sb,nb,w2):=⟨_,_,_,getElem?_pos p (i+1) hi2⟩
 have ep:p.toList=p.toList.take i++(sa,na,w1)::(sb,nb,w2)::p.toList.drop (i+2):=by
  conv=>lhs;rw [<- List.take_append_drop i p.toList]
  congr 1
  have l1:i < p.toList.length:=by rw [Array.length_toList];omega
  have l2:i+1 < p.toList.length:=by rw [Array.length_toList];omega
  rw [List.drop_eq_getElem_cons l1,List.drop_eq_getElem_cons l2]
  have g1:p.toList[i]=(sa,na,w1):=by
   have:=Array.getElem?_toList (xs:=p) (i:=i)
   rw [e1,List.getElem?_eq_getElem l1]at this
   exact Option.some.inj this
  have g2:p.toList[i+1]=(sb,nb,w2):=by
   have:=Array.getElem?_toList (xs:=p) (i:=i+1)
   rw [e2,List.getElem?_eq_getElem l2]at this
   exact Option.some.inj this
  rw [g1,g2]
 have ll:(p.toList.take i).length=i:=by rw [List.length_take,Array.length_toList];omega
 have r1:=r
 rw [ep,List.map_append,List.map_cons,List.map_cons]at r1
 obtain⟨m,ra,rb1,rb2,rb3,rc1,rc2,rc3,rd⟩:=cL.app.mp r1
 have rb1':sa=m:=rb1
 have rc1':sb=m+na:=rc1
 have rb2':1<=na:=rb2
 have rc2':1<=nb:=rc2
 subst rb1'
 have hd:=rd.len
 have hl:=ra.len
 have hd':sa+na+nb+(List.map pr (List.drop (i+2) p.toList)).length<=hi:=hd
 refine Bc h0 g e1 e2 rc1' ‹1› ‹1› ‹1› (by rw [rc1'];exact rb3) (by rw [rc1'];exact rc3) λv gv rv kv=>?_
 refine h v _ gv ?_ ?_ λk hk=>kv k (.inr ‹1›)
 ·rw [kj ep ll,List.map_append,List.map_cons]
  refine cL.app.mpr ⟨sa,ra.same λk _ k2=>kv k (.inl k2),rfl,(show 1<=na+nb by omega),?_,?_⟩
  ·show Ris (arrOf v) sa (sa+(na+nb))
   rw [<- Nat.add_assoc,<- rc1']
   exact rv
  ·show cL (arrOf v) _ (sa+(na+nb)) hi
   rw [<- Nat.add_assoc]
   exact rd.same λk k1 k2=>kv k (.inr (by rw [rc1'];exact k1))
 ·have e3:=congrArg List.length (kj (z:=(sa,na+nb,w1)) ep ll)
  have e4:=congrArg List.length ep
  rw [Array.length_toList,List.length_append,ll]at e3 e4
  rw [List.length_cons]at e3
  rw [List.length_cons,List.length_cons]at e4
  omega
theorem qk (p:Array (Nat × Nat × Nat)) (i x:Nat):(p.modify i λq=>(q.1,q.2.1,x)).toList.map pr=p.toList.map pr:=by
 apply List.ext_getElem?
 intro k
 rw [List.getElem?_map,List.getElem?_map,Array.getElem?_toList,Array.getElem?_toList,Array.getElem?_modify]
 split
 ·cases p[k]? <;> rfl
 ·rfl
theorem tD {st:SortSt}{Q:Unit->SortSt->Prop} (h0:dL a₀) (g:SG a₀ #[] st) (h2:2<=a₀.size)
  (h:∀v,(arrOf v).Perm a₀->failedOf v=none->zB (arrOf v) a₀.size->Q () v):wpS (model prog w) A E s sortRuns' Q st:=by
 rw [sortRuns'_eq]
 dsimp only
 refine wpS_bind (wpS_get ?_)
 rw [g.sz]
 generalize minRun' a₀.size a₀.size 0=mr
 refine wpS_bind (wpS_mono (wpS_forRange (I:=λx c v=>∃lo p,c=(none,lo)/\SG a₀ p v/\cL (arrOf v) (p.toList.map pr) 0 lo/\lo<=a₀.size/\x<=lo)
  (Q:=λc v=>∃p,c=(none,a₀.size)/\SG a₀ p v/\cL (arrOf v) (p.toList.map pr) 0 a₀.size) ?step ?fin ⟨0,#[],rfl,g,rfl,by omega,by omega⟩) ?post)
 case fin=>
  rintro c v ⟨lo,p,rfl,gv,r,l1,l2⟩
  have e:lo=a₀.size:=by omega
  subst e
  exact⟨p,rfl,gv,r⟩
 case post=>
  rintro c v ⟨p,rfl,gv,r⟩
  dsimp only
  refine wpS_bind (wpS_mono (wpS_forRange (I:=λx c u=>c=(none,())/\∃p,SG a₀ p u/\cL (arrOf u) (p.toList.map pr) 0 a₀.size/\(p.size<=1\/p.size+x<=a₀.size))
   (Q:=λc u=>c=(none,())/\∃p,SG a₀ p u/\cL (arrOf u) (p.toList.map pr) 0 a₀.size/\p.size<=1) ?_ ?_ ⟨rfl,p,gv,r,.inr ?_⟩) ?_)
  ·rintro x c u _ xn ⟨rfl,p,gu,r,z⟩
   refine wpS_bind (wpS_get ?_)
   have ep:pendingOf u=p:=gu.pd
   rw [ep]
   by_cases c1:p.size<=1
   ·rw [if_pos c1]
    exact wpS_pure ⟨rfl,p,gu,r,c1⟩
   rw [if_neg c1]
   have bnd:∀b:Bool,(if b=true then p.size - 2 - 1 else p.size - 2)+1 < p.size:=λb=>by cases b <;> simp <;> omega
   refine wpS_bind (qH h0 gu r (Nat.le_refl _) (bnd _) λu2 p2 g2 r2 z2 _=>?_)
   exact wpS_pure ⟨rfl,p2,g2,r2,.inr ‹1›⟩
  ·rintro c u ⟨rfl,p,gu,r,z⟩
   exact⟨rfl,p,gu,r,by omega⟩
  ·have:=r.len
   rw [List.length_map,Array.length_toList]at this
   omega
  ·rintro c u ⟨rfl,p,gu,r,z⟩
   refine wpS_pure (h u gu.pm gu.fl λi j hij hj=>?_)
   have hz:p.toList.length<=1:=by rw [Array.length_toList];exact z
   generalize p.toList=l at r hz
   cases l with
   | nil=>
    have:0=a₀.size:=r
    omega
   | cons q t=>
    cases t with
    | nil=>
     obtain⟨r1,r2,r3,r4⟩:=r
     have r4':0+q.2.1=a₀.size:=r4
     exact r3 i j ‹1› hij ‹1›
    | cons q2 t=>simp at hz
 case step=>
  rintro x c v _ xn ⟨lo,p,rfl,gv,r,l1,l2⟩
  dsimp only
  by_cases c1:lo>=a₀.size
  ·rw [if_pos c1]
   have e:lo=a₀.size:=by omega
   subst e
   exact wpS_pure ⟨p,rfl,gv,r⟩
  rw [if_neg c1]
  have push:∀N (u:SortSt) (q:Array (Nat × Nat × Nat)),SG a₀ q u->cL (arrOf u) (q.toList.map pr) 0 lo->Ris (arrOf u) lo (lo+N)->1<=N->lo+N<=a₀.size->
    ∃lo' q',(none,lo+N)=((none,lo'):Option Unit × Nat)/\SG a₀ q' (setPending u ((pendingOf u).push (lo,N,0)))/\cL (arrOf (setPending u ((pendingOf u).push (lo,N,0)))) (q'.toList.map pr) 0 lo'/\lo'<=a₀.size/\x+1<=lo':=by
   intro N u q gq rq rn n1 n2
   refine⟨lo+N,q.push (lo,N,0),rfl,⟨gq.pm,gq.kd,gq.fl,?_⟩,?_,n2,by omega⟩
   ·show (pendingOf u).push _=_
    rw [gq.pd]
   ·rw [Array.toList_push,List.map_append]
    exact cL.app.mpr ⟨lo,rq,rfl,n1,rn,rfl⟩
  refine wpS_bind (rX h0 ‹1› ‹1› gv λm u gu lu m1 m2 rm=>?_)
  dsimp only
  have ru:cL (arrOf u) (p.toList.map pr) 0 lo:=r.same λk _ k2=>lu k k2
  by_cases hm:m < mr
  case' pos=>
   rw [if_pos hm]
   refine wpS_bind (wpS_lift (wpAny_rule ⟨rfl,?_⟩))
   refine wpS_bind (wV h0 (n:=min (a₀.size - lo) mr) ‹1› ‹1› gu rm λu2 g2 lu2 rn=>?_)
   rw [if_neg (by decide)]
   have rq:cL (arrOf u2) (p.toList.map pr) 0 lo:=ru.same λk _ k2=>lu2 k k2
   have n1:1<=min (a₀.size - lo) mr:=by omega
   have n2:lo+min (a₀.size - lo) mr<=a₀.size:=by omega
   generalize min (a₀.size - lo) mr=N at *
  case' neg=>
   rw [if_neg hm]
   have g2:=gu
   have rn:=rm
   have rq:=ru
   have n1:=m1
   have n2:lo+m<=a₀.size:=by omega
   clear gu lu m2 rm ru hm m1
   generalize m=N at *
   generalize u=u2 at *
  all_goals
   refine wpS_bind (wpS_get ?_)
   have ep:pendingOf u2=p:=g2.pd
   cases hb:(pendingOf u2).back? with
   | none=>
    dsimp only
    exact wpS_bind (wpS_modify (wpS_pure (push N u2 p g2 rq rn n1 n2)))
   | some q=>
    obtain⟨s1,k1,w1⟩:=q
    dsimp only
    generalize power' a₀.size (2 * s1+k1) (2 * s1+k1+k1+N) a₀.size=pw
    refine wpS_bind (wpS_mono (wpS_forRange (I:=λ_ c u=>c=(none,())/\∃q,SG a₀ q u/\cL (arrOf u) (q.toList.map pr) 0 lo/\Ris (arrOf u) lo (lo+N))
     (Q:=λc u=>c=(none,())/\∃q,SG a₀ q u/\cL (arrOf u) (q.toList.map pr) 0 lo/\Ris (arrOf u) lo (lo+N)) ?_ (λ_ _ e=>e) ⟨rfl,p,g2,rq,rn⟩) ?_)
    ·rintro y c u3 _ _ ⟨rfl,q,g3,r3,rn3⟩
     refine wpS_bind (wpS_get ?_)
     have e3:pendingOf u3=q:=g3.pd
     rw [e3]
     by_cases cz:q.size > 1
     ·rw [if_pos cz,getElem?_pos q (q.size - 2) ‹1›]
      dsimp only
      split
      ·exact wpS_pure ⟨rfl,q,g3,r3,rn3⟩
      ·refine wpS_bind (qH h0 g3 r3 l1 ‹1› λu4 q4 g4 r4 z4 k4=>?_)
       exact wpS_pure ⟨rfl,q4,g4,r4,rn3.same λk a1 _=>k4 k a1⟩
     ·rw [if_neg cz]
      exact wpS_pure ⟨rfl,q,g3,r3,rn3⟩
    ·rintro c u3 ⟨rfl,q,g3,r3,rn3⟩
     dsimp only
     refine wpS_bind (wpS_modify (wpS_bind (wpS_modify (wpS_pure (push N _ _ ⟨g3.pm,g3.kd,g3.fl,rfl⟩ ?_ rn3 n1 n2)))))
     rw [qk,show pendingOf u3=q from g3.pd]
     exact r3
end
section
variable {prog:Program}{w:World}{A:Around}{E:Value->Shared->Prop}{s:Shared}{hb:Heap}{fa:Addr}{mp:Str->Option Value}{bk:List (Addr × Obj)}{a st:Addr}{xs:List Value}{ks:List Int}{ka:Array Value}{c1 c2:Nat}
end
section
variable {X:Cx}{pins:List (Addr × Obj)}{σ:St}{H:Hp}{s:Shared}
end
section
variable {X:Cx}{e:Expr}{kws:List Keyword}{t tk:TA}{p pos:Pos}
end
section
variable {X:Cx}{pins:List (Addr × Obj)}{σ:St}{H:Hp}{s:Shared}
end
section
variable {X:Cx}
end
section
variable {X:Cx}
end
def wS (P:Addr) (H:Hp):Prop:=H P=some (.tbl #[])/\∀b,b=P\/H b=none\/∃o xs,H b=some (.frz o (.lst xs))
theorem sR {P:Program}{w:World}{K:W.Frag}{mg mb:Str->Option Value}{k:Nat}{fa a:Addr}{fd:FuncData}{x:Str}{sp:Sp}{s₁:Shared}{vs:List Value}{ns:List Int}{c T:Addr}
  (KX:K.In s₁.heap) (hns:s₁.heap.Ns mainGlobals mg) (hb:s₁.heap.Ns builtinsNs mb) (hbb:∀x:Str,x≠"__name__"->mb x=bootBuiltins x) (hlim:s₁.heap.NoLimit) (hg:s₁.gens = #[])
  (hC:PySem.W.CodeHd s₁.heap c T) (hT:s₁.heap.get? T=some (PySem.W.tabObj #[])) (hnt:PySem.W.noTabs K=true) (hB:s₁.heap.BuiltinsAt mg T)
  (ha:s₁.heap.get? a=some { cls:=.type "list", data:=.seq vs.toArray }) (hi:IntsAre vs ns) (hl:ns.length<=sizeLine) (hr:Room k callerA)
  (F:∀base:Heap,K.In base->base.Ns mainGlobals mg->PySem.W.CodeHd base c T->base.BuiltinsAt mg T->FnOk P w K mg base CX0 k fa fd [x] sp) (hbind:∀(s:Shared) (u:Value),BindsTo s fd ⟨[u],[]⟩ [(x,u)])
  (hsp:∀H:Hp,wS T H->SqL K H a (ns.map V.int)->sp [.ref a] H (λv _=>v=.bl true) λ_ _ _=>False) :
  codeAny (model P w) callerA (.call (.ref fa) ⟨[.ref a],[]⟩) (λr s'=>r=.ok (.ret (.bool true))/\OldK s₁.heap s'.heap/\s'.os=s₁.os/\AllBare s'.gens) s₁:=by
 have rv:=kR hi
 have lenV:=hi.length
 have aT:a≠T:=λz=>by rw [z,hT]at ha;cases ha
 have core:∀H:Hp,wS T H->SqL K H a (ns.map V.int)->HOk P w H s₁.heap->(∀b,H b≠none->b=a\/b=T)->(H a≠none->K.lookup a=none)->
   codeAny (model P w) callerA (.call (.ref fa) ⟨[.ref a],[]⟩) (λr s'=>r=.ok (.ret (.bool true))/\OldK s₁.heap s'.heap/\s'.os=s₁.os/\AllBare s'.gens) s₁:=by
  intro H hO hS hok hA hK
  have base_of:∀{b:Addr}{o:Obj},s₁.heap.get? b=some o->H b=none->(jU s₁.heap H).get? b=some o:=λe n=>wc e n
  have noA:∀{b:Addr}{o:Obj},s₁.heap.get? b=some o->o≠{ cls:=.type "list", data:=.seq vs.toArray }->o≠PySem.W.tabObj #[]->H b=none:=λ{b o} e d1 d2=>by
   cases q:H b with
   | none=>rfl
   | some u=>
    rcases hA b (by rw [q];simp) with z | z
    ·subst z
     rw [ha]at e;cases e
     exact absurd rfl d1
    ·subst z
     rw [hT]at e;cases e
     exact absurd rfl d2
  have nsK:∀{b:Addr}{m:Str->Option Value},s₁.heap.Ns b m->(jU s₁.heap H).Ns b m:=λ{b m} hh=>by
   obtain⟨o,es,ep,e,d,r⟩:=hh
   exact⟨o,es,ep,base_of e (noA e (λz=>by rw [z]at d;cases d) λz=>by rw [z]at d;cases d),d,r⟩
  have hKb:K.In (jU s₁.heap H):=λb o e=>base_of (KX b o e) (by
   cases q:H b with
   | none=>rfl
   | some u=>
    rcases hA b (by rw [q];simp) with z | z
    ·subst z
     rw [hK (by rw [q];simp)]at e;cases e
    ·subst z
     have h1:=KX b o e
     rw [hT]at h1;cases h1
     have h2:=List.all_eq_true.mp hnt (b,PySem.W.tabObj #[]) (PySem.W.mem_of_lookupK e)
     exact absurd (show false=true from h2) Bool.false_ne_true)
  have hM:Mod K mg (jU s₁.heap H):=⟨hKb,nsK hns,⟨mb,nsK hb,hbb⟩,let ⟨mc,h1,h2⟩:=hlim;⟨mc,nsK h1,h2⟩⟩
  have hCb:PySem.W.CodeHd (jU s₁.heap H) c T:=by
   obtain⟨o,vs',file,tf,flags,tg,inF,text,tt,e1,e2,r⟩:=hC
   exact⟨o,vs',file,tf,flags,tg,inF,text,tt,base_of e1 (noA e1 (λz=>by rw [z]at e2;injection e2 with e2;exact absurd e2 (by decide)) λz=>by rw [z]at e2;cases e2),e2,r⟩
  have hBb:(jU s₁.heap H).BuiltinsAt mg T:=by
   obtain⟨bm,ob,b1,b2,b3,b4,b5,b6,b7⟩:=hB
   exact⟨bm,ob,b1,b2,b3,b4,base_of b5 (noA b5 (λz=>by rw [z]at b6;injection b6 with b6;exact absurd b6 (by decide)) λz=>by rw [z]at b6;cases b6),b6,b7⟩
  have e0:Env0 P w K mg (jU s₁.heap H) callerA [] s₁ H:=⟨rfl,hM,λb o e=>ye e,Nat.le_of_eq (sW _ _),trivial,λb hb=>absurd (show b∈([]:List Addr) from hb) (by simp),hok,.of_eq hg⟩
  refine codeAny_mono ((F _ hKb (nsK hns) hCb hBb).run callerA [] s₁ H ⟨[.ref a],[]⟩ [.ref a] [.ref a] _ _ hr e0 (hbind s₁ (.ref a)) (.cons rfl .nil) (hsp H hO hS)) λr s' h=>?_
  cases r with
  | error e=>exact False.elim h
  | ok fl=>
   cases fl with
   | next=>exact False.elim h
   | brk=>exact False.elim h
   | cont=>exact False.elim h
   | ret u=>
    obtain⟨v,H',os,bare,un,hok',r',q⟩:=h
    have q':v=.bl true:=q
    subst q'
    obtain rfl:u=Value.bool true:=r'
    obtain⟨more,hmore⟩:=un.tbls T #[] hO.1
    have hT':s'.heap.get? T=some { cls:=.none,data:=.fields (#[]++more) }:=hok' T _ hmore
    have kept:∀b o,b≠T->s₁.heap.get? b=some o->s'.heap.get? b=some o:=λb o nT e=>by
     rcases hO.2 b with z | z | ⟨ob,xs,z⟩
     ·exact absurd z nT
     ·exact un.keep b o e z (by intro z;exact absurd (show b∈([]:List Addr) from z) (by simp)) (by simp)
     ·have z2:=un.frzs b ob _ z
      obtain⟨e1,_⟩:=hok b _ z
      obtain⟨e2,_⟩:=hok' b _ z2
      rw [e]at e1;cases e1
      exact e2
    refine⟨rfl,⟨λb o e=>?_,λb o e=>?_⟩,os,bare⟩
    ·by_cases z:b=T
     ·subst z
      rw [hT]at e;cases e
      exact .inr (.inl ⟨(hC.tab hT).isCodeTable,rfl,#[],more,rfl,hT'⟩)
     ·exact .inl (kept b o z e)
    ·by_cases z:b=T
     ·subst z;exact⟨_,hT'⟩
     ·exact⟨o,kept b o z e⟩
 cases hk:K.lookup a with
 | some o=>
  have e:=KX a o hk
  rw [ha]at e
  cases e
  refine core (λb=>if b=T then some (.tbl #[]) else none) ⟨if_pos rfl,λb=>?_⟩ (.inr ⟨_,vs.toArray,_,hk,rfl,rfl,rfl,by rw [List.size_toArray,lenV];exact hl,by simpa using rv⟩) (λb u z=>?_) (λb z=>?_) λz=>absurd (if_neg aT) z
  ·by_cases hb:b=T
   ·exact .inl hb
   ·exact .inr (.inl (if_neg hb))
  ·by_cases hb:b=T
   ·have z':=(if_pos hb).symm.trans z
    cases z'
    rw [hb]
    exact hT
   ·have z':=(if_neg hb).symm.trans z
    cases z'
  ·by_cases hb:b=T
   ·exact .inr hb
   ·exact absurd (if_neg hb) z
 | none=>
  refine core (λb=>if b=T then some (.tbl #[]) else if b=a then some (.frz { cls:=.type "list", data:=.seq vs.toArray } (.lst (ns.map V.int))) else none) ⟨if_pos rfl,λb=>?_⟩
   (.inl (.inr ⟨{ cls:=.type "list", data:=.seq vs.toArray },(if_neg aT).trans (if_pos rfl)⟩)) (λb u z=>?_) (λb z=>?_) λ_=>hk
  ·by_cases hb:b=T
   ·exact .inl hb
   ·by_cases hb2:b=a
    ·exact .inr (.inr ⟨_,_,(if_neg hb).trans (if_pos hb2)⟩)
    ·exact .inr (.inl ((if_neg hb).trans (if_neg hb2)))
  ·by_cases hb:b=T
   ·have z':=(if_pos hb).symm.trans z
    cases z'
    rw [hb]
    exact hT
   ·by_cases hb2:b=a
    ·have z':=((if_neg hb).trans (if_pos hb2)).symm.trans z
     cases z'
     subst hb2
     exact⟨ha,by rw [List.length_map];exact hl,vs,_,rv,ha⟩
    ·have z':=((if_neg hb).trans (if_neg hb2)).symm.trans z
     cases z'
  ·by_cases hb:b=T
   ·exact .inr hb
   ·by_cases hb2:b=a
    ·exact .inl hb2
    ·exact absurd ((if_neg hb).trans (if_neg hb2)) z
theorem tI {l:PySem.W.OpenLaw}{n k:Nat}{q:Program}{loose:List Str}{XP:(Str->Option Value)->Heap->Prop}{YP:World->Heap->Prop}{d dj:DefRec}{K:Params->PySem.W.Frag}{sp:World->Sp}{x xj:Str}{c T:Addr}
  (hn:l.most=some n) (hn2:n<=sizeLine) (hdf:d.params.defaults=[]) (hr:Room k callerA)
  (hY:∀(w:World) (h:Heap),YP w h->(K w.params).In h)
  (hrj:(recsOf q).find? (λe=>e.name == xj)=some dj) (htab:∀(w:World) (h:Heap),(K w.params).In h->PySem.W.tabIn (K w.params) xj=some (c,T)) (hnt:∀(w:World) (h:Heap),(K w.params).In h->PySem.W.noTabs (K w.params)=true)
  (F:∀(w:World) (mg:Str->Option Value) (fa:Addr) (h:Heap),(K w.params).In h->h.Ns mainGlobals mg->mg d.name=some (.ref fa)->
   ∃fd:FuncData,(∀(s:Shared) (u:Value),BindsTo s fd ⟨[u],[]⟩ [(x,u)])/\
    ∀base:Heap,(K w.params).In base->base.Ns mainGlobals mg->PySem.W.CodeHd base c T->base.BuiltinsAt mg T->FnOk l.prog w (K w.params) mg base CX0 k fa fd [x] (sp w))
  (hsp:∀(w:World) (H:Hp) (a:Addr) (ns:List Int),ns.length<=n->wS T H->SqL (K w.params) H a (ns.map V.int)->sp w [.ref a] H (λv _=>v=.bl true) λ_ _ _=>False) :
  PySem.W.WalkO q loose XP YP l.row.toRowW d [] (λf vs=>PySem.call f vs):=by
 refine Att.attach_call hn hdf λw s₀ s₁ mg mb fa o pm cd doc a vs ns G Y ho hd hcd hmg hobj hints hlen hg=>?_
 have KX:=hY w _ Y
 obtain⟨fd,hb,hF⟩:=F w mg fa _ KX G.T.g hmg
 obtain⟨hC,hT⟩:=PySem.W.tab_of G.T KX hrj (htab w _ KX)
 have hB:s₁.heap.BuiltinsAt mg T:=by
  obtain⟨bm,ob,b1,b2,b3,b4,b5,b6⟩:=G.T.bmain
  refine⟨bm,ob,b1,b2,λz=>?_,λz=>?_,b3,b4,b5,b6⟩
  ·obtain⟨o',es,ep,e,hd',_⟩:=G.T.g
   rw [z,e]at b3;cases b3;rw [hd']at b6;cases b6
  ·rw [z,hT]at b3;cases b3;cases b4
 exact sR KX G.T.g G.T.b G.T.builtins G.T.nolimit hg hC hT (hnt w _ KX) hB hobj hints (Nat.le_trans hlen hn2) hr hF hb (λH hO hS=>hsp w H a ns hlen hO hS)
end L2
namespace Strip
section
variable {M:Type} [DecidableEq M]
end
end Strip
namespace L2
open PySem PySem.Spec PyProof.Rows
section
variable {T:Addr}{pos:Pos}{q:Str}{H H':Hp}
end
section
variable {X:Cx}
theorem dc:cD X (.builtin "isinstance") (λxs H Q=>∃x n t b,xs=[x,.ty n]/\TyOf X.K H x t/\PySem.W.kitOne X.K t (.type n)=some b/\Q (.bl b) H):=by
 intro pins s σ H xs us Q I r h
 obtain⟨x,n,t,b,rfl,ty,e,q⟩:=h
 obtain⟨u,u2,rfl,rx,rt⟩:=qM r
 cases (show u2=Value.type n from rt)
 exact sV I rx ty e λtk=>⟨.bl b,H,I.tok _,rfl,q⟩
end
end L2
namespace Strip
section
variable {M:Type} [DecidableEq M]
end
end Strip
namespace L2
open PySem PySem.Spec PyProof.Rows
noncomputable def cK (X:Cx) (scope:Scope) (cl:List (Str × Addr)) (N:List Str) (C:Addr) (fp:List Addr) (s:Shared) (H:Hp):Cx where
 prog:=X.prog
 w:=X.w
 K:=X.K
 mg:=X.mg
 base:=X.base
 A:=X.A
 N:=N
 s₀:=s
 H₀:=H
 env:=compEnvC scope cl C X.env
 outer:=X.stack
 stack:=X.stack
 ex:=fp
 fn:=λ_=>false
 calm:=true
 pn:=[]
 xe:=λ_ _=>False
noncomputable def bP (sub:List Nat) (σ:St):St:=sub.map λi=>(σ[i]?).join
def PTs (X:Cx) (ifs:List Expr) (t:TT):Prop:=
 ∀(pins:List (Addr × Obj)) (s:Shared) (σ:St) (H:Hp) (Q:Bool->Hp->Prop),Inv X pins σ H s->t σ H Q->
  wpAny (model X.prog X.w) X.A (forIn ifs true λc r=>if r=true then do let ok <- isTrue c X.env (eval c X.env);pure (ForInStep.yield ok) else pure (ForInStep.yield r)) (TP X pins σ Q) X.xe s
theorem cp {X:Cx}:PTs X [] (λ_ H Q=>Q true H):=λ_ _ _ H _ I h=>wpAny_tests_nil ⟨H,I,h⟩
theorem gR {X:Cx}{c:Expr}{t:TT} (h:PT X c t):PTs X [c] t:=λpins s σ H Q I q=>wpAny_tests_one (h pins s σ H Q I q)
noncomputable def kT (wi:TI) (sub:List Nat) (tt:TT) (te:TE):TE:=λσ H Q=>wi σ H λJ H1=>∀D,H1 D=none->∃W:Nat->Nat->List V->Hp->Prop,(∃m,W 0 m [] (upd H1 D (.lst [])))/\∀i m ys H2,W i m ys H2->
 (J.stop i H2/\Q (.ref D) H2)\/(J.go i H2/\∃N:List V->Hp->Prop,(∀ys' H',N ys' H'->∃m',m' < m/\W (i+1) m' ys' H')/\∀v H3,J.yld i H2 v H3->tt (some v::bP sub σ) H3 λb H4=>if b=true then
  te (some v::bP sub σ) H4 λy H5=>H5 D=some (.lst ys)/\ys.length < sizeLine/\N (ys++[y]) (upd H5 D (.lst (ys++[y])))
  else N ys H4)
def PEC (X:Cx) (e iter:Expr) (scope:Scope) (te:TE):Prop:=
 ∀(pos:Pos) (pins:List (Addr × Obj)) (s:Shared) (σ:St) (H:Hp) (Q:VK) (use:Option (Value->Sem Unit)) (QV:Value->Shared->Prop),Inv X pins σ H s->te σ H Q->
  (∀(D C:Addr) (H':Hp) (s':Shared),Inv X pins σ H' s'->iM X pins H' C->(∃m,s'.heap.Ns C m)->Q (.ref D) H'->compPost (model X.prog X.w) X.A X.xe use QV (.ref D) C (.ok .next) s')->
  wpAny (model X.prog X.w) X.A (comprehension e scope X.env pos (newList []) false (eval iter X.env) use) QV X.xe s
theorem iM.turn {X:Cx}{pins:List (Addr × Obj)}{σ:St}{H:Hp}{s:Shared}{h':Heap}{C:Addr} (f:iM X pins H C) (I:Inv X pins σ H s) (hs:Heap.SameBut C s.heap h'):Inv X pins σ H { s with heap:=h' }:=
 I.turned (h':=h') (t':=s.toks) (it:=C) (λb o n e=>(hs.2 b n).trans e) f.1 f.2.1 f.2.2.2.1 f.2.2.2.2.1 f.2.2.2.2.2
theorem dS {X:Cx}{elt tg iter:Expr}{ifs:List Expr}{scope:Scope}{pos:Pos}{te:TE} (h:PEC X (.ListComp elt [⟨tg,iter,ifs,0⟩] scope pos) iter scope te):PE X (.ListComp elt [⟨tg,iter,ifs,0⟩] scope pos) te:=by
 intro pins s σ H Q I q
 rw [eval_ListComp]
 refine h _ pins s σ H Q none _ I q λD C H' s' K1 fC ⟨m,hm⟩ q=>⟨m,hm,λh' hsb'=>⟨.ref D,H',fC.turn K1 hsb',rfl,q⟩⟩
theorem jb {X:Cx}{elt tg iter:Expr}{ifs:List Expr}{scope:Scope}{pos spos py:Pos}{te:TE}{i:Nat}{y:Str} (hN:X.N.Nodup) (hi:X.N[i]?=some y) (hx:Loc X.env.scope y)
  (h:PEC X (.ListComp elt [⟨tg,iter,ifs,0⟩] scope pos) iter scope te) (hsw:swapsWith (.ListComp elt [⟨tg,iter,ifs,0⟩] scope pos) (some (.Name y py)) spos.line X.env=pure true:=by rfl)
  (hf:X.fn y=true\/X.env.scope.names.lookup y=some .local:=by first | exact .inl rfl | exact .inr rfl | assumption):PS X (.Assign [.Name y py] (.ListComp elt [⟨tg,iter,ifs,0⟩] scope pos) spos) (xb te (az i)):=by
 intro pins s σ H D I q
 rw [exec_Assign_Name_used _ _ _ _ hsw]
 refine zB0 (wpAny_standAt (zB0 ?_))
 show wpAny _ X.A (do let _ <- comprehension (.ListComp elt [⟨tg,iter,ifs,0⟩] scope pos) scope X.env _ (newList []) false (eval iter X.env) (some (assign (.Name y py) X.env))) _ _ s
 refine zB0 (wpAny_mono (h _ pins s σ H _ (some (assign (.Name y py) X.env)) (λ_ s'=>SP X pins D .next s') I q λDa C H' s' K1 fC hm q=>?_) (λ_ s' hq=>zP0 (zP0 hq)) λ_ _ e=>e)
 show wpAny _ X.A (assign (.Name y py) X.env (.ref Da)) _ _ _
 refine wpAny_assign_Name (kX K1 hN hi hx (v:=.ref Da) rfl (λs2 I2 hh=>?_) hf)
 obtain⟨m,hm⟩:=hm
 obtain⟨a,hsb,ha⟩:=hh
 have hne:C≠a:=by
  rcases ha with z | z
  ·rw [z];exact fC.2.1
  ·exact λe=>fC.2.2.2.2.1 _ _ z e.symm
 exact⟨m,hm.sameBut hsb hne,λh' hs'=>⟨_,H',fC.turn I2 hs',q⟩⟩
section
variable {prog:Program}{w:World}{A:Around}{R:Result->Shared->Prop}{s:Shared}
noncomputable abbrev lI (prog:Program) (w:World) (A:Around) (env:Env) (R:Result->Shared->Prop):Value->Shared->Prop:=notedBy (model prog w) A env λx s'=>R (.error x) s'
theorem qC {elt tg iter:Expr}{ifs:List Expr}{scope:Scope}{pos:Pos}{it acc:Value}{env:Env} (J:Nat->Shared->Prop)
  (go:∀n s,J n s->wpAny (model prog w) A (pyNext it) (λr s1=>match r with
   | none=>R (.ok .next) s1
   | some v=>wpAny (model prog w) A (letOwnedTupleGo tg it v) (λ_ s1'=>wpAny (model prog w) A (assign tg env v) (λ_ s2=>
     wpAny (model prog w) A (forIn ifs true λc r=>if r=true then do let ok <- isTrue c env (eval c env);pure (ForInStep.yield ok) else pure (ForInStep.yield r)) (λb s3=>
      if b=true then wpAny (model prog w) A (eval elt env) (λx s4=>wpAny (model prog w) A (call (.builtin "list.append") [acc,x]) (λ_ s5=>∃m,m < n/\J m s5) (lI prog w A env R) s4) (lI prog w A env R) s3
      else ∃m,m < n/\J m s3) (lI prog w A env R) s2) (lI prog w A env R) s1') (lI prog w A env R) s1) (lI prog w A env R) s)
  (n:Nat) (h0:J n s):codeAny (model prog w) A (.compLoop (.ListComp elt [⟨tg,iter,ifs,0⟩] scope pos) 0 it acc env) R s:=by
 refine codeAny_loop rfl J (λn s hI=>?_) n h0
 have e:((compTurn (.ListComp elt [⟨tg,iter,ifs,0⟩] scope pos) 0 it acc env).onRaise λx=>do noteFrame x env;theTreesLotGoes x)=((compTurn (.ListComp elt [⟨tg,iter,ifs,0⟩] scope pos) 0 it acc env).onRaise λx=>do noteFrame x env;theTreesLotGoes x):=rfl
 show wpAny _ A ((compTurn (.ListComp elt [⟨tg,iter,ifs,0⟩] scope pos) 0 it acc env).onRaise λx=>do noteFrame x env;theTreesLotGoes x) _ _ s
 apply wpAny_noted
 rw [compTurn_list]
 refine zB0 (wpAny_standAt (zB0 (thn (go n s hI) λr s1 h1=>?_)))
 cases r with
 | none=>exact zP0 h1
 | some v=>
  refine zB0 (thn h1 λ_ s1' h1'=>zB0 (thn h1' λ_ s2 h2=>zB0 (thn h2 λb s3 h3=>?_)))
  cases b with
  | false=>exact zP0 ⟨rfl,h3⟩
  | true=>exact zB0 (zB0 (thn h3 λx s4 h4=>zB0 (thn h4 λ_ s5 h5=>zP0 (zP0 ⟨rfl,h5⟩))))
end
def C7 (g:TG) (n:Nat) (sub:List Nat) (tt:TT) (te:TE) (σ:St) (Q:VK) (J:It) (H1:Hp):Prop:=∀D,H1 D=none->∃W:Nat->Nat->List V->Hp->Prop,(∃m,W 0 m [] (upd H1 D (.lst [])))/\∀i m ys H2,W i m ys H2->
 (J.stop i H2/\Q (.ref D) H2)\/(J.go i H2/\∃N:List V->Hp->Prop,(∀ys' H',N ys' H'->∃m',m' < m/\W (i+1) m' ys' H')/\∀v H3,J.yld i H2 v H3->∀τ:List (Option V),τ.length=n->g v (τ++bP sub σ) H3 λσ' H'=>(∃τ':List (Option V),τ'.length=n/\σ'=τ'++bP sub σ)/\tt σ' H' λc H4=>if c=true then
  te σ' H4 λy H5=>H5 D=some (.lst ys)/\ys.length < sizeLine/\N (ys++[y]) (upd H5 D (.lst (ys++[y])))
  else N ys H4)
section
variable {X:Cx}
theorem sE {elt tg iter:Expr}{xn:List Str}{g:TG}{CB:St->VK->It->Hp->Prop}{pos:Pos}{ifs:List Expr}{scope:Scope}{cl:List (Str × Addr)}{sub:List Nat}{fv:List Str}{wi:TI}{tt:TT}{te:TE}
  (hc:X.calm=true) (hi:PI X tg iter wi) (hclos:closureFor scope X.env=pure cl)
  (hcell:∀y∈scope.names,y.2≠.cell) (hkind:scope.kind=.function) (hnames:∀y∈scope.names,y.2=.local->scope.names.lookup y.1=some .local)
  (hl:sub.length=fv.length) (hsub:∀(j:Nat) (i:Nat) (y:Str),sub[j]?=some i->fv[j]?=some y->X.N[i]?=some y/\Vis X.env.scope y/\X.env.kindOf y≠some .local)
  (hvis:∀y∈fv,(compEnvC scope cl 0 X.env).kindOf y=some .cell\/(compEnvC scope cl 0 X.env).kindOf y=some .free)
  (hcl:∀y c,cl.lookup y=some c->X.env.cells.lookup y=some c) (hcl2:∀y∈fv,cl.lookup y=X.env.cells.lookup y)
  (hhas:∀y,((compEnvC scope cl 0 X.env).kindOf y=some .cell\/(compEnvC scope cl 0 X.env).kindOf y=some .free)->∃c,cl.lookup y=some c)
  (hg:∀C fp s H,PG (cK X scope cl (xn++fv) C fp s H) tg g) (ht:∀C fp s H,PTs (cK X scope cl (xn++fv) C fp s H) ifs tt) (he:∀C fp s H,PE (cK X scope cl (xn++fv) C fp s H) elt te)
  (hCB:∀σ Q J H1,CB σ Q J H1->C7 g xn.length sub tt te σ Q J H1) (hs:∀x,foldedSetIterable iter X.env x=pure x:=by intro _;rfl):PEC X (.ListComp elt [⟨tg,iter,ifs,0⟩] scope pos) iter scope (λσ H Q=>wi σ H λJ H1=>CB σ Q J H1):=by
 intro upos pins s σ H Q use QV I h hend
 refine wpAny_comprehension_free (use:=use) rfl hs hclos hkind hnames ?_
 refine thn (hi pins s σ H _ I h) λv s1 h1=>thn h1 λitv s2 h2=>?_
 obtain⟨it,fp,tn,J,H2,e,I2,T,st2,f2,h⟩:=h2
 subst e
 refine wpAny_newList ?_ (Nat.zero_le _)
 have nD:H2 s2.heap.objs.size=none:=I2.hok.fresh (Nat.le_refl _)
 obtain⟨W,⟨m0,w0⟩,turn⟩:=hCB _ _ _ _ h s2.heap.objs.size nD
 have I3:=I2.lnew (ys:=[]) (its:=[]) (t':=s2.toks) .nil (Nat.zero_le _)
 generalize hs3:({ s2 with heap:=s2.heap.push { cls:=.type "list", data:=.seq ([]:List Value).toArray },toks:=s2.toks }:Shared)=s3 at I3
 have hDlt:s2.heap.objs.size < s3.heap.objs.size:=by rw [<- hs3];show _ < (s2.heap.push _).objs.size;rw [Heap.size_push];exact Nat.lt_succ_self _
 have old3:∀b o,s2.heap.get? b=some o->s3.heap.get? b=some o:=λb o e=>by rw [<- hs3];exact zH0 _ e
 generalize hD:s2.heap.objs.size=D at *
 refine wpAny_newFunctionEnv hcell (by intro y hy;simp at hy) (λh₁ hns hsb=>?_) hkind
 generalize hC:s3.heap.objs.size=C at *
 have kept:∀b o,s3.heap.get? b=some o->h₁.get? b=some o:=λb o e=>(hsb.2 b (by rw [<- hC];exact Nat.ne_of_lt (Heap.lt_size e))).trans (zH0 _ e)
 have nC:upd H2 D (.lst []) C=none:=I3.hok.fresh (Nat.le_of_eq hC)
 have fC:iM X pins (upd H2 D (.lst [])) C:=I3.fpOk (Nat.le_of_eq hC) nC
 have fp3:∀b∈fp,b < s2.heap.objs.size:=λb hb=>by obtain⟨o,e,_⟩:=T.obj _ _ st2 b hb;exact Heap.lt_size e
 have fpC:∀b∈fp,b≠C:=λb hb=>by rw [<- hC];exact Nat.ne_of_lt (Nat.lt_of_lt_of_le (fp3 b hb) (by rw [hD];exact Nat.le_of_lt (hC ▸ hDlt)))
 have fpD:∀b∈fp,b≠D:=λb hb=>by rw [<- hD];exact Nat.ne_of_lt (fp3 b hb)
 have ok':(cK X scope cl (xn++fv) C fp s3 (upd H2 D (.lst []))).Ok:=by
  refine⟨I.ok.mod,hkind,I.ok.glob,I.ok.blt,Nat.le_of_eq hC,λy z c e1 e2=>I.ok.inj y z c (hcl y c e1) (hcl z c e2),λy hy=>hhas y hy,(λy c e _=>by cases e),λ_=>I.ok.hd hc,I.ok.frames,.inl rfl,λb hb=>⟨fpC b hb,λy c e=>(f2 b hb).2.2.2.2.1 y c (hcl y c e)⟩,I3.bs,Nat.le_trans I.ok.bsz I3.sz,
   λb o e hb=>?_,λb hb hf=>?_,I3.stack,I3.stkFree⟩
  ·rcases (f2 b hb).2.2.2.1 with z | z
   ·exact I.ok.noex b o e z
   ·exact absurd (Nat.lt_of_lt_of_le (Heap.lt_size e) (Nat.le_trans I.ok.bsz z)) (Nat.lt_irrefl _)
  ·rcases List.mem_cons.mp (I3.stkSub b hf) with z | z
   ·exact(f2 b hb).2.1 z
   ·exact(f2 b hb).2.2.1 z
 have lenσ:∀τ:List (Option V),τ.length=xn.length->(τ++bP sub σ).length=(xn++fv).length:=λτ ht=>by
  unfold bP
  rw [List.length_append,List.length_append,List.length_map,hl,ht]
 have I4:∀t',Inv (cK X scope cl (xn++fv) C fp s3 (upd H2 D (.lst []))) [] (List.replicate xn.length none++bP sub σ) (upd H2 D (.lst [])) { s3 with heap:=h₁,toks:=t' }:=λt'=>by
  refine⟨ok',rfl,I3.bare,Un.kept kept,⟨_,hns,λi y v e1 e2 e3=>?_⟩,λy c e=>?_,nC,λy c e=>I3.freeC y c (hcl y c e),(λp hp=>by cases hp),I3.hok.kept kept,lenσ _ (List.length_replicate ..)⟩
  ·by_cases hi:i < xn.length
   ·rw [List.getElem?_append_left (by rw [List.length_replicate];exact hi),List.getElem?_replicate,if_pos hi]at e2
    cases e2
   ·have e1:(xn++fv)[i]?=some y:=e1
    rw [List.getElem?_append_right ‹1›]at e1
    rw [List.getElem?_append_right (by rw [List.length_replicate];omega),List.length_replicate]at e2
    generalize i - xn.length=j at e1 e2
    unfold bP at e2
    rw [List.getElem?_map]at e2
    cases ei:sub[j]? with
    | none=>rw [ei]at e2;cases e2
    | some i=>
     rw [ei]at e2
     have e2:(σ[i]?).join=some v:=Option.some.inj e2
     obtain⟨n1,n2,n3⟩:=hsub j i y ei e1
     have e4:σ[i]?=some (some v):=by
      cases q:σ[i]? with
      | none=>rw [q]at e2;cases e2
      | some w'=>rw [q]at e2;cases w' with
       | none=>cases e2
       | some v'=>cases e2;rfl
     obtain⟨m,hn,hl'⟩:=I3.loc
     obtain⟨u,ru,lu⟩:=hl' i y v n1 e4 n2
     refine⟨u,ru,?_⟩
     rcases lu with⟨k1,_⟩ | ⟨k1,c,ec,ic⟩
     ·exact absurd k1 n3
     ·have hy:=List.mem_of_getElem? e1
      exact .inr ⟨hvis y hy,c,(hcl2 y hy).trans ec,ic.keeps kept⟩
  ·obtain⟨v,z⟩:=I3.cell y c (hcl y c e)
   exact⟨v,z.keeps kept⟩
 have back:∀{σ':St}{H':Hp}{s':Shared},Inv (cK X scope cl (xn++fv) C fp s3 (upd H2 D (.lst []))) [] σ' H' s'->Q (.ref D) H'->
   compPost (model X.prog X.w) X.A X.xe use QV (.ref D) C (.ok .next) s':=λ{σ' H' s'} J' q=>by
  obtain⟨m,hm,_⟩:=id J'.loc
  have hos:s'.os=s3.os:=J'.os
  have K1:Inv X pins σ H' s':=I3.call' (ch:=fp) hos J'.base J'.hok J'.bare λb hb=>⟨(f2 b hb).2.2.2.1,(f2 b hb).2.1,(f2 b hb).2.2.2.2.1,(f2 b hb).2.2.2.2.2⟩
  exact hend D C H' s' K1 ⟨J'.free,fC.2⟩ ⟨m,hm⟩ q
 have stat:∀{H':Hp},(∀b∈fp,H' b=none)->∀b∈fp,iM (cK X scope cl (xn++fv) C fp s3 (upd H2 D (.lst []))) [] H' b:=λhn b hb=>
  ⟨hn b hb,fpC b hb,ok'.exfs b hb,.inl hb,(ok'.exf b hb).2,(λp hp=>by cases hp)⟩
 have loop:∀t',codeAny (model X.prog X.w) X.A (.compLoop (.ListComp elt [⟨tg,iter,ifs,0⟩] scope pos) 0 (.ref it) (.ref D) (compEnvC scope cl C X.env)) (compPost (model X.prog X.w) X.A X.xe use QV (.ref D) C) { s3 with heap:=h₁,toks:=t' }:=λt'=>by
  refine qC (λn s'=>∃(i:Nat) (ys:List V) (H':Hp) (τ:List (Option V)),τ.length=xn.length/\Inv (cK X scope cl (xn++fv) C fp s3 (upd H2 D (.lst []))) [] (τ++bP sub σ) H' s'/\tn i s'.heap/\(∀b∈fp,H' b=none)/\W i n ys H') ?_ m0
   ⟨0,[],_,_,List.length_replicate ..,I4 t',T.keep _ _ _ st2 (λb hb o e=>kept b o (old3 b o e)),λb hb=>by rw [ah (fpD b hb)];exact(f2 b hb).1,w0⟩
  rintro n s5 ⟨i,ys,H5,τ,hτ,I5,st5,fr5,w5⟩
  rcases turn i n ys H5 w5 with⟨stop,q⟩ | ⟨go,NN,hNN,step⟩
  ·refine wpAny_mono (T.done (cK X scope cl (xn++fv) C fp s3 (upd H2 D (.lst []))) rfl rfl rfl rfl i [] s5 _ H5 (λ_ _=>False) I5 (stat fr5) st5 stop) (λr s6 hh=>?_) λ_ _ f=>f.elim
   obtain⟨hr,I6⟩:=hh
   subst hr
   exact back I6 q
  ·refine wpAny_mono (T.item (cK X scope cl (xn++fv) C fp s3 (upd H2 D (.lst []))) rfl rfl rfl rfl i [] s5 _ H5 (λ_ _=>False) I5 (stat fr5) st5 go) (λr s6 hh=>?_) λ_ _ f=>f.elim
   obtain⟨u,hr,h6⟩:=hh
   subst hr
   refine wpAny_mono h6 (λ_ s7 hh=>?_) λ_ _ f=>f.elim
   obtain⟨v,H7,I7,r7,y7,st7,fr7⟩:=hh
   have I7':=I7.pinned (stat fr7) (T.obj _ _ st7)
   refine wpAny_mono (hg C fp s3 _ _ s7 _ H7 v u _ I7' r7 (step v H7 y7 τ hτ)) (λ_ s8 hh=>?_) λ_ _ f=>f.elim
   obtain⟨_,H8,I8,⟨τ',hτ',rfl⟩,step⟩:=hh
   have again:∀{H9:Hp}{s9:Shared}{ys9:List V}{m9:Nat},Inv (cK X scope cl (xn++fv) C fp s3 (upd H2 D (.lst []))) ([]++jK fp s7.heap) (τ'++bP sub σ) H9 s9->m9 < n->W (i+1) m9 ys9 H9->
     ∃m,m < n/\∃(i:Nat) (ys:List V) (H':Hp) (τ:List (Option V)),τ.length=xn.length/\Inv (cK X scope cl (xn++fv) C fp s3 (upd H2 D (.lst []))) [] (τ++bP sub σ) H' s9/\tn i s9.heap/\(∀b∈fp,H' b=none)/\W i m ys H':=λ{H9 s9 ys9 m9} I9 hm w9=>by
    refine⟨m9,hm,i+1,ys9,H9,_,hτ',I9.unpinned,T.keep _ _ _ st7 λb hb o e=>(I9.pin (b,o) (List.mem_append_right _ (List.mem_append_right _ (eU hb e)))).1,λb hb=>?_,w9⟩
    obtain⟨o,e,d⟩:=T.obj _ _ st7 b hb
    exact(I9.pin (b,o) (List.mem_append_right _ (List.mem_append_right _ (eU hb e)))).2.1
   refine wpAny_mono (ht C fp s3 _ _ s8 _ H8 _ I8 step) (λok s9 hh=>?_) λ_ _ f=>f.elim
   obtain⟨H9,I9,q9⟩:=hh
   cases ok with
   | false=>
    rw [if_neg Bool.false_ne_true]at q9 ⊢
    obtain⟨m',hm,w'⟩:=hNN _ _ q9
    exact again I9 hm w'
   | true=>
    rw [if_pos rfl]at q9 ⊢
    refine wpAny_mono (he C fp s3 _ _ s9 _ H9 _ I9 q9) (λxv sa hh=>?_) λ_ _ f=>f.elim
    obtain⟨y,Ha,Ia,ra,hDa,hsz,qa⟩:=hh
    obtain⟨m',hm,w'⟩:=hNN _ _ qa
    refine wpAny_mono (eJ (X:=cK X scope cl (xn++fv) C fp s3 (upd H2 D (.lst []))) _ sa _ Ha (.ref D) [y] (.ref D) [xv] (λ_ H'=>H'=upd Ha D (.lst (ys++[y]))) Ia rfl (.cons ra .nil) ⟨D,ys,y,rfl,rfl,hDa,hsz,rfl⟩) (λ_ sb hh=>?_) λ_ _ f=>f.elim
    obtain⟨_,Hb,Ib,_,rfl⟩:=hh
    exact again Ib hm w'
 exact codeAny_compStart_list (loop _) (T.self X.A 0 _ _ _ (T.keep _ _ _ st2 (λb hb o e=>kept b o (old3 b o e))) (loop _))
theorem nU {elt iter:Expr}{x:Str}{px pos:Pos}{ifs:List Expr}{scope:Scope}{cl:List (Str × Addr)}{sub:List Nat}{fv:List Str}{wi:TI}{tt:TT}{te:TE}
  (hc:X.calm=true) (hi:PI X (.Name x px) iter wi) (hclos:closureFor scope X.env=pure cl)
  (hcell:∀y∈scope.names,y.2≠.cell) (hkind:scope.kind=.function) (hnames:∀y∈scope.names,y.2=.local->scope.names.lookup y.1=some .local) (hx:scope.names.lookup x=some .local)
  (hnd:(x::fv).Nodup) (hl:sub.length=fv.length) (hsub:∀(j:Nat) (i:Nat) (y:Str),sub[j]?=some i->fv[j]?=some y->X.N[i]?=some y/\Vis X.env.scope y/\X.env.kindOf y≠some .local)
  (hvis:∀y∈fv,(compEnvC scope cl 0 X.env).kindOf y=some .cell\/(compEnvC scope cl 0 X.env).kindOf y=some .free)
  (hcl:∀y c,cl.lookup y=some c->X.env.cells.lookup y=some c) (hcl2:∀y∈fv,cl.lookup y=X.env.cells.lookup y)
  (hhas:∀y,((compEnvC scope cl 0 X.env).kindOf y=some .cell\/(compEnvC scope cl 0 X.env).kindOf y=some .free)->∃c,cl.lookup y=some c)
  (ht:∀C fp s H,PTs (cK X scope cl (x::fv) C fp s H) ifs tt) (he:∀C fp s H,PE (cK X scope cl (x::fv) C fp s H) elt te)
  (hs:∀x,foldedSetIterable iter X.env x=pure x:=by intro _;rfl):PEC X (.ListComp elt [⟨.Name x px,iter,ifs,0⟩] scope pos) iter scope (kT wi sub tt te):=by
 refine sE (xn:=[x]) (g:=az 0) hc hi hclos hcell hkind hnames hl hsub hvis hcl hcl2 hhas (λC fp s H=>aI (i:=0) hnd rfl (.inl (lookup_relabel_local hx)) (.inr (lookup_relabel_local hx))) ht he (λσ Q J H1 h D nD=>?_) hs
 obtain⟨W,w0,st⟩:=h D nD
 refine⟨W,w0,λi m ys H2 hw=>(st i m ys H2 hw).imp id λ⟨go,N,hN,h⟩=>⟨go,N,hN,λv H3 y τ hτ=>?_⟩⟩
 match τ,hτ with
 | [t0],_=>exact⟨⟨[some v],rfl,rfl⟩,h v H3 y⟩
end
end L2
namespace Strip
section
variable {M:Type} [DecidableEq M]
end
end Strip
namespace L2
open PySem PySem.Spec PyProof.Rows
mutual
inductive DatV (H:Hp):V->PySem.W.Dat->Prop
 | non:DatV H .non .none
 | int (i:Int):DatV H (.int i) (.int i)
 | str (x:Str):DatV H (.str x) (.str x)
 | tup {a:Addr}{xs:List V}{ds:List PySem.W.Dat}:H a=some (.tup xs)->DatVs H xs ds->DatV H (.ref a) (.tuple ds)
 | lst {a:Addr}{xs:List V}{ds:List PySem.W.Dat}:H a=some (.lst xs)->DatVs H xs ds->DatV H (.ref a) (.list ds)
inductive DatVs (H:Hp):List V->List PySem.W.Dat->Prop
 | nil:DatVs H [] []
 | cons {x:V}{d:PySem.W.Dat}{xs:List V}{ds:List PySem.W.Dat}:DatV H x d->DatVs H xs ds->DatVs H (x::xs) (d::ds)
end
section
variable {X:Cx}{pins:List (Addr × Obj)}{σ:St}{H:Hp}{s:Shared}
mutual
theorem gt (I:Inv X pins σ H s):∀{x:V}{d:PySem.W.Dat}{u:Value},DatV H x d->aW x u->∃as,Reads s.heap u (PySem.W.kqdP d) as
 | _,_,u,.non,r=>by cases (show u=Value.none from r);rw [PySem.W.kqdP];exact⟨_,.none⟩
 | _,_,u,.int i,r=>by obtain⟨t,e⟩:=(show ∃t,u=Value.int i t from r);subst e;rw [PySem.W.kqdP];exact⟨_,.int i t⟩
 | _,_,u,.str x,r=>by obtain⟨t,e⟩:=(show ∃t,u=Value.str x t from r);subst e;rw [PySem.W.kqdP];exact⟨_,.str x t⟩
 | _,_,u,.tup (a:=a) e t,r=>by
  cases (show u=Value.ref a from r)
  obtain⟨_,its,rv,o,e1,e2,n,e3⟩:=(show bB X.prog X.w H s.heap a (.tup _) from I.hok a _ e)
  obtain⟨as,q⟩:=fi I t rv
  rw [PySem.W.kqdP]
  exact⟨as,reads_tuple_at e1 e2 e3 (by simpa using q)⟩
 | _,_,u,.lst (a:=a) e t,r=>by
  cases (show u=Value.ref a from r)
  obtain⟨_,its,n,rv,e1⟩:=(show bB X.prog X.w H s.heap a (.lst _) from I.hok a _ e)
  obtain⟨as,q⟩:=fi I t rv
  rw [PySem.W.kqdP]
  exact⟨_,reads_list_at e1 rfl rfl (by simpa using q)⟩
theorem fi (I:Inv X pins σ H s):∀{xs:List V}{ds:List PySem.W.Dat}{us:List Value},DatVs H xs ds->aU xs us->∃as,ReadsAll s.heap us (PySem.W.kqdPs ds) as
 | _,_,_,.nil,.nil=>by rw [PySem.W.kqdPs];exact⟨_,.nil⟩
 | _,_,_,.cons d t,.cons r rt=>by
  obtain⟨as,q⟩:=gt I d r
  obtain⟨bs,p⟩:=fi I t rt
  rw [PySem.W.kqdPs]
  exact⟨_,.cons q p⟩
end
end
section
variable {X:Cx}
inductive uY (neg:Bool) (x:V) (y:V) (H:Hp) (Q:VK):Prop
 | mk (d e) (h1:DatV H x d) (h2:DatV H y e) (h3:PySem.W.kqdOk 9 d=true) (h4:PySem.W.kqdOk 9 e=true) (h5:∃k:Bool,(k=true↔d=e)/\Q (.bl (if neg then !k else k)) H):uY neg x y H Q
theorem jD {d:PySem.W.Dat} (h:PySem.W.kqdOk 9 d=true):SeqAt.shaped (PySem.W.kqdP d)=true:=by
 have la:=PySem.W.kqd_lay 9 d h
 unfold SeqAt.shaped
 rw [la.1,Bool.true_and]
 exact decide_eq_true (Nat.le_trans la.2 (by decide))
theorem yp {d e:PySem.W.Dat} (h1:PySem.W.kqdOk 9 d=true) (h2:PySem.W.kqdOk 9 e=true){k:Bool} (hk:k=true↔d=e):PyData.eqv (PySem.W.kqdP d) (PySem.W.kqdP e)=k:=by
 have q:=PySem.W.kqd_eqv 9 d e 9 h1 h2
 cases k with
 | true=>exact q.mpr (hk.mp rfl)
 | false=>exact Bool.eq_false_iff.mpr λx=>by have:=hk.mpr (q.mp x);cases this
theorem vi (hu:X.A.units+64 < cLine):OpR X (compareOp .NotEq) (uY true):=by
 intro pins s σ H x y v u Q I r1 r2 h
 obtain⟨d,e,hd,he,kd,ke,k,hk,q⟩:=h
 obtain⟨as,ra⟩:=gt I hd r1
 obtain⟨bs,rb⟩:=gt I he r2
 refine ne_dataH ra rb (jD kd) (jD ke) hu ?_
 rw [yp kd ke hk]
 exact⟨.bl (!k),H,I,rfl,q⟩
end
theorem eK {K:W.Frag}{a D:Addr}{xs:List V}{σ:St}{sub:List Nat}{tt:TT}{te:TE}{Q:VK}{H:Hp} (Pv:Nat->List V->Hp->Prop) (h0:Pv 0 [] (upd H D (.lst []))) (hl:∀i ys H,i<=xs.length->Pv i ys H->SqL K H a xs)
  (hs:∀i x ys H,xs[i]?=some x->Pv i ys H->tt (some x::bP sub σ) H λb H4=>if b=true then te (some x::bP sub σ) H4 λy H5=>H5 D=some (.lst ys)/\ys.length < sizeLine/\Pv (i+1) (ys++[y]) (upd H5 D (.lst (ys++[y]))) else Pv (i+1) ys H4)
  (hd:∀ys H,Pv xs.length ys H->Q (.ref D) H) :
  ∃W:Nat->Nat->List V->Hp->Prop,(∃m,W 0 m [] (upd H D (.lst [])))/\∀i m ys H2,W i m ys H2->
   ((Itl K a).stop i H2/\Q (.ref D) H2)\/((Itl K a).go i H2/\∃N:List V->Hp->Prop,(∀ys' H',N ys' H'->∃m',m' < m/\W (i+1) m' ys' H')/\∀v H3,(Itl K a).yld i H2 v H3->tt (some v::bP sub σ) H3 λb H4=>if b=true then
    te (some v::bP sub σ) H4 λy H5=>H5 D=some (.lst ys)/\ys.length < sizeLine/\N (ys++[y]) (upd H5 D (.lst (ys++[y])))
    else N ys H4):=by
 refine⟨λi m ys H=>m=xs.length - i/\i<=xs.length/\Pv i ys H,⟨xs.length,rfl,Nat.zero_le _,h0⟩,?_⟩
 rintro i m ys H ⟨rfl,hi,p⟩
 have q:=hl i ys H hi p
 by_cases hlt:i < xs.length
 ·refine .inr ⟨⟨xs,xs[i],q,by simp [hlt]⟩,Pv (i+1),λys' H' p'=>⟨xs.length - (i+1),by omega,rfl,hlt,p'⟩,λx H' y=>?_⟩
  obtain⟨e,y⟩:=y
  subst e
  exact hs i x ys _ (y xs q) p
 ·have e:i=xs.length:=by omega
  subst e
  exact .inl ⟨⟨xs,q,Nat.le_refl _⟩,hd ys H p⟩
section
variable {X:Cx}
theorem mt_startswith:MtR X "str.startswith" (λx xs H Q=>∃i j,x=.str i/\xs=[.str j]/\Q (.bl (Txt.startswith i j)) H):=by
 intro pins s σ H x xs v us Q I rx rv h
 obtain⟨i,j,rfl,rfl,q⟩:=h
 obtain⟨t,rfl⟩:=rx
 obtain⟨u,rfl,t',rfl⟩:=da rv
 exact PySem.SC.startswith ⟨.bl _,H,I,rfl,q⟩
theorem kN:cD X (.type "int") (λxs H Q=>∃x n,xs=[.str x]/\PySem.intText? x=some n/\x.length<=640/\Q (.int n) H):=by
 intro pins s σ H xs us Q I r h
 obtain⟨x,n,rfl,hn,hl,q⟩:=h
 obtain⟨u,rfl,t,rfl⟩:=da r
 exact PySem.W.KIN.call_text hn hl ⟨.int n,H,I.tok _,⟨_,rfl⟩,q⟩
theorem zP:SlR X (λx lo hi H Q=>∃z,x=.str z/\z.length<=sizeLine/\Q (.str (Txt.slice z lo hi)) H):=by
 intro pins s σ H x v vl vu lo hi sl Q I rx hs pl pu h
 obtain⟨z,rfl,hz,q⟩:=h
 obtain⟨t,rfl⟩:=rx
 refine⟨"str", _,slot_str_getitem.lookup,typeIs_str s z t,?_⟩
 have fin:∀l u:Option (Int × Tok),vl=partValue l->vu=partValue u->l.map (·.1)=lo->u.map (·.1)=hi->
   wpAny (model X.prog X.w) X.A (getItem (.str z t) (.ref sl)) (EP X pins σ Q) X.xe s:=λl u e1 e2 e3 e4=>by
  subst e1 e2 e3 e4
  refine wpAny_getItem_str_slice (l:=l) (u:=u) (st:=none) hs rfl ?_
  have q2:∀t',EP X pins σ Q (.str (Txt.slice z (l.map (·.1)) (u.map (·.1))) t') s:=λt'=>⟨.str _,H,I,⟨t',rfl⟩,q⟩
  unfold sliceMade
  unfold Txt.slice at q2
  unfold Txt.slice at q
  by_cases c:((((none:Option (Int × Tok)).map (·.1)).getD 1:Int) == 1 && (slicePicked z l u none).length == z.length)=true
  ·rw [if_pos c]
   rw [if_pos (show ((1:Int) == 1 && (Builtin.Str.strSliceIndices (l.map (·.1)) (u.map (·.1)) 1 z.length).length == z.length)=true from c)]at q2
   exact q2 t
  ·rw [if_neg c]
   rw [if_neg (show ¬((1:Int) == 1 && (Builtin.Str.strSliceIndices (l.map (·.1)) (u.map (·.1)) 1 z.length).length == z.length)=true from c)]at q
   refine⟨?_,⟨.str _,H,I.tok _,⟨_,rfl⟩,q⟩⟩
   have hle:=Txt.slice_le z (l.map (·.1)) (u.map (·.1))
   unfold Txt.slice at hle
   rw [if_neg (show ¬((1:Int) == 1 && (Builtin.Str.strSliceIndices (l.map (·.1)) (u.map (·.1)) 1 z.length).length == z.length)=true from c)]at hle
   exact Nat.le_trans hle hz
 cases pl with
 | none=>cases pu with
  | none=>exact fin none none rfl rfl rfl rfl
  | int j tj=>exact fin none (some (j,tj)) rfl rfl rfl rfl
 | int i ti=>cases pu with
  | none=>exact fin (some (i,ti)) none rfl rfl rfl rfl
  | int j tj=>exact fin (some (i,ti)) (some (j,tj)) rfl rfl rfl rfl
noncomputable def Its (x:Str):It:=⟨λi _=>i < x.cps.size,λi H v H'=>H'=H/\∃c,x.cps[i]?=some c/\v=.str ⟨#[c]⟩,λi _=>x.cps.size<=i⟩
theorem pj {P:Program}{w:World}{K:W.Frag}{tg:Expr} (x:Str) (t:Tok) (it:Addr):Turn P w K tg (Its x) [it] it (λi h=>h.IsStrIter it "str_ascii_iterator" x t i) where
 mem:=by simp
 obj:=λi h st b hb=>by
  have e:b=it:=by simpa using hb
  subst e
  obtain⟨o,e,c,d⟩:=st
  exact⟨o,e,λv z=>by rw [d]at z;cases z⟩
 keep:=λi h h' st k=>let ⟨o,ho,r⟩:=st;⟨o,k it (by simp) o ho,r⟩
 item:=by
  intro X hP hw hK hc i pins s σ H E I hf st hg
  subst hP hw hK
  have hg:i < x.cps.size:=hg
  obtain⟨f0,f1,f2,f3,f4,f5⟩:=hf it (by simp)
  refine wpAny_pyNext_ascii_item st (c:=x.cps[i]) (by simp [hg]) λh' st' sb=>?_
  have I1:Inv X pins σ H { s with heap:=h',toks:=s.toks+1 }:=I.turned (λb o hb e=>(sb.2 b hb).trans e) f0 f1 f3 f4 f5
  obtain⟨o,e,c,d⟩:=id st'
  exact⟨_,rfl,lF (s:={ s with heap:=h',toks:=s.toks+1 }) e c d (by decide) ⟨.str ⟨#[x.cps[i]]⟩,H,I1,⟨_,rfl⟩,⟨rfl,_,by simp [hg],rfl⟩,st',λb hb=>(hf b hb).1⟩⟩
 done:=by
  intro X hP hw hK hc i pins s σ H E I hf st hg
  subst hP hw hK
  have hg:x.cps.size<=i:=hg
  obtain⟨f0,f1,f2,f3,f4,f5⟩:=hf it (by simp)
  exact wpAny_pyNext_ascii_end (I.ok.hd hc) st (by simp;omega) λh' eb=>⟨rfl,I.turned (t':=s.toks) (λb o hb e=>eb b o hb e) f0 f1 f3 f4 f5⟩
 self:=λ_ _ _ _ _ st h=>wpAny_pyIter_striter_ascii st h
theorem rZ {P:Program}{w:World}{K:W.Frag}{tg:Expr} (x:Str) (t:Tok) (it:Addr):Turn P w K tg (Its x) [it] it (λi h=>h.IsStrIter it "str_iterator" x t i) where
 mem:=by simp
 obj:=λi h st b hb=>by
  have e:b=it:=by simpa using hb
  subst e
  obtain⟨o,e,c,d⟩:=st
  exact⟨o,e,λv z=>by rw [d]at z;cases z⟩
 keep:=λi h h' st k=>let ⟨o,ho,r⟩:=st;⟨o,k it (by simp) o ho,r⟩
 item:=by
  intro X hP hw hK hc i pins s σ H E I hf st hg
  subst hP hw hK
  have hg:i < x.cps.size:=hg
  obtain⟨f0,f1,f2,f3,f4,f5⟩:=hf it (by simp)
  refine wpAny_pyNext_wide_item st (c:=x.cps[i]) (by simp [hg]) λh' st' sb=>?_
  have I1:Inv X pins σ H { s with heap:=h',toks:=s.toks+1 }:=I.turned (λb o hb e=>(sb.2 b hb).trans e) f0 f1 f3 f4 f5
  obtain⟨o,e,c,d⟩:=id st'
  exact⟨_,rfl,lF (s:={ s with heap:=h',toks:=s.toks+1 }) e c d (by decide) ⟨.str ⟨#[x.cps[i]]⟩,H,I1,⟨_,rfl⟩,⟨rfl,_,by simp [hg],rfl⟩,st',λb hb=>(hf b hb).1⟩⟩
 done:=by
  intro X hP hw hK hc i pins s σ H E I hf st hg
  subst hP hw hK
  have hg:x.cps.size<=i:=hg
  obtain⟨f0,f1,f2,f3,f4,f5⟩:=hf it (by simp)
  exact wpAny_pyNext_wide_end (I.ok.hd hc) st (by simp;omega) λh' eb=>⟨rfl,I.turned (t':=s.toks) (λb o hb e=>eb b o hb e) f0 f1 f3 f4 f5⟩
 self:=λ_ _ _ _ _ st h=>wpAny_pyIter_striter_wide st h
noncomputable def BM (tl:TE):TI:=λσ H R=>tl σ H λv H1=>∃x,v=.str x/\R (Its x) H1
theorem Ao {tg l:Expr}{tl:TE} (hl:PE X l tl):PI X tg l (BM tl):=by
 intro pins s σ H R I h
 refine thn (hl pins s σ H _ I h) λv s1 ⟨y,H1,I1,r1,q1⟩=>?_
 obtain⟨x,e,q⟩:=q1
 subst e
 obtain⟨t,rfl⟩:=r1
 have fp:∀b∈[s1.heap.objs.size],iM X pins H1 b:=λb hb=>by
  have e:b=s1.heap.objs.size:=by simpa using hb
  subst e
  exact I1.fpOk (Nat.le_refl _) (I1.hok.fresh (Nat.le_refl _))
 cases ha:x.cps.all (· < 128)
 ·refine wpAny_pyIter_wide ha ?_
  exact⟨s1.heap.objs.size,[s1.heap.objs.size],_,_,H1,rfl,I1.kept (t':=s1.toks) λb o e=>zH0 _ e,rZ x t _,⟨_,Heap.get?_push_size _ rfl,rfl,rfl⟩,fp,q⟩
 ·refine wpAny_pyIter_ascii ha ?_
  exact⟨s1.heap.objs.size,[s1.heap.objs.size],_,_,H1,rfl,I1.kept (t':=s1.toks) λb o e=>zH0 _ e,pj x t _,⟨_,Heap.get?_push_size _ rfl,rfl,rfl⟩,fp,q⟩
theorem wB {x:Str}{D:Addr}{σ:St}{sub:List Nat}{tt:TT}{te:TE}{Q:VK}{H:Hp} (Pv:Nat->List V->Hp->Prop) (h0:Pv 0 [] (upd H D (.lst [])))
  (hs:∀i c ys H,x.cps[i]?=some c->Pv i ys H->tt (some (.str ⟨#[c]⟩)::bP sub σ) H λb H4=>if b=true then te (some (.str ⟨#[c]⟩)::bP sub σ) H4 λy H5=>H5 D=some (.lst ys)/\ys.length < sizeLine/\Pv (i+1) (ys++[y]) (upd H5 D (.lst (ys++[y]))) else Pv (i+1) ys H4)
  (hd:∀ys H,Pv x.cps.size ys H->Q (.ref D) H) :
  ∃W:Nat->Nat->List V->Hp->Prop,(∃m,W 0 m [] (upd H D (.lst [])))/\∀i m ys H2,W i m ys H2->
   ((Its x).stop i H2/\Q (.ref D) H2)\/((Its x).go i H2/\∃N:List V->Hp->Prop,(∀ys' H',N ys' H'->∃m',m' < m/\W (i+1) m' ys' H')/\∀v H3,(Its x).yld i H2 v H3->tt (some v::bP sub σ) H3 λb H4=>if b=true then
    te (some v::bP sub σ) H4 λy H5=>H5 D=some (.lst ys)/\ys.length < sizeLine/\N (ys++[y]) (upd H5 D (.lst (ys++[y])))
    else N ys H4):=by
 refine⟨λi m ys H=>m=x.cps.size - i/\i<=x.cps.size/\Pv i ys H,⟨_,rfl,Nat.zero_le _,h0⟩,?_⟩
 rintro i m ys H ⟨rfl,hi,p⟩
 by_cases hlt:i < x.cps.size
 ·refine .inr ⟨hlt,Pv (i+1),λys' H' p'=>⟨_,by omega,rfl,hlt,p'⟩,λv H' y=>?_⟩
  obtain⟨rfl,c,ec,rfl⟩:=y
  exact hs i c ys _ ec p
 ·have e:i=x.cps.size:=by omega
  subst e
  exact .inl ⟨Nat.le_refl _,hd ys H p⟩
end
section
variable {X:Cx}
theorem lN (hc:X.calm=true):cD X (.builtin "all") (λxs H Q=>∃(a:Addr) (bs:List Bool),xs=[.ref a]/\SqL X.K H a (bs.map V.bl)/\Q (.bl (bs.all id)) H):=by
 intro pins s σ H xs us Q I r h
 obtain⟨a,bs,rfl,hS,q⟩:=h
 obtain⟨u,rfl,ru⟩:=da r
 cases (show u=Value.ref a from ru)
 obtain⟨its,rv,p,hz⟩:=I.list hS
 have hlen:=rv.length
 rw [List.length_map]at hlen
 have hne:a≠s.heap.objs.size:=λz=>by
  obtain⟨o,e,_⟩:=p.isList
  exact Nat.lt_irrefl _ (z ▸ Heap.lt_size e)
 obtain⟨f0,f1,f2,f3,f4,f5⟩:=I.fpOk (Nat.le_refl _) (I.hok.fresh (Nat.le_refl _))
 refine call_all_walk (wpAny_pyIter_list p.isList ?_)
 have I1:=λo=>I.kept (h':=s.heap.push o) (t':=s.toks) λb ob e=>zH0 _ e
 refine⟨s.heap.objs.size,_,_,_,_,_,λi=>bs.getD i false,rfl,Walks.list (A:=X.A.in1) (I.ok.hd hc) _ a hne its.toArray,⟨⟨_,Heap.get?_push_size _ rfl,rfl,rfl⟩,p.isList.at λo e=>zH0 _ e⟩,?_,λh' tk hk=>?_⟩
 ·intro i v s' Q' E' hv hQ
  have hv:its[i]?=some v:=by simpa using hv
  have hi:i < bs.length:=by rw [hlen];exact(List.getElem?_eq_some_iff.mp hv).1
  obtain⟨u',hu,ru'⟩:=rv.get (i:=i) (x:=V.bl bs[i]) (by rw [List.getElem?_map,List.getElem?_eq_getElem hi];rfl)
  rw [hv]at hu
  cases hu
  cases (show v=Value.bool bs[i] from ru')
  have e:bs.getD i false=bs[i]:=by rw [List.getD_eq_getElem?_getD,List.getElem?_eq_getElem hi];rfl
  have hQ:Q' (bs.getD i false) s':=hQ
  rw [e]at hQ
  exact wpAny_truthy_bool hQ
 ·refine⟨.bl _,H,(I1 _).turned (t':=tk) (λb o hb e=>hk b o (by simpa using hb) e) f0 f1 f3 f4 f5,rfl,?_⟩
  have e:(List.range its.toArray.size).all (λi=>bs.getD i false)=bs.all id:=by
   rw [List.size_toArray,<- hlen]
   rw [Bool.eq_iff_iff,List.all_eq_true,List.all_eq_true]
   constructor
   ·intro h b hb
    obtain⟨i,hi,rfl⟩:=List.getElem_of_mem hb
    have:=h i (List.mem_range.mpr hi)
    rw [List.getD_eq_getElem?_getD,List.getElem?_eq_getElem hi]at this
    exact this
   ·intro h i hi
    have hi:=List.mem_range.mp hi
    rw [List.getD_eq_getElem?_getD,List.getElem?_eq_getElem hi]
    exact h _ (List.getElem_mem hi)
  rw [e]
  exact q
theorem fR {α:Type}:∀{l:List (Str × α)}{z:Str}{k:α},l.lookup z=some k->∃p∈l,z=p.1/\p.2=k
 | [],_,_,e=>by cases e
 | (n,k')::r,z,k,e=>by
  rw [List.lookup_cons]at e
  split at e
  ·rename_i h
   cases e
   exact⟨(n,k'),List.mem_cons_self,eq_of_beq h,rfl⟩
  ·obtain⟨p,hp,q⟩:=fR e
   exact⟨p,List.mem_cons_of_mem _ hp,q⟩
theorem vg {elt iter:Expr}{x y:Str}{c:Addr}{i:Nat}{px pos:Pos}{ifs:List Expr}{scope:Scope}{wi:TI}{tt:TT}{te:TE}
  (hc:X.calm=true) (hi:PI X (.Name x px) iter wi) (hclos:closureFor scope X.env=pure [(y,c)]) (hkind:scope.kind=.function)
  (hall:∀p∈scope.names,p.2=.local\/(p.1=y/\p.2=.free)) (hnames:∀p∈scope.names,p.2=.local->scope.names.lookup p.1=some .local) (hx:scope.names.lookup x=some .local)
  (hxy:x≠y) (hN:X.N[i]?=some y) (hv:Vis X.env.scope y) (hk:X.env.kindOf y≠some .local)
  (hvis:(compEnvC scope [(y,c)] 0 X.env).kindOf y=some .cell\/(compEnvC scope [(y,c)] 0 X.env).kindOf y=some .free) (hcy:X.env.cells.lookup y=some c)
  (ht:∀C fp s H,PTs (cK X scope [(y,c)] [x,y] C fp s H) ifs tt) (he:∀C fp s H,PE (cK X scope [(y,c)] [x,y] C fp s H) elt te)
  (hs:∀x,foldedSetIterable iter X.env x=pure x:=by intro _;rfl):PE X (.ListComp elt [⟨.Name x px,iter,ifs,0⟩] scope pos) (kT wi [i] tt te):=by
 have one:∀{z c'},[(y,c)].lookup z=some c'->z=y/\c'=c:=λ{z c'} e=>by
  obtain⟨p,hp,e1,e2⟩:=fR e
  cases List.mem_singleton.mp hp
  exact⟨e1,e2.symm⟩
 have self:[(y,c)].lookup y=some c:=by rw [List.lookup_cons];simp
 refine dS ?_
 refine nU (cl:=[(y,c)]) (fv:=[y]) hc hi hclos (λp hp z=>?_) hkind hnames hx ?_ rfl (λj k z e1 e2=>?_) (λz hz=>?_) (λz c' e=>?_) (λz hz=>?_) (λz hz=>?_) ht he hs
 ·rcases hall p hp with q | ⟨_,q⟩ <;> rw [q]at z <;> cases z
 ·exact List.nodup_cons.mpr ⟨λh=>hxy (List.mem_singleton.mp h),List.nodup_cons.mpr ⟨(λh=>nomatch h),List.nodup_nil⟩⟩
 ·cases j with
  | zero=>cases e1;cases e2;exact⟨hN,hv,hk⟩
  | succ j=>cases e1
 ·cases List.mem_singleton.mp hz
  exact hvis
 ·obtain⟨rfl,rfl⟩:=one e
  exact hcy
 ·cases List.mem_singleton.mp hz
  rw [self,hcy]
 ·have far:∀k,(k=.cell\/k=.free)->(compEnvC scope [(y,c)] 0 X.env).kindOf z=some k->∃c',[(y,c)].lookup z=some c':=λk hkk e=>by
   obtain⟨p,hp,e1,e2⟩:=fR (show (scope.names.map _).lookup z=some k from e)
   obtain⟨⟨n,kk⟩,hq,rfl⟩:=List.mem_map.mp hp
   rcases hall _ hq with q | ⟨q,_⟩
   ·have q:kk=.local:=q
    subst q
    have e2:NameKind.local=k:=e2
    rcases hkk with r | r <;> rw [r]at e2 <;> cases e2
   ·have q:n=y:=q
    subst q
    refine⟨c,?_⟩
    have:z=n:=by
     rw [e1]
     dsimp only
     split <;> rfl
    rw [this]
    exact self
  rcases hz with e | e
  ·exact far _ (.inl rfl) e
  ·exact far _ (.inr rfl) e
end
end L2
namespace Strip
section
variable {M:Type} [DecidableEq M]
end
end Strip
namespace L2
open PySem PySem.Spec PyProof.Rows
end L2
namespace Strip
open L2 PySem
end Strip
namespace L2
open PySem PySem.Spec PyProof.Rows
inductive Caps (X:Cx) (scope:Scope) (cl0:List (Str × Addr)):List (Str × Addr)->List Nat->Prop
 | nil:Caps X scope cl0 [] []
 | cons {y:Str}{c:Addr}{i:Nat}{cl:List (Str × Addr)}{sub:List Nat} (hN:X.N[i]?=some y) (hv:Vis X.env.scope y) (hk:X.env.kindOf y≠some .local)
   (hvis:(compEnvC scope cl0 0 X.env).kindOf y=some .cell\/(compEnvC scope cl0 0 X.env).kindOf y=some .free) (hc:X.env.cells.lookup y=some c) (t:Caps X scope cl0 cl sub):Caps X scope cl0 ((y,c)::cl) (i::sub)
section
variable {X:Cx}{scope:Scope}{cl0:List (Str × Addr)}
theorem Caps.len:∀{cl:List (Str × Addr)}{sub:List Nat},Caps X scope cl0 cl sub->sub.length=(cl.map (·.1)).length
 | _,_,.nil=>rfl
 | _,_,.cons _ _ _ _ _ t=>congrArg (· + 1) t.len
theorem Caps.at:∀{cl:List (Str × Addr)}{sub:List Nat},Caps X scope cl0 cl sub->∀(j i:Nat) (y:Str),sub[j]?=some i->(cl.map (·.1))[j]?=some y->X.N[i]?=some y/\Vis X.env.scope y/\X.env.kindOf y≠some .local
 | _,_,.nil,_,_,_,e,_=>by simp at e
 | _,_,.cons hN hv hk _ _ t,j,i,y,e1,e2=>by
  cases j with
  | zero=>
   simp at e1 e2
   subst e1 e2
   exact⟨hN,hv,hk⟩
  | succ j=>exact t.at j i y (by simpa using e1) (by simpa using e2)
theorem Caps.vis:∀{cl:List (Str × Addr)}{sub:List Nat},Caps X scope cl0 cl sub->∀y∈cl.map (·.1),(compEnvC scope cl0 0 X.env).kindOf y=some .cell\/(compEnvC scope cl0 0 X.env).kindOf y=some .free
 | _,_,.nil,_,h=>by simp at h
 | _,_,.cons _ _ _ hvis _ t,y,h=>by
  rcases List.mem_cons.mp h with e | h
  ·rw [e];exact hvis
  ·exact t.vis y h
theorem Caps.cell:∀{cl:List (Str × Addr)}{sub:List Nat},Caps X scope cl0 cl sub->∀y c,cl.lookup y=some c->X.env.cells.lookup y=some c
 | _,_,.nil,_,_,h=>by cases h
 | _,_,.cons (y:=z) (c:=d) _ _ _ _ hc t,y,c,h=>by
  rw [List.lookup_cons]at h
  split at h
  ·rename_i e
   cases h
   rw [eq_of_beq e]
   exact hc
  ·exact t.cell y c h
theorem gA {α:Type}:∀{l:List (Str × α)}{y:Str},y∈l.map (·.1)->∃c,l.lookup y=some c
 | [],_,h=>by simp at h
 | (n,k)::r,y,h=>by
  rw [List.lookup_cons]
  split
  ·exact⟨k,rfl⟩
  ·rename_i e
   rcases List.mem_cons.mp h with z | z
   ·rw [z]at e
    simp at e
   ·exact gA z
def eN (ys:List Str) (p:Str × NameKind):Prop:=p.2=.local\/p.2=.globalImplicit\/(p.1∈ys/\p.2=.free)
noncomputable instance (ys:List Str) (p:Str × NameKind):Decidable (eN ys p):=by unfold eN;exact inferInstance
theorem bh {elt iter:Expr}{x:Str}{cl:List (Str × Addr)}{sub:List Nat}{px pos:Pos}{ifs:List Expr}{wi:TI}{tt:TT}{te:TE}
  (hc:X.calm=true) (hi:PI X (.Name x px) iter wi) (hclos:closureFor scope X.env=pure cl) (hkind:scope.kind=.function)
  (hall:∀p∈scope.names,eN (cl.map (·.1)) p) (hnames:∀p∈scope.names,p.2=.local->scope.names.lookup p.1=some .local) (hx:scope.names.lookup x=some .local)
  (hnd:(x::cl.map (·.1)).Nodup) (caps:Caps X scope cl cl sub)
  (ht:∀C fp s H,PTs (cK X scope cl (x::cl.map (·.1)) C fp s H) ifs tt) (he:∀C fp s H,PE (cK X scope cl (x::cl.map (·.1)) C fp s H) elt te)
  (hs:∀x,foldedSetIterable iter X.env x=pure x:=by intro _;rfl):PEC X (.ListComp elt [⟨.Name x px,iter,ifs,0⟩] scope pos) iter scope (kT wi sub tt te):=by
 refine nU (cl:=cl) (fv:=cl.map (·.1)) hc hi hclos (λp hp z=>?_) hkind hnames hx hnd caps.len caps.at caps.vis caps.cell (λy hy=>?_) (λz hz=>?_) ht he hs
 ·rcases hall p hp with q | q | ⟨_,q⟩ <;> rw [q]at z <;> cases z
 ·obtain⟨c,e⟩:=gA hy
  rw [e,caps.cell y c e]
 ·have far:∀k,(k=.cell\/k=.free)->(compEnvC scope cl 0 X.env).kindOf z=some k->∃c',cl.lookup z=some c':=λk hkk e=>by
   obtain⟨p,hp,e1,e2⟩:=fR (show (scope.names.map _).lookup z=some k from e)
   obtain⟨⟨n,kk⟩,hq,rfl⟩:=List.mem_map.mp hp
   rcases hall _ hq with q | q | ⟨q,_⟩
   ·have q:kk=.local:=q
    subst q
    have e2:NameKind.local=k:=e2
    rcases hkk with r | r <;> rw [r]at e2 <;> cases e2
   ·have q:kk=.globalImplicit:=q
    subst q
    have e2:NameKind.globalImplicit=k:=e2
    rcases hkk with r | r <;> rw [r]at e2 <;> cases e2
   ·have q:n∈cl.map (·.1):=q
    have:z=n:=by
     rw [e1]
     dsimp only
     split <;> rfl
    rw [this]
    exact gA q
  rcases hz with e | e
  ·exact far _ (.inl rfl) e
  ·exact far _ (.inr rfl) e
end
theorem dJ {lo:Int}{n:Nat}{D:Addr}{σ:St}{sub:List Nat}{tt:TT}{te:TE}{Q:VK}{H:Hp} (Pv:Nat->List V->Hp->Prop) (h0:Pv 0 [] (upd H D (.lst [])))
  (hs:∀i ys H2,i < n->Pv i ys H2->tt (some (.int (lo+i))::bP sub σ) H2 λb H4=>if b=true then te (some (.int (lo+i))::bP sub σ) H4 λy H5=>H5 D=some (.lst ys)/\ys.length < sizeLine/\Pv (i+1) (ys++[y]) (upd H5 D (.lst (ys++[y]))) else Pv (i+1) ys H4)
  (hd:∀ys H2,Pv n ys H2->Q (.ref D) H2) :
  ∃W:Nat->Nat->List V->Hp->Prop,(∃m,W 0 m [] (upd H D (.lst [])))/\∀i m ys H2,W i m ys H2->
   ((Itr lo n).stop i H2/\Q (.ref D) H2)\/((Itr lo n).go i H2/\∃N:List V->Hp->Prop,(∀ys' H',N ys' H'->∃m',m' < m/\W (i+1) m' ys' H')/\∀v H3,(Itr lo n).yld i H2 v H3->tt (some v::bP sub σ) H3 λb H4=>if b=true then
    te (some v::bP sub σ) H4 λy H5=>H5 D=some (.lst ys)/\ys.length < sizeLine/\N (ys++[y]) (upd H5 D (.lst (ys++[y]))) else N ys H4):=by
 refine⟨λi m ys H2=>m=n - i/\i<=n/\Pv i ys H2,⟨n,by simp,Nat.zero_le _,h0⟩,?_⟩
 rintro i m ys H2 ⟨rfl,hi,p⟩
 by_cases hlt:i < n
 ·refine .inr ⟨hlt,Pv (i+1),λys' H' p'=>⟨n - (i+1),by omega,rfl,hlt,p'⟩,λv H3 y=>?_⟩
  obtain⟨e,e2⟩:=y
  subst e e2
  exact hs i ys _ hlt p
 ·have e:i=n:=by omega
  subst e
  exact .inl ⟨Nat.le_refl _,hd ys H2 p⟩
theorem lY:∀{zs:List Str}{us:List Value},aU (zs.map V.str) us->StrsAre us zs
 | [],_,r=>by cases r;exact .nil
 | z::zs,_,r=>by
  rw [List.map_cons]at r
  cases r with
  | cons a t=>
   obtain⟨tk,rfl⟩:=a
   exact .cons z tk (lY t)
theorem jg {X:Cx}:MtR X "str.join" (λx xs H Q=>∃i l zs,x=.str i/\xs=[.ref l]/\H l=some (.lst (zs.map V.str))/\(zs.map (·.length)).sum+zs.length * i.length<=16777216/\Q (.str (Txt.join i zs)) H):=by
 intro pins s σ H x xs v us Q I rx rv h
 obtain⟨i,l,zs,rfl,rfl,hl,hz,q⟩:=h
 obtain⟨t,rfl⟩:=rx
 obtain⟨u,rfl,ru⟩:=aU.one rv
 cases ru
 obtain⟨_,its,n,r,_,e⟩:=I.lstM hl
 exact join_list (items:=its.toArray) ⟨_,e,rfl,n,rfl⟩ (by simpa using lY r) hz λt' k=>⟨.str _,H,I.tok _,⟨_,rfl⟩,q⟩
section
variable {X:Cx}
variable {scope:Scope}{cl0:List (Str × Addr)}
end
end L2
namespace L2
open PySem PySem.Spec PyProof.Rows PySem.Builtin PySem.Builtin.ObjectAttr
section
variable {prog:Program}{w:World}{A:Around}{E:Value->Shared->Prop}{s:Shared}{K:W.Frag}{x C U:Addr}{ox:Obj}{od:Option Obj}{cd:ClassData}{name:Str}{v:Value}
end
section
variable {prog:Program}{w:World}{A:Around}{E:Value->Shared->Prop}{h:Heap}{g:Array GenState}{d:Drawn}{t:Nat}{os:OsState}
variable {nm q:Str}{C N f:Addr}{bs bm bmB bmN:List Value}{hdct:Bool}{sn:List Str}{sub:List Value}{ab:Bool}{col:Option Bool}{dd:Option Addr}{k0 k1 k2 k3 k5:Option Value}{B Bn newId nid initId inN:String}
end
end L2
namespace L2
open PySem PySem.Spec PyProof.Rows
section
variable {X:Cx}{pins:List (Addr × Obj)}{σ:St}{H:Hp}{s:Shared}
end
section
variable {X:Cx}
end
section
variable {M:Model}{A:Around}{E:Value->Shared->Prop}{s:Shared}
end
section
variable {M:Model}{A:Around}{E:Value->Shared->Prop}{env:Env}
end
section
variable {M:Model}{A:Around}{E:Value->Shared->Prop}{env:Env}
end
section
variable {P:Program}{w:World}{H:Hp}{h h':Heap}{l:List Env}{a C:Addr}{D:Option Addr}{n:Bool}
end
section
variable {P:Program}{w:World}{K:W.Frag}{mg:Str->Option Value}{base:Heap}{N:List Str}{qual:Str}{scope:Scope}{f:Addr}{cd:Value}{A:Around}{outer:List Env}{s:Shared}{H:Hp}{E:XK}
end
section
variable {M:Model}{A:Around}{E:Value->Shared->Prop}
end
section
variable {X:Cx}{pins:List (Addr × Obj)}{σ:St}{H:Hp}{s:Shared}{E:Value->Shared->Prop}{a:Addr}
end
section
variable {X:Cx}
end
end L2
namespace Kn
open PySem
end Kn
namespace L2
open PySem PySem.Spec PyProof.Rows
section
variable {prog:Program}{w:World}{K:Type} [DecidableEq K] {knd:HeapKind prog w K}{A:Around}{E:Value->Shared->Prop}{s:Shared}
end
section
variable {X:Cx}{pins:List (Addr × Obj)}{σ:St}{H:Hp}{s:Shared}{a b:Addr}{kvs:List (List Key × V)}{k:List Key}{A:Around}{E:Value->Shared->Prop}
end
section
variable {X:Cx}{o e f:Expr}{apos cpos:Pos}{td ty tx:TE}
end
end L2
namespace PySem.SeqAt
open AutoSeq1 (wpAny_loadPart')
open MeetsSeq MeetsSeq2 MeetsSeq3 SeqRoads2
end PySem.SeqAt
namespace L2
open PySem PySem.Spec PyProof.Rows
section
variable {X:Cx}
end
noncomputable def inS (zs:List Str) (i:Nat):Str->Bool:=λk=>decide (k∈zs.take i)
noncomputable def ij (zs:List Str):Nat->Nat
 | 0=>0
 | i+1=>match zs[i]? with
  | some z=>if inS zs i z=true then ij zs i else ij zs i+1
  | none=>ij zs i
theorem wI (zs:List Str):∀i,ij zs i<=i
 | 0=>Nat.le_refl _
 | i+1=>by
  have:=wI zs i
  unfold ij
  split
  ·split <;> omega
  ·omega
theorem AQ {zs:List Str} (nd:zs.Nodup){i:Nat}{z:Str} (ez:zs[i]?=some z):inS zs i z=false:=by
 refine decide_eq_false λq=>?_
 obtain⟨j,hj,e⟩:=List.getElem_of_mem q
 rw [List.length_take]at hj
 rw [List.getElem_take]at e
 have hi:=(List.getElem?_eq_some_iff.mp ez)
 exact(List.pairwise_iff_getElem.mp nd j i ‹1› hi.1 ‹1›) (e.trans hi.2.symm)
theorem lJ {zs:List Str} (nd:zs.Nodup):∀i,i<=zs.length->ij zs i=i
 | 0,_=>rfl
 | i+1,h=>by
  have ez:zs[i]?=some (zs[i]'‹1›):=List.getElem?_eq_getElem ‹1›
  unfold ij
  rw [ez]
  simp only
  rw [AQ nd ez,lJ nd i ‹1›]
  rfl
abbrev kB (P:Program) (w:World) (a:Addr) (zs:List Str) (i:Nat) (h:Heap):Prop:=h.SetOf (strKind P w) a (inS zs i) (ij zs i)
theorem kB.at {P:Program}{w:World}{a:Addr}{zs:List Str}{i:Nat}{h h':Heap} (x:kB P w a zs i h) (e:∀o,h.get? a=some o->h'.get? a=some o):kB P w a zs i h':=by
 obtain⟨o,es,ep,t,ho,r⟩:=x
 exact⟨o,es,ep,t,e o ho,r⟩
section
variable {prog:Program}{w:World}{A:Around}{R:Result->Shared->Prop}{it:Addr}{fp wr:List Addr}{G:Array GenState->Array GenState->Prop}{P:Nat->Value->Prop}{St:Nat->Shared->Prop}
theorem uj {zs:List Str} (W:WalksS prog w A.in1 it fp wr G zs.length P St) (S:Addr) (hS:S∉fp) (val:∀i v,P i v->∃z t,zs[i]?=some z/\v=.str z t) (hb:zs.length+1 < scanBound) :
  ∀(k i:Nat) (s:Shared),zs.length - i=k->i<=zs.length->St i s->kB prog w S zs i s.heap->
   (∀s',Moved (S::wr) G s s'->kB prog w S zs zs.length s'.heap->R (.ok (.ret .none)) s')->
   codeAny (model prog w) A (.builtin "set.update.loop" ⟨[.ref S,.ref it],[]⟩) R s:=by
 have nw:S∉wr:=λz=>hS (W.sub _ z)
 have up:∀b∈wr,b∈S::wr:=λb z=>List.mem_cons_of_mem _ z
 intro k
 induction k with
 | zero=>
  intro i s ek le st x fin
  have e:i=zs.length:=by omega
  subst e
  refine codeAny_builtin F.entry_set_update_loop ?_
  rw [Around.under_plainId F.plain_set_update_loop _]
  show wpAny _ A.in1 (pyNext (.ref it) >>= _) _ _ s
  refine zB0 (W.done s _ _ st λs' mv=>?_)
  exact zP0 (fin s' (mv.mono up) (x.at λo e=>mv.heap S o nw e))
 | succ k ih=>
  intro i s ek le st x fin
  refine codeAny_builtin F.entry_set_update_loop ?_
  rw [Around.under_plainId F.plain_set_update_loop _]
  show wpAny _ A.in1 (pyNext (.ref it) >>= _) _ _ s
  refine zB0 (W.item i s _ _ ‹1› st λv s' pv st' mv=>?_)
  obtain⟨z,t,ez,rfl⟩:=val i v pv
  have x':=x.at λo e=>mv.heap S o nw e
  show wpAny _ A.in1 (holding [Value.str z t] (setAdd S (.str z t)) >>= _) _ _ s'
  refine zB0 (wpAny_holding ?_)
  unfold setAdd
  refine wpAny_holding ?_
  refine zB0 ((strKind prog w).pyHash (k:=z) (strKind_is _ _ _ _) ?_)
  have hc:=wI zs i
  refine wpAny_setAddHashed_of (knd:=strKind prog w) (s:={ s' with toks:=s'.toks+1 }) (strKind_is _ _ _ _) rfl x' ‹1› λh' sb x2=>?_
  have x0:(match zs[i]? with | some z=>if inS zs i z=true then ij zs i else ij zs i+1 | none=>ij zs i)=ij zs (i+1):=rfl
  rw [ez]at x0
  have x3:kB prog w S zs (i+1) h':=SetOf_congr x2 (λk'=>by
   unfold inS
   rw [List.take_add_one,ez,Bool.eq_iff_iff]
   simp) x0
  refine zP0 ⟨plainId_quiet F.plain_set_update_loop _,ih (i+1) _ ‹1› ‹1› (W.frame _ s' _ _ st' (Nat.le_succ _) λb hb o e=>?_) x3 λs'' mv'' x4=>?_⟩
  ·rw [sb.2 b (λh:b=S=>hS (by rw [<- h];exact hb))];exact e
  ·refine fin s'' (Moved.trans W.gtrans ((mv.mono up).then_heap (Nat.le_succ _) λb o hb e=>?_) mv'') x4
   rw [sb.2 b (λh:b=S=>hb (by rw [h];exact List.mem_cons_self))];exact e
end
section
variable {prog:Program}{w:World}{A:Around}{E:Value->Shared->Prop}{s:Shared}
noncomputable abbrev bR (b:Bool):Obj:={ cls:=.type "set", dict:=none,data:=.set #[] 0 (.fresh 0 0 b) }
theorem qO:∀{vs:List Value}{zs:List Str},StrsAre vs zs->∀(i:Nat) (v:Value),vs[i]?=some v->∃z t,zs[i]?=some z/\v=.str z t
 | _,_,.nil,i,v,h=>by simp at h
 | _,_,.cons z t r,0,v,h=>⟨z,t,rfl,by simpa using h.symm⟩
 | _,_,.cons z t r,i+1,v,h=>by
  obtain⟨z',t',e1,e2⟩:=qO r i v (by simpa using h)
  exact⟨z',t',by simpa using e1,e2⟩
theorem kL {l:Addr}{its:Array Value}{zs:List Str}{Q:Value->Shared->Prop} (hh:A.handled=none) (hl:s.heap.IsList l its) (hs:StrsAre its.toList zs) (hb:zs.length+1 < scanBound)
  (q:∀(h':Heap) (tk:Nat),kB prog w s.heap.objs.size zs zs.length h'->(∀a o,a < s.heap.objs.size->s.heap.get? a=some o->h'.get? a=some o)->Q (.ref s.heap.objs.size) { s with heap:=h',toks:=tk }) :
  wpAny (model prog w) A (call (.type "set") [.ref l]) Q E s:=by
 have ft:=PySem.F.called_set
 obtain⟨c0,tl0,m0⟩:=ft.mro
 have m1:=ft.made
 have m2:=ft.sub
 have hlen:its.size=zs.length:=by
  have:=hs.length
  rw [Array.length_toList]at this
  exact this
 refine wpAny_call (codeAny_of_tree ?_)
 show wpAny _ _ (callAny (.type "set") _) _ _ _
 refine zP0 ⟨Code.quiet_builtin _ ‹0›,codeAny_builtin PySem.F.entry_type_call ?_⟩
 rw [Around.under_plain (weight_type_call_type "set" [.ref l] []) rfl]
 have m3:=ft.notType
 have m4:=ft.canCreate
 have m5:=PySem.F.typeCall_set_1 (.ref l)
 repeat (any_goals (first | assumption | wp_step))
 refine codeAny_mono (PySem.code_set_new_1 (.ref l) (E:=E) (Q₁:=λo s1=>∃b:Bool,o=.ref s.heap.objs.size/\s1={ s with heap:=s.heap.push (bR b) }) λb=>⟨b,rfl,rfl⟩) λr s1 hr=>?_
 cases r with
 | error e=>exact hr
 | ok fl=>
  cases fl with
  | ret o=>
   obtain⟨b,rfl,rfl⟩:=hr
   have hS:(s.heap.push (bR b)).get? s.heap.objs.size=some (bR b):=Heap.get?_push_size _ rfl
   have hT:Shared.TypeIs { s with heap:=s.heap.push (bR b) } (.ref s.heap.objs.size) "set":=⟨_,hS,rfl⟩
   have n1:=ft.init.lookup
   have n2:=ft.init.bind (.ref s.heap.objs.size)
   repeat (any_goals (first | assumption | wp_step))
   refine codeAny_mono (codeAny_call_builtin (R:=wants (λr s2=>r=.none/\∃h' tk,s2={ s with heap:=h',toks:=tk }/\kB prog w s.heap.objs.size zs zs.length h'/\∀a o,a < s.heap.objs.size->s.heap.get? a=some o->h'.get? a=some o) E) ft.init.plain PySem.F.entry_set_init (PySem.check_set_init_1 hT ?_)) λr2 s2 hr2=>?_
   ·obtain⟨ol,hol,hcl,nl,hdl⟩:=hl
    obtain⟨oc,od,oa,os⟩:=ol
    simp only at hcl hdl
    subst hcl;subst hdl
    have ho1:(s.heap.push (bR b)).get? l=some { cls:=.type "list", dict:=od,data:=.seq its nl,slots:=os }:=zH0 _ hol
    have k1:=PySem.F.sub_list_set
    have k2:=PySem.F.sub_list_frozenset
    have k3:(Value.type "list" == Value.type "dict")=false:=by decide
    have l1:(s.heap.push (bR b)).IsList l its:=⟨_,ho1,rfl,nl,rfl⟩
    have lS:l < s.heap.objs.size:=Heap.lt_size hol
    unfold Builtin.«set.__init__» noKeywords Builtin.Frozenset.updateFrom
    generalize eI:pyIter=PI
    wp_walk
    subst eI
    refine wpAny_pyIter_list l1 ?_
    refine zB0 (wpAny_runValue ?_)
    have zp:(s.heap.push (bR b)).objs.size=s.heap.objs.size+1:=Heap.size_push _ _
    have d1:l≠(s.heap.push (bR b)).objs.size:=by rw [zp];exact Nat.ne_of_lt (Nat.lt_succ_of_lt lS)
    have d2:s.heap.objs.size∉[(s.heap.push (bR b)).objs.size,l]:=by
     rw [zp]
     intro z
     rcases List.mem_cons.mp z with z | z
     ·exact Nat.ne_of_lt (Nat.lt_succ_self _) z
     ·exact Nat.ne_of_gt lS (List.mem_singleton.mp z)
    have W:=(Walks.list (prog:=prog) (w:=w) (A:=A.in1.in1.in1) (by simp [hh]) _ l d1 its).toS
    rw [hlen]at W
    refine uj W s.heap.objs.size d2 (λi v hv=>qO hs i v (by rw [Array.getElem?_toList];exact hv)) hb (zs.length - 0) 0 _ ‹1› (Nat.zero_le _) ⟨⟨_,Heap.get?_push_size _ rfl,rfl,rfl⟩,l1.push _⟩ ?s0 ?fin
    case s0=>
     exact SetOf_congr ((setObjOf_fresh (knd:=strKind prog w) b).setOf (zH0 _ hS) (by unfold scanBound;omega)) (λ_=>by unfold inS;simp) rfl
    case fin=>
     intro s' mv x
     obtain⟨h',g',d',tk',os'⟩:=s'
     obtain rfl:g'=s.gens:=mv.gens
     obtain rfl:d'=s.drawn:=mv.drawn
     obtain rfl:os'=s.os:=mv.os
     refine zP0 ?_
     show wpAny _ _ (ret Value.none) _ _ _
     refine zP0 ⟨rfl,h',tk',rfl,x,λa o ha e=>mv.heap a o (λz=>?_) (zH0 _ (zH0 _ e))⟩
     rcases List.mem_cons.mp z with z | z
     ·exact Nat.ne_of_lt ha z
     ·rw [zp]at z
      exact Nat.ne_of_lt (Nat.lt_succ_of_lt ha) (List.mem_singleton.mp z)
   ·cases r2 with
    | error e=>exact hr2
    | ok f2=>
     cases f2 with
     | ret r=>
      obtain⟨rfl,h',tk,rfl,x,kp⟩:=hr2
      repeat (any_goals (first | assumption | wp_step))
      exact q _ _ x kp
     | _=>exact hr2.elim
  | _=>exact hr.elim
end
theorem t9 {X:Cx} (hc:X.calm=true):cD X (.type "set") (λxs H Q=>∃(a:Addr) (zs:List Str),xs=[.ref a]/\SqL X.K H a (zs.map V.str)/\zs.length<=1000/\∀p,H p=none->Q (.ref p) (upd H p (.ext (kB X.prog X.w p zs zs.length)))):=by
 intro pins s σ H xs us Q I r h
 obtain⟨a,zs,rfl,hS,hz,q⟩:=h
 obtain⟨u,rfl,ru⟩:=da r
 cases (show u=Value.ref a from ru)
 obtain⟨its,rv,p,_⟩:=I.list hS
 refine kL (I.ok.hd hc) p.isList (by simpa using lY rv) (by unfold scanBound;omega) λh' tk x kp=>?_
 refine⟨.ref s.heap.objs.size,_,I.laid (o:=.ext (kB X.prog X.w s.heap.objs.size zs zs.length)) (t':=tk) (h':=h') (λb u e=>kp b u (Heap.lt_size e) e) (Nat.le_refl _) (by
  obtain⟨o,_,_,_,e,_⟩:=id x
  exact⟨x,⟨o,e⟩,λh1 h2 e k=>e.at k⟩),rfl,q _ (I.hok.fresh (Nat.le_refl _))⟩
theorem tu {X:Cx}:cD X (.builtin "len") (λxs H Q=>∃(a:Addr) (zs:List Str),xs=[.ref a]/\H a=some (.ext (kB X.prog X.w a zs zs.length))/\Q (.int (ij zs zs.length)) H):=by
 intro pins s σ H xs us Q I r h
 obtain⟨a,zs,rfl,hS,q⟩:=h
 obtain⟨u,rfl,ru⟩:=da r
 cases (show u=Value.ref a from ru)
 obtain⟨o,es,ep,t,ho,hex,hd,_,_,hb,hf,hn⟩:=(show bB X.prog X.w H s.heap a _ from I.hok a _ hS).1
 refine call_len_set ho hex hd hf (by unfold scanBound at hb;omega) ⟨.int (ij zs zs.length),H,I.tok _,⟨_,by rw [hn]⟩,q⟩
end L2
namespace PySem
open PySem PySem.Spec
section
variable {prog:Program}{w:World}{A:Around}{E:Value->Shared->Prop}{h:Heap}{g:Array GenState}{d:Drawn}{t:Nat}{os:OsState}{a:Addr}{o:Obj}
end
end PySem
namespace L2
open PySem PySem.Spec PyProof.Rows
section
variable {prog:Program}{w:World}{A:Around}{R:Result->Shared->Prop}{it:Addr}{fp wr:List Addr}{G:Array GenState->Array GenState->Prop}{P:Nat->Value->Prop}{St:Nat->Shared->Prop}
end
section
variable {prog:Program}{w:World}{A:Around}{E:Value->Shared->Prop}{s:Shared}
end
section
variable {P:Program}{w:World}{K:W.Frag}{mg:Str->Option Value}{base:Heap}
end
structure MC (P:Program) (w:World) (K:PySem.W.Frag) (mg:Str->Option Value) (base:Heap) (C:Addr) (m:Str) (k:Nat) (ps:List Str) (ds:List Value) (dvs:List V) (sp:Sp) (f:Addr) (fd:FuncData):Prop where
 cl:Cls K C
 mt:Meth K C m f
 ok:FnOk P w K mg base CX0 k f fd ps sp
 bd:cm K fd ps ds
 dv:aU dvs ds
section
variable {D:Ends}{σ:St}{H:Hp}{Q:VK}
theorem aD (h:D.nx σ H):yK D σ H:=h
theorem aF {te:TE} (h:te σ H D.rt):Bj te D σ H:=h
theorem bn {te:TE} (h:te σ H λ_ H1=>D.nx σ H1):yM te D σ H:=h
theorem ag {t u:TS} (h:t { D with nx:=u D } σ H):x9 t u D σ H:=h
theorem xF {ta tb:TE} (h:ta σ H λx H1=>∃c,x=.bl c/\if c=true then tb σ H1 Q else Q (.bl false) H1):yN ta tb σ H Q:=h
theorem r6 {r:List V->Hp->VK->Prop}{t:TA} (h:t σ H λvs H1=>r vs H1 Q):tCB r t σ H Q:=h
theorem bZ {ta:TE}{tr:TA}{R:List V->Hp->Prop} (h:ta σ H λx H1=>tr σ H1 λxs H2=>R (x::xs) H2):cG ta tr σ H R:=h
theorem yX {r:R2}{ta tb:TE} (h:ta σ H λx H1=>tb σ H1 λy H2=>r x y H2 Q):tOp r ta tb σ H Q:=h
theorem yZ {K:W.Frag}{T:String}{r:V->List V->Hp->VK->Prop}{to:TE}{t:TA} (h:to σ H λx H1=>tyV K T x H1/\t σ H1 λxs H2=>r x xs H2 Q):tBM K T r to t σ H Q:=h
theorem aw {te:TE}{g:TG} (h:te σ H λx H1=>g x σ H1 D.nx):xb te g D σ H:=h
end
theorem aO {c:TT}{t u:TS}{D:Ends}{σ:St}{H:Hp} (h:c σ H λb H1=>if b=true then t D σ H1 else u D σ H1):Bp c t u D σ H:=h
theorem uX {c:TT}{tb:TS}{D:Ends}{σ:St}{H:Hp} (W:Nat->St->Hp->Prop){m:Nat} (h0:W m σ H) (h:∀m σ H,W m σ H->c σ H λb H1=>if b=true then ∃N:St->Hp->Prop,(∀σ' H',N σ' H'->∃m',m' < m/\W m' σ' H')/\tb { D with nx:=N,ct:=N,bk:=D.nx } σ H1 else D.nx σ H1):tR c tb D σ H:=
 ⟨W,⟨m,h0⟩,h⟩
section
variable {X:Cx}
end
section
variable {X:Cx}
end
section
variable {prog:Program}{w:World}{A:Around}{E:Value->Shared->Prop}
end
section
variable {X:Cx}
end
theorem Ag {t u:TS}{D:Ends}{σ:St}{H:Hp} (Post:St->Hp->Prop) (h1:∀R:St->Hp->Prop,(∀σ' H',Post σ' H'->R σ' H')->t { D with nx:=R } σ H) (h2:∀σ' H',Post σ' H'->u D σ' H'):x9 t u D σ H:=h1 _ h2
section
variable {prog:Program}{w:World}{A:Around}{s:Shared}{R:Result->Shared->Prop}{I:Addr}{fp wr:List Addr}{G:Array GenState->Array GenState->Prop}{n:Nat}{P:Nat->Value->Prop}{St:Nat->Shared->Prop}
end
section
variable {prog:Program}{w:World}{A:Around}{E:Value->Shared->Prop}{s:Shared}
end
def C8 (i j:Int):Prop:=0 < j/\j < 2 ^ 64
theorem vj {X:Cx}:OpR X (binaryOp .FloorDiv) (rI C8 λi j=>.int (i / j)):=opI λi j _ _ _ _ _ hc q=>by
 have h1:(0:Int) < j:=hc.1
 have h2:j.natAbs < 2 ^ 64:=by have:=hc.2;omega
 have h3:j.natAbs.log2 < 64:=(Nat.log2_lt ‹1›).mpr h2
 exact floordiv_int ‹1› (by rw [Int.fdiv_eq_ediv_of_nonneg i ‹1›];exact q) (.inl (PyProof.noPylong_of_log2 ‹1›))
section
variable {P:Program}{w:World}{K:W.Frag}{mg:Str->Option Value}{base:Heap}
end
section
variable {P:Program}{w:World}{K:W.Frag}{mg:Str->Option Value}{base:Heap}{N:List Str}{qual:Str}{scope:Scope}{f:Addr}{cd:Value}{A:Around}{outer:List Env}{s:Shared}{H:Hp}{E:XK}
end
section
variable {X:Cx}{pins:List (Addr × Obj)}{σ:St}{H:Hp}{s:Shared}
end
section
variable {X:Cx}
end
section
variable {X:Cx}
end
noncomputable def yP:Expr->Bool
 | .Starred _ _=>true
 | _=>false
theorem sj {e:Expr}{es:List Expr}{env:Env} (h:yP e=false):starEach (e::es) env=(false,eval e env)::starEach es env:=by
 cases e <;> first | (cases h;done) | (unfold starEach;rfl) | rfl
theorem aa {X:Cx}{e:Expr}{es:List Expr}{te:TE}{t:TA} (ha:PE X e te) (hr:PA X es t) (hs:yP e=false:=by rfl):PA X (e::es) (cG te t):=aC ha hr (sj hs)
section
variable {σ:St}{H:Hp}
end
theorem cI (x:Str):x.length=x.cps.toList.length:=by simp [Str.length]
theorem jr (x y:Str):(x++y).cps.toList=x.cps.toList++y.cps.toList:=by
 show (x.cps++y.cps).toList=_
 rw [Array.toList_append]
theorem vW (zs:List Str):(Str.join ‹""› zs).cps.toList=(zs.map λz=>z.cps.toList).flatten:=by
 induction zs with
 | nil=>rfl
 | cons z zs ih=>
  cases zs with
  | nil=>simp [Str.join]
  | cons y ys=>
   show (z++‹""›++Str.join ‹""› (y::ys)).cps.toList=_
   rw [jr,jr,ih,List.map_cons (l:=y::ys),List.flatten_cons,show ‹""›.cps.toList=[] from rfl,List.append_nil]
theorem BI (zs:List Str):(Txt.join ‹""› zs).cps.toList=(zs.map λz=>z.cps.toList).flatten:=by
 show (Builtin.Str.glued ‹""› zs).cps.toList=_
 rw [StrLaws.glued_eq_join]
 exact vW zs
theorem di {x y:Str} (h:x.cps.toList=y.cps.toList):x=y:=by
 cases x;cases y
 congr 1
 exact Array.toList_inj.mp h
theorem i0:∀ds:List Nat,((ds.map λd=>(⟨#[d]⟩:Str)).map λz=>z.cps.toList).flatten=ds
 | []=>rfl
 | d::ds=>by rw [List.map_cons,List.map_cons,List.flatten_cons,i0 ds];rfl
theorem iO:∀ds:List Nat,((ds.map λd=>(⟨#[d]⟩:Str)).map (·.length)).sum=ds.length
 | []=>rfl
 | d::ds=>by rw [List.map_cons,List.map_cons,List.sum_cons,iO ds,List.length_cons];show 1+_=_;omega
def fL (J:It) (sub:List Nat) (tt:TT) (te:TE) (σ:St) (Q:VK) (H1:Hp):Prop:=∀D,H1 D=none->∃W:Nat->Nat->List V->Hp->Prop,(∃m,W 0 m [] (upd H1 D (.lst [])))/\∀i m ys H2,W i m ys H2->
 (J.stop i H2/\Q (.ref D) H2)\/(J.go i H2/\∃N:List V->Hp->Prop,(∀ys' H',N ys' H'->∃m',m' < m/\W (i+1) m' ys' H')/\∀v H3,J.yld i H2 v H3->tt (some v::bP sub σ) H3 λb H4=>if b=true then
  te (some v::bP sub σ) H4 λy H5=>H5 D=some (.lst ys)/\ys.length < sizeLine/\N (ys++[y]) (upd H5 D (.lst (ys++[y])))
  else N ys H4)
section
variable {wi:TI}{sub:List Nat}{tt:TT}{te:TE}{σ:St}{H:Hp}{Q:VK}{K:W.Frag}
theorem bQ (h:wi σ H λJ H1=>fL J sub tt te σ Q H1):kT wi sub tt te σ H Q:=h
end
end L2
namespace Mine
open PySem L2
variable {P:Program}{w:World}{K:W.Frag}{mg:Str->Option Value}{base:Heap}
noncomputable def top (i:Nat):Stmt:=PySem.Challenge.pw_unsaybook_k34_since_part_and_change.main.body.getD i (.Pass ⟨0,0,0,0⟩)
noncomputable abbrev A7:Stmt:=top 11
noncomputable abbrev uF:Stmt:=top 9
noncomputable abbrev mw:Stmt:=top 10
noncomputable abbrev jI:Stmt:=top 15
noncomputable abbrev uC:Stmt:=top 27
noncomputable abbrev uS:Stmt:=top 45
noncomputable abbrev A6:Stmt:=top 46
noncomputable abbrev pY:Stmt:=top 47
noncomputable abbrev uz:Stmt:=top 48
noncomputable abbrev pP:Stmt:=top 49
noncomputable abbrev mq:Stmt:=top 50
noncomputable abbrev uQ:Stmt:=top 51
noncomputable abbrev mB:Stmt:=top 52
structure Cal (P:Program) (w:World) (K:PySem.W.Frag) (mg:Str->Option Value) (base:Heap) (x:Str) (k:Nat) (ps:List Str) (sp:Sp) (f:Addr) (fd:FuncData):Prop where
 ok:FnOk P w K mg base CX0 k f fd ps sp
 nm:mg x=some (.ref f)
 kp:PySem.W.keepIn K (.ref f)=true
 bd:cm K fd ps []
structure Free (mg:Str->Option Value):Prop where
 «len»:mg "len" = none
 «range»:mg "range" = none
 «sorted»:mg "sorted" = none
 «isinstance»:mg "isinstance" = none
 «int»:mg "int" = none
 «bool»:mg "bool" = none
 «str»:mg "str" = none
 «list»:mg "list" = none
 «tuple»:mg "tuple" = none
 «dict»:mg "dict" = none
 «set»:mg "set" = none
 «max»:mg "max" = none
 «min»:mg "min" = none
 «all»:mg "all" = none
 «enumerate»:mg "enumerate" = none
 «abs»:mg "abs" = none
 «reversed»:mg "reversed" = none
 «sum»:mg "sum" = none
def aZ (H H':Hp):Prop:=∀b o,H b=some o->H' b=some o
theorem aZ.refl {H:Hp}:aZ H H:=λ_ _ e=>e
theorem aZ.trans {H H1 H2:Hp} (g:aZ H H1) (g':aZ H1 H2):aZ H H2:=λb o e=>g' b o (g b o e)
theorem aZ.new {H:Hp}{a:Addr}{o:HO} (n:H a=none):aZ H (upd H a o):=λb o e=>by rw [ah (ao e n)];exact e
noncomputable def inZ (z:Str) (c:Nat):Bool:=decide (c∈z.cps.toList)
noncomputable def cF (x z:Str) (m:Int):Bool:=decide (1<=(x.length:Int)) && (decide ((x.length:Int)<=m) && x.cps.toList.all (inZ z))
noncomputable def ud:Sp:=λvs H Q _=>∃(x z:Str) (m:Int),vs=[.str x,.str z,.int m]/\x.length < sizeLine/\∀H',aZ H H'->Q (.bl (cF x z m)) H'
noncomputable abbrev dq:Str:=‹"abcdefghijklmnopqrstuvwxyz"›
noncomputable abbrev ie:Str:=‹"0123456789"›
structure Con (mg:Str->Option Value):Prop where
 letters:∃t,mg "LETTERS" = some (.str dq t)
 figures:∃t,mg "FIGURES" = some (.str ie t)
 eight:∃t,mg "MOST_LETTERS" = some (.int 8 t)
 twelve:∃t,mg "MOST_FIGURES" = some (.int 12 t)
 lastday:∃t,mg "LAST_DAY" = some (.int 399 t)
 keys:∃t,mg "MOST_KEYS" = some (.int 8 t)
 value:∃t,mg "MOST_VALUE" = some (.int 1000000000 t)
 opn:∃t,mg "MOST_OPEN" = some (.int 3 t)
 rank:∃t,mg "MOST_RANK" = some (.int 400 t)
theorem tO {σ:St}{H:Hp}{Q:VK}{x z:Str} (e0:σ[0]?=some (some (.str x))) (e1:σ[1]?=some (some (.str z))) (hl:x.length < sizeLine)
  (hq:∀(D:Addr) (H':Hp),H D=none->aZ H H'->H' D=some (.lst ((x.cps.toList.map (inZ z)).map V.bl))->Q (.ref D) H') :
  kT (BM (jv 0)) [1] (λ_ H Q=>Q true H) (tOp (λx y H Q=>∃i j,x=.str i/\y=.str j/\Q (.bl (!(Builtin.Str.occurrences j i 0 j.length 1).isEmpty)) H) (jv 0) (jv 1)) σ H Q:=by
 have es:bP [1] σ=[some (.str z)]:=by
  show [(σ[1]?).join]=_
  rw [e1];rfl
 refine⟨_,e0,x,rfl,λD nD=>wB (x:=x) (sub:=[1]) (tt:=λ_ H Q=>Q true H) (te:=tOp (λx y H Q=>∃i j,x=.str i/\y=.str j/\Q (.bl (!(Builtin.Str.occurrences j i 0 j.length 1).isEmpty)) H) (jv 0) (jv 1)) (Q:=Q) (σ:=σ)
  (λi ys H2=>ys=((x.cps.toList.take i).map (inZ z)).map V.bl/\H2=upd H D (.lst ys)) ⟨rfl,rfl⟩ (λi c ys H2 hi hh=>?_) λys H2 hh=>?_⟩
 ·obtain⟨rfl,rfl⟩:=hh
  rw [es]
  show (if true=true then _ else _)
  rw [if_pos rfl]
  have hi':x.cps.toList[i]?=some c:=by simpa using hi
  have hil:i < x.cps.size:=(Array.getElem?_eq_some_iff.mp hi).1
  refine⟨_,rfl,_,rfl,_,_,rfl,rfl,ai,?_,?_,?_⟩
  ·rw [List.length_map,List.length_map,List.length_take]
   have:x.length < sizeLine:=hl
   have e:x.cps.toList.length=x.length:=by simp [Str.length]
   rw [e]
   omega
  ·rw [List.take_add_one,hi',List.map_append,List.map_append,PySem.StrLaws.found_one]
   rfl
  ·rw [bE]
 ·obtain⟨rfl,rfl⟩:=hh
  refine hq D _ nD (aZ.new nD) ?_
  rw [ai,List.take_of_length_le (by simp)]
theorem Bu:FnScope ["text", "signs", "most"] ["text", "signs", "most"] (au A7):=‹2›
theorem Ay {f:Addr}{fd:FuncData} (F:Fun K "has_only" "has_only" A7 f fd) (N:Free mg):FnOk P w K mg base CX0 1 f fd ["text", "signs", "most"] ud:=by
 refine F.ok (k:=0) Bu (λvs H Q E h=>?_) (λcdv A outer s H vs Q E hr h=>?_)
 ·obtain⟨x,z,m,rfl,_⟩:=h
  rfl
 ·obtain⟨x,z,m,rfl,hl,hq⟩:=h
  refine⟨_,aq (aB (fw (vh jP jP aj (aE mX (by rfl) N.len PySem.boot_len (aC (pv 0) ae)) (pv 2))
   (fo (aE (lN rfl) (by rfl) N.all PyProof.Rows.Boot.«all» (aC (vg (y:="signs") (i:=1) rfl (Ao (pv 0)) rfl rfl (by decide) (by decide) rfl (by decide) rfl (.inr (.inl rfl)) (by show (some NameKind.cell)≠some NameKind.local;decide) (.inl rfl) rfl (λC fp s H=>cp) (λC fp s H=>c9 sF (pv 0) (pv 1) (by with_unfolding_all rfl))) ae))))),?_⟩
  have gr:∀{b},cF x z m=b->Q (.bl b) H:=λ{b} e=>by rw [<- e];exact hq H aZ.refl
  refine⟨_,rfl,x,rfl,Nat.le_of_lt hl,_,_,rfl,rfl,_,rfl,eA (λh1=>?_) λh1=>⟨_,rfl,br (gr ?_)⟩⟩
  ·refine⟨_,rfl,_,_,rfl,rfl,_,rfl,eA (λh2=>?_) λh2=>gr ?_⟩
   ·unfold tCB cG
    refine tO rfl rfl hl λD H' nD g hD=>⟨D,_,rfl,SqL.of hD,?_⟩
    have e:cF x z m=(x.cps.toList.map (inZ z)).all id:=by
     unfold cF
     rw [h1,h2,Bool.true_and,Bool.true_and,List.all_map];rfl
    rw [<- e]
    exact hq H' g
   ·unfold cF
    rw [Bool.eq_false_iff.mpr h2,Bool.false_and,Bool.and_false]
  ·unfold cF
   rw [Bool.eq_false_iff.mpr h1,Bool.false_and]
theorem laid {H:Hp}{p:Addr}{o:HO} (h:H p=none):aZ H (upd H p o)/\upd H p o p=some o:=⟨λb u e=>by rw [ah (ao e h)];exact e,ai⟩
noncomputable def uf (K:PySem.W.Frag):Sp:=λvs H Q _=>∃(a:Addr) (ns:List Int) (k:Int),vs=[.ref a,.int k]/\SqL K H a (ns.map V.int)/\0<=k/\k < 2 ^ 62/\∀n:Int,Q (.int n) H
noncomputable def u5:Sp:=λvs H Q _=>∃(c k:Int),vs=[.int c,.int k]/\∀n:Int,0<=n->n < 2147483587->Q (.int n) H
def SAt (H:Hp) (s:Addr):Prop:=∃a c k:Int,H s=some (.lst [.int a,.int c,.int k])/\0<=a
def Off (s:Addr) (H H':Hp):Prop:=∀b o,H b=some o->b≠s->H' b=some o
theorem Off.trans {s:Addr}{H H1 H2:Hp} (h:Off s H H1) (g:Off s H1 H2):Off s H H2:=λb o e n=>g _ _ (h _ _ e n) n
theorem Off.grow {s:Addr}{H H':Hp} (g:aZ H H'):Off s H H':=λb o e _=>g _ _ e
theorem SAt.keep {H H':Hp}{s:Addr} (h:SAt H s) (g:aZ H H'):SAt H' s:=let ⟨a,c,k,e,z⟩:=h;⟨a,c,k,g _ _ e,z⟩
noncomputable def me:Sp:=λvs H Q _=>∃(c:Int),vs=[.int c]/\∀(p:Addr) (H':Hp),H p=none->aZ H H'->SAt H' p->Q (.ref p) H'
noncomputable def gj:Sp:=λvs H Q _=>∃(s:Addr) (m:Int),vs=[.ref s,.int m]/\SAt H s/\0 < m/\m < 2 ^ 64/\∀(n:Int) (H':Hp),0<=n->n < m->Off s H H'->SAt H' s->Q (.int n) H'
theorem A3:FnScope ["_law_script", "_law_k"] ["_law_script", "_law_k"] (au uS):=‹2›
theorem yd {f:Addr}{fd:FuncData} (F:Fun K "_law_cell" "_law_cell" uS f fd) (N:Free mg):FnOk P w K mg base CX0 1 f fd ["_law_script", "_law_k"] (uf K):=by
 refine F.ok (k:=0) A3 (λvs H Q E h=>?_) (λcdv A outer s H vs Q E hr h=>?_)
 ·obtain⟨a,ns,k,rfl,_⟩:=h
  rfl
 ·obtain⟨a,ns,k,rfl,hS,hk,hk2,q⟩:=h
  have hu:=aP hr
  refine⟨_,(af (bx (aN jO (pv 1) (aE aJ (by rfl) N.len PySem.boot_len (aC (pv 0) ae)) (aV _)) (aq (aB (bv bp (pv 0) (pv 1) (λ_ _=>rfl)))) aL)
   (aq (aB (aH bw (aH eT aj (pv 1)) aj)))),?_⟩
  refine ag (aO ⟨_,rfl,_,rfl,a,_,rfl,.inl hS,_,_,rfl,rfl,_,rfl,?_⟩)
  refine eA (λhlt=>?_) (λ_=>?_)
  ·have hlt:k < ((ns.map V.int).length:Int):=of_decide_eq_true hlt
   rw [List.length_map]at hlt
   obtain⟨j,rfl⟩:∃j:Nat,k=(j:Int):=⟨k.toNat,by omega⟩
   have hk2:j < ns.length:=by omega
   refine⟨_,rfl,_,rfl,a,_,(j:Int),.int ns[j],rfl,rfl,hS,dY ?_,q _⟩
   rw [List.getElem?_map,List.getElem?_eq_getElem hk2]
   rfl
  ·refine aD ?_
   exact⟨_,rfl,_,_,rfl,rfl,.inl ⟨by decide,by decide⟩,_,_,rfl,rfl,q _⟩
theorem uq:FnScope ["_law_cell_here", "_law_k", "_law_number"] ["_law_cell_here", "_law_k"] (au A6):=‹2›
theorem Aw {f:Addr}{fd:FuncData} (F:Fun K "_law_mix" "_law_mix" A6 f fd)  : FnOk P w K mg base CX0 1 f fd ["_law_cell_here", "_law_k"] u5:=by
 refine F.ok (k:=0) uq (λvs H Q E h=>?_) (λcdv A outer s H vs Q E hr h=>?_)
 ·obtain⟨c,k,rfl,_⟩:=h
  rfl
 ·obtain⟨c,k,rfl,q⟩:=h
  have hu:=aP hr
  refine⟨_,(af (aA (i:=2) uq.nd rfl (Or.inl rfl) (aH gz (aH eT (aH bw (aH bw (aH gz (pv 0) aj) (aH eT aj (pv 1))) aj) aj) aj))
   (af (aA (i:=2) uq.nd rfl (Or.inl rfl) (aH gz (aH bw (aH eT (pv 2) (pv 2)) (aH eT aj (pv 1))) aj))
   (aq (aB (aH gz (aH eT (pv 2) (aH bw (pv 2) aj)) aj))))),?_⟩
  have small:∀(x:Int){m:Int},0 < m->m < 2 ^ 64->-(2 ^ 64) < x % m/\x % m < 2 ^ 64:=λx m h1 h2=>by
   have a:=Int.emod_nonneg x (Int.ne_of_gt h1)
   have b:=Int.emod_lt_of_pos x h1
   omega
  refine⟨_,rfl,_,_,rfl,rfl,(by show (0:Int) < 2147483629;decide),_,rfl,_,_,rfl,rfl,.inl ⟨by decide,by decide⟩,_,_,rfl,rfl,_,_,rfl,rfl,_,_,rfl,rfl,.inr ⟨by decide,by decide⟩,_,_,rfl,rfl,(by show (0:Int) < 2147483647;decide),?_⟩
  refine⟨_,rfl,_,rfl,_,_,rfl,rfl,.inl (small _ (by decide) (by decide)),_,rfl,_,_,rfl,rfl,.inl ⟨by decide,by decide⟩,_,_,rfl,rfl,_,_,rfl,rfl,(by show (0:Int) < 2147483629;decide),?_⟩
  refine⟨_,rfl,_,rfl,_,_,rfl,rfl,_,_,rfl,rfl,.inl (small _ (by decide) (by decide)),_,_,rfl,rfl,(by show (0:Int) < 2147483587;decide),?_⟩
  exact q _ (Int.emod_nonneg _ (by decide)) (Int.emod_lt_of_pos _ (by decide))
theorem xz:FnScope ["_law_cell_here"] ["_law_cell_here"] (au pY):=‹2›
theorem vK {f:Addr}{fd:FuncData} (F:Fun K "_law_begun" "_law_begun" pY f fd)  : FnOk P w K mg base CX0 1 f fd ["_law_cell_here"] me:=by
 refine F.ok (k:=0) xz (λvs H Q E h=>?_) (λcdv A outer s H vs Q E hr h=>?_)
 ·obtain⟨c,rfl,_⟩:=h
  rfl
 ·obtain⟨c,rfl,q⟩:=h
  have hu:=aP hr
  refine⟨_,(af (bx (aN ze (pv 0) (aH qe aj aj) (aV _)) (aq (aB (be (aC (pv 0) (aC (pv 0) (aC aj ae)))))) aL)
   (aq (aB (be (aC aj (aC (pv 0) (aC aj ae))))))),?_⟩
  refine ag (aO ⟨_,rfl,_,_,rfl,rfl,⟨by decide,by decide,by decide⟩,_,_,rfl,rfl,_,rfl,eA (λhc=>?_) λ_=>?_⟩)
  ·have hc:c>=10 ^ Int.toNat 18:=of_decide_eq_true hc
   have h18:(10:Int) ^ Int.toNat 18=1000000000000000000:=by decide
   rw [h18]at hc
   exact⟨_,rfl,_,rfl,by show 3<=sizeLine;decide,λp np=>q p _ np (laid np).1 ⟨c,c,0,ai,by omega⟩⟩
  ·exact aD ⟨_,rfl,by show 3<=sizeLine;decide,λp np=>q p _ np (laid np).1 ⟨0,c,0,ai,by decide⟩⟩
theorem um:FnScope ["_law_state", "_law_many", "_law_number"] ["_law_state", "_law_many"] (au uz):=‹2›
theorem xQ {f f1:Addr}{fd:FuncData} (F:Fun K "_law_pull" "_law_pull" uz f fd){fd1:FuncData} (CM:Cal P w K mg base "_law_mix" 1 ["_law_cell_here", "_law_k"] u5 f1 fd1):FnOk P w K mg base CX0 2 f fd ["_law_state", "_law_many"] gj:=by
 refine F.ok (k:=1) um (λvs H Q E h=>?_) (λcdv A outer s H vs Q E hr h=>?_)
 ·obtain⟨s,m,rfl,_⟩:=h
  rfl
 ·obtain⟨s,m,rfl,⟨a,c,k,hs,ha⟩,hm,hm2,q⟩:=h
  have hu:=aP hr
  refine⟨_,(af (bx (aN zd (bv bp (pv 0) aj (λ_ _=>rfl)) aj (aV _)) (af (aA (i:=2) um.nd rfl (Or.inl rfl) (aH gz (bv bp (pv 0) aj (λ_ _=>rfl)) (pv 1)))
   (af (eQ (aH vj (bv bp (pv 0) aj (λ_ _=>rfl)) (pv 1)) (vd (pv 0) aj nH))
   (aq (aB (pv 2))))) aL)
   (af (eQ (aH bw (bv bp (pv 0) aj (λ_ _=>rfl)) aj) (vd (pv 0) aj nH))
   (aq (aB (aH gz (ay CM.ok (hr.mono (by decide)) rfl CM.nm CM.kp CM.bd .nil av (aC (bv bp (pv 0) aj (λ_ _=>rfl)) (aC (bv bp (pv 0) aj (λ_ _=>rfl)) ae))) (pv 1)))))),?_⟩
  have at0:SqL K H s [.int a,.int c,.int k]:=SqL.of hs
  refine ag (aO ⟨_,rfl,s,_,0,_,rfl,rfl,at0,rfl,_,_,rfl,rfl,_,rfl,eA (λhc=>?_) λhc=>?_⟩)
  ·refine ag (aw ⟨_,rfl,s,_,0,_,rfl,rfl,at0,rfl,_,rfl,_,_,rfl,rfl,hm,?_⟩)
   walk_at "d"
   refine ag (aw ⟨_,rfl,s,_,0,_,rfl,rfl,at0,rfl,_,rfl,_,_,rfl,rfl,⟨hm,hm2⟩,?_⟩)
   refine⟨_,rfl,s,_,0,0,rfl,rfl,hs,rfl,aF ⟨_,rfl,?_⟩⟩
   exact q (a % m) _ (Int.emod_nonneg _ ‹1›) (Int.emod_lt_of_pos _ hm) (λb o e n=>by rw [ah n];exact e) ⟨a / m,c,k,ai,Int.ediv_nonneg ha ‹1›⟩
  ·refine aD ?_
   dsimp only
   refine ag (aw ⟨_,rfl,s,_,2,_,rfl,rfl,at0,rfl,_,_,rfl,rfl,_,rfl,s,_,2,2,rfl,rfl,hs,rfl,?_⟩)
   walk_at "d"
   refine⟨_,rfl,s,_,1,_,rfl,rfl,SqL.of ai,rfl,_,rfl,s,_,2,_,rfl,rfl,SqL.of ai,rfl,c,k+1,rfl,λn n0 n1=>⟨_,rfl,_,_,rfl,rfl,hm,?_⟩⟩
   exact q (n % m) _ (Int.emod_nonneg _ ‹1›) (Int.emod_lt_of_pos _ hm) (λb o e n=>by rw [ah n];exact e) ⟨a,c,k+1,ai,ha⟩
noncomputable def nE:Sp:=λvs H Q _=>∃(s:Addr),vs=[.ref s]/\SAt H s/\∀(t:Addr) (lo wd:Int) (H':Hp),Off s H H'->SAt H' s->H' t=some (.tup [.int lo,.int wd])->t≠s->0<=lo->1<=wd->lo+wd<=400->(wd<=40\/wd=400)->Q (.ref t) H'
noncomputable def pA:Sp:=λvs H Q _=>∃(s t:Addr) (lo wd:Int),vs=[.ref s,.ref t]/\SAt H s/\H t=some (.tup [.int lo,.int wd])/\t≠s/\0<=lo/\1<=wd/\lo+wd<=400/\∀(u:Addr) (f l:Int) (H':Hp),Off s H H'->SAt H' s->H' u=some (.tup [.int f,.int l])->lo<=f->f<=l->l < lo+wd->Q (.ref u) H'
noncomputable def jB:Sp:=λvs H Q _=>∃(s:Addr),vs=[.ref s]/\SAt H s/\∀(n:Int) (H':Hp),Off s H H'->SAt H' s->-1000000000<=n->n<=1000000000->Q (.int n) H'
theorem BS {d:Int} (h0:0<=d) (h1:d < 4):∃m:Int,1<=m/\m<=400/\(m<=40\/m=400)/\atI [V.int 1,V.int 12,V.int 40,V.int 400] d=some (V.int m):=by
 rcases (show d=0\/d=1\/d=2\/d=3 by omega) with rfl | rfl | rfl | rfl
 ·exact⟨1,by decide,by decide,by decide,rfl⟩
 ·exact⟨12,by decide,by decide,by decide,rfl⟩
 ·exact⟨40,by decide,by decide,by decide,rfl⟩
 ·exact⟨400,by decide,by decide,by decide,rfl⟩
theorem SAt.ne {H:Hp}{s t:Addr}{xs:List V} (h:SAt H s) (e:H t=some (.tup xs)):t≠s:=λz=>by
 obtain⟨a,c,k,e',_⟩:=h
 rw [z,e']at e
 cases e
theorem nI:FnScope ["_law_state", "_law_wide"] ["_law_state"] (au mq):=‹2›
theorem sH {f f1:Addr}{fd:FuncData} (F:Fun K "_law_window" "_law_window" mq f fd){fd1:FuncData} (CP:Cal P w K mg base "_law_pull" 2 ["_law_state", "_law_many"] gj f1 fd1):FnOk P w K mg base CX0 3 f fd ["_law_state"] nE:=by
 refine F.ok (k:=2) nI (λvs H Q E h=>?_) (λcdv A outer s H vs Q E hr h=>?_)
 ·obtain⟨s,rfl,_⟩:=h
  rfl
 ·obtain⟨s,rfl,hs,q⟩:=h
  have hu:=aP hr
  refine⟨_,(af (aA (i:=1) nI.nd rfl (Or.inl rfl) (bv bp (be (aC aj (aC aj (aC aj (aC aj ae))))) (ay CP.ok (hr.mono (by decide)) rfl CP.nm CP.kp CP.bd .nil av (aC (pv 0) (aC aj ae))) (λ_ _=>rfl)))
   (aq (aB (bG (aC (ay CP.ok (hr.mono (by decide)) rfl CP.nm CP.kp CP.bd .nil av (aC (pv 0) (aC (aH dg aj (pv 1)) ae))) (aC (pv 1) ae)))))),?_⟩
  refine ag (aw ⟨by show 4<=sizeLine;decide,λl nl=>?_⟩)
  obtain⟨g1,e1⟩:=laid (o:=.lst [V.int 1,V.int 12,V.int 40,V.int 400]) nl
  have hs1:=hs.keep g1
  generalize upd H l _=H1 at g1 e1 hs1 ⊢
  refine⟨_,rfl,s,4,rfl,hs1,by decide,by decide,λn H2 n0 n1 o2 hs2=>?_⟩
  obtain⟨m,m1,m2,m3,em⟩:=BS n0 n1
  have nls:l≠s:=λz=>by
   obtain⟨a,c,k,e',_⟩:=hs
   rw [z,e']at nl;cases nl
  refine⟨l,_,_,_,rfl,rfl,SqL.of (o2 _ _ e1 nls),em,?_⟩
  walk_at "d"
  refine aF ⟨_,rfl,_,rfl,_,_,rfl,rfl,s,401 - m,rfl,hs2,by omega,by omega,λlo H3 l0 l1 o3 hs3=>⟨_,rfl,by show 2<=sizeLine;decide,λt nt=>?_⟩⟩
  obtain⟨g4,e4⟩:=laid (o:=.tup [V.int lo,V.int m]) nt
  exact q t lo m _ (((Off.grow g1).trans o2).trans (o3.trans (Off.grow g4))) (hs3.keep g4) e4 (SAt.ne (hs3.keep g4) e4) l0 m1 ‹1› m3
theorem uu:FnScope ["_law_state", "_law_window_here", "_law_first"] ["_law_state", "_law_window_here"] (au uQ):=‹2›
theorem yb {f f1:Addr}{fd:FuncData} (F:Fun K "_law_days" "_law_days" uQ f fd){fd1:FuncData} (CP:Cal P w K mg base "_law_pull" 2 ["_law_state", "_law_many"] gj f1 fd1):FnOk P w K mg base CX0 3 f fd ["_law_state", "_law_window_here"] pA:=by
 refine F.ok (k:=2) uu (λvs H Q E h=>?_) (λcdv A outer s H vs Q E hr h=>?_)
 ·obtain⟨s,t,lo,wd,rfl,_⟩:=h
  rfl
 ·obtain⟨s,t,lo,wd,rfl,hs,et,nts,h0,h1,h2,q⟩:=h
  have hu:=aP hr
  refine⟨_,(af (aA (i:=2) uu.nd rfl (Or.inl rfl) (aH bw (bv iF (pv 1) aj (λ_ _=>rfl)) (ay CP.ok (hr.mono (by decide)) rfl CP.nm CP.kp CP.bd .nil av (aC (pv 0) (aC (bv iF (pv 1) aj (λ_ _=>rfl)) ae)))))
   (aq (aB (bG (aC (pv 2) (aC (aH bw (pv 2) (ay CP.ok (hr.mono (by decide)) rfl CP.nm CP.kp CP.bd .nil av (aC (pv 0) (aC (aH dg (aH bw (bv iF (pv 1) aj (λ_ _=>rfl)) (bv iF (pv 1) aj (λ_ _=>rfl))) (pv 2)) ae)))) ae)))))),?_⟩
  refine ag (aw ⟨_,rfl,t,_,0,_,rfl,rfl,SqT.of et,rfl,_,rfl,_,rfl,t,_,1,_,rfl,rfl,SqT.of et,rfl,s,wd,rfl,hs,by omega,by omega,λn H2 n0 n1 o2 hs2=>⟨_,_,rfl,rfl,?_⟩⟩)
  walk_at "d"
  have et2:=o2 _ _ et nts
  refine aF ⟨_,rfl,_,rfl,_,rfl,_,rfl,t,_,0,_,rfl,rfl,SqT.of et2,rfl,_,rfl,t,_,1,_,rfl,rfl,SqT.of et2,rfl,_,_,rfl,rfl,_,rfl,_,_,rfl,rfl,s,_,rfl,hs2,by omega,by omega,λm H3 m0 m1 o3 hs3=>⟨_,_,rfl,rfl,by show 2<=sizeLine;decide,λu nu=>?_⟩⟩
  obtain⟨g4,e4⟩:=laid (o:=.tup [V.int (lo+n),V.int (lo+n+m)]) nu
  exact q u (lo+n) (lo+n+m) _ (o2.trans (o3.trans (Off.grow g4))) (hs3.keep g4) e4 ‹1› ‹1› ‹1›
theorem nJ:FnScope ["_law_state", "_law_way"] ["_law_state"] (au mB):=‹2›
theorem sM {f f1:Addr}{fd:FuncData} (F:Fun K "_law_amount" "_law_amount" mB f fd){fd1:FuncData} (CP:Cal P w K mg base "_law_pull" 2 ["_law_state", "_law_many"] gj f1 fd1):FnOk P w K mg base CX0 3 f fd ["_law_state"] jB:=by
 refine F.ok (k:=2) nJ (λvs H Q E h=>?_) (λcdv A outer s H vs Q E hr h=>?_)
 ·obtain⟨s,rfl,_⟩:=h
  rfl
 ·obtain⟨s,rfl,hs,q⟩:=h
  have hu:=aP hr
  refine⟨_,(af (aA (i:=1) nJ.nd rfl (Or.inl rfl) (ay CP.ok (hr.mono (by decide)) rfl CP.nm CP.kp CP.bd .nil av (aC (pv 0) (aC aj ae))))
   (af (bx (aN jO (pv 1) aj (aV _)) (aq (aB (ay CP.ok (hr.mono (by decide)) rfl CP.nm CP.kp CP.bd .nil av (aC (pv 0) (aC aj ae))))) aL)
   (af (bx (aN cH (pv 1) aj (aV _)) (aq (aB (aH dg (ay CP.ok (hr.mono (by decide)) rfl CP.nm CP.kp CP.bd .nil av (aC (pv 0) (aC aj ae))) aj))) aL)
   (aq (aB (aH dg (ay CP.ok (hr.mono (by decide)) rfl CP.nm CP.kp CP.bd .nil av (aC (pv 0) (aC (aH bw (aH eT aj (aH qe aj aj)) aj) ae))) (aH qe aj aj))))))),?_⟩
  refine ag (aw ⟨_,rfl,s,4,rfl,hs,by decide,by decide,λn H2 n0 n1 o2 hs2=>?_⟩)
  walk_at "d"
  refine ag (aO ⟨_,rfl,_,_,rfl,rfl,_,rfl,eA (λ_=>?_) λ_=>aD ?_⟩)
  ·exact aF ⟨_,rfl,s,4,rfl,hs2,by decide,by decide,λm H3 m0 m1 o3 hs3=>q m H3 (o2.trans o3) hs3 ‹1› ‹1›⟩
  dsimp only
  refine ag (aO ⟨_,rfl,rfl,_,rfl,eA (λ_=>?_) λ_=>aD ?_⟩)
  ·exact aF ⟨_,rfl,s,41,rfl,hs2,by decide,by decide,λm H3 m0 m1 o3 hs3=>⟨_,_,rfl,rfl,q (m - 20) H3 (o2.trans o3) hs3 ‹1› ‹1›⟩⟩
  dsimp only
  have h9:(10:Int) ^ Int.toNat 9=1000000000:=by decide
  refine aF ⟨_,rfl,_,_,rfl,rfl,⟨by decide,by decide,by decide⟩,_,_,rfl,rfl,.inl ⟨by decide,by decide⟩,_,_,rfl,rfl,s,_,rfl,hs2,by decide,by decide,λm H3 m0 m1 o3 hs3=>⟨_,_,rfl,rfl,⟨by decide,by decide,by decide⟩,_,_,rfl,rfl,?_⟩⟩
  rw [h9]at m1 ⊢
  exact q _ H3 (o2.trans o3) hs3 ‹1› ‹1›
theorem SAt.lst {H:Hp}{s:Addr} (h:SAt H s):∃xs,H s=some (.lst xs):=let ⟨_,_,_,e,_⟩:=h;⟨_,e⟩
theorem SAt.off {H H':Hp}{s b:Addr} (h:SAt H s) (n:b≠s) (g:∀b' o,H b'=some o->b'≠b->H' b'=some o):SAt H' s:=let ⟨a,c,k,e,z⟩:=h;⟨a,c,k,g _ _ e (Ne.symm n),z⟩
theorem AE {i:Int} (h0:0<=i) (h1:i < 26):atI dq.cps.toList i=some (97+i.toNat):=by
 obtain⟨j,rfl⟩:∃j:Nat,i=(j:Int):=⟨i.toNat,by omega⟩
 refine dY ?_
 have hj:j < 26:=by omega
 rw [Int.toNat_natCast]
 have:∀j,j < 26->dq.cps.toList[j]?=some (97+j):=‹0›
 exact this j hj
def yE (c:Nat):Prop:=97<=c/\c<=122
theorem yj {c:Nat} (h:yE c):inZ dq c=true:=by
 unfold inZ
 refine decide_eq_true ?_
 have:∀c,c < 123->97<=c->c∈dq.cps.toList:=‹0›
 exact this c (by unfold yE at h;omega) h.1
noncomputable abbrev w12:List Str:=[‹"number"›, ‹"value"›, ‹"sum"›, ‹"count"›, ‹"least"›, ‹"since"›, ‹"part"›, ‹"change"›, ‹"plus"›, ‹"less"›, ‹"same"›, ‹"minus"›]
theorem yi {k:Str} (h1:1<=k.length) (h2:k.length<=8) (hc:∀c∈k.cps.toList,yE c):cF k dq 8=true:=by
 unfold cF
 rw [decide_eq_true (show (1:Int)<=k.length by omega),decide_eq_true (show (k.length:Int)<=8 by omega),Bool.true_and,Bool.true_and,List.all_eq_true]
 exact λc hcc=>yj (hc c hcc)
def Nms (ss:List Str):Prop:=ss.length=8/\ss.Nodup/\∀x∈ss,cF x dq 8=true
noncomputable def rot (j:Nat):List Str:=((w12.drop j)++(w12.take j)).take 8
theorem Aa:∀j:Fin 12,(rot j.val).length=8/\(rot j.val).Nodup/\∀x∈rot j.val,cF x dq 8=true:=‹0›
theorem xC:∀j:Fin 12,fK (fK (w12.map V.str) (some (j.val:Int)) none++fK (w12.map V.str) none (some (j.val:Int))) none (some 8)=(rot j.val).map V.str:=‹0›
theorem wE {sub:List Nat}{te:TE}{σ:St}{H:Hp}{Q:VK}{n:Nat}{s:Addr} (hs:SAt H s) (hn:n<=1000) (P:Int->Prop) (hte:∀(i:Nat) (H2:Hp) (R:VK),i < n->SAt H2 s->(∀x H3,P x->Off s H2 H3->SAt H3 s->R (.int x) H3)->te (some (.int (0+(i:Int)))::bP sub σ) H2 R)
  (hq:∀(D:Addr) (bs:List Int) (H':Hp),H D=none->Off s H H'->SAt H' s->H' D=some (.lst (bs.map V.int))->bs.length=n->(∀x∈bs,P x)->Q (.ref D) H'):fL (Itr 0 n) sub (λ_ H Q=>Q true H) te σ Q H:=by
 intro D nD
 have nDs:D≠s:=λz=>by obtain⟨xs,e⟩:=hs.lst;rw [z,e]at nD;cases nD
 refine dJ (lo:=0) (n:=n) (sub:=sub) (tt:=λ_ H Q=>Q true H) (te:=te) (Q:=Q) (σ:=σ) (λi ys H2=>∃bs:List Int,ys=bs.map V.int/\bs.length=i/\H2 D=some (.lst ys)/\Off s H H2/\SAt H2 s/\∀x∈bs,P x) ⟨[],rfl,rfl,ai,Off.grow (laid nD).1,hs.keep (laid nD).1,(λ_ z=>nomatch z)⟩ (λi ys H2 hi hh=>?_) λys H2 hh=>?_
 ·obtain⟨bs,rfl,hl,e2,o2,s2,h2⟩:=hh
  refine bJ (hte i _ _ hi s2 λx H3 hx o3 s3=>⟨o3 _ _ e2 nDs,by rw [List.length_map];exact bu ‹1›,bs++[x],by rw [List.map_append];rfl,by rw [List.length_append,hl];rfl,ai,λb o e nb=>by rw [ah (ao e nD)];exact o3 _ _ (o2 _ _ e nb) nb,s3.off nDs (λb o e nb=>by rw [ah nb];exact e),λy hy=>?_⟩)
  rcases List.mem_append.mp hy with hy | hy
  ·exact h2 y hy
  ·rw [List.mem_singleton.mp hy];exact hx
 ·obtain⟨bs,rfl,hl,e2,o2,s2,h2⟩:=hh
  exact hq D bs H2 nD o2 s2 e2 hl h2
theorem wC {K:W.Frag}{la:Addr}{zs:List Int}{sub:List Nat}{te:TE}{σ:St}{Q:VK}{H:Hp} (g:Int->Str) (hn:zs.length < 1000) (ha:H la=some (.lst (zs.map V.int))) (hte:∀(z:Int) (H2:Hp) (R:VK),R (.str (g z)) H2->te (some (.int z)::bP sub σ) H2 R)
  (hq:∀(D:Addr),H D=none->Q (.ref D) (upd H D (.lst ((zs.map g).map V.str)))):fL (Itl K la) sub (λ_ H Q=>Q true H) te σ Q H:=by
 intro D nD
 have nl:la≠D:=ao ha nD
 refine eK (K:=K) (a:=la) (xs:=zs.map V.int) (sub:=sub) (tt:=λ_ H Q=>Q true H) (te:=te) (Q:=Q) (σ:=σ) (λi ys H2=>ys=((zs.take i).map g).map V.str/\H2=upd H D (.lst ys)) ⟨by rw [List.take_zero];rfl,rfl⟩ (λi ys H2 _ hh=>?_) (λi x ys H2 hi hh=>?_) λys H2 hh=>?_
 ·obtain⟨_,rfl⟩:=hh
  exact SqL.of (by rw [ah nl];exact ha)
 ·obtain⟨rfl,rfl⟩:=hh
  rw [List.getElem?_map]at hi
  obtain⟨z,hz,rfl⟩:=Option.map_eq_some_iff.mp hi
  refine bJ (hte z _ _ ⟨ai,?_,?_,bE⟩)
  ·rw [List.length_map,List.length_map,List.length_take];exact bu ‹1›
  ·rw [List.take_add_one,hz,List.map_append,List.map_append];rfl
 ·obtain⟨rfl,rfl⟩:=hh
  rw [List.length_map,List.take_length]
  exact hq D nD
theorem wF {sub:List Nat}{te:TE}{σ:St}{H:Hp}{Q:VK}{n:Nat} (f:Nat->V) (hn:n<=1000) (hte:∀(i:Nat) (H2:Hp) (R:VK),i < n->aZ H H2->R (f i) H2->te (some (.int (0+(i:Int)))::bP sub σ) H2 R)
  (hq:∀D,H D=none->Q (.ref D) (upd H D (.lst ((List.range n).map f)))):fL (Itr 0 n) sub (λ_ H Q=>Q true H) te σ Q H:=by
 intro D nD
 refine dJ (lo:=0) (n:=n) (sub:=sub) (tt:=λ_ H Q=>Q true H) (te:=te) (Q:=Q) (σ:=σ) (λi ys H2=>ys=(List.range i).map f/\H2=upd H D (.lst ys)) ⟨rfl,rfl⟩ (λi ys H2 hi hh=>?_) λys H2 hh=>?_
 ·obtain⟨rfl,rfl⟩:=hh
  refine bJ (hte i _ _ hi (laid nD).1 ⟨ai,by rw [List.length_map,List.length_range];exact bu ‹1›,by rw [List.range_succ,List.map_append];rfl,bE⟩)
 ·obtain⟨rfl,rfl⟩:=hh
  exact hq D nD
noncomputable def sgE (bs:List Int) (at_:Int) (k j:Nat):Int:=bs.getD j 0+3 * (k:Int) * (if (j:Int)=at_ then 1 else 0)
noncomputable def gZ (z:Int):Str:=⟨#[97+(z % 26).toNat]⟩
noncomputable def nmK (bs:List Int) (at_ sz:Int) (k:Nat):Str:=Txt.join ‹""› (((List.range sz.toNat).map (sgE bs at_ k)).map gZ)
theorem wf (xs:List Int):xs.map gZ=(xs.map λz=>97+(z % 26).toNat).map λd=>(⟨#[d]⟩:Str):=by rw [List.map_map];rfl
theorem AU (xs:List Int):((xs.map gZ).map (·.length)).sum=xs.length:=by rw [wf,iO,List.length_map]
theorem jf (bs:List Int) (at_ sz:Int) (k:Nat):(nmK bs at_ sz k).cps.toList=(List.range sz.toNat).map λj=>97+(sgE bs at_ k j % 26).toNat:=by
 unfold nmK
 rw [wf,BI,i0,List.map_map]
 rfl
theorem AB {bs:List Int}{at_ sz:Int} (h1:1<=sz) (h8:sz<=8) (a0:0<=at_) (a1:at_ < sz):Nms ((List.range 8).map (nmK bs at_ sz)):=by
 refine⟨by rw [List.length_map,List.length_range],?_,λx hx=>?_⟩
 ·refine List.pairwise_map.mpr (List.Pairwise.imp_of_mem (λ{i j} hi hj hlt e=>?_) List.pairwise_lt_range)
  have hi:=List.mem_range.mp hi
  have hj:=List.mem_range.mp hj
  have e:=congrArg (λx:Str=>x.cps.toList[at_.toNat]?) e
  have ht:at_.toNat < sz.toNat:=by omega
  rw [jf,jf,List.getElem?_map,List.getElem?_map,List.getElem?_range ht]at e
  have e:97+(sgE bs at_ i at_.toNat % 26).toNat=97+(sgE bs at_ j at_.toNat % 26).toNat:=Option.some.inj e
  have z:((at_.toNat:Nat):Int)=at_:=by omega
  unfold sgE at e
  rw [if_pos z]at e
  generalize bs.getD at_.toNat 0=b at e
  omega
 ·obtain⟨k,_,rfl⟩:=List.mem_map.mp hx
  have hl:(nmK bs at_ sz k).length=sz.toNat:=by rw [cI,jf,List.length_map,List.length_range]
  refine yi ‹1› ‹1› λc hc=>?_
  rw [jf]at hc
  obtain⟨j,_,rfl⟩:=List.mem_map.mp hc
  have:=Int.emod_nonneg (sgE bs at_ k j) (show (26:Int)≠0 by decide)
  have:=Int.emod_lt_of_pos (sgE bs at_ k j) (show (0:Int) < 26 by decide)
  unfold yE
  omega
inductive NmI (H:Hp) (c:Int) (lw s D p:Addr) (at_ sz:Int) (bs:List Int) (k:Nat) (σ:St) (H2:Hp):Prop
 | mk (v7 v8:Option V) (h1:σ=[some (.int c),some (.ref lw),some (.ref s),some (.int at_),some (.int sz),some (.ref D),some (.ref p),v7,v8]) (h2:aZ H H2) (h3:H2 D=some (.lst (bs.map V.int))) (h4:H2 p=some (.lst (((List.range k).map (nmK bs at_ sz)).map V.str))):NmI H c lw s D p at_ sz bs k σ H2
noncomputable def qQ:Sp:=λvs H Q _=>∃(c:Int),vs=[.int c]/\∀(p:Addr) (ss:List Str) (H':Hp),H p=none->aZ H H'->H' p=some (.lst (ss.map V.str))->Nms ss->Q (.ref p) H'
theorem cY:FnScope ["_law_cell_here", "_law_some", "_law_state", "_law_at", "_law_size", "_law_base", "_law_names_here", "_law_k", "_law_signs"] ["_law_cell_here"] (au pP):=‹2›
theorem vC {f f1 f2:Addr}{fd:FuncData} (F:Fun K "_law_names" "_law_names" pP f fd) (N:Free mg){fd1:FuncData} (CB:Cal P w K mg base "_law_begun" 1 ["_law_cell_here"] me f1 fd1){fd2:FuncData} (CP:Cal P w K mg base "_law_pull" 2 ["_law_state", "_law_many"] gj f2 fd2):FnOk P w K mg base CX0 3 f fd ["_law_cell_here"] qQ:=by
 refine F.ok (k:=2) cY (λvs H Q E h=>?_) (λcdv A outer s H vs Q E hr h=>?_)
 ·obtain⟨c,rfl,_⟩:=h
  rfl
 ·obtain⟨c,rfl,q⟩:=h
  have hu:=aP hr
  refine⟨_,(@af _ _ _ _ _ (@aA (i:=1) _ _ _ _ _ _ cY.nd rfl (Or.inl rfl) (@be _ _ _ _ (@aa _ _ _ _ _ aR (@aa _ _ _ _ _ aR (@aa _ _ _ _ _ aR (@aa _ _ _ _ _ aR (@aa _ _ _ _ _ aR (@aa _ _ _ _ _ aR (@aa _ _ _ _ _ aR (@aa _ _ _ _ _ aR (@aa _ _ _ _ _ aR (@aa _ _ _ _ _ aR (@aa _ _ _ _ _ aR (@aa _ _ _ _ _ aR ae rfl) rfl) rfl) rfl) rfl) rfl) rfl) rfl) rfl) rfl) rfl) rfl)) (by rfl) (by first | exact .inl rfl | exact .inr rfl))
   (af (aA (i:=2) cY.nd rfl (Or.inr rfl) (ay CB.ok (hr.mono (by decide)) rfl CB.nm CB.kp CB.bd .nil av (aa (pv 0) ae)))
   (af (bx (aN cH (ay CP.ok (hr.mono (by decide)) rfl CP.nm CP.kp CP.bd .nil av (aa (pv 2) (aa aj ae))) aj (aV _)) (af (aA (i:=3) cY.nd rfl (Or.inr rfl) (ay CP.ok (hr.mono (by decide)) rfl CP.nm CP.kp CP.bd .nil av (aa (pv 2) (aa aj ae))))
   (aq (aB (fm j7 (aH qf (fm j7 (pv 1) (gT (pv 3)) gU) (fm j7 (pv 1) gU (gT (pv 3)))) gU (gT aj))))) aL)
   (af (aA (i:=4) cY.nd rfl (Or.inl rfl) (aH bw aj (ay CP.ok (hr.mono (by decide)) rfl CP.nm CP.kp CP.bd .nil av (aa (pv 2) (aa aj ae)))))
   (af (aA (i:=3) cY.nd rfl (Or.inr rfl) (ay CP.ok (hr.mono (by decide)) rfl CP.nm CP.kp CP.bd .nil av (aa (pv 2) (aa (pv 4) ae))))
   (af (aA (i:=5) cY.nd rfl (Or.inr rfl) (dS (bh rfl (cV rfl N.range (aa (pv 4) ae)) rfl rfl (by show ∀p∈_,eN [‹"_law_state"›] p;decide) (by decide) rfl (by show ([‹"_law_k"›, ‹"_law_state"›]:List Str).Nodup;decide) (.cons (i:=2) rfl (.inr (.inl rfl)) (by show (some NameKind.cell)≠some NameKind.local;decide) (.inl rfl) rfl .nil) (λC fp s H=>cp) (λC fp s H=>(ay CP.ok (hr.mono (by decide)) rfl CP.nm CP.kp CP.bd .nil av (aa (pv 1) (aa aj ae)))))))
   (af (aA (i:=6) cY.nd rfl (Or.inl rfl) (be ae))
   (af (ed PassesOwn.never rfl (cV rfl N.range (aa aj ae)) (aI (i:=7) cY.nd rfl (Or.inr rfl))
   (af (jb (i:=8) cY.nd rfl (Or.inl rfl) (bh rfl (cV rfl N.range (aa (pv 4) ae)) rfl rfl (by show ∀p∈_,eN [‹"_law_k"›, ‹"_law_base"›, ‹"_law_at"›] p;decide) (by decide) rfl (by show ([‹"_law_j"›, ‹"_law_k"›, ‹"_law_base"›, ‹"_law_at"›]:List Str).Nodup;decide) (.cons (i:=7) rfl (.inr (.inl rfl)) (by show (some NameKind.cell)≠some NameKind.local;decide) (.inl rfl) rfl (.cons (i:=5) rfl (.inr (.inl rfl)) (by show (some NameKind.cell)≠some NameKind.local;decide) (.inl rfl) rfl (.cons (i:=3) rfl (.inr (.inl rfl)) (by show (some NameKind.cell)≠some NameKind.local;decide) (.inl rfl) rfl .nil))) (λC fp s H=>cp) (λC fp s H=>(aH bw (bv (r:=xG K) bp (pv 2) (pv 0) (λ_ _=>rfl)) (aH eT (aH eT aj (pv 1)) (aM iK (by rfl) N.int PyProof.Rows.Boot.«int» (aa (c9 cH (pv 0) (pv 3) (aV _)) ae)))))))
   (aq (bo (dU PySem.F.plainAttrs_list PySem.F.slot_list_append PySem.F.type_list_append eJ (pv 6) (aa (dU PySem.F.plainAttrs_str PySem.F.slot_str_join PySem.F.type_str_join jg aR (aa (dS (bh rfl (dR (pv 8)) rfl rfl (by show ∀p∈_,eN [] p;decide) (by decide) rfl (by show ([‹"_law_sign"›]:List Str).Nodup;decide) .nil (λC fp s H=>cp) (λC fp s H=>(bv AJ aR (aH gz (pv 0) aj) (λ_ _=>rfl))))) ae)) ae))))))
   (aq (aB (pv 6))))))))))),?_⟩
  refine ag (aw ⟨by show 12<=sizeLine;decide,λlw nlw=>?_⟩)
  obtain⟨g1,e1⟩:=laid (o:=.lst (w12.map V.str)) nlw
  walk_at "d"
  change x9 _ _ _ _ (upd H lw (.lst (w12.map V.str)))
  generalize upd H lw (.lst (w12.map V.str))=H1 at g1 e1 ⊢
  refine ag (aw ⟨_,rfl,c,rfl,λs H2 ns g2 hs2=>?_⟩)
  walk_at "d"
  have ns0:H s=none:=by
   cases e:H s with
   | none=>rfl
   | some o=>rw [g1 _ _ e]at ns;cases ns
  have nlws:lw≠s:=ao e1 ns
  have g12:=g1.trans g2
  have e1:=g2 _ _ e1
  have og:∀{X Y:Hp},aZ H X->Off s X Y->aZ H Y:=λ{X Y} g o b u e=>o _ _ (g _ _ e) (ao e ns0)
  refine ag (aO ⟨_,rfl,s,4,rfl,hs2,by decide,by decide,λn H3 n0 n1 o3 hs3=>⟨rfl,_,rfl,eA (λ_=>?_) λ_=>aD ?_⟩⟩)
  ·refine ag (aw ⟨_,rfl,s,12,rfl,hs3,by decide,by decide,λat_ H4 a0 a1 o4 hs4=>?_⟩)
   walk_at "d"
   obtain⟨j,rfl⟩:∃j:Nat,at_=(j:Int):=⟨at_.toNat,by omega⟩
   have hj:j < 12:=by omega
   have e4:=o4 _ _ (o3 _ _ e1 nlws) nlws
   have g4:=og (og g12 o3) o4
   refine aF ⟨_,rfl,_,rfl,_,rfl,lw,_,rfl,SqL.of e4,λl1 nl1=>?_⟩
   obtain⟨g5,e5⟩:=laid (o:=.lst (fK (w12.map V.str) (some (j:Int)) none)) nl1
   generalize upd H4 l1 _=H5 at g5 e5 ⊢
   refine⟨_,rfl,_,rfl,_,rfl,lw,_,rfl,SqL.of (g5 _ _ e4),λl2 nl2=>?_⟩
   obtain⟨g6,e6⟩:=laid (o:=.lst (fK (w12.map V.str) none (some (j:Int)))) nl2
   generalize upd H5 l2 _=H6 at g6 e6 ⊢
   have c1:=fJ (w12.map V.str) (some (j:Int)) none
   have c2:=fJ (w12.map V.str) none (some (j:Int))
   have c3:(w12.map V.str).length=12:=rfl
   refine⟨l1,l2,_,_,rfl,rfl,g6 _ _ e5,e6,Nat.le_of_lt (bu ‹1›),λl3 nl3=>⟨_,rfl,l3,_,rfl,SqL.of ai,λp np=>?_⟩⟩
   obtain⟨g7,_⟩:=laid (o:=.lst (fK (w12.map V.str) (some (j:Int)) none++fK (w12.map V.str) none (some (j:Int)))) nl3
   obtain⟨g8,e8⟩:=laid (o:=.lst (fK (fK (w12.map V.str) (some (j:Int)) none++fK (w12.map V.str) none (some (j:Int))) none (some 8))) np
   have gg:=g4.trans (g5.trans (g6.trans (g7.trans g8)))
   refine q p (rot j) _ ?_ gg (by rw [e8,xC ⟨j,hj⟩]) (Aa ⟨j,hj⟩)
   cases e:H p with
   | none=>rfl
   | some o=>rw [(g4.trans (g5.trans (g6.trans g7))) _ _ e]at np;cases np
  ·dsimp only
   refine ag (aw ⟨_,rfl,s,8,rfl,hs3,by decide,by decide,λn2 H4 m0 m1 o4 hs4=>⟨_,_,rfl,rfl,?_⟩⟩)
   walk_at "d"
   refine ag (aw ⟨_,rfl,_,rfl,s,1+n2,rfl,hs4,by omega,by omega,λat_ H5 a0 a1 o5 hs5=>?_⟩)
   walk_at "d"
   have g5:=og (og (og g12 o3) o4) o5
   refine ag (aw (bQ ⟨_,rfl,_,rfl,by omega,by omega,wE (n:=(1+n2).toNat) hs5 ‹1› (λx=>0<=x/\x < 26) (λi H6 R hi hs6 hR=>?_) λD bs H6 nD o6 hs6 eD hbl hbs=>?_⟩))
   ·exact⟨_,rfl,s,26,rfl,hs6,by decide,by decide,λx H7 x0 x1 o7 hs7=>hR x H7 ⟨x0,x1⟩ o7 hs7⟩
   ·walk_at "d"
    have g6:=og g5 o6
    refine ag (aw ⟨by show 0<=sizeLine;decide,λp np=>?_⟩)
    walk_at "d"
    obtain⟨g7,e7⟩:=laid (o:=.lst []) np
    have np0:H p=none:=by
     cases e:H p with
     | none=>rfl
     | some o=>rw [g6 _ _ e]at np;cases np
    have eD7:=g7 _ _ eD
    have npD:p≠D:=λz=>by rw [z,eD]at np;cases np
    have g67:=g6.trans g7
    generalize upd H6 p _=H7 at g7 e7 eD7 g67 ⊢
    have hsz:((1+n2).toNat:Int)=1+n2:=by omega
    refine ag ⟨8,rfl,by decide,by decide,cX (n:=8) (NmI H c lw s D p at_ (1+n2) bs) ⟨none,none,rfl,g67,eD7,e7⟩ (λk σ H8 hk hh=>?_) λσ H8 hh=>?_⟩
    ·obtain⟨v7,v8,rfl,g8,eD8,ep8⟩:=hh
     walk_at "d"
     rw [Int.zero_add]
     refine ag (aw (bQ ⟨_,rfl,_,rfl,by omega,by omega,wF (n:=(1+n2).toNat) (λj=>V.int (sgE bs at_ k j)) ‹1› (λj H9 R hj g9 hR=>?_) λD2 nD2=>?_⟩))
     ·rw [Int.zero_add]
      have hjb:j < bs.length:=by omega
      refine⟨_,rfl,_,rfl,D,_,_,.int bs[j],rfl,rfl,SqL.of (g9 _ _ eD8),dY (by rw [List.getElem?_map,List.getElem?_eq_getElem hjb];rfl),_,rfl,_,_,rfl,rfl,.inl ⟨by decide,by decide⟩,_,rfl,_,rfl,rfl,.inr ⟨_,rfl,_,_,rfl,rfl,.inl ⟨by omega,by omega⟩,_,_,rfl,rfl,?_⟩⟩
      have e9:bs[j]+3 * (k:Int) * (if decide (V.int (j:Int)=V.int at_)=true then 1 else 0)=sgE bs at_ k j:=by
       unfold sgE
       rw [List.getD_eq_getElem?_getD,List.getElem?_eq_getElem hjb]
       by_cases z:(j:Int)=at_
       ·rw [if_pos z,if_pos (decide_eq_true (congrArg V.int z))];rfl
       ·rw [if_neg z,if_neg (λy=>z (V.int.inj (of_decide_eq_true y)))];rfl
      rw [e9]
      exact hR
     ·rw [show ((List.range (1+n2).toNat).map λj=>V.int (sgE bs at_ k j))=((List.range (1+n2).toNat).map (sgE bs at_ k)).map V.int from by rw [List.map_map];rfl]
      obtain⟨g9,e9⟩:=laid (o:=.lst (((List.range (1+n2).toNat).map (sgE bs at_ k)).map V.int)) nD2
      walk_at "d"
      generalize upd H8 D2 _=H9 at g9 e9 ⊢
      have hzl:((List.range (1+n2).toNat).map (sgE bs at_ k)).length < 1000:=by rw [List.length_map,List.length_range];omega
      refine bn (yZ ⟨_,rfl,.inl ⟨rfl,_,SqL.of (g9 _ _ ep8)⟩,bZ (yZ ⟨rfl,bZ (bQ ⟨_,rfl,D2,rfl,⟨_,SqL.of e9⟩,wC gZ hzl e9 (λz H2 R hR=>?_) λD3 nD3=>?_⟩)⟩)⟩)
      ·exact⟨_,rfl,_,_,rfl,rfl,(by show (0:Int) < 26;decide),dq,z % 26,_,rfl,rfl,by decide,AE (Int.emod_nonneg _ (by decide)) (Int.emod_lt_of_pos _ (by decide)),hR⟩
      ·obtain⟨ga,ea⟩:=laid (o:=.lst ((((List.range (1+n2).toNat).map (sgE bs at_ k)).map gZ).map V.str)) nD3
       generalize upd H9 D3 _=Ha at ga ea ⊢
       have epa:=ga _ _ (g9 _ _ ep8)
       have eDa:=ga _ _ (g9 _ _ eD8)
       refine⟨‹""›, D3,_,rfl,rfl,ea,?_,p,_,_,rfl,rfl,epa,?_,_,_,rfl,λb o e=>?_,?_,?_⟩
       ·rw [AU,show ‹""›.length=0 from rfl,Nat.mul_zero];exact Nat.le_trans (Nat.le_of_lt hzl) (by decide)
       ·rw [List.length_map,List.length_map,List.length_range];exact bu ‹1›
       ·rw [ah (ao e np0)];exact ga _ _ (g9 _ _ (g8 _ _ e))
       ·rw [ah (Ne.symm npD)];exact eDa
       ·rw [ai,List.range_succ,List.map_append,List.map_append];rfl
    ·obtain⟨v7,v8,rfl,g8,eD8,ep8⟩:=hh
     dsimp only
     exact aF ⟨_,rfl,q p _ _ np0 g8 ep8 (AB ‹1› ‹1› a0 a1)⟩
open PySem.W PySem.W.KIN PySem.NumText
noncomputable def jy (K:PySem.W.Frag):Sp:=λvs H Q _=>∃v:V,vs=[v]/\((∃x:Str,v=.str x/\x.length < sizeLine/\∀H',aZ H H'->Q (.bl (cF x dq 8)) H')\/∃n:String,TyOf K H v (.type n)/\PySem.W.kitOne K (.type n) (.type "str")=some false/\Q (.bl false) H)
theorem zT:FnScope ["thing"] ["thing"] (au uF):=‹2›
theorem xU {f f1:Addr}{fd fd1:FuncData} (F:Fun K "is_name" "is_name" uF f fd) (N:Free mg) (C:Con mg) (CH:Cal P w K mg base "has_only" 1 ["text", "signs", "most"] ud f1 fd1):FnOk P w K mg base CX0 2 f fd ["thing"] (jy K):=by
 obtain⟨t1,c1⟩:=C.letters
 obtain⟨t2,c2⟩:=C.eight
 refine F.ok (k:=1) zT (λvs H Q E h=>?_) (λcdv A outer s H vs Q E hr h=>?_)
 ·obtain⟨v,rfl,_⟩:=h
  rfl
 ·obtain⟨v,rfl,h⟩:=h
  refine⟨_,aq (aB (fw (aE dc (by rfl) N.isinstance PyProof.Rows.Boot.«isinstance» (aC (pv 0) (aC (gY (v:=.ty "str") (by rfl) N.str PyProof.Rows.Boot.«str» rfl) ae))) (fo (ay CH.ok hr rfl CH.nm CH.kp CH.bd .nil av (aC (pv 0) (aC (bO (v:=.str dq) (by rfl) c1 ⟨_,rfl⟩) (aC (bO (v:=.int 8) (by rfl) c2 ⟨_,rfl⟩) ae))))))),?_⟩
  rcases h with⟨x,rfl,hl,hq⟩ | ⟨n,ty,e,q⟩
  ·exact⟨_,rfl,.str x,"str", _,true,rfl,.str x,by rfl,_,rfl,bJ ⟨_,rfl,x,dq,8,rfl,hl,hq⟩⟩
  ·exact⟨_,rfl,v,"str", _,false,rfl,ty,e,_,rfl,br q⟩
noncomputable def jQ (x:Str):Bool:=decide (x.cps.toList.head?=some 45)
noncomputable def figs (x:Str):List Nat:=if jQ x=true then x.cps.toList.tail else x.cps.toList
noncomputable def bY (x:Str):Int:=if jQ x=true then -((digitsVal (figs x):Nat):Int) else ((digitsVal (figs x):Nat):Int)
theorem rT:∀{cs:List Nat},AllDigits cs->(cs.map Char.ofNat).map Char.toNat=cs
 | [],_=>rfl
 | c::r,h=>by
  rw [List.map_cons,List.map_cons,rT h.tail]
  have hc:=h.head
  have:∀d:Nat,48<=d->d<=57->(Char.ofNat d).toNat=d:=by
   intro d h1 h2
   have:d=48\/d=49\/d=50\/d=51\/d=52\/d=53\/d=54\/d=55\/d=56\/d=57:=by omega
   rcases this with h | h | h | h | h | h | h | h | h | h <;> subst h <;> rfl
  rw [this c hc.1 hc.2]
noncomputable def eB (cs:List Nat):List Nat:=(Nat.toDigits 10 (digitsVal cs)).map Char.toNat
theorem fh {c:Nat}{r:List Nat} (h:AllDigits (c::r)) (hc:c≠48):eB (c::r)=c::r:=by
 unfold eB
 have hh:=h.head
 rw [toDigits_digitsVal r.length (c::r) rfl h (.inr ⟨c,r,rfl,by omega⟩)]
 exact rT h
theorem pD:eB [48]=[48]:=by decide
theorem iP:∀{r:List Nat},AllDigits r->(eB r).length<=r.length+(if r=[] then 1 else 0)
 | [],_=>by decide
 | c::r,h=>by
  by_cases hc:c=48
  ·subst hc
   have e:eB (48::r)=eB r:=by unfold eB;rw [digitsVal_zero]
   rw [e]
   have:=iP h.tail
   by_cases hr:r=[]
   ·subst hr;decide
   ·rw [if_neg hr]at this
    rw [if_neg (by simp),List.length_cons]
    omega
  ·rw [fh h hc,if_neg (by simp)]
   exact Nat.le_refl _
theorem lc {r:List Nat} (h:AllDigits (48::r)) (hr:r≠[]):eB (48::r)≠48::r:=λz=>by
 have e:eB (48::r)=eB r:=by unfold eB;rw [digitsVal_zero]
 rw [e]at z
 have:=iP h.tail
 rw [z,if_neg hr,List.length_cons]at this
 omega
theorem fM (m:Nat):(Str.ofString (toString ((m:Nat):Int))).cps.toList=(Nat.toDigits 10 m).map Char.toNat:=signs_num m
theorem gp (m:Nat) (h:0 < m):(Str.ofString (toString (-((m:Nat):Int)))).cps.toList=45::(Nat.toDigits 10 m).map Char.toNat:=by
 obtain⟨k,rfl⟩:∃k,m=k+1:=⟨m - 1,by omega⟩
 rw [PyProof.Rows.signs_ofString]
 show (toString (Int.negSucc k)).toList.map Char.toNat=_
 show ("-"++Nat.repr (k+1)).toList.map Char.toNat=_
 rw [String.toList_append,List.map_append,Nat.toList_repr]
 rfl
theorem lq {x:Str} (h:AllDigits (figs x)) (h1:figs x≠[]):Str.ofString (toString (bY x))=x↔¬((figs x).head?=some 48/\x.cps.toList≠[48]):=by
 cases hn:jQ x with
 | false=>
  have ef:figs x=x.cps.toList:=by unfold figs;rw [hn];rfl
  have ev:bY x=((digitsVal (figs x):Nat):Int):=by unfold bY;rw [hn];rfl
  have e:Str.ofString (toString (bY x))=x↔eB (figs x)=figs x:=by
   rw [ev]
   constructor
   ·intro z
    have:=congrArg (λy:Str=>y.cps.toList) z
    simp only [fM]at this
    rw [<- ef]at this
    exact this
   ·intro z
    refine di ?_
    rw [fM,<- ef]
    exact z
  rw [e]
  rw [<- ef]
  generalize figs x=cs at *
  cases cs with
  | nil=>exact absurd rfl h1
  | cons c r=>
   by_cases hc:c=48
   ·subst hc
    by_cases hr:r=[]
    ·subst hr
     exact⟨λ_ z=>z.2 rfl,λ_=>pD⟩
    ·refine⟨λz=>absurd z (lc h hr),λz=>absurd ⟨rfl,λw=>hr ?_⟩ z⟩
     injection w
   ·refine⟨λ_ z=>hc ?_,λ_=>fh h hc⟩
    injection z.1
 | true=>
  have hh:x.cps.toList.head?=some 45:=of_decide_eq_true hn
  have ef:figs x=x.cps.toList.tail:=by unfold figs;rw [hn];rfl
  have ev:bY x = -((digitsVal (figs x):Nat):Int):=by unfold bY;rw [hn];rfl
  have ex:x.cps.toList=45::figs x:=by
   rw [ef]
   cases q:x.cps.toList with
   | nil=>rw [q]at hh;cases hh
   | cons a t=>rw [q]at hh;cases hh;rfl
  have r2:x.cps.toList≠[48]:=by rw [ex];intro z;injection z with z _;cases z
  have e:Str.ofString (toString (bY x))=x↔(0 < digitsVal (figs x)/\eB (figs x)=figs x):=by
   rw [ev]
   by_cases hm:0 < digitsVal (figs x)
   ·constructor
    ·intro z
     have:=congrArg (λy:Str=>y.cps.toList) z
     simp only [gp _ hm]at this
     rw [ex]at this
     injection this with _ this
     exact⟨hm,this⟩
    ·intro z
     refine di ?_
     rw [gp _ hm,ex]
     exact congrArg (45::·) z.2
   ·have hz:digitsVal (figs x)=0:=by omega
    refine⟨λz=>?_,λz=>absurd z.1 hm⟩
    have:=congrArg (λy:Str=>y.cps.toList) z
    rw [hz]at this
    have t0:(Str.ofString (toString (-((0:Nat):Int)))).cps.toList=[48]:=by decide
    rw [t0,ex]at this
    injection this with this _
    cases this
  rw [e]
  generalize figs x=cs at *
  cases cs with
  | nil=>exact absurd rfl h1
  | cons c r=>
   by_cases hc:c=48
   ·subst hc
    refine⟨λz=>?_,λz=>absurd ⟨rfl,r2⟩ z⟩
    by_cases hr:r=[]
    ·subst hr;exact absurd z.1 (by decide)
    ·exact absurd z.2 (lc h hr)
   ·refine⟨λ_ z=>hc ?_,λ_=>⟨?_,fh h hc⟩⟩
    ·injection z.1
    ·have:=h.head
     exact digitsVal_pos ‹1›
theorem nA (x:Str) (c:Nat):Txt.startswith x ⟨#[c]⟩=decide (x.cps.toList.head?=some c):=by
 unfold Txt.startswith
 rw [Bool.eq_iff_iff,decide_eq_true_eq,List.head?_eq_getElem?]
 rw [Bool.and_eq_true,decide_eq_true_eq]
 exact StrLaws.subAt_one x c 0
theorem xi {x:Str} (h:1<=x.length):(Txt.slice x (some 1) none).cps.toList=x.cps.toList.tail:=by
 rw [PyProof.Rows.slice_from_eq (x:=x) (i:=1) (b:=x.length) (by decide) ‹1› rfl]
 have e:x.length=x.cps.toList.length:=by simp [Str.length]
 show (x.cps.toList.drop 1).take _=_
 rw [List.take_of_length_le (by rw [List.length_drop];omega),List.drop_one]
theorem lZ (x:Str):Txt.startswith x ‹"-"›=jQ x:=by
 rw [show ‹"-"› = ⟨#[45]⟩ from by decide]
 exact nA x 45
theorem gb (x:Str):Txt.startswith x ‹"0"›=decide (x.cps.toList.head?=some 48):=by
 rw [show ‹"0"› = ⟨#[48]⟩ from by decide]
 exact nA x 48
noncomputable def qz (x:Str):Str:=⟨(figs x).toArray⟩
theorem oK {x:Str} (h:jQ x=true):Txt.slice x (some 1) none=qz x:=by
 refine di ?_
 have hl:1<=x.length:=by
  have z:=of_decide_eq_true h
  have e:x.length=x.cps.toList.length:=by simp [Str.length]
  cases q:x.cps.toList with
  | nil=>rw [q]at z;cases z
  | cons a t=>rw [e,q,List.length_cons];omega
 rw [xi hl]
 show _=figs x
 unfold figs
 rw [h];rfl
theorem wm {x:Str} (h:jQ x=false):x=qz x:=by
 refine di ?_
 show _=figs x
 unfold figs
 rw [h];rfl
noncomputable def gf (x:Str):Bool:=cF (qz x) ie 12
theorem kh (x:Str):(qz x).length=(figs x).length:=by
 show (figs x).toArray.size=_
 rw [List.size_toArray]
theorem mT {x:Str} (h:gf x=true):AllDigits (figs x)/\figs x≠[]/\(figs x).length<=12:=by
 unfold gf cF at h
 rw [Bool.and_eq_true,Bool.and_eq_true]at h
 obtain⟨h1,h2,h3⟩:=h
 have h1:=of_decide_eq_true h1
 have h2:=of_decide_eq_true h2
 rw [kh]at h1 h2
 refine⟨λc hc=>?_,λz=>?_,by omega⟩
 ·have:=List.all_eq_true.mp h3 c hc
  have m:c∈ie.cps.toList:=of_decide_eq_true this
  rw [show ie.cps.toList=[48,49,50,51,52,53,54,55,56,57] from by decide]at m
  simp only [List.mem_cons,List.not_mem_nil,or_false]at m
  omega
 ·rw [z]at h1
  exact absurd h1 (by decide)
theorem fG {x:Str} (h:(figs x).length<=12):x.length<=640:=by
 have e:x.length=x.cps.toList.length:=by simp [Str.length]
 unfold figs at h
 split at h
 ·rw [List.length_tail]at h;omega
 ·omega
theorem mR {x:Str} (h:gf x=true):PySem.intText? x=some (bY x):=by
 obtain⟨d,n,l⟩:=mT h
 have hl:=fG l
 cases q:jQ x with
 | false=>
  have ef:figs x=x.cps.toList:=by unfold figs;rw [q];rfl
  have:=intText_digits (x:=x) (ef ▸ d) (ef ▸ n) ‹1›
  rw [this]
  unfold bY
  rw [q,ef];rfl
 | true=>
  have hh:x.cps.toList.head?=some 45:=of_decide_eq_true q
  have ef:figs x=x.cps.toList.tail:=by unfold figs;rw [q];rfl
  have ex:x.cps.toList=45::figs x:=by
   rw [ef]
   cases r:x.cps.toList with
   | nil=>rw [r]at hh;cases hh
   | cons a t=>rw [r]at hh;cases hh;rfl
  rw [intText_neg ex d n ‹1›]
  unfold bY
  rw [q];rfl
noncomputable def hE (x:Str) (lo hi:Int):V:=if (gf x=true/\Str.ofString (toString (bY x))=x)/\(lo<=bY x/\bY x<=hi) then .int (bY x) else .non
noncomputable def nG:Sp:=λvs H Q _=>∃(x:Str) (lo hi:Int),vs=[.str x,.int lo,.int hi]/\x.length < sizeLine/\∀H',aZ H H'->Q (hE x lo hi) H'
theorem jG:FnScope ["text", "low", "high", "figures", "number"] ["text", "low", "high"] (au mw):=‹2›
theorem sJ {f f1:Addr}{fd fd1:FuncData} (F:Fun K "number_of" "number_of" mw f fd) (N:Free mg) (C:Con mg) (CH:Cal P w K mg base "has_only" 1 ["text", "signs", "most"] ud f1 fd1):FnOk P w K mg base CX0 2 f fd ["text", "low", "high"] nG:=by
 obtain⟨t1,c1⟩:=C.figures
 obtain⟨t2,c2⟩:=C.twelve
 refine F.ok (k:=1) jG (λvs H Q E h=>?_) (λcdv A outer s H vs Q E hr h=>?_)
 ·obtain⟨x,lo,hi,rfl,_⟩:=h
  rfl
 ·obtain⟨x,lo,hi,rfl,hl,hq⟩:=h
  refine⟨_,af (aA (i:=3) jG.nd rfl (Or.inl rfl) (jM (dB (dU PySem.F.plainAttrs_str PySem.F.slot_str_startswith PySem.F.type_str_startswith mt_startswith (pv 0) (aC aR ae))) (fm zP (pv 0) (gT aj) gU) (pv 0)))
   (af (bx (dZ (dB (ay CH.ok hr rfl CH.nm CH.kp CH.bd .nil av (aC (pv 3) (aC (bO (v:=.str ie) (by rfl) c1 ⟨_,rfl⟩) (aC (bO (v:=.int 12) (by rfl) c2 ⟨_,rfl⟩) ae)))))) (aq (aB dC)) aL)
   (af (bx (PW.pt (Aj (dB (dU PySem.F.plainAttrs_str PySem.F.slot_str_startswith PySem.F.type_str_startswith mt_startswith (pv 3) (aC aR ae))) (xI (aN lr (pv 0) aR (aV _))))) (aq (aB dC)) aL)
   (af (aA (i:=4) jG.nd rfl (Or.inl rfl) (aM kN (by rfl) N.int PyProof.Rows.Boot.«int» (aC (pv 0) ae)))
   (aq (aB (jM (nQ jP jP (pv 1) (pv 4) (pv 2)) (pv 4) dC)))))),?_⟩
  have hfl:(qz x).length < sizeLine:=by
   refine Nat.lt_of_le_of_lt ?_ hl
   rw [kh]
   have e:x.length=x.cps.toList.length:=by simp [Str.length]
   unfold figs
   split
   ·rw [List.length_tail];omega
   ·omega
  refine⟨_,rfl,rfl,x,_,rfl,rfl,_,rfl,?_⟩
  rw [lZ]
  refine eA (λh1=>⟨_,rfl,_,rfl,x,rfl,Nat.le_of_lt hl,?_⟩) λh1=>⟨_,rfl,?_⟩
  ·have e:(Txt.slice x (some 1) none)=qz x:=oK h1
   have eb:cF (Txt.slice x (some 1) none) ie 12=gf x:=congrArg (λz=>cF z ie 12) e
   have eh:(Txt.slice x (some 1) none).cps.toList.head?=(figs x).head?:=congrArg (λz:Str=>z.cps.toList.head?) e
   refine⟨_,rfl,(Txt.slice x (some 1) none),ie,12,rfl,(by rw [oK h1];exact hfl),λH1 g1=>⟨_,rfl,?_⟩⟩
   have hq:=hq H1 g1
   rw [eb]
   cases hg:gf x with
   | false=>
    refine bJ ?_
    have:hE x lo hi=.non:=if_neg λz=>by rw [hg]at z;cases z.1.1
    rw [this]at hq
    exact hq
   | true=>
    refine br ?_
    obtain⟨gd,gn,gl⟩:=mT hg
    have pi:=lq gd gn
    have no:¬Str.ofString (toString (bY x))=x->Q .non H1:=λz=>by
     have:hE x lo hi=.non:=if_neg λy=>z y.1.2
     rw [this]at hq
     exact hq
    have yes:Str.ofString (toString (bY x))=x->∀b:Bool,(b=true↔(lo<=bY x/\bY x<=hi))->Q (if b=true then .int (bY x) else .non) H1:=λz b hb=>by
     have:hE x lo hi=if b=true then .int (bY x) else .non:=by
      unfold hE
      cases b with
      | true=>rw [if_pos ⟨⟨hg,z⟩,hb.mp rfl⟩];rfl
      | false=>rw [if_neg λy=>by have:=hb.mpr y.2;cases this];rfl
     rw [this]at hq
     exact hq
    refine⟨_,rfl,rfl,(Txt.slice x (some 1) none),_,rfl,rfl,_,rfl,?_⟩
    rw [gb,eh]
    have z0:x=‹"0"›↔x.cps.toList=[48]:=⟨λz=>by rw [z];decide,λz=>di (z.trans (by decide))⟩
    refine eA (λh2=>⟨_,rfl,rfl,_,rfl,eA (λh3=>?_) λh3=>?_⟩) λh2=>br ?_
    ·refine no λz=>pi.mp z ⟨of_decide_eq_true h2,λw=>?_⟩
     rw [z0.mpr w]at h3
     exact absurd h3 (by decide)
    ·have hp:Str.ofString (toString (bY x))=x:=pi.mpr λz=>h3 (by
      rw [Bool.not_eq_true',decide_eq_false_iff_not]
      intro w
      injection w with w
      exact z.2 (z0.mp w))
     have yes:=yes hp
     refine⟨_,rfl,x,bY x,rfl,mR hg,fG gl,?_⟩
     refine⟨_,rfl,_,rfl,_,_,rfl,rfl,_,rfl,eA (λh4=>⟨_,rfl,_,_,rfl,rfl,_,rfl,eA (λh5=>⟨_,rfl,?_⟩) λh5=>?_⟩) λh4=>⟨_,rfl,br ?_⟩⟩
     ·exact yes true ⟨λ_=>⟨of_decide_eq_true h4,of_decide_eq_true h5⟩,λ_=>rfl⟩
     ·exact yes false ⟨(λz=>by cases z),λz=>absurd (decide_eq_true z.2) h5⟩
     ·exact yes false ⟨(λz=>by cases z),λz=>absurd (decide_eq_true z.1) h4⟩
    ·have hp:Str.ofString (toString (bY x))=x:=pi.mpr λz=>h2 (decide_eq_true z.1)
     have yes:=yes hp
     refine⟨_,rfl,x,bY x,rfl,mR hg,fG gl,?_⟩
     refine⟨_,rfl,_,rfl,_,_,rfl,rfl,_,rfl,eA (λh4=>⟨_,rfl,_,_,rfl,rfl,_,rfl,eA (λh5=>⟨_,rfl,?_⟩) λh5=>?_⟩) λh4=>⟨_,rfl,br ?_⟩⟩
     ·exact yes true ⟨λ_=>⟨of_decide_eq_true h4,of_decide_eq_true h5⟩,λ_=>rfl⟩
     ·exact yes false ⟨(λz=>by cases z),λz=>absurd (decide_eq_true z.2) h5⟩
     ·exact yes false ⟨(λz=>by cases z),λz=>absurd (decide_eq_true z.1) h4⟩
  ·have e:x=qz x:=wm (Bool.eq_false_iff.mpr h1)
   have eb:cF x ie 12=gf x:=congrArg (λz=>cF z ie 12) e
   have eh:x.cps.toList.head?=(figs x).head?:=congrArg (λz:Str=>z.cps.toList.head?) e
   refine⟨_,rfl,x,ie,12,rfl,hl,λH1 g1=>⟨_,rfl,?_⟩⟩
   have hq:=hq H1 g1
   rw [eb]
   cases hg:gf x with
   | false=>
    refine bJ ?_
    have:hE x lo hi=.non:=if_neg λz=>by rw [hg]at z;cases z.1.1
    rw [this]at hq
    exact hq
   | true=>
    refine br ?_
    obtain⟨gd,gn,gl⟩:=mT hg
    have pi:=lq gd gn
    have no:¬Str.ofString (toString (bY x))=x->Q .non H1:=λz=>by
     have:hE x lo hi=.non:=if_neg λy=>z y.1.2
     rw [this]at hq
     exact hq
    have yes:Str.ofString (toString (bY x))=x->∀b:Bool,(b=true↔(lo<=bY x/\bY x<=hi))->Q (if b=true then .int (bY x) else .non) H1:=λz b hb=>by
     have:hE x lo hi=if b=true then .int (bY x) else .non:=by
      unfold hE
      cases b with
      | true=>rw [if_pos ⟨⟨hg,z⟩,hb.mp rfl⟩];rfl
      | false=>rw [if_neg λy=>by have:=hb.mpr y.2;cases this];rfl
     rw [this]at hq
     exact hq
    refine⟨_,rfl,rfl,x,_,rfl,rfl,_,rfl,?_⟩
    rw [gb,eh]
    have z0:x=‹"0"›↔x.cps.toList=[48]:=⟨λz=>by rw [z];decide,λz=>di (z.trans (by decide))⟩
    refine eA (λh2=>⟨_,rfl,rfl,_,rfl,eA (λh3=>?_) λh3=>?_⟩) λh2=>br ?_
    ·refine no λz=>pi.mp z ⟨of_decide_eq_true h2,λw=>?_⟩
     rw [z0.mpr w]at h3
     exact absurd h3 (by decide)
    ·have hp:Str.ofString (toString (bY x))=x:=pi.mpr λz=>h3 (by
      rw [Bool.not_eq_true',decide_eq_false_iff_not]
      intro w
      injection w with w
      exact z.2 (z0.mp w))
     have yes:=yes hp
     refine⟨_,rfl,x,bY x,rfl,mR hg,fG gl,?_⟩
     refine⟨_,rfl,_,rfl,_,_,rfl,rfl,_,rfl,eA (λh4=>⟨_,rfl,_,_,rfl,rfl,_,rfl,eA (λh5=>⟨_,rfl,?_⟩) λh5=>?_⟩) λh4=>⟨_,rfl,br ?_⟩⟩
     ·exact yes true ⟨λ_=>⟨of_decide_eq_true h4,of_decide_eq_true h5⟩,λ_=>rfl⟩
     ·exact yes false ⟨(λz=>by cases z),λz=>absurd (decide_eq_true z.2) h5⟩
     ·exact yes false ⟨(λz=>by cases z),λz=>absurd (decide_eq_true z.1) h4⟩
    ·have hp:Str.ofString (toString (bY x))=x:=pi.mpr λz=>h2 (decide_eq_true z.1)
     have yes:=yes hp
     refine⟨_,rfl,x,bY x,rfl,mR hg,fG gl,?_⟩
     refine⟨_,rfl,_,rfl,_,_,rfl,rfl,_,rfl,eA (λh4=>⟨_,rfl,_,_,rfl,rfl,_,rfl,eA (λh5=>⟨_,rfl,?_⟩) λh5=>?_⟩) λh4=>⟨_,rfl,br ?_⟩⟩
     ·exact yes true ⟨λ_=>⟨of_decide_eq_true h4,of_decide_eq_true h5⟩,λ_=>rfl⟩
     ·exact yes false ⟨(λz=>by cases z),λz=>absurd (decide_eq_true z.2) h5⟩
     ·exact yes false ⟨(λz=>by cases z),λz=>absurd (decide_eq_true z.1) h4⟩
noncomputable def kZ:Sp:=λvs H Q _=>∃(a:Addr) (ks:List Str),vs=[.ref a]/\H a=some (.lst (ks.map V.str))/\1<=ks.length/\ks.length<=8/\ks.Nodup/\(∀k∈ks,cF k dq 8=true/\k.length < sizeLine)/\∀H',aZ H H'->Q (.bl true) H'
theorem nz {K:W.Frag}{E:XK}{σ:St}{H:Hp}{Q:VK}{a:Addr}{ks:List Str} (e0:σ[0]?=some (some (.ref a))) (ha:H a=some (.lst (ks.map V.str))) (hk:∀k∈ks,cF k dq 8=true/\k.length < sizeLine) (hl:ks.length<=8)
  (hq:∀(D:Addr) (H':Hp),H D=none->aZ H H'->H' D=some (.lst ((List.replicate ks.length true).map V.bl))->Q (.ref D) H') :
  kT (zm K (jv 0)) [] (λ_ H Q=>Q true H) (kU (jy K) [] E (cG (jv 0) iT)) σ H Q:=by
 refine⟨_,e0,a,rfl,⟨_,SqL.of ha⟩,λD nD=>eK (K:=K) (a:=a) (xs:=ks.map V.str) (sub:=[]) (tt:=λ_ H Q=>Q true H) (te:=kU (jy K) [] E (cG (jv 0) iT)) (Q:=Q) (σ:=σ)
  (λi ys H2=>ys=(List.replicate i true).map V.bl/\aZ H H2/\H2 D=some (.lst ys)) ⟨rfl,aZ.new nD,ai⟩ (λi ys H2 _ hh=>?_) (λi x ys H2 hi hh=>?_) λys H2 hh=>?_⟩
 ·exact SqL.of (hh.2.1 _ _ ha)
 ·obtain⟨rfl,g,hD⟩:=hh
  rw [List.getElem?_map]at hi
  cases ek:ks[i]? with
  | none=>rw [ek]at hi;cases hi
  | some k=>
   rw [ek]at hi
   cases hi
   have hil:=(List.getElem?_eq_some_iff.mp ek).1
   obtain⟨k1,k2⟩:=hk k (List.mem_of_getElem? ek)
   refine bJ ⟨_,rfl,.str k,rfl,.inl ⟨k,rfl,k2,λH3 g3=>⟨g3 _ _ hD,?_,?_,?_,?_⟩⟩⟩
   ·rw [List.length_map,List.length_replicate]
    exact bu ‹1›
   ·rw [k1,List.replicate_succ',List.map_append];rfl
   ·intro b o e
    rw [ah (ao e nD)]
    exact g3 _ _ (g _ _ e)
   ·exact ai
 ·obtain⟨rfl,g,hD⟩:=hh
  rw [List.length_map]at hD
  exact hq D H2 nD g hD
theorem sx:FnScope ["thing"] ["thing"] (au jI):=‹2›
theorem qh {f f1:Addr}{fd:FuncData} (F:Fun K "are_keys" "are_keys" jI f fd) (N:Free mg) (C:Con mg){fd1:FuncData} (CN:Cal P w K mg base "is_name" 2 ["thing"] (jy K) f1 fd1):FnOk P w K mg base CX0 3 f fd ["thing"] kZ:=by
 obtain⟨t1,c1⟩:=C.keys
 refine F.ok (k:=2) sx (λvs H Q E h=>?_) (λcdv A outer s H vs Q E hr h=>?_)
 ·obtain⟨a,ks,rfl,_⟩:=h
  rfl
 ·obtain⟨a,ks,rfl,ha,k1,k8,nd,hk,hq⟩:=h
  have hu:=aP hr
  refine⟨_,(af (bx (PW.pt (v0 (dZ (dB (aE dc (by rfl) N.isinstance PyProof.Rows.Boot.«isinstance» (aC (pv 0) (aC (gY (v:=.ty "list") (by rfl) N.list PyProof.Rows.Boot.«list» rfl) ae))))) (qd (dZ (nQ jP jP aj (aE aJ (by rfl) N.len PySem.boot_len (aC (pv 0) ae)) (bO (v:=.int 8) (by rfl) c1 ⟨_,rfl⟩)))))) (aq (aB jN)) aL)
   (aq (aB (fw (aE (lN rfl) (by rfl) N.all PyProof.Rows.Boot.«all» (aC (dS (bh rfl (dR (pv 0)) rfl rfl (by show ∀p∈_,eN [] p;decide) (by decide) rfl (by show ([‹"key"›]:List Str).Nodup;decide) .nil (λC fp s H=>cp) (λC fp s H=>(ay CN.ok (hr.mono (by decide)) rfl CN.nm CN.kp CN.bd .nil av (aC (pv 0) ae))))) ae)) (fo (c9 cH (aE tu (by rfl) N.len PySem.boot_len (aC (aM (t9 rfl) (by rfl) N.set PyProof.Rows.Boot.«set» (aC (pv 0) ae)) ae)) (aE aJ (by rfl) N.len PySem.boot_len (aC (pv 0) ae)) (aV _))))))),?_⟩
  have hS:SqL K H a (ks.map V.str):=SqL.of ha
  refine⟨_,rfl,.ref a,"list", _,true,rfl,.lst ha,by rfl,_,rfl,br ?_⟩
  refine⟨_,rfl,a,_,rfl,.inl hS,_,_,rfl,rfl,_,rfl,?_⟩
  rw [List.length_map,decide_eq_true (show (1:Int)<=ks.length by omega)]
  refine bJ ⟨_,_,rfl,rfl,_,rfl,?_⟩
  rw [decide_eq_true (show (ks.length:Int)<=8 by omega)]
  refine br ?_
  refine aD ?_
  dsimp only
  refine aF (xF (r6 (bZ ?_)))
  refine nz rfl ha hk k8 ?_
  intro D H' nD g hD
  refine⟨D,_,rfl,SqL.of hD,_,rfl,?_⟩
  rw [show (List.replicate ks.length true).all id=true from by simp]
  refine bJ ?_
  refine⟨_,rfl,a,ks,rfl,SqL.of (g _ _ ha),by omega,λp np=>?_⟩
  refine⟨p,ks,rfl,ai,_,rfl,a,_,rfl,.inl (SqL.of (by rw [ah (ao (g _ _ ha) np)];exact g _ _ ha)),rfl,?_⟩
  rw [List.length_map,lJ nd _ (Nat.le_refl _),decide_eq_true rfl]
  exact hq _ (g.trans (aZ.new np))
noncomputable def bD (ks:List Str):List Str:=ks.foldl (λacc k=>if k∈acc then acc else acc++[k]) []
theorem fO (ks:List Str) (k:Str):bD (ks++[k])=if k∈bD ks then bD ks else bD ks++[k]:=by
 unfold bD
 rw [List.foldl_append]
 rfl
theorem fB:∀(n:Nat) (ks:List Str),ks.length=n->(bD ks).length<=n
 | 0,ks,h=>by rw [List.length_eq_zero_iff.mp h];exact Nat.le_refl _
 | n+1,ks,h=>by
  obtain⟨xs,x,rfl⟩:∃xs x,ks=xs++[x]:=⟨ks.dropLast,ks.getLast (by intro z;rw [z]at h;cases h),(List.dropLast_concat_getLast _).symm⟩
  rw [List.length_append,List.length_singleton]at h
  have ih:=fB n xs ‹1›
  rw [fO]
  split
  ·omega
  ·rw [List.length_append,List.length_singleton];omega
theorem ca (k:Str) (xs:List Str):inV (.str k) (xs.map V.str)=decide (k∈xs):=by
 unfold inV
 rw [List.any_map,Bool.eq_iff_iff,List.any_eq_true,decide_eq_true_iff]
 constructor
 ·rintro⟨y,hy,e⟩
  have e:(y == k)=true:=e
  rw [<- eq_of_beq e];exact hy
 ·intro h
  exact⟨k,h,beq_self_eq_true k⟩
noncomputable def tZ (K:PySem.W.Frag):Sp:=λvs H Q _=>∃(a:Addr) (ks:List Str),vs=[.ref a]/\SqL K H a (ks.map V.str)/\ks.length<=900/\∀p,H p=none->Q (.ref p) (upd H p (.lst ((bD ks).map V.str)))
theorem tV {K:W.Frag}{H:Hp}{a p:Addr}{xs:List V}{o:HO} (h:SqL K H a xs) (np:H p=none):SqL K (upd H p o) a xs:=by
 rcases h with(e | ⟨u,e⟩) | e
 ·exact .inl (.inl (by rw [ah (ao e np)];exact e))
 ·exact .inl (.inr ⟨u,by rw [ah (ao e np)];exact e⟩)
 ·exact .inr e
theorem pF:FnScope ["keys", "once", "key"] ["keys"] (au uC):=‹2›
theorem xR {f:Addr}{fd:FuncData} (F:Fun K "each_once" "each_once" uC f fd)  : FnOk P w K mg base CX0 1 f fd ["keys"] (tZ K):=by
 refine F.ok (k:=0) pF (λvs H Q E h=>?_) (λcdv A outer s H vs Q E hr h=>?_)
 ·obtain⟨a,ks,rfl,_⟩:=h
  rfl
 ·obtain⟨a,ks,rfl,ha,hl,q⟩:=h
  have hu:=aP hr
  refine⟨_,(af (aA (i:=1) pF.nd rfl (Or.inl rfl) (be ae))
   (af (ed PassesOwn.never rfl (dR (pv 0)) (aI (i:=2) pF.nd rfl (Or.inl rfl))
   (aq (bx (aN mI (pv 2) (pv 1) (by with_unfolding_all rfl)) (aq (bo (dU PySem.F.plainAttrs_list PySem.F.slot_list_append PySem.F.type_list_append eJ (pv 1) (aa (pv 2) ae)))) aL)))
   (aq (aB (pv 1))))),?_⟩
  refine ag (aw ⟨by show 0<=sizeLine;decide,λp np=>?_⟩)
  walk_at "d"
  refine ag ⟨_,rfl,a,rfl,⟨_,tV ha np⟩,oH (K:=K) (a:=a) (xs:=ks.map V.str) (λi σ H2=>H2=upd H p (.lst ((bD (ks.take i)).map V.str))/\∃v2,σ=[some (.ref a),some (.ref p),v2]) ⟨rfl,none,rfl⟩ (λi σ H2 _ hh=>?_) (λi x σ H2 hi hh=>?_) λσ H2 hh=>?_⟩
  ·obtain⟨rfl,v2,rfl⟩:=hh
   exact tV ha np
  ·obtain⟨rfl,v2,rfl⟩:=hh
   rw [List.getElem?_map]at hi
   obtain⟨k,hk,rfl⟩:=Option.map_eq_some_iff.mp hi
   have hik:=(List.getElem?_eq_some_iff.mp hk).1
   walk_at "d"
   have hol:(bD (ks.take i)).length<=i:=fB i _ (by rw [List.length_take];omega)
   have et:ks.take (i+1)=ks.take i++[k]:=by rw [List.take_add_one,hk];rfl
   refine aO ⟨_,rfl,_,rfl,p,_,rfl,.inl (SqL.of ai),rfl,?_,?_⟩
   ·rw [List.all_map,List.all_eq_true];intro _ _;rfl
   rw [if_pos rfl,ca]
   refine⟨_,rfl,?_⟩
   by_cases z:k∈bD (ks.take i)
   ·rw [decide_eq_true z]
    refine br (aD ⟨?_,_,rfl⟩)
    rw [et,fO,if_pos z]
   ·rw [decide_eq_false z]
    refine bJ (bn ⟨_,rfl,.inl ⟨rfl,_,SqL.of ai⟩,_,rfl,p,_,_,rfl,rfl,ai,by rw [List.length_map];exact bu ‹1›,?_,_,rfl⟩)
    rw [bE,et,fO,if_neg z,List.map_append];rfl
  ·obtain⟨rfl,v2,rfl⟩:=hh
   rw [List.length_map,List.take_length]
   exact aF ⟨_,rfl,q p np⟩
end Mine
namespace L2
open PySem PySem.Spec PyProof.Rows
theorem kQ:∀l:List (Str × Tok),aU ((l.map (·.1)).map V.str) (strValues l)
 | []=>.nil
 | p::l=>.cons ⟨p.2,rfl⟩ (kQ l)
inductive rSplit (x:V) (xs:List V) (H:Hp) (Q:VK):Prop
 | mk (i j) (h1:x=.str i) (h2:xs=[.str j]) (h3:(j.length == 0)=false) (h4:i.length<=sizeLine) (h5:(Txt.split i j).length<=sizeLine) (h6:∀l,H l=none->Q (.ref l) (upd H l (.lst ((Txt.split i j).map V.str)))):rSplit x xs H Q
theorem oj {X:Cx}:MtR X "str.split" rSplit:=by
 intro pins s σ H x xs v us Q I rx rv h
 obtain⟨i,j,rfl,rfl,hj,hi,hl,q⟩:=h
 obtain⟨t,rfl⟩:=rx
 obtain⟨u,rfl,ru⟩:=aU.one rv
 obtain⟨t2,rfl⟩:=ru
 have fin:∀(l:List (Str × Tok)) (tk c:Nat),l.map (·.1)=Txt.split i j->EP X pins σ Q (.ref s.heap.objs.size) { s with toks:=tk,heap:=s.heap.push { cls:=.type "list", data:=.seq (strValues l).toArray c } }:=λl tk c e=>by
  have vv:=kQ l
  rw [e]at vv
  exact⟨.ref s.heap.objs.size,_,I.laid (t':=tk) (λb o eb=>zH0 _ eb) (Nat.le_refl _) (show bB X.prog X.w _ _ _ (.lst ((Txt.split i j).map V.str)) from ⟨by rw [List.length_map];exact hl,strValues l,c,vv,Heap.get?_push_size _ rfl⟩),rfl,q _ (I.hok.fresh (Nat.le_refl _))⟩
 cases c1:(decide (i.length < j.length) || decide (Builtin.Str.strKind i < Builtin.Str.strKind j)) with
 | true=>
  refine call_meets F.slot_str_split (typeIs_str _ _ _) F.entry_str_split (F.args_str_split_2 _ _) (meets_str_split_cannot_occur i j t t2 c1) ?_
  exact fin [(i,t)] s.toks _ (if_pos c1).symm
 | false=>
  cases c2:(Builtin.Str.occurrences i j 0 i.length (i.length+1)).isEmpty with
  | true=>
   refine call_meets F.slot_str_split (typeIs_str _ _ _) F.entry_str_split (F.args_str_split_2 _ _) (meets_str_split_not_found i j t t2 c1 hj c2) ?_
   exact fin [(i,t)] s.toks _ ((if_neg (ne_true_of_eq_false c1)).trans (if_pos c2)).symm
  | false=>
   have es:Txt.split i j=Builtin.Str.partsBetween i (Builtin.Str.occurrences i j 0 i.length (i.length+1)) j.length:=(if_neg (ne_true_of_eq_false c1)).trans (if_neg (ne_true_of_eq_false c2))
   refine call_meets F.slot_str_split (typeIs_str _ _ _) F.entry_str_split (F.args_str_split_2 _ _) (meets_str_split_sep i j t t2 c1 hj c2 hi (by rw [<- es];exact hl)) ?_
   rw [strsFrom_eq]
   exact fin (numbered s.toks _) _ _ ((numbered_texts _ _).trans es.symm)
theorem oT {c:Nat}{A B:List Nat}:∀{p q:List Nat},c∉p->c∉q->p++c::A=q++c::B->p=q/\A=B
 | [],[],_,_,h=>⟨rfl,(List.cons.inj h).2⟩
 | [],y::q,_,hq,h=>absurd (List.mem_cons.mpr (.inl (List.cons.inj h).1)) hq
 | x::p,[],hp,_,h=>absurd (List.mem_cons.mpr (.inl (List.cons.inj h).1.symm)) hp
 | x::p,y::q,hp,hq,h=>by
  obtain⟨h1,h2⟩:=List.cons.inj h
  obtain⟨e1,e2⟩:=oT (λz=>hp (List.mem_cons_of_mem _ z)) (λz=>hq (List.mem_cons_of_mem _ z)) h2
  exact⟨by rw [h1,e1],e2⟩
theorem fI (c:Nat) (x y:Str) (zs:List Str):(Str.join ⟨#[c]⟩ (x::y::zs)).cps.toList=x.cps.toList++c::(Str.join ⟨#[c]⟩ (y::zs)).cps.toList:=by
 show (x++(⟨#[c]⟩:Str)++Str.join ⟨#[c]⟩ (y::zs)).cps.toList=_
 rw [jr,jr,List.append_assoc]
 rfl
theorem oB {c:Nat}:∀{ps qs:List Str},ps≠[]->qs≠[]->(∀w∈ps,c∉w.cps.toList)->(∀w∈qs,c∉w.cps.toList)->Str.join ⟨#[c]⟩ ps=Str.join ⟨#[c]⟩ qs->ps=qs
 | [],_,h,_,_,_,_=>absurd rfl h
 | _,[],_,h,_,_,_=>absurd rfl h
 | [p],[q],_,_,_,_,h=>by
  have h:p=q:=h
  rw [h]
 | [p],q::q'::qs,_,_,hp,_,h=>by
  have h:p=Str.join ⟨#[c]⟩ (q::q'::qs):=h
  have e:=congrArg (λx:Str=>x.cps.toList) h
  rw [fI]at e
  exact absurd (by rw [e];exact List.mem_append_right _ List.mem_cons_self) (hp p List.mem_cons_self)
 | p::p'::ps,[q],_,_,_,hq,h=>by
  have h:Str.join ⟨#[c]⟩ (p::p'::ps)=q:=h
  have e:=congrArg (λx:Str=>x.cps.toList) h
  rw [fI]at e
  exact absurd (by rw [<- e];exact List.mem_append_right _ List.mem_cons_self) (hq q List.mem_cons_self)
 | p::p'::ps,q::q'::qs,_,_,hp,hq,h=>by
  have e:=congrArg (λx:Str=>x.cps.toList) h
  rw [fI,fI]at e
  obtain⟨e1,e2⟩:=oT (hp p List.mem_cons_self) (hq q List.mem_cons_self) e
  rw [di e1,oB (ps:=p'::ps) (qs:=q'::qs) (by simp) (by simp) (λw hw=>hp w (List.mem_cons_of_mem _ hw)) (λw hw=>hq w (List.mem_cons_of_mem _ hw)) (di e2)]
theorem jx {ws:List Str}{c:Nat} (hne:ws≠[]) (hf:∀w∈ws,c∉w.cps.toList):Txt.split (Txt.join ⟨#[c]⟩ ws) ⟨#[c]⟩=ws:=by
 have e:Txt.join ⟨#[c]⟩ ws=Str.join ⟨#[c]⟩ ws:=by
  show Builtin.Str.glued ⟨#[c]⟩ ws=_
  exact StrLaws.glued_eq_join _ _
 rw [e]
 refine oB (λz=>?_) hne (StrLaws.split_free _ _) hf (StrLaws.join_split _ _)
 have:=PyProof.Rows.split_pos (Str.join ⟨#[c]⟩ ws) ⟨#[c]⟩
 rw [z]at this
 cases this
end L2
namespace Mine
open PySem L2
variable {P:Program}{w:World}{K:W.Frag}{mg:Str->Option Value}{base:Heap}
noncomputable abbrev uO:Stmt:=aQ (top 39) 1
noncomputable abbrev sGo:Stmt:=aQ (top 39) 2
structure RdC (K:PySem.W.Frag) (R:Addr):Prop where
 cl:Cls K R
 n1:NoAttr K R "words"
 n2:NoAttr K R "place"
 n3:NoAttr K R "opened"
noncomputable def eE (lw:Addr) (pl op:Int):List (Str × V):=[("words", V.ref lw),("place", V.int pl),("opened", V.int op)]
theorem Ab (lw:Addr) (pl op:Int):(eE lw pl op).lookup ("words" : Str)=some (.ref lw):=rfl
theorem xD (lw:Addr) (pl op:Int):(eE lw pl op).lookup ("place" : Str)=some (.int pl):=by
 unfold eE
 rw [List.lookup_cons,show (("place" : Str) == ("words" : Str))=false from ‹0›]
 rfl
theorem Ac (lw:Addr) (pl op pl':Int):cU "place" (.int pl') (eE lw pl op)=eE lw pl' op:=by
 rfl
structure RdAt (R:Addr) (H:Hp) (r lw:Addr) (ws:List Str) (pl:Nat) (op:Int):Prop where
 ob:∃dx,H r=some (.ins R dx (eE lw pl op))
 wd:H lw=some (.lst (ws.map V.str))
noncomputable def gk (R:Addr):Sp:=λvs H Q _=>∃(r lw:Addr) (ws:List Str) (pl:Nat) (op:Int) (w:Str),vs=[.ref r]/\RdAt R H r lw ws pl op/\ws[pl]?=some w/\Q (.str w) H
noncomputable def pz (R:Addr):Sp:=λvs H Q _=>∃(r lw:Addr) (ws:List Str) (pl:Nat) (op:Int),vs=[.ref r,.bl true]/\RdAt R H r lw ws pl op/\∀H',(∀b o,H b=some o->b≠r->H' b=some o)->RdAt R H' r lw ws (pl+1) op->Q .non H'
theorem A1:FnScope ["self"] ["self"] (au uO):=‹2›
theorem y9 {f R:Addr}{fd:FuncData} (F:Fun K "here" "Reader.here" uO f fd) (N:Free mg) (T:RdC K R):FnOk P w K mg base CX0 1 f fd ["self"] (gk R):=by
 refine F.ok (k:=0) A1 (λvs H Q E h=>?_) (λcdv A outer s H vs Q E hr h=>?_)
 ·obtain⟨r,lw,ws,pl,op,w,rfl,_⟩:=h
  rfl
 ·obtain⟨r,lw,ws,pl,op,w,rfl,⟨⟨dx,ho⟩,hw⟩,hx,q⟩:=h
  have hu:=aP hr
  refine⟨_,(af (bx (aN cH (bH (pv 0) rfl) (aE aJ (by rfl) N.len PySem.boot_len (aa (bH (pv 0) rfl) ae)) (aV _)) (aq gS) aL)
   (aq (aB (bv bp (bH (pv 0) rfl) (bH (pv 0) rfl) (λ_ _=>rfl))))),?_⟩
  have hlt:=(List.getElem?_eq_some_iff.mp hx).1
  have at0:SqL K H lw (ws.map V.str):=SqL.of hw
  refine ag (aO ⟨_,rfl,r,R,dx,_,_,rfl,ho,T.cl,T.n2,xD _ _ _,_,rfl,r,R,dx,_,_,rfl,ho,T.cl,T.n1,Ab _ _ _,lw,_,rfl,.inl at0,rfl,_,rfl,?_⟩)
  rw [List.length_map,decide_eq_false (λz=>by have:=V.int.inj z;omega)]
  refine br (aD ?_)
  dsimp only
  exact aF ⟨_,rfl,r,R,dx,_,_,rfl,ho,T.cl,T.n1,Ab _ _ _,_,rfl,r,R,dx,_,_,rfl,ho,T.cl,T.n2,xD _ _ _,lw,_,_,.str w,rfl,rfl,at0,dY (by rw [List.getElem?_map,hx];rfl),q⟩
theorem Cj:FnScope ["self", "can_stand"] ["self", "can_stand"] (au sGo):=‹2›
theorem BE {f R:Addr}{fd:FuncData} (F:Fun K "go_on" "Reader.go_on" sGo f fd) (N:Free mg) (T:RdC K R):FnOk P w K mg base CX0 1 f fd ["self", "can_stand"] (pz R):=by
 refine F.ok (k:=0) Cj (λvs H Q E h=>?_) (λcdv A outer s H vs Q E hr h=>?_)
 ·obtain⟨r,lw,ws,pl,op,rfl,_⟩:=h
  rfl
 ·obtain⟨r,lw,ws,pl,op,rfl,⟨⟨dx,ho⟩,hw⟩,q⟩:=h
  have hu:=aP hr
  refine⟨_,(af (bx (dZ (dB (pv 1))) (aq gS) aL)
   (aq (iy (pv 0) aj wa))),?_⟩
  refine ag (aO ⟨_,rfl,_,rfl,br (aD ?_)⟩)
  dsimp only
  refine⟨_,rfl,r,R,dx,_,_,rfl,ho,T.cl,T.n2,xD _ _ _,_,_,rfl,rfl,dx,_,ho,by show 3 < 1000;decide,?_⟩
  rw [Ac]
  have hlr:lw≠r:=cQ hw ho (λz=>nomatch z)
  exact q _ (λb o e n=>by rw [ah n];exact e) ⟨⟨dx,ai⟩,by rw [ah hlr];exact hw⟩
noncomputable abbrev uD:Stmt:=aQ (top 39) 4
noncomputable abbrev uw:Stmt:=aQ (top 39) 5
noncomputable abbrev uR:Stmt:=aQ (top 39) 6
noncomputable abbrev uH:Stmt:=aQ (top 39) 7
theorem bA (lw:Addr) (pl op:Int){m:Str} (h1:decide (m = "words")=false) (h2:decide (m = "place")=false) (h3:decide (m = "opened")=false):(eE lw pl op).lookup m=none:=by
 unfold eE
 rw [List.lookup_cons,beq_eq_false_iff_ne.mpr (of_decide_eq_false h1),List.lookup_cons,beq_eq_false_iff_ne.mpr (of_decide_eq_false h2),List.lookup_cons,beq_eq_false_iff_ne.mpr (of_decide_eq_false h3)]
 rfl
theorem RdAt.keep {R:Addr}{H H':Hp}{r lw:Addr}{ws:List Str}{pl:Nat}{op:Int} (h:RdAt R H r lw ws pl op) (g:aZ H H'):RdAt R H' r lw ws pl op:=⟨let ⟨dx,e⟩:=h.ob;⟨dx,g _ _ e⟩,g _ _ h.wd⟩
def Ofr (r:Addr) (H H':Hp):Prop:=∀b o,H b=some o->b≠r->H' b=some o
noncomputable def m8 (R:Addr):Sp:=λvs H Q _=>∃(r lw:Addr) (ws:List Str) (pl:Nat) (op lo hi v:Int) (w:Str),vs=[.ref r,.int lo,.int hi]/\RdAt R H r lw ws pl op/\ws[pl]?=some w/\w.length < sizeLine/\hE w lo hi=.int v/\∀H',Ofr r H H'->RdAt R H' r lw ws (pl+1) op->Q (.int v) H'
noncomputable def tW (R:Addr):Sp:=λvs H Q _=>∃(r lw:Addr) (ws:List Str) (pl:Nat) (op v:Int) (w:Str),vs=[.ref r]/\RdAt R H r lw ws pl op/\ws[pl]?=some w/\w.length < sizeLine/\hE w (-1000000000) 1000000000=.int v/\∀H',Ofr r H H'->RdAt R H' r lw ws (pl+1) op->Q (.int v) H'
noncomputable def jA (R:Addr):Sp:=λvs H Q _=>∃(r lw:Addr) (ws:List Str) (pl:Nat) (op lo v:Int) (w:Str),vs=[.ref r,.int lo]/\RdAt R H r lw ws pl op/\ws[pl]?=some w/\w.length < sizeLine/\hE w lo 399=.int v/\∀H',Ofr r H H'->RdAt R H' r lw ws (pl+1) op->Q (.int v) H'
noncomputable def u7 (R:Addr):Sp:=λvs H Q _=>∃(r lw:Addr) (ws:List Str) (pl:Nat) (op:Int) (w:Str),vs=[.ref r]/\RdAt R H r lw ws pl op/\ws[pl]?=some w/\w.length < sizeLine/\cF w dq 8=true/\∀H',Ofr r H H'->RdAt R H' r lw ws (pl+1) op->Q (.str w) H'
theorem uo:FnScope ["self", "low", "high", "number"] ["self", "low", "high"] (au uD):=‹2›
theorem xS {f f1 f2 f3 R:Addr}{fd:FuncData} (F:Fun K "number_here" "Reader.number_here" uD f fd) (N:Free mg) (T:RdC K R){fd1:FuncData} (MH:MC P w K mg base R "here" 1 ["self"] [] [] (gk R) f1 fd1){fd2:FuncData} (MG:MC P w K mg base R "go_on" 1 ["self", "can_stand"] [] [] (pz R) f2 fd2){fd3:FuncData} (CO:Cal P w K mg base "number_of" 2 ["text", "low", "high"] nG f3 fd3):FnOk P w K mg base CX0 3 f fd ["self", "low", "high"] (m8 R):=by
 refine F.ok (k:=2) uo (λvs H Q E h=>?_) (λcdv A outer s H vs Q E hr h=>?_)
 ·obtain⟨r,lw,ws,pl,op,lo,hi,v,w,rfl,_⟩:=h
  rfl
 ·obtain⟨r,lw,ws,pl,op,lo,hi,v,w,rfl,h,hx,hl,hv,q⟩:=h
  have hu:=aP hr
  refine⟨_,(af (aA (i:=3) uo.nd rfl (Or.inl rfl) (ay CO.ok (hr.mono (by decide)) rfl CO.nm CO.kp CO.bd .nil av (aa (bz (pv 0) MH.cl MH.mt MH.ok (hr.mono (by decide)) MH.bd MH.dv av) (aa (pv 1) (aa (pv 2) ae)))))
   (af (bo (bM (pv 0) MG.cl MG.mt MG.ok (hr.mono (by decide)) MG.bd MG.dv av (aa (mH (re (pv 3))) ae)))
   (aq (aB (pv 3))))),?_⟩
  obtain⟨dx,ho⟩:=h.ob
  refine ag (aw ⟨_,rfl,r,dx,_,rfl,ho,bA _ _ _ ‹0› ‹0› ‹0›,r,lw,ws,pl,op,w,rfl,h,hx,_,rfl,_,rfl,w,lo,hi,rfl,hl,λH1 g1=>?_⟩)
  rw [hv]
  walk_at "d"
  have h1:=h.keep g1
  obtain⟨dx1,ho1⟩:=h1.ob
  refine ag (bn ⟨_,rfl,r,dx1,_,rfl,ho1,bA _ _ _ ‹0› ‹0› ‹0›,_,rfl,r,lw,ws,pl,op,rfl,h1,λH2 o2 h2=>?_⟩)
  dsimp only
  exact aF ⟨_,rfl,q H2 (λb o e n=>o2 _ _ (g1 _ _ e) n) h2⟩
theorem ur:FnScope ["self", "key"] ["self"] (au uH):=‹2›
theorem xW {f f1 f2 f3 R:Addr}{fd:FuncData} (F:Fun K "key_here" "Reader.key_here" uH f fd) (N:Free mg) (T:RdC K R){fd1:FuncData} (MH:MC P w K mg base R "here" 1 ["self"] [] [] (gk R) f1 fd1){fd2:FuncData} (MG:MC P w K mg base R "go_on" 1 ["self", "can_stand"] [] [] (pz R) f2 fd2){fd3:FuncData} (CN:Cal P w K mg base "is_name" 2 ["thing"] (jy K) f3 fd3):FnOk P w K mg base CX0 3 f fd ["self"] (u7 R):=by
 refine F.ok (k:=2) ur (λvs H Q E h=>?_) (λcdv A outer s H vs Q E hr h=>?_)
 ·obtain⟨r,lw,ws,pl,op,w,rfl,_⟩:=h
  rfl
 ·obtain⟨r,lw,ws,pl,op,w,rfl,h,hx,hl,hv,q⟩:=h
  have hu:=aP hr
  refine⟨_,(af (aA (i:=1) ur.nd rfl (Or.inl rfl) (bz (pv 0) MH.cl MH.mt MH.ok (hr.mono (by decide)) MH.bd MH.dv av))
   (af (bo (bM (pv 0) MG.cl MG.mt MG.ok (hr.mono (by decide)) MG.bd MG.dv av (aa (ay CN.ok (hr.mono (by decide)) rfl CN.nm CN.kp CN.bd .nil av (aa (pv 1) ae)) ae)))
   (aq (aB (pv 1))))),?_⟩
  obtain⟨dx,ho⟩:=h.ob
  refine ag (aw ⟨_,rfl,r,dx,_,rfl,ho,bA _ _ _ ‹0› ‹0› ‹0›,r,lw,ws,pl,op,w,rfl,h,hx,?_⟩)
  walk_at "d"
  refine ag (bn ⟨_,rfl,r,dx,_,rfl,ho,bA _ _ _ ‹0› ‹0› ‹0›,_,rfl,.str w,rfl,.inl ⟨w,rfl,hl,λH1 g1=>?_⟩⟩)
  rw [hv]
  exact⟨r,lw,ws,pl,op,rfl,h.keep g1,λH2 o2 h2=>aF ⟨_,rfl,q H2 (λb o e n=>o2 _ _ (g1 _ _ e) n) h2⟩⟩
theorem zR:FnScope ["self"] ["self"] (au uw):=‹2›
theorem xO {f f1 R:Addr}{fd:FuncData} (F:Fun K "value_here" "Reader.value_here" uw f fd) (N:Free mg) (Z:Con mg) (T:RdC K R){fd1:FuncData} (MN:MC P w K mg base R "number_here" 3 ["self", "low", "high"] [] [] (m8 R) f1 fd1):FnOk P w K mg base CX0 4 f fd ["self"] (tW R):=by
 obtain⟨t1,c1⟩:=Z.value
 refine F.ok (k:=3) zR (λvs H Q E h=>?_) (λcdv A outer s H vs Q E hr h=>?_)
 ·obtain⟨r,lw,ws,pl,op,v,w,rfl,_⟩:=h
  rfl
 ·obtain⟨r,lw,ws,pl,op,v,w,rfl,h,hx,hl,hv,q⟩:=h
  have hu:=aP hr
  refine⟨_,(aq (aB (bM (pv 0) MN.cl MN.mt MN.ok (hr.mono (by decide)) MN.bd MN.dv av (aa (zc tK (bO (v:=.int 1000000000) (by rfl) c1 ⟨_,rfl⟩)) (aa (bO (v:=.int 1000000000) (by rfl) c1 ⟨_,rfl⟩) ae))))),?_⟩
  obtain⟨dx,ho⟩:=h.ob
  exact⟨_,rfl,r,dx,_,rfl,ho,bA _ _ _ ‹0› ‹0› ‹0›,_,rfl,r,lw,ws,pl,op,-1000000000,1000000000,v,w,rfl,h,hx,hl,hv,q⟩
theorem A2:FnScope ["self", "earliest"] ["self", "earliest"] (au uR):=‹2›
theorem yc {f f1 R:Addr}{fd:FuncData} (F:Fun K "day_here" "Reader.day_here" uR f fd) (N:Free mg) (Z:Con mg) (T:RdC K R){fd1:FuncData} (MN:MC P w K mg base R "number_here" 3 ["self", "low", "high"] [] [] (m8 R) f1 fd1):FnOk P w K mg base CX0 4 f fd ["self", "earliest"] (jA R):=by
 obtain⟨t1,c1⟩:=Z.lastday
 refine F.ok (k:=3) A2 (λvs H Q E h=>?_) (λcdv A outer s H vs Q E hr h=>?_)
 ·obtain⟨r,lw,ws,pl,op,lo,v,w,rfl,_⟩:=h
  rfl
 ·obtain⟨r,lw,ws,pl,op,lo,v,w,rfl,h,hx,hl,hv,q⟩:=h
  have hu:=aP hr
  refine⟨_,(aq (aB (bM (pv 0) MN.cl MN.mt MN.ok (hr.mono (by decide)) MN.bd MN.dv av (aa (pv 1) (aa (bO (v:=.int 399) (by rfl) c1 ⟨_,rfl⟩) ae))))),?_⟩
  obtain⟨dx,ho⟩:=h.ob
  exact⟨_,rfl,r,dx,_,rfl,ho,bA _ _ _ ‹0› ‹0› ‹0›,_,rfl,r,lw,ws,pl,op,lo,399,v,w,rfl,h,hx,hl,hv,q⟩
noncomputable abbrev pQ:Stmt:=aQ (top 39) 8
noncomputable abbrev pO:Stmt:=aQ (top 39) 9
noncomputable abbrev my:Stmt:=aQ (top 39) 10
noncomputable abbrev A8:Stmt:=aQ (top 39) 11
theorem Ad (lw:Addr) (pl op:Int):(eE lw pl op).lookup ("opened" : Str)=some (.int op):=by
 unfold eE
 rw [List.lookup_cons,show (("opened" : Str) == ("words" : Str))=false from ‹0›,List.lookup_cons,show (("opened" : Str) == ("place" : Str))=false from ‹0›]
 rfl
theorem qY (lw:Addr) (pl op op':Int):cU "opened" (.int op') (eE lw pl op)=eE lw pl op':=by rfl
noncomputable def j0 (R:Addr):Sp:=λvs H Q _=>∃(r lw:Addr) (ws:List Str) (pl:Nat) (op:Int),vs=[.ref r]/\RdAt R H r lw ws pl op/\ws[pl]?=some ‹"("›/\op < 3/\∀H',Ofr r H H'->RdAt R H' r lw ws (pl+1) (op+1)->Q .non H'
noncomputable def gK (R:Addr):Sp:=λvs H Q _=>∃(r lw:Addr) (ws:List Str) (pl:Nat) (op:Int),vs=[.ref r]/\RdAt R H r lw ws pl op/\ws[pl]?=some ‹")"›/\∀H',Ofr r H H'->RdAt R H' r lw ws (pl+1) (op - 1)->Q .non H'
noncomputable def yT (R:Addr):Sp:=λvs H Q _=>∃(r lw:Addr) (ws:List Str) (op:Int),vs=[.ref r]/\RdAt R H r lw ws ws.length op/\Q .non H
theorem xt:FnScope ["self"] ["self"] (au pO):=‹2›
theorem vz {f f1 f2 R:Addr}{fd:FuncData} (F:Fun K "bracket_opens" "Reader.bracket_opens" pO f fd) (N:Free mg) (Z:Con mg) (T:RdC K R){fd1:FuncData} (MH:MC P w K mg base R "here" 1 ["self"] [] [] (gk R) f1 fd1){fd2:FuncData} (MG:MC P w K mg base R "go_on" 1 ["self", "can_stand"] [] [] (pz R) f2 fd2):FnOk P w K mg base CX0 2 f fd ["self"] (j0 R):=by
 obtain⟨t1,c1⟩:=Z.opn
 refine F.ok (k:=1) xt (λvs H Q E h=>?_) (λcdv A outer s H vs Q E hr h=>?_)
 ·obtain⟨r,lw,ws,pl,op,rfl,_⟩:=h
  rfl
 ·obtain⟨r,lw,ws,pl,op,rfl,h,hx,h3,q⟩:=h
  have hu:=aP hr
  refine⟨_,(af (bo (bM (pv 0) MG.cl MG.mt MG.ok (hr.mono (by decide)) MG.bd MG.dv av (aa (fw (c9 cH (bz (pv 0) MH.cl MH.mt MH.ok (hr.mono (by decide)) MH.bd MH.dv av) aR (aV _)) (fo (c9 jO (bH (pv 0) rfl) (bO (v:=.int 3) (by rfl) c1 ⟨_,rfl⟩) (aV _)))) ae)))
   (aq (iy (pv 0) aj wa))),?_⟩
  obtain⟨dx,ho⟩:=h.ob
  refine ag (bn ⟨_,rfl,r,dx,_,rfl,ho,bA _ _ _ ‹0› ‹0› ‹0›,_,rfl,r,dx,_,rfl,ho,bA _ _ _ ‹0› ‹0› ‹0›,r,lw,ws,pl,op,_,rfl,h,hx,rfl,_,rfl,bJ ?_⟩)
  refine⟨_,rfl,r,R,dx,_,_,rfl,ho,T.cl,T.n3,Ad _ _ _,_,_,rfl,rfl,?_⟩
  rw [decide_eq_true h3]
  refine⟨r,lw,ws,pl,op,rfl,h,λH1 o1 h1=>?_⟩
  obtain⟨dx1,ho1⟩:=h1.ob
  refine⟨_,rfl,r,R,dx1,_,_,rfl,ho1,T.cl,T.n3,Ad _ _ _,_,_,rfl,rfl,dx1,_,ho1,by show 3 < 1000;decide,?_⟩
  rw [qY]
  have hlr:lw≠r:=cQ h1.wd ho1 (λz=>nomatch z)
  exact q _ (λb o e n=>by rw [ah n];exact o1 _ _ e n) ⟨⟨dx1,ai⟩,by rw [ah hlr];exact h1.wd⟩
theorem uv:FnScope ["self"] ["self"] (au my):=‹2›
theorem sL {f f1 f2 R:Addr}{fd:FuncData} (F:Fun K "bracket_closes" "Reader.bracket_closes" my f fd) (N:Free mg) (T:RdC K R){fd1:FuncData} (MH:MC P w K mg base R "here" 1 ["self"] [] [] (gk R) f1 fd1){fd2:FuncData} (MG:MC P w K mg base R "go_on" 1 ["self", "can_stand"] [] [] (pz R) f2 fd2):FnOk P w K mg base CX0 2 f fd ["self"] (gK R):=by
 refine F.ok (k:=1) uv (λvs H Q E h=>?_) (λcdv A outer s H vs Q E hr h=>?_)
 ·obtain⟨r,lw,ws,pl,op,rfl,_⟩:=h
  rfl
 ·obtain⟨r,lw,ws,pl,op,rfl,h,hx,q⟩:=h
  have hu:=aP hr
  refine⟨_,(af (bo (bM (pv 0) MG.cl MG.mt MG.ok (hr.mono (by decide)) MG.bd MG.dv av (aa (c9 cH (bz (pv 0) MH.cl MH.mt MH.ok (hr.mono (by decide)) MH.bd MH.dv av) aR (aV _)) ae)))
   (aq (iy (pv 0) aj AO))),?_⟩
  obtain⟨dx,ho⟩:=h.ob
  refine ag (bn ⟨_,rfl,r,dx,_,rfl,ho,bA _ _ _ ‹0› ‹0› ‹0›,_,rfl,r,dx,_,rfl,ho,bA _ _ _ ‹0› ‹0› ‹0›,r,lw,ws,pl,op,_,rfl,h,hx,rfl,r,lw,ws,pl,op,rfl,h,λH1 o1 h1=>?_⟩)
  obtain⟨dx1,ho1⟩:=h1.ob
  refine⟨_,rfl,r,R,dx1,_,_,rfl,ho1,T.cl,T.n3,Ad _ _ _,_,_,rfl,rfl,dx1,_,ho1,by show 3 < 1000;decide,?_⟩
  rw [qY]
  have hlr:lw≠r:=cQ h1.wd ho1 (λz=>nomatch z)
  exact q _ (λb o e n=>by rw [ah n];exact o1 _ _ e n) ⟨⟨dx1,ai⟩,by rw [ah hlr];exact h1.wd⟩
theorem t7 {k:Str} (h:cF k dq 8=true):44∉k.cps.toList:=λz=>by
 unfold cF at h
 rw [Bool.and_eq_true,Bool.and_eq_true]at h
 have:=List.all_eq_true.mp h.2.2 44 z
 exact absurd this ‹0›
theorem oV:‹","› = (⟨#[44]⟩:Str):=‹0›
noncomputable def j4 (R:Addr):Sp:=λvs H Q _=>∃(r lw:Addr) (ws:List Str) (pl:Nat) (op:Int) (ks:List Str),vs=[.ref r]/\RdAt R H r lw ws pl op/\ws[pl]?=some (Txt.join ‹","› ks)/\(Txt.join ‹","› ks).length<=sizeLine/\1<=ks.length/\ks.length<=8/\ks.Nodup/\(∀k∈ks,cF k dq 8=true/\k.length < sizeLine)/\∀(p:Addr) (H':Hp),H p=none->Ofr r H H'->H' p=some (.lst (ks.map V.str))->RdAt R H' r lw ws (pl+1) op->Q (.ref p) H'
theorem qX:FnScope ["self", "keys"] ["self"] (au pQ):=‹2›
theorem vD {f f1 f2 f3 R:Addr}{fd:FuncData} (F:Fun K "keys_here" "Reader.keys_here" pQ f fd) (N:Free mg) (T:RdC K R){fd1:FuncData} (MH:MC P w K mg base R "here" 1 ["self"] [] [] (gk R) f1 fd1){fd2:FuncData} (MG:MC P w K mg base R "go_on" 1 ["self", "can_stand"] [] [] (pz R) f2 fd2){fd3:FuncData} (CK:Cal P w K mg base "are_keys" 3 ["thing"] kZ f3 fd3):FnOk P w K mg base CX0 4 f fd ["self"] (j4 R):=by
 refine F.ok (k:=3) qX (λvs H Q E h=>?_) (λcdv A outer s H vs Q E hr h=>?_)
 ·obtain⟨r,lw,ws,pl,op,ks,rfl,_⟩:=h
  rfl
 ·obtain⟨r,lw,ws,pl,op,ks,rfl,h,hx,hl,k1,k8,nd,hk,q⟩:=h
  have hu:=aP hr
  refine⟨_,(af (aA (i:=1) qX.nd rfl (Or.inl rfl) (dU PySem.F.plainAttrs_str PySem.F.slot_str_split PySem.F.type_str_split oj (bz (pv 0) MH.cl MH.mt MH.ok (hr.mono (by decide)) MH.bd MH.dv av) (aa aR ae)))
   (af (bo (bM (pv 0) MG.cl MG.mt MG.ok (hr.mono (by decide)) MG.bd MG.dv av (aa (ay CK.ok (hr.mono (by decide)) rfl CK.nm CK.kp CK.bd .nil av (aa (pv 1) ae)) ae)))
   (aq (aB (pv 1))))),?_⟩
  obtain⟨dx,ho⟩:=h.ob
  have es:Txt.split (Txt.join ‹","› ks) ‹","›=ks:=by
   rw [oV]
   exact jx (λz=>by rw [z]at k1;cases k1) λw hw=>t7 (hk w hw).1
  refine ag (aw ⟨_,rfl,r,dx,_,rfl,ho,bA _ _ _ ‹0› ‹0› ‹0›,r,lw,ws,pl,op,_,rfl,h,hx,rfl,_,_,rfl,rfl,by rfl,hl,by rw [es];exact Nat.le_of_lt (bu ‹1›),λp np=>?_⟩)
  rw [es]
  obtain⟨g1,e1⟩:=laid (o:=.lst (ks.map V.str)) np
  walk_at "d"
  generalize upd H p _=H1 at g1 e1 ⊢
  have h1:=h.keep g1
  obtain⟨dx1,ho1⟩:=h1.ob
  have npr:p≠r:=λz=>by rw [z,ho]at np;cases np
  refine ag (bn ⟨_,rfl,r,dx1,_,rfl,ho1,bA _ _ _ ‹0› ‹0› ‹0›,_,rfl,p,ks,rfl,e1,k1,k8,nd,hk,λH2 g2=>⟨r,lw,ws,pl,op,rfl,h1.keep g2,λH3 o3 h3=>?_⟩⟩)
  exact aF ⟨_,rfl,q p H3 np (λb o e n=>o3 _ _ (g2 _ _ (g1 _ _ e)) n) (o3 _ _ (g2 _ _ e1) npr) h3⟩
theorem Bv:FnScope ["self"] ["self"] (au A8):=‹2›
theorem Az {f R:Addr}{fd:FuncData} (F:Fun K "check_end" "Reader.check_end" A8 f fd) (N:Free mg) (T:RdC K R):FnOk P w K mg base CX0 1 f fd ["self"] (yT R):=by
 refine F.ok (k:=0) Bv (λvs H Q E h=>?_) (λcdv A outer s H vs Q E hr h=>?_)
 ·obtain⟨r,lw,ws,op,rfl,_⟩:=h
  rfl
 ·obtain⟨r,lw,ws,op,rfl,⟨⟨dx,ho⟩,hw⟩,q⟩:=h
  have hu:=aP hr
  refine⟨_,(aq (bx (aN jO (bH (pv 0) rfl) (aE aJ (by rfl) N.len PySem.boot_len (aa (bH (pv 0) rfl) ae)) (aV _)) (aq gS) aL)),?_⟩
  have at0:SqL K H lw (ws.map V.str):=SqL.of hw
  refine aO ⟨_,rfl,r,R,dx,_,_,rfl,ho,T.cl,T.n2,xD _ _ _,_,rfl,r,R,dx,_,_,rfl,ho,T.cl,T.n1,Ab _ _ _,lw,_,rfl,.inl at0,_,_,rfl,rfl,_,rfl,?_⟩
  rw [List.length_map,decide_eq_false ‹1›]
  exact br (aD q)
noncomputable abbrev pR:Stmt:=aQ (top 39) 0
theorem nB:‹" "› = (⟨#[32]⟩:Str):=‹0›
theorem Ae (lw:Addr) (pl op:Int):cU "opened" (.int op) (cU "place" (.int pl) (cU "words" (.ref lw) []))=eE lw pl op:=rfl
noncomputable def qS (R:Addr):Sp:=λvs H Q _=>∃(x dx:Addr) (ws:List Str),vs=[.ref x,.str (Txt.join ‹" "› ws)]/\H x=some (.ins R dx [])/\ws≠[]/\ws.length<=900/\(∀w∈ws,32∉w.cps.toList)/\(Txt.join ‹" "› ws).length<=sizeLine/\∀(lw:Addr) (H':Hp),H lw=none->(∀b o,H b=some o->b≠x->H' b=some o)->RdAt R H' x lw ws 0 0->Q .non H'
theorem xu:FnScope ["self", "text"] ["self", "text"] (au pR):=‹2›
theorem vE {f R:Addr}{fd:FuncData} (F:Fun K "__init__" "Reader.__init__" pR f fd) (N:Free mg) (T:RdC K R):FnOk P w K mg base CX0 1 f fd ["self", "text"] (qS R):=by
 refine F.ok (k:=0) xu (λvs H Q E h=>?_) (λcdv A outer s H vs Q E hr h=>?_)
 ·obtain⟨x,dx,ws,rfl,_⟩:=h
  rfl
 ·obtain⟨x,dx,ws,rfl,hx,hne,hl,hf,hs,q⟩:=h
  have hu:=aP hr
  refine⟨_,(af (bC (pv 0) (dU PySem.F.plainAttrs_str PySem.F.slot_str_split PySem.F.type_str_split oj (pv 1) (aa aR ae)) rfl)
   (af (bC (pv 0) aj rfl)
   (aq (bC (pv 0) aj rfl)))),?_⟩
  have es:Txt.split (Txt.join ‹" "› ws) ‹" "›=ws:=by
   rw [nB]
   exact jx hne hf
  refine ag ⟨_,rfl,rfl,_,_,rfl,rfl,by rfl,hs,by rw [es];exact Nat.le_of_lt (bu ‹1›),λlw nlw=>?_⟩
  rw [es]
  obtain⟨g1,e1⟩:=laid (o:=.lst (ws.map V.str)) nlw
  have hx1:=g1 _ _ hx
  have hlx:lw≠x:=λz=>by rw [z,hx]at nlw;cases nlw
  generalize upd H lw _=H1 at g1 e1 hx1 ⊢
  refine⟨_,rfl,x,R,dx,_,rfl,hx1,T.cl,T.n1,(by show 0 < 1000;decide),?_⟩
  refine ag ⟨_,rfl,x,R,dx,_,rfl,ai,T.cl,T.n2,(by show 1 < 1000;decide),?_⟩
  refine⟨_,rfl,x,R,dx,_,rfl,ai,T.cl,T.n3,(by show 2 < 1000;decide),?_⟩
  rw [bE,bE,Ae]
  exact q lw _ nlw (λb o e n=>by rw [ah n];exact g1 _ _ e) ⟨⟨dx,ai⟩,by rw [ah hlx];exact e1⟩
noncomputable abbrev A9:Stmt:=aQ (top 39) 3
noncomputable abbrev iU:List Str:=[‹"number"›, ‹"value"›, ‹"since"›, ‹"part"›, ‹"change"›]
noncomputable abbrev gC:List Str:=[‹"sum"›, ‹"count"›, ‹"least"›, ‹"greatest"›]
noncomputable abbrev eZ:List Str:=[‹"plus"›, ‹"minus"›]
noncomputable abbrev fZ:List Str:=[‹"less"›, ‹"same"›]
structure ConT (K:PySem.W.Frag) (mg:Str->Option Value):Prop where
 sgl:∃a,mg "SINGLE" = some (.ref a)/\∀H,SqT K H a (iU.map V.str)
 gth:∃a,mg "GATHERING" = some (.ref a)/\∀H,SqT K H a (gC.map V.str)
 rck:∃a,mg "RECKONING" = some (.ref a)/\∀H,SqT K H a (eZ.map V.str)
 chc:∃a,mg "CHOICE" = some (.ref a)/\∀H,SqT K H a (fZ.map V.str)
noncomputable def qU (R:Addr):Sp:=λvs H Q _=>∃(r lw:Addr) (ws:List Str) (pl:Nat) (op:Int) (w:Str),vs=[.ref r]/\RdAt R H r lw ws pl op/\ws[pl]?=some w/\(w∈iU\/w∈gC\/w∈eZ\/w∈fZ)/\∀H',Ofr r H H'->RdAt R H' r lw ws (pl+1) op->Q (.str w) H'
theorem bK (xs:List Str):(xs.map V.str).all i7=true:=by
 rw [List.all_map,List.all_eq_true];intro _ _;rfl
theorem yW:FnScope ["self", "word"] ["self"] (au A9):=‹2›
theorem AA {f f1 f2 R:Addr}{fd:FuncData} (F:Fun K "beginning_here" "Reader.beginning_here" A9 f fd) (N:Free mg) (ZT:ConT K mg) (T:RdC K R){fd1:FuncData} (MH:MC P w K mg base R "here" 1 ["self"] [] [] (gk R) f1 fd1){fd2:FuncData} (MG:MC P w K mg base R "go_on" 1 ["self", "can_stand"] [] [] (pz R) f2 fd2):FnOk P w K mg base CX0 2 f fd ["self"] (qU R):=by
 obtain⟨a1,c1,q1⟩:=ZT.sgl
 obtain⟨a2,c2,q2⟩:=ZT.gth
 obtain⟨a3,c3,q3⟩:=ZT.rck
 obtain⟨a4,c4,q4⟩:=ZT.chc
 refine F.ok (k:=1) yW (λvs H Q E h=>?_) (λcdv A outer s H vs Q E hr h=>?_)
 ·obtain⟨r,lw,ws,pl,op,w,rfl,_⟩:=h
  rfl
 ·obtain⟨r,lw,ws,pl,op,w,rfl,h,hx,hw,q⟩:=h
  have hu:=aP hr
  refine⟨_,(af (aA (i:=1) yW.nd rfl (Or.inl rfl) (bz (pv 0) MH.cl MH.mt MH.ok (hr.mono (by decide)) MH.bd MH.dv av))
   (af (bo (bM (pv 0) MG.cl MG.mt MG.ok (hr.mono (by decide)) MG.bd MG.dv av (aa (ve (c9 cW (pv 1) (bO (v:=.ref a1) (by rfl) c1 rfl) (by with_unfolding_all rfl)) (ve (c9 cW (pv 1) (bO (v:=.ref a2) (by rfl) c2 rfl) (by with_unfolding_all rfl)) (ve (c9 cW (pv 1) (bO (v:=.ref a3) (by rfl) c3 rfl) (by with_unfolding_all rfl)) (fo (c9 cW (pv 1) (bO (v:=.ref a4) (by rfl) c4 rfl) (by with_unfolding_all rfl)))))) ae)))
   (aq (aB (pv 1))))),?_⟩
  obtain⟨dx,ho⟩:=h.ob
  refine ag (aw ⟨_,rfl,r,dx,_,rfl,ho,bA _ _ _ ‹0› ‹0› ‹0›,r,lw,ws,pl,op,w,rfl,h,hx,?_⟩)
  walk_at "d"
  refine ag (bn ⟨_,rfl,r,dx,_,rfl,ho,bA _ _ _ ‹0› ‹0› ‹0›,_,rfl,a1,_,rfl,.inr (q1 _),rfl,bK _,?_⟩)
  rw [if_neg Bool.false_ne_true,ca]
  refine⟨_,rfl,?_⟩
  by_cases z1:w∈iU
  ·rw [decide_eq_true z1]
   refine bJ ?_
   exact⟨r,lw,ws,pl,op,rfl,h,λH1 o1 h1=>aF ⟨_,rfl,q H1 o1 h1⟩⟩
  rw [decide_eq_false z1]
  refine br ⟨_,rfl,a2,_,rfl,.inr (q2 _),rfl,bK _,?_⟩
  rw [if_neg Bool.false_ne_true,ca]
  refine⟨_,rfl,?_⟩
  by_cases z2:w∈gC
  ·rw [decide_eq_true z2]
   refine bJ ?_
   exact⟨r,lw,ws,pl,op,rfl,h,λH1 o1 h1=>aF ⟨_,rfl,q H1 o1 h1⟩⟩
  rw [decide_eq_false z2]
  refine br ⟨_,rfl,a3,_,rfl,.inr (q3 _),rfl,bK _,?_⟩
  rw [if_neg Bool.false_ne_true,ca]
  refine⟨_,rfl,?_⟩
  by_cases z3:w∈eZ
  ·rw [decide_eq_true z3]
   refine bJ ?_
   exact⟨r,lw,ws,pl,op,rfl,h,λH1 o1 h1=>aF ⟨_,rfl,q H1 o1 h1⟩⟩
  rw [decide_eq_false z3]
  have z4:w∈fZ:=((hw.resolve_left z1).resolve_left z2).resolve_left z3
  refine br ⟨_,rfl,a4,_,rfl,.inr (q4 _),rfl,bK _,?_⟩
  rw [if_neg Bool.false_ne_true,ca,decide_eq_true z4]
  exact⟨r,lw,ws,pl,op,rfl,h,λH1 o1 h1=>aF ⟨_,rfl,q H1 o1 h1⟩⟩
end Mine
namespace L2
open PySem PySem.Spec PyProof.Rows
theorem dm {X:Cx}{CX:CXT}{cn m:Str}{C f:Addr}{mc:Value}{k:Nat}{fd:FuncData}{ps:List Str}{sp:Sp}{ds:List Value}{dvs:List V}{E:XK}{e:Expr}{es:List Expr}{t:TA}{p apos pos:Pos}{pl:Sem Bool} (hg:Gl X cn) (hmg:X.mg cn=some (.ref C))
  (h1:PySem.W.specialIn X.K (.ref C) "__getattribute__" = some (some (.builtin "type.__getattribute__"))) (h2:PySem.W.readsIn X.K C mc=true) (h3:PySem.W.findCls X.K (.ref C) mc m=some (.val (.ref f))) (h4:PySem.W.handedIn (.ref f)=true)
  (F:FnOk X.prog X.w X.K X.mg X.base CX k f fd ps sp) (hr:Room k X.A) (hk:PySem.W.keepIn X.K (.ref f)=true) (hb:cm X.K fd ps ds) (hd:aU dvs ds) (hx:dM CX X E) (ha:PA X (e::es) t)
  (hst:starEach (e::es) X.env=(false,eval e X.env)::starEach es X.env:=by rfl) (hpl:(backTo pos (starEach es X.env)).any (·.1)=false:=by rfl)
  (ht:eval (.Call (.Attribute (.Name cn p) m apos) (e::es) [] pos) X.env=(do
   let ov <- eval (.Name cn p) X.env
   standAt apos.atName
   let (f,first) <- holding [ov] (getMethod ov m pl)
   callWith pos f first (backTo pos (starEach (e::es) X.env)) (backToKw pos (keywordEach [] X.env))):=by rfl)
  (hdb:(cn == ("__debug__" : Str))=false:=by decide):PE X (.Call (.Attribute (.Name cn p) m apos) (e::es) [] pos) (kU sp dvs E t):=by
 intro pins s σ H Q I h
 refine PySem.W.methodCall_KW (pl:=pl) (jk I hg hmg ?_ hdb) ht
 refine PySem.W.method_cls I.kIn h1 (PySem.W.cls_value I.kIn h2 h3 h4 ?_)
 refine PySem.W.callWith_K (first:=[]) (h₀:=X.base) I.ok.mod.kin hk (thn (ha pos pins _ σ H _ (I.tok (s.toks+1)) h) λus s2 ⟨vs,H2,I2,r,q2⟩=>⟨I2.kIn,?_⟩) hst hpl
 exact ix F hr hb hd hx I2 r q2
end L2
namespace Mine
open PySem L2
variable {P:Program}{w:World}{K:W.Frag}{mg:Str->Option Value}{base:Heap}
noncomputable abbrev pS:Stmt:=aQ (top 17) 0
noncomputable def cS:List Str:=[‹"written"›, ‹"names"›, ‹"levels"›, ‹"number"›, ‹"key"›, ‹"day"›, ‹"word"›, ‹"first"›, ‹"last"›, ‹"bound"›, ‹"one"›, ‹"other"›, ‹"rank"›, ‹"inner"›]
structure QuC (K:PySem.W.Frag) (C:Addr):Prop where
 cl:Cls K C
 no:∀f∈cS,NoAttr K C f
theorem QuC.a_written {K:W.Frag}{C:Addr} (T:QuC K C):NoAttr K C "written":=T.no _ ‹0›
theorem QuC.a_names {K:W.Frag}{C:Addr} (T:QuC K C):NoAttr K C "names":=T.no _ ‹0›
theorem QuC.a_levels {K:W.Frag}{C:Addr} (T:QuC K C):NoAttr K C "levels":=T.no _ ‹0›
theorem QuC.a_number {K:W.Frag}{C:Addr} (T:QuC K C):NoAttr K C "number":=T.no _ ‹0›
theorem QuC.a_key {K:W.Frag}{C:Addr} (T:QuC K C):NoAttr K C "key":=T.no _ ‹0›
theorem QuC.a_day {K:W.Frag}{C:Addr} (T:QuC K C):NoAttr K C "day":=T.no _ ‹0›
theorem QuC.a_word {K:W.Frag}{C:Addr} (T:QuC K C):NoAttr K C "word":=T.no _ ‹0›
theorem QuC.a_first {K:W.Frag}{C:Addr} (T:QuC K C):NoAttr K C "first":=T.no _ ‹0›
theorem QuC.a_last {K:W.Frag}{C:Addr} (T:QuC K C):NoAttr K C "last":=T.no _ ‹0›
theorem QuC.a_bound {K:W.Frag}{C:Addr} (T:QuC K C):NoAttr K C "bound":=T.no _ ‹0›
theorem QuC.a_one {K:W.Frag}{C:Addr} (T:QuC K C):NoAttr K C "one":=T.no _ ‹0›
theorem QuC.a_other {K:W.Frag}{C:Addr} (T:QuC K C):NoAttr K C "other":=T.no _ ‹0›
theorem QuC.a_rank {K:W.Frag}{C:Addr} (T:QuC K C):NoAttr K C "rank":=T.no _ ‹0›
theorem QuC.a_inner {K:W.Frag}{C:Addr} (T:QuC K C):NoAttr K C "inner":=T.no _ ‹0›
noncomputable def bS (K:PySem.W.Frag):Sp:=λvs H Q _=>∃(x C dx lw lk:Addr) (fs:List (Str × V)) (ws ks:List Str) (d:Int),vs=[.ref x,.ref lw,.ref lk,.int d]/\QuC K C/\H x=some (.ins C dx fs)/\fs.length < 100/\H lw=some (.lst (ws.map V.str))/\SqL K H lk (ks.map V.str)/\ks.length<=900/\(ws.map (·.length)).sum+ws.length * ‹" "›.length<=16777216/\
 ∀(ln:Addr) (H':Hp),H ln=none->(∀b o,H b=some o->b≠x->H' b=some o)->H' ln=some (.lst ((bD ks).map V.str))->H' x=some (.ins C dx (cU "levels" (.int d) (cU "names" (.ref ln) (cU "written" (.str (Txt.join ‹" "› ws)) fs))))->Q .non H'
theorem xf {K:W.Frag}{H:Hp}{a x C dx:Addr}{xs:List V}{fs fs':List (Str × V)} (h:SqL K H a xs) (hx:H x=some (.ins C dx fs)):SqL K (upd H x (.ins C dx fs')) a xs:=by
 rcases h with(e | ⟨u,e⟩) | e
 ·exact .inl (.inl (by rw [ah (cQ e hx (λz=>nomatch z))];exact e))
 ·exact .inl (.inr ⟨u,by rw [ah (cQ e hx (λz=>nomatch z))];exact e⟩)
 ·exact .inr e
theorem xw:FnScope ["self", "words", "keys", "depth"] ["self", "words", "keys", "depth"] (au pS):=‹2›
theorem vF {f f1:Addr}{fd:FuncData} (F:Fun K "__init__" "Question.__init__" pS f fd) (N:Free mg){fd1:FuncData} (CO:Cal P w K mg base "each_once" 1 ["keys"] (tZ K) f1 fd1):FnOk P w K mg base CX0 2 f fd ["self", "words", "keys", "depth"] (bS K):=by
 refine F.ok (k:=1) xw (λvs H Q E h=>?_) (λcdv A outer s H vs Q E hr h=>?_)
 ·obtain⟨x,C,dx,lw,lk,fs,ws,ks,d,rfl,_⟩:=h
  rfl
 ·obtain⟨x,C,dx,lw,lk,fs,ws,ks,d,rfl,T,hx,hfs,hlw,hlk,hks,hsum,q⟩:=h
  have hu:=aP hr
  refine⟨_,(af (bC (pv 0) (dU PySem.F.plainAttrs_str PySem.F.slot_str_join PySem.F.type_str_join jg aR (aa (pv 1) ae)) rfl)
   (af (bC (pv 0) (ay CO.ok (hr.mono (by decide)) rfl CO.nm CO.kp CO.bd .nil av (aa (pv 2) ae)) rfl)
   (aq (bC (pv 0) (pv 3) rfl)))),?_⟩
  refine ag ⟨rfl,_,rfl,_,lw,ws,rfl,rfl,hlw,hsum,_,rfl,x,C,dx,_,rfl,hx,T.cl,T.a_written,by omega,?_⟩
  dsimp only
  have l1:=dW "written" (.str (Txt.join ‹" "› ws)) fs
  refine ag ⟨_,rfl,lk,ks,rfl,xf hlk hx,hks,λln nln=>?_⟩
  have nlx:ln≠x:=λz=>by rw [z,ai]at nln;cases nln
  have nl0:H ln=none:=by rw [ah nlx]at nln;exact nln
  have l2:=dW "names" (.ref ln) (cU "written" (.str (Txt.join ‹" "› ws)) fs)
  refine⟨_,rfl,x,C,dx,cU "written" (.str (Txt.join ‹" "› ws)) fs,rfl,by rw [ah (Ne.symm nlx),ai],T.cl,T.a_names,by omega,?_⟩
  dsimp only
  refine⟨_,rfl,_,rfl,x,C,dx,_,rfl,ai,T.cl,T.a_levels,by omega,?_⟩
  refine q ln _ nl0 (λb o e n=>?_) ?_ ai
  ·rw [ah n,ah n,ah (ao e nl0),ah n];exact e
  ·rw [ah nlx,ah nlx,ai]
end Mine
namespace L2
open PySem PySem.Spec PyProof.Rows
theorem yH:∀{ns:List Int}{us:List Value},aU (ns.map V.int) us->∃xs:List (Int × Tok),us=xs.map (λp=>Value.int p.1 p.2)/\xs.map (·.1)=ns
 | [],_,r=>by
  cases r
  exact⟨[],rfl,rfl⟩
 | n::ns,_,r=>by
  cases r with
  | cons a t=>
   obtain⟨tk,rfl⟩:=a
   obtain⟨xs,rfl,rfl⟩:=yH t
   exact⟨(n,tk)::xs,rfl,rfl⟩
section
variable {X:Cx}
theorem yl {pins:List (Addr × Obj)}{σ:St}{H:Hp}{s:Shared}{a:Addr}{ns:List Int} (I:Inv X pins σ H s) (hS:SqL X.K H a (ns.map V.int)):∃ys:Array (Int × Tok),s.heap.IsList a (intItems ys)/\ys.toList.map (·.1)=ns:=by
 obtain⟨its,rv,p,hz⟩:=I.list hS
 obtain⟨ys,rfl,e⟩:=yH rv
 refine⟨ys.toArray,?_,e⟩
 have h:=p.isList
 rw [<- List.map_toArray]at h
 exact h
theorem vN {ys:Array (Int × Tok)}{ns:List Int} (e:ys.toList.map (·.1)=ns):ys.size=ns.length:=by rw [<- e,List.length_map,Array.length_toList]
inductive rMaxL (K:PySem.W.Frag) (xs:List V) (H:Hp) (Q:VK):Prop
 | mk (a:Addr) (ns:List Int) (h1:xs=[.ref a]) (h2:SqL K H a (ns.map V.int)) (h3:ns≠[]) (h4:∀M,M∈ns->(∀x∈ns,x<=M)->Q (.int M) H):rMaxL K xs H Q
theorem lL (hc:X.calm=true):cD X (.builtin "max") (rMaxL X.K):=by
 intro pins s σ H xs us Q I r h
 obtain⟨a,ns,rfl,hS,hne,q⟩:=h
 obtain⟨u,rfl,ru⟩:=da r
 cases (show u=Value.ref a from ru)
 obtain⟨ys,hl,e⟩:=yl I hS
 have hn:=List.length_pos_iff.mpr hne
 have hy:=vN e
 refine max_intList (I.ok.hd hc) hl ‹1› λv h' tk hv hk=>?_
 obtain⟨t,rfl⟩:=intItems_at hv
 obtain⟨h1,h2⟩:=argBest_gt (numAt ys) (ys.size - 1)
 refine⟨.int _,H,I.kept hk,⟨_,rfl⟩,q _ ?_ λx hx=>?_⟩
 ·rw [numAt_eq,e];exact getD_mem ‹1›
 ·obtain⟨j,hj,rfl⟩:=mem_getD hx
  have:=h2 j ‹1›
  rw [numAt_eq,e]at this
  exact this
inductive rStrA (xs:List V) (H:Hp) (Q:VK):Prop
 | int (i:Int) (h1:xs=[.int i]) (h2:i.natAbs.log2 < 1920) (h3:Q (.str (Str.ofString (toString i))) H):rStrA xs H Q
 | str (x:Str) (h1:xs=[.str x]) (h3:Q (.str x) H):rStrA xs H Q
theorem t8:cD X (.type "str") rStrA:=by
 intro pins s σ H xs us Q I r h
 rcases h with⟨i,rfl,hz,q⟩ | ⟨x,rfl,q⟩
 ·obtain⟨u,rfl,t,rfl⟩:=da r
  exact PySem.P.str_of_int hz ⟨.str _,H,I.tok _,⟨_,rfl⟩,q⟩
 ·obtain⟨u,rfl,t,rfl⟩:=da r
  exact PySem.P.str_of_str ⟨.str x,H,I,⟨t,rfl⟩,q⟩
end
structure MV (P:Program) (w:World) (K:PySem.W.Frag) (mg:Str->Option Value) (base:Heap) (CX:CXT) (m:Str) (k:Nat) (ps:List Str) (sp:Sp) (C:Addr):Prop where
 cl:Cls K C
 ex:∃f fd,Meth K C m f/\FnOk P w K mg base CX k f fd ps sp/\cm K fd ps []
noncomputable def zK (V:Addr->Prop) (m:Str) (sp:Sp) (E:XK) (ta:TE) (t:TA):TE:=λσ H Q=>ta σ H λx H1=>∃a C dx fs,x=.ref a/\H1 a=some (.ins C dx fs)/\V C/\fs.lookup m=none/\
 t σ H1 λvs H2=>sp (x::vs) H2 Q E
section
variable {X:Cx}{CX:CXT}{k:Nat}{ps:List Str}{sp:Sp}{E:XK}{m:Str}{pos apos:Pos}{e o:Expr}{es:List Expr}{ta:TE}{t:TA}
theorem iA {V:Addr->Prop}{pl:Sem Bool} (hV:∀C,V C->MV X.prog X.w X.K X.mg X.base CX m k ps sp C) (he:PE X o ta) (hr:Room k X.A) (hx:dM CX X E)
  (ht:eval (.Call (.Attribute o m apos) [] [] pos) X.env=(do
   let ov <- eval o X.env
   standAt apos.atName
   let (f,first) <- holding [ov] (getMethod ov m pl)
   callWith pos f first (backTo pos (starEach [] X.env)) (backToKw pos (keywordEach [] X.env))):=by rfl) :
  PE X (.Call (.Attribute o m apos) [] [] pos) (zK V m sp E ta iT):=by
 intro pins s σ H Q I h
 refine PySem.W.methodCall_KW (pl:=pl) (thn (he pins s σ H _ I h) λu s1 ⟨x,H1,I1,rx,a,C,dx,fs,ex,ea,vc,l,q⟩=>?_) ht
 obtain⟨c,f,fd,hm,F,hb⟩:=hV C vc
 subst ex
 obtain rfl:u=Value.ref a:=rx
 refine eW I1 ea c hm l ?_
 exact PySem.W.callWith_K0 (first:=[.ref a]) I1.kIn hm.kp (ix (us:=[.ref a]) (vs:=[.ref a]) (dvs:=[]) F hr hb .nil hx I1 (.cons rfl .nil) q)
end
section
variable {X:Cx}{T:String}{name:Str}{id:String}{r:V->List V->Hp->VK->Prop}{o e:Expr}{es:List Expr}{to:TE}{t:TA}{apos cpos:Pos}
end
theorem FnOk.ex {P:Program}{w:World}{K:W.Frag}{mg:Str->Option Value}{base:Heap}{CX:CXT}{k:Nat}{f:Addr}{fd:FuncData}{ps:List Str}{sp:Nat->Sp}{N:Nat} (h:∀n,n<=N->FnOk P w K mg base CX k f fd ps (sp n)):FnOk P w K mg base CX k f fd ps (λvs H Q E=>∃n,n<=N/\sp n vs H Q E):=
 ⟨λvs H Q E ⟨n,hn,q⟩=>(h n hn).len vs H Q E q,λA outer s H args us vs Q E hr he hb hv ⟨n,hn,q⟩=>(h n hn).run A outer s H args us vs Q E hr he hb hv q⟩
theorem FnOk.no {P:Program}{w:World}{K:W.Frag}{mg:Str->Option Value}{base:Heap}{CX:CXT}{k:Nat}{f:Addr}{fd:FuncData}{ps:List Str}{sp:Sp} (h:∀vs H Q E,¬sp vs H Q E):FnOk P w K mg base CX k f fd ps sp:=
 ⟨λvs H Q E q=>absurd q (h vs H Q E),λA outer s H args us vs Q E hr he hb hv q=>absurd q (h vs H Q E)⟩
structure CMc (P:Program) (w:World) (K:PySem.W.Frag) (mg:Str->Option Value) (base:Heap) (cn m:Str) (k:Nat) (ps:List Str) (sp:Sp) (C f:Addr) (fd:FuncData) (mc:Value):Prop where
 nm:mg cn=some (.ref C)
 h1:PySem.W.specialIn K (.ref C) "__getattribute__" = some (some (.builtin "type.__getattribute__"))
 h2:PySem.W.readsIn K C mc=true
 h3:PySem.W.findCls K (.ref C) mc m=some (.val (.ref f))
 ok:FnOk P w K mg base CX0 k f fd ps sp
 kp:PySem.W.keepIn K (.ref f)=true
 bd:cm K fd ps []
theorem wA {K:W.Frag}{a D:Addr}{xs:List V}{σ:St}{sub:List Nat}{tt:TT}{te:TE}{Q:VK}{H:Hp} (Pv:Nat->List V->Hp->Prop) (h0:Pv 0 [] (upd H D (.lst []))) (hl:∀i ys H,i<=xs.length->Pv i ys H->SqT K H a xs)
  (hs:∀i x ys H,xs[i]?=some x->Pv i ys H->tt (some x::bP sub σ) H λb H4=>if b=true then te (some x::bP sub σ) H4 λy H5=>H5 D=some (.lst ys)/\ys.length < sizeLine/\Pv (i+1) (ys++[y]) (upd H5 D (.lst (ys++[y]))) else Pv (i+1) ys H4)
  (hd:∀ys H,Pv xs.length ys H->Q (.ref D) H) :
  ∃W:Nat->Nat->List V->Hp->Prop,(∃m,W 0 m [] (upd H D (.lst [])))/\∀i m ys H2,W i m ys H2->
   ((Itt K a).stop i H2/\Q (.ref D) H2)\/((Itt K a).go i H2/\∃N:List V->Hp->Prop,(∀ys' H',N ys' H'->∃m',m' < m/\W (i+1) m' ys' H')/\∀v H3,(Itt K a).yld i H2 v H3->tt (some v::bP sub σ) H3 λb H4=>if b=true then
    te (some v::bP sub σ) H4 λy H5=>H5 D=some (.lst ys)/\ys.length < sizeLine/\N (ys++[y]) (upd H5 D (.lst (ys++[y])))
    else N ys H4):=by
 refine⟨λi m ys H=>m=xs.length - i/\i<=xs.length/\Pv i ys H,⟨xs.length,rfl,Nat.zero_le _,h0⟩,?_⟩
 rintro i m ys H ⟨rfl,hi,p⟩
 have q:=hl i ys H hi p
 by_cases hlt:i < xs.length
 ·refine .inr ⟨⟨xs,xs[i],q,by simp [hlt]⟩,Pv (i+1),λys' H' p'=>⟨xs.length - (i+1),by omega,rfl,hlt,p'⟩,λx H' y=>?_⟩
  obtain⟨e,y⟩:=y
  subst e
  exact hs i x ys _ (y xs q) p
 ·have e:i=xs.length:=by omega
  subst e
  exact .inl ⟨⟨xs,q,Nat.le_refl _⟩,hd ys H p⟩
theorem qD {K:W.Frag}{ta:Addr}{xs:List V}{sub:List Nat}{te:TE}{σ:St}{Q:VK}{H:Hp} (g:V->V) (hn:xs.length < 1000) (ha:H ta=some (.tup xs)) (hte:∀(x:V) (H2:Hp) (R:VK),x∈xs->(∀b o,H b=some o->H2 b=some o)->R (g x) H2->te (some x::bP sub σ) H2 R)
  (hq:∀(D:Addr),H D=none->Q (.ref D) (upd H D (.lst (xs.map g)))):fL (Itt K ta) sub (λ_ H Q=>Q true H) te σ Q H:=by
 intro D nD
 have nl:ta≠D:=ao ha nD
 refine wA (K:=K) (a:=ta) (xs:=xs) (sub:=sub) (tt:=λ_ H Q=>Q true H) (te:=te) (Q:=Q) (σ:=σ) (λi ys H2=>ys=(xs.take i).map g/\H2=upd H D (.lst ys)) ⟨by rw [List.take_zero];rfl,rfl⟩ (λi ys H2 _ hh=>?_) (λi x ys H2 hi hh=>?_) λys H2 hh=>?_
 ·obtain⟨_,rfl⟩:=hh
  exact SqT.of (by rw [ah nl];exact ha)
 ·obtain⟨rfl,rfl⟩:=hh
  refine bJ (hte x _ _ (List.mem_of_getElem? hi) (λb o e=>by rw [ah (ao e nD)];exact e) ⟨ai,?_,?_,bE⟩)
  ·rw [List.length_map,List.length_take];exact bu ‹1›
  ·rw [List.take_add_one,hi,List.map_append];rfl
 ·obtain⟨rfl,rfl⟩:=hh
  rw [List.take_length]
  exact hq D nD
end L2
namespace Mine
open PySem L2
variable {P:Program}{w:World}{K:W.Frag}{mg:Str->Option Value}{base:Heap}
open PySem.W PySem.W.KIN PySem.NumText
noncomputable abbrev si (i:Int):Str:=Str.ofString (toString i)
theorem jp (m:Nat):AllDigits ((Nat.toDigits 10 m).map Char.toNat):=λc hc=>by
 obtain⟨ch,hch,e⟩:=List.mem_map.mp hc
 rw [<- e]
 exact PyProof.Rows.digit_range (Nat.isDigit_of_mem_toDigits (by decide) (by decide) hch)
theorem qA (m:Nat):(Nat.toDigits 10 m).map Char.toNat≠[]:=λe=>by
 have h:=Nat.length_toDigits_pos (b:=10) (n:=m)
 rw [List.map_eq_nil_iff.mp e]at h
 exact absurd h (by decide)
theorem rH {m:Nat} (h:m < 10 ^ 10):((Nat.toDigits 10 m).map Char.toNat).length<=10:=by
 have:=KT.len_num (n:=(m:Int)) ‹1› ‹1›
 rw [cI,fM]at this
 exact this
theorem AW {c:Nat} (h:48<=c/\c<=57):inZ ie c=true:=by
 rcases (show c=48\/c=49\/c=50\/c=51\/c=52\/c=53\/c=54\/c=55\/c=56\/c=57 by omega) with rfl | rfl | rfl | rfl | rfl | rfl | rfl | rfl | rfl | rfl <;> decide +kernel
theorem mj {z:Int} (h0 : -1000000000<=z) (h1:z<=1000000000):figs (si z)=(Nat.toDigits 10 z.natAbs).map Char.toNat/\bY (si z)=z/\((si z).cps.toList=(Nat.toDigits 10 z.natAbs).map Char.toNat\/(si z).cps.toList=45::(Nat.toDigits 10 z.natAbs).map Char.toNat):=by
 by_cases hz:0<=z
 ·obtain⟨m,rfl⟩:=Int.eq_ofNat_of_zero_le hz
  have e:=fM m
  have hn:jQ (si (m:Int))=false:=by
   unfold jQ
   rw [e]
   cases hd:(Nat.toDigits 10 m).map Char.toNat with
   | nil=>exact absurd hd (qA m)
   | cons c r=>
    have:=jp m c (by rw [hd];exact List.mem_cons_self)
    refine decide_eq_false λz=>?_
    have:c=45:=Option.some.inj z
    omega
  have ef:figs (si (m:Int))=(Nat.toDigits 10 m).map Char.toNat:=by unfold figs;rw [hn,<- e];rfl
  refine⟨ef,?_,.inl e⟩
  unfold bY
  rw [hn,ef,val_back]
  rfl
 ·obtain⟨m,rfl⟩:∃m:Nat,z = -(m:Int):=⟨z.natAbs,by omega⟩
  have hm:0 < m:=by omega
  have e:=gp m hm
  have hn:jQ (si (-(m:Int)))=true:=by
   unfold jQ
   rw [e]
   rfl
  have ea:(-(m:Int)).natAbs=m:=by omega
  have ef:figs (si (-(m:Int)))=(Nat.toDigits 10 m).map Char.toNat:=by unfold figs;rw [hn,e];rfl
  rw [ea]
  refine⟨ef,?_,.inr e⟩
  unfold bY
  rw [hn,ef,val_back]
  rfl
theorem xl {z:Int} (h0 : -1000000000<=z) (h1:z<=1000000000):gf (si z)=true:=by
 obtain⟨ef,_,_⟩:=mj h0 h1
 have hl:=rH (m:=z.natAbs) ‹1›
 have hp:=List.length_pos_iff.mpr (qA z.natAbs)
 unfold gf cF
 rw [kh,ef,decide_eq_true ‹1›,decide_eq_true ‹1›,Bool.true_and,Bool.true_and]
 show ((figs (si z)).toArray.toList.all (inZ ie))=true
 rw [List.toList_toArray,ef]
 exact List.all_eq_true.mpr λc hc=>AW (jp _ c hc)
theorem de {z lo hi:Int} (h0 : -1000000000<=z) (h1:z<=1000000000) (h2:lo<=z) (h3:z<=hi):hE (si z) lo hi=.int z:=by
 obtain⟨_,ev,_⟩:=mj h0 h1
 unfold hE
 rw [ev,if_pos ⟨⟨xl h0 h1,rfl⟩,h2,h3⟩]
def Sgn (c:Nat):Prop:=c=44\/c=45\/(48<=c/\c<=57)\/(97<=c/\c<=122)
structure Wd (w:Str):Prop where
 lo:1<=w.length
 hi:w.length<=79
 sg:∀c∈w.cps.toList,Sgn c
theorem cO {z:Int} (h0 : -1000000000<=z) (h1:z<=1000000000):Wd (si z):=by
 obtain⟨_,_,e⟩:=mj h0 h1
 have hl:=rH (m:=z.natAbs) ‹1›
 have hp:=List.length_pos_iff.mpr (qA z.natAbs)
 rcases e with e | e
 ·refine⟨by rw [cI,e];omega,by rw [cI,e];omega,λc hc=>?_⟩
  rw [e]at hc
  exact .inr (.inr (.inl (jp _ c hc)))
 ·refine⟨by rw [cI,e,List.length_cons];omega,by rw [cI,e,List.length_cons];omega,λc hc=>?_⟩
  rw [e]at hc
  rcases List.mem_cons.mp hc with z | hc
  ·exact .inr (.inl z)
  ·exact .inr (.inr (.inl (jp _ c hc)))
theorem AD:∀c∈dq.cps.toList,97<=c/\c<=122:=‹0›
theorem lv {k:Str} (h:cF k dq 8=true):1<=k.length/\k.length<=8/\∀c∈k.cps.toList,97<=c/\c<=122:=by
 unfold cF at h
 rw [Bool.and_eq_true,Bool.and_eq_true]at h
 obtain⟨h1,h2,h3⟩:=h
 have h1:=of_decide_eq_true h1
 have h2:=of_decide_eq_true h2
 exact⟨by omega,by omega,λc hc=>AD c (of_decide_eq_true (List.all_eq_true.mp h3 c hc))⟩
theorem ls {k:Str} (h:cF k dq 8=true):Wd k:=by
 obtain⟨h1,h2,h3⟩:=lv h
 exact⟨h1,by omega,λc hc=>.inr (.inr (.inr (h3 c hc)))⟩
theorem Wd.free {w:Str} (h:Wd w):32∉w.cps.toList:=λz=>by
 have:=h.sg _ z
 unfold Sgn at this
 omega
noncomputable def fl (c:Nat) (ws:List Str):List Nat:=(ws.map λw=>c::w.cps.toList).flatten
theorem jZ (c:Nat) (us vs:List Str):fl c (us++vs)=fl c us++fl c vs:=by
 unfold fl
 rw [List.map_append,List.flatten_append]
theorem eX (c:Nat) (u:Str) (vs:List Str):fl c (u::vs)=(c::u.cps.toList)++fl c vs:=rfl
theorem mU {α:Type} (c:Nat) (g:α->List Str):∀xs:List α,fl c (xs.flatMap g)=xs.flatMap λx=>fl c (g x)
 | []=>rfl
 | x::xs=>by rw [List.flatMap_cons,List.flatMap_cons,jZ,mU c g xs]
theorem mO {c:Nat}:∀{ws:List Str},ws≠[]->c::(Txt.join ⟨#[c]⟩ ws).cps.toList=fl c ws
 | [],h=>absurd rfl h
 | [x],_=>by
  rw [eX]
  show c::x.cps.toList=(c::x.cps.toList)++[]
  rw [List.append_nil]
 | x::y::zs,_=>by
  have e:Txt.join ⟨#[c]⟩ (x::y::zs)=Str.join ⟨#[c]⟩ (x::y::zs):=StrLaws.glued_eq_join _ _
  have e2:Txt.join ⟨#[c]⟩ (y::zs)=Str.join ⟨#[c]⟩ (y::zs):=StrLaws.glued_eq_join _ _
  have ih:=mO (c:=c) (ws:=y::zs) (by simp)
  rw [e,fI,eX,<- ih,e2]
  rfl
noncomputable abbrev jn (ws:List Str):Str:=Txt.join ‹" "› ws
noncomputable abbrev jc (ws:List Str):Str:=Txt.join ‹","› ws
theorem rA {ws:List Str} (h:ws≠[]):32::(jn ws).cps.toList=fl 32 ws:=by
 have:=mO (c:=32) h
 rw [<- nB]at this
 exact this
theorem BK {ws:List Str} (h:ws≠[]):44::(jc ws).cps.toList=fl 44 ws:=by
 have:=mO (c:=44) h
 rw [<- oV]at this
 exact this
theorem BJ {us vs:List Str} (hu:us≠[]) (hv:vs≠[]) (h:fl 32 us=fl 32 vs):jn us=jn vs:=by
 rw [<- rA hu,<- rA hv]at h
 exact di (List.cons.inj h).2
theorem BV {ws:List Str} (h:ws≠[]):fl 32 [jn ws]=fl 32 ws:=by
 rw [eX,<- rA h]
 exact List.append_nil _
theorem qy (c m:Nat):∀ws:List Str,(∀w∈ws,w.length<=m)->(fl c ws).length<=(m+1) * ws.length
 | [],_=>by rw [List.length_nil];exact Nat.zero_le _
 | w::ws,h=>by
  have:=qy c m ws λx hx=>h x (List.mem_cons_of_mem _ hx)
  have h1:=h w List.mem_cons_self
  rw [cI]at h1
  rw [eX,List.length_append,List.length_cons,List.length_cons,Nat.mul_succ]
  omega
theorem zj {ks:List Str} (h1:1<=ks.length) (h8:ks.length<=8) (hk:∀k∈ks,cF k dq 8=true):Wd (jc ks):=by
 have hne:ks≠[]:=λz=>by rw [z]at h1;cases h1
 have e:=BK hne
 have hl:=qy 44 8 ks λw hw=>(lv (hk w hw)).2.1
 rw [<- e,List.length_cons]at hl
 refine⟨?_,by rw [cI];omega,λc hc=>?_⟩
 ·cases ks with
  | nil=>exact absurd rfl hne
  | cons k r=>
   have h0:=(lv (hk k List.mem_cons_self)).1
   have:=congrArg List.length e
   rw [eX,List.length_cons,List.length_append,List.length_cons,<- cI,<- cI]at this
   omega
 ·have:c∈fl 44 ks:=by rw [<- e];exact List.mem_cons_of_mem _ hc
  unfold fl at this
  obtain⟨l,hl,hc⟩:=List.mem_flatten.mp this
  obtain⟨k,hk',rfl⟩:=List.mem_map.mp hl
  rcases List.mem_cons.mp hc with z | hc
  ·exact .inl z
  ·exact .inr (.inr (.inr ((lv (hk k hk')).2.2 c hc)))
theorem pp (m:Nat):∀ws:List Str,(∀w∈ws,w.length<=m)->(ws.map (·.length)).sum<=m * ws.length
 | [],_=>Nat.zero_le _
 | w::ws,h=>by
  have:=pp m ws λx hx=>h x (List.mem_cons_of_mem _ hx)
  have h1:=h w List.mem_cons_self
  rw [List.map_cons,List.sum_cons,List.length_cons,Nat.mul_succ]
  omega
theorem mP {ws:List Str} (h:∀w∈ws,w.length<=15000) (hl:ws.length<=1000):(ws.map (·.length)).sum+ws.length * ‹" "›.length<=16777216:=by
 have:=pp 15000 ws h
 rw [show ‹" "›.length=1 from ‹0›,Nat.mul_one]
 omega
theorem vX {ws:List Str}{m:Nat} (h:∀w∈ws,w.length<=m):(jn ws).length<=(m+1) * ws.length:=by
 cases ws with
 | nil=>exact Nat.le_trans (Nat.le_of_eq (show (jn []).length=0 from ‹0›)) (Nat.zero_le _)
 | cons w r=>
  have e:=congrArg List.length (rA (ws:=w::r) (by simp))
  have hl:=qy 32 m (w::r) h
  rw [List.length_cons]at e
  rw [cI]
  omega
noncomputable def onF (acc ks:List Str):List Str:=ks.foldl (λacc k=>if k∈acc then acc else acc++[k]) acc
theorem nW (acc ks:List Str) (k:Str):onF acc (ks++[k])=if k∈onF acc ks then onF acc ks else onF acc ks++[k]:=by
 unfold onF
 rw [List.foldl_append]
 rfl
theorem mJ {x:Str}:∀{ks acc:List Str},x∈onF acc ks↔x∈acc\/x∈ks
 | [],acc=>by
  show x∈acc↔_
  simp
 | k::ks,acc=>by
  show x∈onF (if k∈acc then acc else acc++[k]) ks↔_
  rw [mJ]
  by_cases h:k∈acc
  ·rw [if_pos h,List.mem_cons]
   constructor
   ·rintro(a | a)
    ·exact .inl a
    ·exact .inr (.inr a)
   ·rintro(a | a | a)
    ·exact .inl a
    ·exact .inl (by rw [a];exact h)
    ·exact .inr a
  ·rw [if_neg h,List.mem_append,List.mem_singleton,List.mem_cons,or_assoc]
theorem vm {x:Str}{ks:List Str}:x∈bD ks↔x∈ks:=by
 rw [show bD ks=onF [] ks from rfl,mJ]
 simp
theorem nX (acc:List Str):∀(n:Nat) (ks:List Str),ks.length=n->onF acc (bD ks)=onF acc ks
 | 0,ks,h=>by rw [List.length_eq_zero_iff.mp h];rfl
 | n+1,ks,h=>by
  obtain⟨xs,x,rfl⟩:∃xs x,ks=xs++[x]:=⟨ks.dropLast,ks.getLast (by intro z;rw [z]at h;cases h),(List.dropLast_concat_getLast _).symm⟩
  rw [List.length_append,List.length_singleton]at h
  have ih:=nX acc n xs ‹1›
  rw [fO,nW]
  by_cases z:x∈bD xs
  ·rw [if_pos z,ih,if_pos (mJ.mpr (.inr (vm.mp z)))]
  ·rw [if_neg z,nW,ih]
theorem nY {α:Type} (g:α->List Str):∀(xs:List α) (acc:List Str),onF acc (xs.flatMap λx=>bD (g x))=onF acc (xs.flatMap g)
 | [],_=>rfl
 | x::xs,acc=>by
  have ap:∀a b c:List Str,onF a (b++c)=onF (onF a b) c:=λa b c=>by unfold onF;rw [List.foldl_append]
  rw [List.flatMap_cons,List.flatMap_cons,ap,ap,nX _ _ _ rfl,nY g xs]
theorem sG {α:Type} (g:α->List Str) (xs:List α):bD (xs.flatMap λx=>bD (g x))=bD (xs.flatMap g):=nY g xs []
inductive Lf
 | num (z:Int) | val (k:Str) (d:Int) | gth (w:Str) (ks:List Str) (f l:Int) | snc (k:Str) (b f l:Int) | prt (a b:Str) (f l:Int) | chg (r:Int) (k:Str) (f l:Int)
inductive Nd
 | leaf (l:Lf) | brk (w:Str) (xs:List Nd)
noncomputable def aX:Lf->List Str
 | .num z=>[‹"number"›, si z]
 | .val k d=>[‹"value"›, k,si d]
 | .gth w ks f l=>[w,jc ks,si f,si l]
 | .snc k b f l=>[‹"since"›, k,si b,si f,si l]
 | .prt a b f l=>[‹"part"›, a,b,si f,si l]
 | .chg r k f l=>[‹"change"›, si r,k,si f,si l]
noncomputable def bT:Lf->List Str
 | .num _=>[]
 | .val k _=>[k]
 | .gth _ ks _ _=>ks
 | .snc k _ _ _=>[k]
 | .prt a b _ _=>[a,b]
 | .chg _ k _ _=>[k]
def ni (f l:Int):Prop:=0<=f/\f<=l/\l<=399
def Big (z:Int):Prop:=-1000000000<=z/\z<=1000000000
def kE (k:Str):Prop:=cF k dq 8=true
noncomputable def eL:Lf->Prop
 | .num z=>Big z
 | .val k d=>kE k/\0<=d/\d<=399
 | .gth w ks f l=>w∈gC/\(1<=ks.length/\ks.length<=8/\ks.Nodup/\∀k∈ks,kE k)/\ni f l
 | .snc k b f l=>kE k/\Big b/\ni f l
 | .prt a b f l=>kE a/\kE b/\ni f l
 | .chg r k f l=>(1<=r/\r<=400)/\kE k/\ni f l
noncomputable abbrev opS:Str:=‹"("›
noncomputable abbrev clS:Str:=‹")"›
noncomputable def aY:Nat->Nd->List Str
 | 0,.leaf l=>aX l
 | 0,.brk _ _=>[]
 | _+1,.leaf l=>aX l
 | n+1,.brk w xs=>w::xs.flatMap λc=>opS::(aY n c++[clS])
noncomputable def dF:Nat->Nd->List Str
 | 0,.leaf l=>bT l
 | 0,.brk _ _=>[]
 | _+1,.leaf l=>bT l
 | n+1,.brk w xs=>xs.flatMap (dF n)
noncomputable def wX (ns:List Int):Int:=ns.foldl (λa b=>if b > a then b else a) 0
noncomputable def dI:Nat->Nd->Int
 | 0,_=>0
 | _+1,.leaf _=>0
 | n+1,.brk _ xs=>1+wX (xs.map (dI n))
noncomputable def iq:Nat->Nd->Prop
 | 0,.leaf l=>eL l
 | 0,.brk _ _=>False
 | _+1,.leaf l=>eL l
 | n+1,.brk w xs=>((w∈eZ/\xs.length=2)\/(w∈fZ/\xs.length=4))/\∀x∈xs,iq n x
theorem gG (n:Nat) (l:Lf):aY n (.leaf l)=aX l:=by cases n <;> rfl
theorem yk (n:Nat) (l:Lf):dF n (.leaf l)=bT l:=by cases n <;> rfl
theorem yv (n:Nat) (l:Lf):dI n (.leaf l)=0:=by cases n <;> rfl
theorem rg {n:Nat}{l:Lf} (h:iq n (.leaf l)):eL l:=by cases n <;> exact h
theorem AR:∀w∈gC,1<=w.length/\w.length<=79/\∀c∈w.cps.toList,97<=c/\c<=122:=‹0›
theorem Ah:∀w∈eZ,1<=w.length/\w.length<=79/\∀c∈w.cps.toList,97<=c/\c<=122:=‹0›
theorem B2:∀w∈fZ,1<=w.length/\w.length<=79/\∀c∈w.cps.toList,97<=c/\c<=122:=‹0›
theorem jE:∀w∈iU,1<=w.length/\w.length<=79/\∀c∈w.cps.toList,97<=c/\c<=122:=‹0›
theorem iN {w:Str} (h:1<=w.length/\w.length<=79/\∀c∈w.cps.toList,97<=c/\c<=122):Wd w:=⟨h.1,h.2.1,λc hc=>.inr (.inr (.inr (h.2.2 c hc)))⟩
theorem eY {P:Str->Prop}:∀w∈([]:List Str),P w:=λ_ h=>nomatch h
theorem all_cons {P:Str->Prop}{x:Str}{xs:List Str} (h:P x) (t:∀w∈xs,P w):∀w∈x::xs,P w:=λw hw=>(List.mem_cons.mp hw).elim (λe=>e ▸ h) (t w)
theorem dX {f l:Int} (h:ni f l):Wd (si f)/\Wd (si l):=by
 obtain⟨h1,h2,h3⟩:=h
 exact⟨cO ‹1› ‹1›,cO ‹1› ‹1›⟩
theorem rl:∀{l:Lf},eL l->∀w∈aX l,Wd w
 | .num z,h=>all_cons (iN (jE _ ‹0›)) (all_cons (cO h.1 h.2) eY)
 | .val k d,⟨h1,h2,h3⟩=>all_cons (iN (jE _ ‹0›)) (all_cons (ls h1) (all_cons (cO ‹1› ‹1›) eY))
 | .gth w ks f l,⟨h1,⟨h2,h3,_,h4⟩,h5⟩=>all_cons (iN (AR _ h1)) (all_cons (zj h2 h3 h4) (all_cons (dX h5).1 (all_cons (dX h5).2 eY)))
 | .snc k b f l,⟨h1,h2,h5⟩=>all_cons (iN (jE _ ‹0›)) (all_cons (ls h1) (all_cons (cO h2.1 h2.2) (all_cons (dX h5).1 (all_cons (dX h5).2 eY))))
 | .prt a b f l,⟨h1,h2,h5⟩=>all_cons (iN (jE _ ‹0›)) (all_cons (ls h1) (all_cons (ls h2) (all_cons (dX h5).1 (all_cons (dX h5).2 eY))))
 | .chg r k f l,⟨h1,h2,h5⟩=>all_cons (iN (jE _ ‹0›)) (all_cons (cO ‹1› ‹1›) (all_cons (ls h2) (all_cons (dX h5).1 (all_cons (dX h5).2 eY))))
theorem jS (l:Lf):2<=(aX l).length/\(aX l).length<=5:=by cases l <;> exact⟨Nat.le_of_ble_eq_true rfl,Nat.le_of_ble_eq_true rfl⟩
def WdB (w:Str):Prop:=Wd w\/w=opS\/w=clS
theorem WdB.len {w:Str} (h:WdB w):w.length<=79:=by
 rcases h with h | rfl | rfl
 ·exact h.hi
 ·exact ‹0›
 ·exact ‹0›
theorem WdB.free {w:Str} (h:WdB w):32∉w.cps.toList:=by
 rcases h with h | rfl | rfl
 ·exact h.free
 ·exact ‹0›
 ·exact ‹0›
theorem wJ {w:Str}{m:Nat} (h:(w∈eZ/\m=2)\/(w∈fZ/\m=4)):Wd w:=by
 rcases h with⟨h,_⟩ | ⟨h,_⟩
 ·exact iN (Ah _ h)
 ·exact iN (B2 _ h)
theorem js:∀{n:Nat}{nd:Nd},iq n nd->∀w∈aY n nd,WdB w
 | 0,.leaf l,h=>λw hw=>.inl (rl (show eL l from h) w hw)
 | 0,.brk _ _,h=>(show False from h).elim
 | n+1,.leaf l,h=>λw hw=>.inl (rl (show eL l from h) w hw)
 | n+1,.brk w xs,h=>λv hv=>by
  obtain⟨h1,h2⟩:_/\_:=h
  rcases List.mem_cons.mp hv with z | hv
  ·rw [z];exact .inl (wJ h1)
  ·obtain⟨c,hc,hv⟩:=List.mem_flatMap.mp hv
   rcases List.mem_cons.mp hv with z | hv
   ·exact .inr (.inl z)
   ·rcases List.mem_append.mp hv with hv | hv
    ·exact js (h2 c hc) v hv
    ·exact .inr (.inr (List.mem_singleton.mp hv))
theorem nn (n:Nat):∀{nd:Nd},iq n nd->aY n nd≠[]:=by
 intro nd h z
 cases nd with
 | leaf l=>
  rw [gG]at z
  have:=(jS l).1
  rw [z]at this
  exact absurd this (by decide)
 | brk w xs=>
  cases n with
  | zero=>exact h
  | succ n=>exact absurd z (by unfold aY;simp)
noncomputable def Wn:Nat->Nat
 | 0=>5
 | n+1=>4 * (Wn n+2)+1
theorem dG {α:Type}{g:α->List Str}{m:Nat}:∀xs:List α,(∀x∈xs,(g x).length<=m)->(xs.flatMap g).length<=m * xs.length
 | [],_=>Nat.zero_le _
 | x::xs,h=>by
  have:=dG xs λy hy=>h y (List.mem_cons_of_mem _ hy)
  have h1:=h x List.mem_cons_self
  rw [List.flatMap_cons,List.length_append,List.length_cons,Nat.mul_succ]
  omega
theorem zz:∀n,5<=Wn n
 | 0=>Nat.le_refl _
 | n+1=>by have:=zz n;show 5<=4 * (Wn n+2)+1;omega
theorem jq {w:Str}{m:Nat} (h:(w∈eZ/\m=2)\/(w∈fZ/\m=4)):2<=m/\m<=4:=by
 rcases h with⟨_,h⟩ | ⟨_,h⟩ <;> omega
theorem ir:∀{n:Nat}{nd:Nd},iq n nd->(aY n nd).length<=Wn n
 | 0,.leaf l,_=>(jS l).2
 | 0,.brk _ _,h=>(show False from h).elim
 | n+1,.leaf l,_=>Nat.le_trans (jS l).2 (zz _)
 | n+1,.brk w xs,h=>by
  obtain⟨h1,h2⟩:_/\_:=h
  have hl:=jq h1
  have:=dG (g:=λc=>opS::(aY n c++[clS])) (m:=Wn n+2) xs λc hc=>by
   have:=ir (h2 c hc)
   rw [List.length_cons,List.length_append,List.length_singleton]
   omega
  show (w::xs.flatMap _).length<=4 * (Wn n+2)+1
  rw [List.length_cons]
  have h4:(Wn n+2) * xs.length<=(Wn n+2) * 4:=Nat.mul_le_mul_left _ hl.2
  omega
theorem C0 {n:Nat} (h:n<=3):Wn n<=509:=by
 rcases (show n=0\/n=1\/n=2\/n=3 by omega) with rfl | rfl | rfl | rfl <;> decide
noncomputable def Kn:Nat->Nat
 | 0=>8
 | n+1=>4 * Kn n
theorem zD:∀n,8<=Kn n
 | 0=>Nat.le_refl _
 | n+1=>by have:=zD n;show 8<=4 * Kn n;omega
theorem mM:∀{l:Lf},eL l->(bT l).length<=8
 | .num _,_=>Nat.le_of_ble_eq_true rfl
 | .val _ _,_=>Nat.le_of_ble_eq_true rfl
 | .gth _ _ _ _,h=>h.2.1.2.1
 | .snc _ _ _ _,_=>Nat.le_of_ble_eq_true rfl
 | .prt _ _ _ _,_=>Nat.le_of_ble_eq_true rfl
 | .chg _ _ _ _,_=>Nat.le_of_ble_eq_true rfl
theorem hZ:∀{n:Nat}{nd:Nd},iq n nd->(dF n nd).length<=Kn n
 | 0,.leaf l,h=>mM (show eL l from h)
 | 0,.brk _ _,h=>(show False from h).elim
 | n+1,.leaf l,h=>Nat.le_trans (mM (show eL l from h)) (zD _)
 | n+1,.brk w xs,h=>by
  obtain⟨h1,h2⟩:_/\_:=h
  have hl:=jq h1
  have:=dG (g:=dF n) (m:=Kn n) xs λc hc=>hZ (h2 c hc)
  show (xs.flatMap _).length<=4 * Kn n
  have h4:Kn n * xs.length<=Kn n * 4:=Nat.mul_le_mul_left _ hl.2
  omega
theorem C5 {n:Nat} (h:n<=3):Kn n<=512:=by
 rcases (show n=0\/n=1\/n=2\/n=3 by omega) with rfl | rfl | rfl | rfl <;> decide
def At (ws:List Str) (pl:Nat) (vs:List Str):Prop:=vs <+: ws.drop pl
theorem At.hd {ws vs:List Str}{pl:Nat}{v:Str} (h:At ws pl (v::vs)):ws[pl]?=some v:=by
 obtain⟨t,e⟩:=h
 have:(ws.drop pl)[0]?=some v:=by rw [<- e];rfl
 rw [List.getElem?_drop]at this
 exact this
theorem At.app {ws us vs:List Str}{pl:Nat} (h:At ws pl (us++vs)):At ws pl us/\At ws (pl+us.length) vs:=by
 obtain⟨t,e⟩:=h
 refine⟨⟨vs++t,by rw [<- List.append_assoc];exact e⟩,t,?_⟩
 rw [<- List.drop_drop,<- e,List.append_assoc,List.drop_left]
theorem At.tl {ws vs:List Str}{pl:Nat}{v:Str} (h:At ws pl (v::vs)):At ws (pl+1) vs:=(At.app (us:=[v]) h).2
theorem At.all (ws:List Str):At ws 0 ws:=List.prefix_refl _
noncomputable abbrev uL:Stmt:=aQ (top 18) 0
noncomputable abbrev uI:Stmt:=aQ (top 19) 0
noncomputable abbrev uM:Stmt:=aQ (top 20) 0
noncomputable abbrev uJ:Stmt:=aQ (top 21) 0
noncomputable abbrev uK:Stmt:=aQ (top 22) 0
noncomputable abbrev uN:Stmt:=aQ (top 23) 0
noncomputable abbrev ux:Stmt:=aQ (top 17) 1
noncomputable abbrev pZ:Stmt:=aQ (top 17) 2
noncomputable abbrev pX:Stmt:=aQ (top 17) 3
noncomputable def qf3 (tx:Str) (ln:Addr) (d:Int):List (Str × V):=[("written", V.str tx),("names", V.ref ln),("levels", V.int d)]
noncomputable def vS:Lf->List (Str × V)
 | .num z=>[("number", .int z)]
 | .val k d=>[("key", .str k),("day", .int d)]
 | .gth w _ f l=>[("word", .str w),("first", .int f),("last", .int l)]
 | .snc k b f l=>[("key", .str k),("bound", .int b),("first", .int f),("last", .int l)]
 | .prt a b f l=>[("one", .str a),("other", .str b),("first", .int f),("last", .int l)]
 | .chg r k f l=>[("rank", .int r),("key", .str k),("first", .int f),("last", .int l)]
noncomputable def mN (l:Lf) (ln:Addr):List (Str × V):=qf3 (jn (aX l)) ln 0++vS l
theorem q_w (tx:Str) (ln:Addr) (d:Int) (r:List (Str × V)):(qf3 tx ln d++r).lookup ("written" : Str)=some (.str tx):=rfl
theorem q_n (tx:Str) (ln:Addr) (d:Int) (r:List (Str × V)):(qf3 tx ln d++r).lookup ("names" : Str)=some (.ref ln):=by
 show (((("written" : Str),V.str tx)::(("names" : Str),V.ref ln)::_)).lookup _=_
 rw [List.lookup_cons,show (("names" : Str) == ("written" : Str))=false from ‹0›]
 rfl
theorem q_l (tx:Str) (ln:Addr) (d:Int) (r:List (Str × V)):(qf3 tx ln d++r).lookup ("levels" : Str)=some (.int d):=by
 show (((("written" : Str),V.str tx)::(("names" : Str),V.ref ln)::_)).lookup _=_
 rw [List.lookup_cons,show (("levels" : Str) == ("written" : Str))=false from ‹0›,List.lookup_cons,show (("levels" : Str) == ("names" : Str))=false from ‹0›]
 rfl
theorem Ai {m:Str} (hm:m∉cS):∀{fs:List (Str × V)},(∀p∈fs,p.1∈cS)->fs.lookup m=none
 | [],_=>rfl
 | (k,v)::fs,h=>by
  rw [List.lookup_cons,beq_eq_false_iff_ne.mpr (λz:m=k=>hm (by rw [z];exact h (k,v) List.mem_cons_self))]
  exact Ai hm λp hp=>h p (List.mem_cons_of_mem _ hp)
theorem oy (l:Lf) (ln:Addr):∀p∈mN l ln,p.1∈cS:=by
 have key:∀{fs:List (Str × V)}{ks:List Str},fs.map (·.1)=ks->(∀k∈ks,k∈cS)->∀p∈fs,p.1∈cS:=λe h p hp=>h _ (by rw [<- e];exact List.mem_map_of_mem hp)
 cases l
 ·exact key (ks:=[‹"written"›, ‹"names"›, ‹"levels"›, ‹"number"›]) rfl ‹0›
 ·exact key (ks:=[‹"written"›, ‹"names"›, ‹"levels"›, ‹"key"›, ‹"day"›]) rfl ‹0›
 ·exact key (ks:=[‹"written"›, ‹"names"›, ‹"levels"›, ‹"word"›, ‹"first"›, ‹"last"›]) rfl ‹0›
 ·exact key (ks:=[‹"written"›, ‹"names"›, ‹"levels"›, ‹"key"›, ‹"bound"›, ‹"first"›, ‹"last"›]) rfl ‹0›
 ·exact key (ks:=[‹"written"›, ‹"names"›, ‹"levels"›, ‹"one"›, ‹"other"›, ‹"first"›, ‹"last"›]) rfl ‹0›
 ·exact key (ks:=[‹"written"›, ‹"names"›, ‹"levels"›, ‹"rank"›, ‹"key"›, ‹"first"›, ‹"last"›]) rfl ‹0›
theorem cq {z:Int} (h0 : -1000000000<=z) (h1:z<=1000000000):z.natAbs.log2 < 1920:=by
 by_cases e:z.natAbs=0
 ·rw [e];decide
 ·exact Nat.lt_trans ((Nat.log2_lt e).mpr (show z.natAbs < 2 ^ 30 by omega)) (by decide)
inductive LfI (K:PySem.W.Frag) (C x dx:Addr) (l:Lf) (H:Hp) (Q:VK):Prop
 | mk (T:QuC K C) (hx:H x=some (.ins C dx [])) (ok:eL l) (q:∀ln H',H ln=none->Ofr x H H'->H' ln=some (.lst ((bD (bT l)).map V.str))->H' x=some (.ins C dx (mN l ln))->Q .non H'):LfI K C x dx l H Q
theorem lB {K:W.Frag}{C x dx p1 p2:Addr}{l:Lf}{H H2:Hp}{Q:VK}{E:XK} (T:QuC K C) (hx:H x=some (.ins C dx [])) (ok:eL l) (g:aZ H H2) (e1:H2 p1=some (.lst ((aX l).map V.str))) (e2:SqL K H2 p2 ((bT l).map V.str))
  (q:∀ln H',H ln=none->Ofr x H H'->H' ln=some (.lst ((bD (bT l)).map V.str))->H' x=some (.ins C dx (qf3 (jn (aX l)) ln 0))->Q .non H'):bS K [.ref x,.ref p1,.ref p2,.int 0] H2 Q E:=by
 refine⟨x,C,dx,p1,p2,[],aX l,bT l,0,rfl,T,g _ _ hx,by decide,e1,e2,Nat.le_trans (mM ok) (by decide),mP (λw hw=>Nat.le_trans (rl ok w hw).hi (by decide)) (Nat.le_trans (jS l).2 (by decide)),λln H' nl o el ex=>?_⟩
 refine q ln H' ?_ (λb u e n=>o _ _ (g _ _ e) n) el ex
 cases e:H ln with
 | none=>rfl
 | some u=>rw [g _ _ e]at nl;cases nl
structure QAt (H:Hp) (x C ln:Addr) (tx:Str) (ks:List Str) (d:Int):Prop where
 ob:∃dx r,H x=some (.ins C dx (qf3 tx ln d++r))/\∀p∈qf3 tx ln d++r,p.1∈cS
 nm:H ln=some (.lst (ks.map V.str))
noncomputable def pq (K:PySem.W.Frag):Sp:=λvs H Q _=>∃(x C ln:Addr) (tx:Str) (ks:List Str) (d:Int),vs=[.ref x]/\QuC K C/\QAt H x C ln tx ks d/\Q (.str tx) H
noncomputable def jz (K:PySem.W.Frag):Sp:=λvs H Q _=>∃(x C ln:Addr) (tx:Str) (ks:List Str) (d:Int),vs=[.ref x]/\QuC K C/\QAt H x C ln tx ks d/\Q (.int d) H
noncomputable def mf (K:PySem.W.Frag):Sp:=λvs H Q _=>∃(x C ln:Addr) (tx:Str) (ks:List Str) (d:Int),vs=[.ref x]/\QuC K C/\QAt H x C ln tx ks d/\∀p,H p=none->Q (.ref p) (upd H p (.lst (ks.map V.str)))
theorem zS:FnScope ["self"] ["self"] (au ux):=‹2›
theorem xP {f:Addr}{fd:FuncData} (F:Fun K "text" "Question.text" ux f fd)  : FnOk P w K mg base CX0 1 f fd ["self"] (pq K):=by
 refine F.ok (k:=0) zS (λvs H Q E h=>?_) (λcdv A outer s H vs Q E hr h=>?_)
 ·obtain⟨x,C,ln,tx,ks,d,rfl,_⟩:=h
  rfl
 ·obtain⟨x,C,ln,tx,ks,d,rfl,T,⟨⟨dx,r,hx,_⟩,hn⟩,q⟩:=h
  have hu:=aP hr
  refine⟨_,(aq (aB (bH (pv 0) rfl))),?_⟩
  exact⟨_,rfl,x,C,dx,_,_,rfl,hx,T.cl,T.a_written,q_w _ _ _ _,q⟩
theorem ut:FnScope ["self"] ["self"] (au pX):=‹2›
theorem sK {f:Addr}{fd:FuncData} (F:Fun K "depth" "Question.depth" pX f fd)  : FnOk P w K mg base CX0 1 f fd ["self"] (jz K):=by
 refine F.ok (k:=0) ut (λvs H Q E h=>?_) (λcdv A outer s H vs Q E hr h=>?_)
 ·obtain⟨x,C,ln,tx,ks,d,rfl,_⟩:=h
  rfl
 ·obtain⟨x,C,ln,tx,ks,d,rfl,T,⟨⟨dx,r,hx,_⟩,hn⟩,q⟩:=h
  have hu:=aP hr
  refine⟨_,(aq (aB (bH (pv 0) rfl))),?_⟩
  exact⟨_,rfl,x,C,dx,_,_,rfl,hx,T.cl,T.a_levels,q_l _ _ _ _,q⟩
theorem xA:FnScope ["self"] ["self"] (au pZ):=‹2›
theorem vL {f:Addr}{fd:FuncData} (F:Fun K "asked_keys" "Question.asked_keys" pZ f fd) (N:Free mg):FnOk P w K mg base CX0 1 f fd ["self"] (mf K):=by
 refine F.ok (k:=0) xA (λvs H Q E h=>?_) (λcdv A outer s H vs Q E hr h=>?_)
 ·obtain⟨x,C,ln,tx,ks,d,rfl,_⟩:=h
  rfl
 ·obtain⟨x,C,ln,tx,ks,d,rfl,T,⟨⟨dx,r,hx,_⟩,hn⟩,q⟩:=h
  have hu:=aP hr
  refine⟨_,(aq (aB (aM im (by rfl) N.list PyProof.Rows.Boot.«list» (aa (bH (pv 0) rfl) ae)))),?_⟩
  exact⟨_,rfl,x,C,dx,_,_,rfl,hx,T.cl,T.a_names,q_n _ _ _ _,ln,_,rfl,.inl (SqL.of hn),λp np=>q p np⟩
noncomputable def ub (K:PySem.W.Frag):Sp:=λvs H Q _=>∃(x C dx:Addr) (z:Int),vs=[.ref x,.int z]/\LfI K C x dx (.num z) H Q
theorem zY:FnScope ["self", "number"] ["self", "number"] (au uL):=‹2›
theorem y0 {f f1:Addr}{fd:FuncData} (F:Fun K "__init__" "Number.__init__" uL f fd) (N:Free mg){fd1:FuncData}{CQ:Addr}{mc:Value} (CI:CMc P w K mg base "Question" "__init__" 2 ["self", "words", "keys", "depth"] (bS K) CQ f1 fd1 mc):FnOk P w K mg base CX0 3 f fd ["self", "number"] (ub K):=by
 refine F.ok (k:=2) zY (λvs H Q E h=>?_) (λcdv A outer s H vs Q E hr h=>?_)
 ·obtain⟨x,C,dx,z,rfl,_⟩:=h
  rfl
 ·obtain⟨x,C,dx,z,rfl,⟨T,hx,ok,q⟩⟩:=h
  have hu:=aP hr
  refine⟨_,(af (bo (dm rfl CI.nm CI.h1 CI.h2 CI.h3 rfl CI.ok (hr.mono (by decide)) CI.kp CI.bd .nil av (aa (pv 0) (aa (be (aa aR (aa (aM b9 (by rfl) N.str PyProof.Rows.Boot.«str» (aa (pv 1) ae)) ae))) (aa (be ae) (aa aj ae))))))
   (aq (bC (pv 0) (pv 1) rfl))),?_⟩
  have hz:=id ok
  refine ag (bn ⟨_,rfl,_,rfl,_,rfl,cq hz.1 hz.2,by show 2<=sizeLine;decide,λp1 np1=>?_⟩)
  obtain⟨g1,e1⟩:=laid (o:=.lst ((aX (.num z)).map V.str)) np1
  change cG _ _ _ (upd H p1 (.lst ((aX (.num z)).map V.str))) _
  generalize upd H p1 _=H1 at g1 e1 ⊢
  refine⟨by show 0<=sizeLine;decide,λp2 np2=>?_⟩
  obtain⟨g2,e2⟩:=laid (o:=.lst ((bT (.num z)).map V.str)) np2
  dsimp only [cG,tC,iT,List.append_nil,List.cons_append,List.nil_append]
  show bS K [.ref x,.ref p1,.ref p2,.int 0] (upd H1 p2 (.lst ((bT (.num z)).map V.str))) _ _
  refine lB (l:=.num z) T hx ok (g1.trans g2) (g2 _ _ e1) (SqL.of e2) λln H3 nl o3 el ex=>?_
  have nlx:ln≠x:=λz=>by rw [z,hx]at nl;cases nl
  refine⟨_,rfl,_,rfl,x,C,dx,_,rfl,ex,T.cl,T.a_number,(by show 3 < 1000;decide),?_⟩
  exact q ln _ nl (λb o e n=>by rw [ah n];exact o3 _ _ e n) (by rw [ah nlx];exact el) ai
noncomputable def u8 (K:PySem.W.Frag):Sp:=λvs H Q _=>∃(x C dx:Addr) (k:Str) (d:Int),vs=[.ref x,.str k,.int d]/\LfI K C x dx (.val k d) H Q
theorem zV:FnScope ["self", "key", "day"] ["self", "key", "day"] (au uI):=‹2›
theorem xX {f f1:Addr}{fd:FuncData} (F:Fun K "__init__" "Value.__init__" uI f fd) (N:Free mg){fd1:FuncData}{CQ:Addr}{mc:Value} (CI:CMc P w K mg base "Question" "__init__" 2 ["self", "words", "keys", "depth"] (bS K) CQ f1 fd1 mc):FnOk P w K mg base CX0 3 f fd ["self", "key", "day"] (u8 K):=by
 refine F.ok (k:=2) zV (λvs H Q E h=>?_) (λcdv A outer s H vs Q E hr h=>?_)
 ·obtain⟨x,C,dx,k,d,rfl,_⟩:=h
  rfl
 ·obtain⟨x,C,dx,k,d,rfl,⟨T,hx,ok,q⟩⟩:=h
  have hu:=aP hr
  refine⟨_,(af (bo (dm rfl CI.nm CI.h1 CI.h2 CI.h3 rfl CI.ok (hr.mono (by decide)) CI.kp CI.bd .nil av (aa (pv 0) (aa (be (aa aR (aa (pv 1) (aa (aM b9 (by rfl) N.str PyProof.Rows.Boot.«str» (aa (pv 2) ae)) ae)))) (aa (be (aa (pv 1) ae)) (aa aj ae))))))
   (af (bC (pv 0) (pv 1) rfl)
   (aq (bC (pv 0) (pv 2) rfl)))),?_⟩
  obtain⟨_,d0,d1⟩:=id ok
  refine ag (bn ⟨_,rfl,_,rfl,_,rfl,_,rfl,cq ‹1› ‹1›,by show 3<=sizeLine;decide,λp1 np1=>?_⟩)
  obtain⟨g1,e1⟩:=laid (o:=.lst ((aX (.val k d)).map V.str)) np1
  change cG _ _ _ (upd H p1 (.lst ((aX (.val k d)).map V.str))) _
  generalize upd H p1 _=H1 at g1 e1 ⊢
  refine⟨_,rfl,by show 1<=sizeLine;decide,λp2 np2=>?_⟩
  obtain⟨g2,e2⟩:=laid (o:=.lst ((bT (.val k d)).map V.str)) np2
  dsimp only [cG,tC,iT,List.append_nil,List.cons_append,List.nil_append]
  show bS K [.ref x,.ref p1,.ref p2,.int 0] (upd H1 p2 (.lst ((bT (.val k d)).map V.str))) _ _
  refine lB (l:=.val k d) T hx ok (g1.trans g2) (g2 _ _ e1) (SqL.of e2) λln H3 nl o3 el ex=>?_
  have nlx:ln≠x:=λz=>by rw [z,hx]at nl;cases nl
  refine ag ⟨_,rfl,_,rfl,x,C,dx,_,rfl,ex,T.cl,T.a_key,(by show 3 < 1000;decide),?_⟩
  refine⟨_,rfl,_,rfl,x,C,dx,_,rfl,ai,T.cl,T.a_day,(by show 4 < 1000;decide),?_⟩
  rw [bE]
  exact q ln _ nl (λb o e n=>by rw [ah n];exact o3 _ _ e n) (by rw [ah nlx];exact el) ai
noncomputable def md (K:PySem.W.Frag):Sp:=λvs H Q _=>∃(x C dx:Addr) (gw:Str) (lk:Addr) (f0:Int) (l0:Int) (ks:List Str),vs=[.ref x,.str gw,.ref lk,.int f0,.int l0]/\H lk=some (.lst (ks.map V.str))/\LfI K C x dx (.gth gw ks f0 l0) H Q
theorem zZ:FnScope ["self", "word", "keys", "first", "last"] ["self", "word", "keys", "first", "last"] (au uM):=‹2›
theorem y6 {f f1:Addr}{fd:FuncData} (F:Fun K "__init__" "Gathering.__init__" uM f fd) (N:Free mg){fd1:FuncData}{CQ:Addr}{mc:Value} (CI:CMc P w K mg base "Question" "__init__" 2 ["self", "words", "keys", "depth"] (bS K) CQ f1 fd1 mc):FnOk P w K mg base CX0 3 f fd ["self", "word", "keys", "first", "last"] (md K):=by
 refine F.ok (k:=2) zZ (λvs H Q E h=>?_) (λcdv A outer s H vs Q E hr h=>?_)
 ·obtain⟨x,C,dx,gw,lk,f0,l0,ks,rfl,_⟩:=h
  rfl
 ·obtain⟨x,C,dx,gw,lk,f0,l0,ks,rfl,hlk,⟨T,hx,ok,q⟩⟩:=h
  have hu:=aP hr
  refine⟨_,(af (bo (dm rfl CI.nm CI.h1 CI.h2 CI.h3 rfl CI.ok (hr.mono (by decide)) CI.kp CI.bd .nil av (aa (pv 0) (aa (be (aa (pv 1) (aa (dU PySem.F.plainAttrs_str PySem.F.slot_str_join PySem.F.type_str_join jg aR (aa (pv 2) ae)) (aa (aM b9 (by rfl) N.str PyProof.Rows.Boot.«str» (aa (pv 3) ae)) (aa (aM b9 (by rfl) N.str PyProof.Rows.Boot.«str» (aa (pv 4) ae)) ae))))) (aa (pv 2) (aa aj ae))))))
   (af (bC (pv 0) (pv 1) rfl)
   (af (bC (pv 0) (pv 3) rfl)
   (aq (bC (pv 0) (pv 4) rfl))))),?_⟩
  obtain⟨hg,⟨k1,k8,_,hk⟩,h1,h2,h3⟩:=id ok
  refine ag (bn ⟨_,rfl,_,rfl,rfl,_,rfl,_,lk,ks,rfl,rfl,hlk,?fit,_,rfl,_,rfl,cq ‹1› ‹1›,_,rfl,_,rfl,cq ‹1› ‹1›,by show 4<=sizeLine;decide,λp1 np1=>?_⟩)
  case fit=>
   have:=pp 8 ks λw hw=>(lv (hk w hw)).2.1
   rw [show ‹","›.length=1 from ‹0›]
   omega
  obtain⟨g1,e1⟩:=laid (o:=.lst ((aX (.gth gw ks f0 l0)).map V.str)) np1
  change cG _ _ _ (upd H p1 (.lst ((aX (.gth gw ks f0 l0)).map V.str))) _
  generalize upd H p1 _=H1 at g1 e1 ⊢
  refine⟨_,rfl,?_⟩
  dsimp only [cG,tC,iT,List.append_nil,List.cons_append,List.nil_append]
  show bS K [.ref x,.ref p1,.ref lk,.int 0] H1 _ _
  refine lB (l:=.gth gw ks f0 l0) T hx ok g1 e1 (SqL.of (g1 _ _ hlk)) λln H3 nl o3 el ex=>?_
  have nlx:ln≠x:=λz=>by rw [z,hx]at nl;cases nl
  refine ag ⟨_,rfl,_,rfl,x,C,dx,_,rfl,ex,T.cl,T.a_word,(by show 3 < 1000;decide),?_⟩
  refine ag ⟨_,rfl,_,rfl,x,C,dx,_,rfl,ai,T.cl,T.a_first,(by show 4 < 1000;decide),?_⟩
  refine⟨_,rfl,_,rfl,x,C,dx,_,rfl,ai,T.cl,T.a_last,(by show 5 < 1000;decide),?_⟩
  rw [bE,bE]
  exact q ln _ nl (λb o e n=>by rw [ah n];exact o3 _ _ e n) (by rw [ah nlx];exact el) ai
noncomputable def u9 (K:PySem.W.Frag):Sp:=λvs H Q _=>∃(x C dx:Addr) (k:Str) (b0:Int) (f0:Int) (l0:Int),vs=[.ref x,.str k,.int b0,.int f0,.int l0]/\LfI K C x dx (.snc k b0 f0 l0) H Q
theorem zW:FnScope ["self", "key", "bound", "first", "last"] ["self", "key", "bound", "first", "last"] (au uJ):=‹2›
theorem xY {f f1:Addr}{fd:FuncData} (F:Fun K "__init__" "Since.__init__" uJ f fd) (N:Free mg){fd1:FuncData}{CQ:Addr}{mc:Value} (CI:CMc P w K mg base "Question" "__init__" 2 ["self", "words", "keys", "depth"] (bS K) CQ f1 fd1 mc):FnOk P w K mg base CX0 3 f fd ["self", "key", "bound", "first", "last"] (u9 K):=by
 refine F.ok (k:=2) zW (λvs H Q E h=>?_) (λcdv A outer s H vs Q E hr h=>?_)
 ·obtain⟨x,C,dx,k,b0,f0,l0,rfl,_⟩:=h
  rfl
 ·obtain⟨x,C,dx,k,b0,f0,l0,rfl,⟨T,hx,ok,q⟩⟩:=h
  have hu:=aP hr
  refine⟨_,(af (bo (dm rfl CI.nm CI.h1 CI.h2 CI.h3 rfl CI.ok (hr.mono (by decide)) CI.kp CI.bd .nil av (aa (pv 0) (aa (be (aa aR (aa (pv 1) (aa (aM b9 (by rfl) N.str PyProof.Rows.Boot.«str» (aa (pv 2) ae)) (aa (aM b9 (by rfl) N.str PyProof.Rows.Boot.«str» (aa (pv 3) ae)) (aa (aM b9 (by rfl) N.str PyProof.Rows.Boot.«str» (aa (pv 4) ae)) ae)))))) (aa (be (aa (pv 1) ae)) (aa aj ae))))))
   (af (bC (pv 0) (pv 1) rfl)
   (af (bC (pv 0) (pv 2) rfl)
   (af (bC (pv 0) (pv 3) rfl)
   (aq (bC (pv 0) (pv 4) rfl)))))),?_⟩
  obtain⟨_,hb,h1,h2,h3⟩:=id ok
  refine ag (bn ⟨_,rfl,_,rfl,_,rfl,_,rfl,cq hb.1 hb.2,_,rfl,_,rfl,cq ‹1› ‹1›,_,rfl,_,rfl,cq ‹1› ‹1›,by show 5<=sizeLine;decide,λp1 np1=>?_⟩)
  obtain⟨g1,e1⟩:=laid (o:=.lst ((aX (.snc k b0 f0 l0)).map V.str)) np1
  change cG _ _ _ (upd H p1 (.lst ((aX (.snc k b0 f0 l0)).map V.str))) _
  generalize upd H p1 _=H1 at g1 e1 ⊢
  refine⟨_,rfl,by show 1<=sizeLine;decide,λp2 np2=>?_⟩
  obtain⟨g2,e2⟩:=laid (o:=.lst ((bT (.snc k b0 f0 l0)).map V.str)) np2
  dsimp only [cG,tC,iT,List.append_nil,List.cons_append,List.nil_append]
  show bS K [.ref x,.ref p1,.ref p2,.int 0] (upd H1 p2 (.lst ((bT (.snc k b0 f0 l0)).map V.str))) _ _
  refine lB (l:=.snc k b0 f0 l0) T hx ok (g1.trans g2) (g2 _ _ e1) (SqL.of e2) λln H3 nl o3 el ex=>?_
  have nlx:ln≠x:=λz=>by rw [z,hx]at nl;cases nl
  refine ag ⟨_,rfl,_,rfl,x,C,dx,_,rfl,ex,T.cl,T.a_key,(by show 3 < 1000;decide),?_⟩
  refine ag ⟨_,rfl,_,rfl,x,C,dx,_,rfl,ai,T.cl,T.a_bound,(by show 4 < 1000;decide),?_⟩
  refine ag ⟨_,rfl,_,rfl,x,C,dx,_,rfl,ai,T.cl,T.a_first,(by show 5 < 1000;decide),?_⟩
  refine⟨_,rfl,_,rfl,x,C,dx,_,rfl,ai,T.cl,T.a_last,(by show 6 < 1000;decide),?_⟩
  rw [bE,bE,bE]
  exact q ln _ nl (λb o e n=>by rw [ah n];exact o3 _ _ e n) (by rw [ah nlx];exact el) ai
noncomputable def ua (K:PySem.W.Frag):Sp:=λvs H Q _=>∃(x C dx:Addr) (k:Str) (k2:Str) (f0:Int) (l0:Int),vs=[.ref x,.str k,.str k2,.int f0,.int l0]/\LfI K C x dx (.prt k k2 f0 l0) H Q
theorem zX:FnScope ["self", "one", "other", "first", "last"] ["self", "one", "other", "first", "last"] (au uK):=‹2›
theorem xZ {f f1:Addr}{fd:FuncData} (F:Fun K "__init__" "Part.__init__" uK f fd) (N:Free mg){fd1:FuncData}{CQ:Addr}{mc:Value} (CI:CMc P w K mg base "Question" "__init__" 2 ["self", "words", "keys", "depth"] (bS K) CQ f1 fd1 mc):FnOk P w K mg base CX0 3 f fd ["self", "one", "other", "first", "last"] (ua K):=by
 refine F.ok (k:=2) zX (λvs H Q E h=>?_) (λcdv A outer s H vs Q E hr h=>?_)
 ·obtain⟨x,C,dx,k,k2,f0,l0,rfl,_⟩:=h
  rfl
 ·obtain⟨x,C,dx,k,k2,f0,l0,rfl,⟨T,hx,ok,q⟩⟩:=h
  have hu:=aP hr
  refine⟨_,(af (bo (dm rfl CI.nm CI.h1 CI.h2 CI.h3 rfl CI.ok (hr.mono (by decide)) CI.kp CI.bd .nil av (aa (pv 0) (aa (be (aa aR (aa (pv 1) (aa (pv 2) (aa (aM b9 (by rfl) N.str PyProof.Rows.Boot.«str» (aa (pv 3) ae)) (aa (aM b9 (by rfl) N.str PyProof.Rows.Boot.«str» (aa (pv 4) ae)) ae)))))) (aa (be (aa (pv 1) (aa (pv 2) ae))) (aa aj ae))))))
   (af (bC (pv 0) (pv 1) rfl)
   (af (bC (pv 0) (pv 2) rfl)
   (af (bC (pv 0) (pv 3) rfl)
   (aq (bC (pv 0) (pv 4) rfl)))))),?_⟩
  obtain⟨_,_,h1,h2,h3⟩:=id ok
  refine ag (bn ⟨_,rfl,_,rfl,_,rfl,_,rfl,_,rfl,cq ‹1› ‹1›,_,rfl,_,rfl,cq ‹1› ‹1›,by show 5<=sizeLine;decide,λp1 np1=>?_⟩)
  obtain⟨g1,e1⟩:=laid (o:=.lst ((aX (.prt k k2 f0 l0)).map V.str)) np1
  change cG _ _ _ (upd H p1 (.lst ((aX (.prt k k2 f0 l0)).map V.str))) _
  generalize upd H p1 _=H1 at g1 e1 ⊢
  refine⟨_,rfl,_,rfl,by show 2<=sizeLine;decide,λp2 np2=>?_⟩
  obtain⟨g2,e2⟩:=laid (o:=.lst ((bT (.prt k k2 f0 l0)).map V.str)) np2
  dsimp only [cG,tC,iT,List.append_nil,List.cons_append,List.nil_append]
  show bS K [.ref x,.ref p1,.ref p2,.int 0] (upd H1 p2 (.lst ((bT (.prt k k2 f0 l0)).map V.str))) _ _
  refine lB (l:=.prt k k2 f0 l0) T hx ok (g1.trans g2) (g2 _ _ e1) (SqL.of e2) λln H3 nl o3 el ex=>?_
  have nlx:ln≠x:=λz=>by rw [z,hx]at nl;cases nl
  refine ag ⟨_,rfl,_,rfl,x,C,dx,_,rfl,ex,T.cl,T.a_one,(by show 3 < 1000;decide),?_⟩
  refine ag ⟨_,rfl,_,rfl,x,C,dx,_,rfl,ai,T.cl,T.a_other,(by show 4 < 1000;decide),?_⟩
  refine ag ⟨_,rfl,_,rfl,x,C,dx,_,rfl,ai,T.cl,T.a_first,(by show 5 < 1000;decide),?_⟩
  refine⟨_,rfl,_,rfl,x,C,dx,_,rfl,ai,T.cl,T.a_last,(by show 6 < 1000;decide),?_⟩
  rw [bE,bE,bE]
  exact q ln _ nl (λb o e n=>by rw [ah n];exact o3 _ _ e n) (by rw [ah nlx];exact el) ai
noncomputable def uc (K:PySem.W.Frag):Sp:=λvs H Q _=>∃(x C dx:Addr) (r0:Int) (k:Str) (f0:Int) (l0:Int),vs=[.ref x,.int r0,.str k,.int f0,.int l0]/\LfI K C x dx (.chg r0 k f0 l0) H Q
theorem A0:FnScope ["self", "rank", "key", "first", "last"] ["self", "rank", "key", "first", "last"] (au uN):=‹2›
theorem y8 {f f1:Addr}{fd:FuncData} (F:Fun K "__init__" "Change.__init__" uN f fd) (N:Free mg){fd1:FuncData}{CQ:Addr}{mc:Value} (CI:CMc P w K mg base "Question" "__init__" 2 ["self", "words", "keys", "depth"] (bS K) CQ f1 fd1 mc):FnOk P w K mg base CX0 3 f fd ["self", "rank", "key", "first", "last"] (uc K):=by
 refine F.ok (k:=2) A0 (λvs H Q E h=>?_) (λcdv A outer s H vs Q E hr h=>?_)
 ·obtain⟨x,C,dx,r0,k,f0,l0,rfl,_⟩:=h
  rfl
 ·obtain⟨x,C,dx,r0,k,f0,l0,rfl,⟨T,hx,ok,q⟩⟩:=h
  have hu:=aP hr
  refine⟨_,(af (bo (dm rfl CI.nm CI.h1 CI.h2 CI.h3 rfl CI.ok (hr.mono (by decide)) CI.kp CI.bd .nil av (aa (pv 0) (aa (be (aa aR (aa (aM b9 (by rfl) N.str PyProof.Rows.Boot.«str» (aa (pv 1) ae)) (aa (pv 2) (aa (aM b9 (by rfl) N.str PyProof.Rows.Boot.«str» (aa (pv 3) ae)) (aa (aM b9 (by rfl) N.str PyProof.Rows.Boot.«str» (aa (pv 4) ae)) ae)))))) (aa (be (aa (pv 2) ae)) (aa aj ae))))))
   (af (bC (pv 0) (pv 1) rfl)
   (af (bC (pv 0) (pv 2) rfl)
   (af (bC (pv 0) (pv 3) rfl)
   (aq (bC (pv 0) (pv 4) rfl)))))),?_⟩
  obtain⟨⟨r1,r2⟩,_,h1,h2,h3⟩:=id ok
  refine ag (bn ⟨_,rfl,_,rfl,_,rfl,cq ‹1› ‹1›,_,rfl,_,rfl,_,rfl,cq ‹1› ‹1›,_,rfl,_,rfl,cq ‹1› ‹1›,by show 5<=sizeLine;decide,λp1 np1=>?_⟩)
  obtain⟨g1,e1⟩:=laid (o:=.lst ((aX (.chg r0 k f0 l0)).map V.str)) np1
  change cG _ _ _ (upd H p1 (.lst ((aX (.chg r0 k f0 l0)).map V.str))) _
  generalize upd H p1 _=H1 at g1 e1 ⊢
  refine⟨_,rfl,by show 1<=sizeLine;decide,λp2 np2=>?_⟩
  obtain⟨g2,e2⟩:=laid (o:=.lst ((bT (.chg r0 k f0 l0)).map V.str)) np2
  dsimp only [cG,tC,iT,List.append_nil,List.cons_append,List.nil_append]
  show bS K [.ref x,.ref p1,.ref p2,.int 0] (upd H1 p2 (.lst ((bT (.chg r0 k f0 l0)).map V.str))) _ _
  refine lB (l:=.chg r0 k f0 l0) T hx ok (g1.trans g2) (g2 _ _ e1) (SqL.of e2) λln H3 nl o3 el ex=>?_
  have nlx:ln≠x:=λz=>by rw [z,hx]at nl;cases nl
  refine ag ⟨_,rfl,_,rfl,x,C,dx,_,rfl,ex,T.cl,T.a_rank,(by show 3 < 1000;decide),?_⟩
  refine ag ⟨_,rfl,_,rfl,x,C,dx,_,rfl,ai,T.cl,T.a_key,(by show 4 < 1000;decide),?_⟩
  refine ag ⟨_,rfl,_,rfl,x,C,dx,_,rfl,ai,T.cl,T.a_first,(by show 5 < 1000;decide),?_⟩
  refine⟨_,rfl,_,rfl,x,C,dx,_,rfl,ai,T.cl,T.a_last,(by show 6 < 1000;decide),?_⟩
  rw [bE,bE,bE]
  exact q ln _ nl (λb o e n=>by rw [ah n];exact o3 _ _ e n) (by rw [ah nlx];exact el) ai
noncomputable abbrev pV:Stmt:=aQ (top 24) 0
noncomputable abbrev pT:Stmt:=aQ (top 25) 0
noncomputable abbrev pU:Stmt:=aQ (top 26) 0
structure Cs where
 num:Addr
 val:Addr
 gth:Addr
 snc:Addr
 prt:Addr
 chg:Addr
 rck:Addr
 chc:Addr
noncomputable def Cs.all (c:Cs):List Addr:=[c.num,c.val,c.gth,c.snc,c.prt,c.chg,c.rck,c.chc]
noncomputable def lfC (c:Cs):Lf->Addr
 | .num _=>c.num
 | .val _ _=>c.val
 | .gth _ _ _ _=>c.gth
 | .snc _ _ _ _=>c.snc
 | .prt _ _ _ _=>c.prt
 | .chg _ _ _ _=>c.chg
noncomputable def brC (c:Cs) (w:Str):Addr:=if w∈eZ then c.rck else c.chc
theorem eV (c:Cs) (l:Lf):lfC c l∈c.all:=by
 cases l <;> simp [lfC,Cs.all]
theorem qG (c:Cs) (w:Str):brC c w∈c.all:=by
 unfold brC
 split <;> simp [Cs.all]
inductive LfX (c:Cs) (l:Lf) (H:Hp) (x:Addr):Prop
 | mk (dx ln:Addr) (h1:H x=some (.ins (lfC c l) dx (mN l ln))) (h2:H ln=some (.lst ((bD (bT l)).map V.str))):LfX c l H x
noncomputable def yA (n:Nat) (w:Str) (xs:List Nd) (ln li:Addr):List (Str × V):=qf3 (jn (aY (n+1) (.brk w xs))) ln (dI (n+1) (.brk w xs))++([("word", V.str w),("inner", V.ref li)]:List (Str × V))
inductive BrX (c:Cs) (n:Nat) (w:Str) (xs:List Nd) (F:Addr->Nd->Prop) (H:Hp) (x:Addr):Prop
 | mk (dx ln li:Addr) (as:List Addr) (h1:H x=some (.ins (brC c w) dx (yA n w xs ln li))) (h2:H ln=some (.lst ((bD (dF (n+1) (.brk w xs))).map V.str))) (h3:H li=some (.lst (as.map V.ref))) (h4:Paired F as xs):BrX c n w xs F H x
noncomputable def cr (c:Cs):Nat->Nd->Hp->Addr->Prop
 | 0,.leaf l,H,x=>LfX c l H x
 | 0,.brk _ _,_,_=>False
 | _+1,.leaf l,H,x=>LfX c l H x
 | n+1,.brk w xs,H,x=>BrX c n w xs (λa q=>cr c n q H a) H x
theorem mF {c:Cs}{n:Nat}{l:Lf}{H:Hp}{x:Addr}:cr c n (.leaf l) H x↔LfX c l H x:=by cases n <;> exact Iff.rfl
def Kq (c:Cs) (H H':Hp):Prop:=(∀b C dx fs,H b=some (.ins C dx fs)->C∈c.all->H' b=some (.ins C dx fs))/\∀b xs,H b=some (.lst xs)->(∀v∈xs,v=.non\/(∃z,v=.str z)\/∃a,v=.ref a)->H' b=some (.lst xs)
theorem LfX.keep {c:Cs}{l:Lf}{H H':Hp}{x:Addr} (h:LfX c l H x) (g:Kq c H H'):LfX c l H' x:=by
 obtain⟨dx,ln,h1,h2⟩:=h
 refine⟨dx,ln,g.1 _ _ _ _ h1 (eV c l),g.2 _ _ h2 λv hv=>?_⟩
 obtain⟨z,_,rfl⟩:=List.mem_map.mp hv
 exact .inr (.inl ⟨z,rfl⟩)
theorem cr.keep {c:Cs}{H H':Hp} (g:Kq c H H'):∀{n:Nat}{nd:Nd}{x:Addr},cr c n nd H x->cr c n nd H' x
 | 0,.leaf l,x,h=>LfX.keep (show LfX c l H x from h) g
 | 0,.brk _ _,_,h=>(show False from h).elim
 | _+1,.leaf l,x,h=>LfX.keep (show LfX c l H x from h) g
 | n+1,.brk w xs,x,h=>by
  obtain⟨dx,ln,li,as,h1,h2,h3,h4⟩:BrX c n w xs (λa q=>cr c n q H a) H x:=h
  refine BrX.mk dx ln li as (g.1 _ _ _ _ h1 (qG c w)) (g.2 _ _ h2 λv hv=>?_) (g.2 _ _ h3 λv hv=>?_) (Paired.mono (λa q h=>cr.keep g h) h4)
  ·obtain⟨z,_,rfl⟩:=List.mem_map.mp hv
   exact .inr (.inl ⟨z,rfl⟩)
  ·obtain⟨z,_,rfl⟩:=List.mem_map.mp hv
   exact .inr (.inr ⟨z,rfl⟩)
theorem Kq.grow {c:Cs}{H H':Hp} (g:aZ H H'):Kq c H H':=⟨λ_ _ _ _ e _=>g _ _ e,λ_ _ e _=>g _ _ e⟩
theorem wK (n:Nat) (w:Str) (xs:List Nd) (ln li:Addr):∀p∈yA n w xs ln li,p.1∈cS:=by
 have key:∀{fs:List (Str × V)}{ks:List Str},fs.map (·.1)=ks->(∀k∈ks,k∈cS)->∀p∈fs,p.1∈cS:=λe h p hp=>h _ (by rw [<- e];exact List.mem_map_of_mem hp)
 exact key (ks:=[‹"written"›, ‹"names"›, ‹"levels"›, ‹"word"›, ‹"inner"›]) rfl ‹0›
theorem cr.at {c:Cs}{H:Hp}{n:Nat}{nd:Nd}{x:Addr} (h:cr c n nd H x):∃C ln,C∈c.all/\QAt H x C ln (jn (aY n nd)) (bD (dF n nd)) (dI n nd):=by
 cases nd with
 | leaf l=>
  obtain⟨dx,ln,h1,h2⟩:=mF.mp h
  rw [gG,yk,yv]
  exact⟨_,ln,eV c l,⟨dx,vS l,h1,oy l ln⟩,h2⟩
 | brk w xs=>
  cases n with
  | zero=>exact(show False from h).elim
  | succ n=>
   obtain⟨dx,ln,li,as,h1,h2,h3,h4⟩:BrX c n w xs (λa q=>cr c n q H a) H x:=h
   exact⟨_,ln,qG c w,⟨dx,_,h1,wK n w xs ln li⟩,h2⟩
theorem QAt.ob' {H:Hp}{x C ln:Addr}{tx:Str}{ks:List Str}{d:Int} (h:QAt H x C ln tx ks d){m:Str} (hm:m∉cS):∃dx fs,H x=some (.ins C dx fs)/\fs.lookup m=none:=by
 obtain⟨dx,r,e,k⟩:=h.ob
 exact⟨dx,_,e,Ai hm k⟩
theorem gy {α β:Type}{F:α->β->Prop}:∀{xs:List α}{ys:List β}{i:Nat}{x:α},Paired F xs ys->xs[i]?=some x->∃y,ys[i]?=some y/\F x y
 | _,_,0,_,.cons a _,h=>by
  cases h
  exact⟨_,rfl,a⟩
 | _,_,i+1,_,.cons _ t,h=>gy (i:=i) t h
 | _,_,0,_,.nil,h=>nomatch h
 | _,_,_+1,_,.nil,h=>nomatch h
theorem dD {α β:Type}{F:α->β->Prop}:∀{xs:List α}{ys:List β},Paired F xs ys->xs.length=ys.length
 | _,_,.nil=>rfl
 | _,_,.cons _ t=>by rw [List.length_cons,List.length_cons,dD t]
theorem lX:∀(ns:List Int) (a:Int),a<=ns.foldl (λa b=>if b > a then b else a) a/\∀x∈ns,x<=ns.foldl (λa b=>if b > a then b else a) a
 | [],a=>⟨Int.le_refl _,λ_ h=>nomatch h⟩
 | n::ns,a=>by
  obtain⟨h1,h2⟩:=lX ns (if n > a then n else a)
  have hn:a<=(if n > a then n else a)/\n<=(if n > a then n else a):=by
   split <;> omega
  refine⟨Int.le_trans hn.1 h1,λx hx=>?_⟩
  rcases List.mem_cons.mp hx with z | hx
  ·rw [z];exact Int.le_trans hn.2 h1
  ·exact h2 x hx
theorem qN:∀(ns:List Int) (a m:Int),a<=m->(∀x∈ns,x<=m)->ns.foldl (λa b=>if b > a then b else a) a<=m
 | [],a,m,h,_=>h
 | n::ns,a,m,h,hn=>qN ns _ m (by have:=hn n List.mem_cons_self;show (if n > a then n else a)<=m;split <;> omega) λx hx=>hn x (List.mem_cons_of_mem _ hx)
theorem zH {ns:List Int}{M:Int} (h0:0<=M) (h1:M∈ns) (h2:∀x∈ns,x<=M):M=wX ns:=
 Int.le_antisymm ((lX ns 0).2 M h1) (qN ns 0 M h0 h2)
theorem wx:∀(n:Nat) (nd:Nd),0<=dI n nd
 | 0,_=>Int.le_refl _
 | _+1,.leaf _=>Int.le_refl _
 | n+1,.brk _ xs=>by
  have:=(lX (xs.map (dI n)) 0).1
  show 0<=1+wX (xs.map (dI n))
  unfold wX
  omega
theorem qE {K:W.Frag}{la:Addr}{xs ys0:List V}{sub:List Nat}{te:TE}{σ:St}{Q:VK}{H:Hp} (hn:xs.length < 1000) (hl:ys0.length=xs.length) (ha:H la=some (.lst xs)) (hte:∀(i:Nat) (x y:V) (H2:Hp) (R:VK),xs[i]?=some x->ys0[i]?=some y->aZ H H2->R y H2->te (some x::bP sub σ) H2 R)
  (hq:∀(D:Addr),H D=none->Q (.ref D) (upd H D (.lst ys0))):fL (Itl K la) sub (λ_ H Q=>Q true H) te σ Q H:=by
 intro D nD
 have nl:la≠D:=ao ha nD
 refine eK (K:=K) (a:=la) (xs:=xs) (sub:=sub) (tt:=λ_ H Q=>Q true H) (te:=te) (Q:=Q) (σ:=σ) (λi ys H2=>ys=ys0.take i/\H2=upd H D (.lst ys)) ⟨by rw [List.take_zero],rfl⟩ (λi ys H2 _ hh=>?_) (λi x ys H2 hi hh=>?_) λys H2 hh=>?_
 ·obtain⟨_,rfl⟩:=hh
  exact SqL.of (by rw [ah nl];exact ha)
 ·obtain⟨rfl,rfl⟩:=hh
  have hil:=(List.getElem?_eq_some_iff.mp hi).1
  have hy:ys0[i]?=some ys0[i]:=List.getElem?_eq_getElem ‹1›
  refine bJ (hte i x _ _ _ hi hy (laid nD).1 ⟨ai,?_,?_,bE⟩)
  ·rw [List.length_take];exact bu ‹1›
  ·rw [List.take_add_one,hy];rfl
 ·obtain⟨rfl,rfl⟩:=hh
  rw [<- hl,List.take_length]
  exact hq D nD
theorem tN {n:Nat}{nd:Nd} (h:iq n nd) (h3:n<=2):(jn (aY n nd)).length<=15000:=by
 have:=vX (ws:=aY n nd) (m:=79) λw hw=>(js h w hw).len
 have hl:=ir h
 have hW:Wn n<=125:=by
  rcases (show n=0\/n=1\/n=2 by omega) with rfl | rfl | rfl <;> decide
 omega
theorem jY {α:Type}{f g:α->List Nat}:∀{xs:List α},(∀x∈xs,f x=g x)->xs.flatMap f=xs.flatMap g
 | [],_=>rfl
 | x::xs,h=>by rw [List.flatMap_cons,List.flatMap_cons,h x List.mem_cons_self,jY λy hy=>h y (List.mem_cons_of_mem _ hy)]
noncomputable def brP (n:Nat) (w:Str) (xs:List Nd):List Str:=w::xs.flatMap λq=>[opS,jn (aY n q),clS]
theorem B3 {n:Nat}{w:Str}{xs:List Nd} (h:∀q∈xs,iq n q):jn (brP n w xs)=jn (aY (n+1) (.brk w xs)):=by
 refine BJ (by unfold brP;simp) (by unfold aY;simp) ?_
 show fl 32 (w::xs.flatMap λq=>[opS,jn (aY n q),clS])=fl 32 (w::xs.flatMap λc=>opS::(aY n c++[clS]))
 rw [eX,eX,mU,mU]
 congr 1
 refine jY λq hq=>?_
 show fl 32 ([opS]++[jn (aY n q)]++[clS])=fl 32 ([opS]++aY n q++[clS])
 rw [jZ,jZ,jZ,jZ,BV (nn n (h q hq))]
inductive BrI (H:Hp) (x:Addr) (w:Str) (li lw lk:Addr) (n:Nat) (xs:List Nd) (i:Nat) (σ:St) (H2:Hp):Prop
 | mk (v5:Option V) (h1:σ=[some (.ref x),some (.str w),some (.ref li),some (.ref lw),some (.ref lk),v5]) (h2:aZ H H2) (h3:H2 lw=some (.lst ((brP n w (xs.take i)).map V.str))) (h4:H2 lk=some (.lst (((xs.take i).flatMap λq=>bD (dF n q)).map V.str))):BrI H x w li lw lk n xs i σ H2
noncomputable def ma (K:PySem.W.Frag) (c:Cs):Sp:=λvs H Q _=>∃(x C dx li:Addr) (w:Str) (n:Nat) (as:List Addr) (xs:List Nd),vs=[.ref x,.str w,.ref li]/\QuC K C/\H x=some (.ins C dx [])/\H li=some (.lst (as.map V.ref))/\Paired (λa q=>cr c n q H a) as xs/\iq (n+1) (.brk w xs)/\n<=2/\
 ∀(ln lj:Addr) (H':Hp),H ln=none->H lj=none->Ofr x H H'->H' ln=some (.lst ((bD (dF (n+1) (.brk w xs))).map V.str))->H' lj=some (.lst (as.map V.ref))->H' x=some (.ins C dx (yA n w xs ln lj))->Q .non H'
theorem bN {H H':Hp} (g:aZ H H'){a:Addr} (h:H' a=none):H a=none:=by
 cases e:H a with
 | none=>rfl
 | some o=>rw [g _ _ e]at h;cases h
theorem j9:FnScope ["self", "word", "inner", "words", "keys", "question"] ["self", "word", "inner"] (au pV):=‹2›
theorem vI {c:Cs}{f f1:Addr}{fd:FuncData} (F:Fun K "__init__" "Bracketed.__init__" pV f fd) (N:Free mg){fd1:FuncData}{CQ:Addr}{mc:Value} (CI:CMc P w K mg base "Question" "__init__" 2 ["self", "words", "keys", "depth"] (bS K) CQ f1 fd1 mc) (VQ:∀C∈c.all,QuC K C) (VT:∀C∈c.all,MV P w K mg base CX0 "text" 1 ["self"] (pq K) C) (VA:∀C∈c.all,MV P w K mg base CX0 "asked_keys" 1 ["self"] (mf K) C) (VD:∀C∈c.all,MV P w K mg base CX0 "depth" 1 ["self"] (jz K) C):FnOk P w K mg base CX0 3 f fd ["self", "word", "inner"] (ma K c):=by
 refine F.ok (k:=2) j9 (λvs H Q E h=>?_) (λcdv A outer s H vs Q E hr h=>?_)
 ·obtain⟨x,C,dx,li,w,n,as,xs,rfl,_⟩:=h
  rfl
 ·obtain⟨x,C,dx,li,w,n,as,xs,rfl,T,hx,hli,hp,ok,h2,q⟩:=h
  have hu:=aP hr
  refine⟨_,(af (aA (i:=3) j9.nd rfl (Or.inl rfl) (be (aa (pv 1) ae)))
   (af (aA (i:=4) j9.nd rfl (Or.inl rfl) (be ae))
   (af (ed PassesOwn.never rfl (dR (pv 2)) (aI (i:=5) j9.nd rfl (Or.inl rfl))
   (af (bo (dU PySem.F.plainAttrs_list PySem.F.slot_list_extend PySem.F.type_list_extend ly (pv 3) (aa (be (aa aR (aa (iA VT (pv 5) (hr.mono (by decide)) av) (aa aR ae)))) ae)))
   (aq (bo (dU PySem.F.plainAttrs_list PySem.F.slot_list_extend PySem.F.type_list_extend ly (pv 4) (aa (iA VA (pv 5) (hr.mono (by decide)) av) ae))))))
   (af (bo (dm rfl CI.nm CI.h1 CI.h2 CI.h3 rfl CI.ok (hr.mono (by decide)) CI.kp CI.bd .nil av (aa (pv 0) (aa (pv 3) (aa (pv 4) (aa (aH bw aj (aE (lL rfl) (by rfl) N.max PyProof.Rows.Boot.«max» (aa (dS (bh rfl (dR (pv 2)) rfl rfl (by show ∀p∈_,eN [] p;decide) (by decide) rfl (by show ([‹"question"›]:List Str).Nodup;decide) .nil (λC fp s H=>cp) (λC fp s H=>(iA VD (pv 0) (hr.mono (by decide)) av)))) ae))) ae))))))
   (af (bC (pv 0) (pv 1) rfl)
   (aq (bC (pv 0) (aM im (by rfl) N.list PyProof.Rows.Boot.«list» (aa (pv 2) ae)) rfl))))))),?_⟩
  obtain⟨hw,hxs⟩:_/\_:=ok
  have hl4:=jq hw
  have hal:=dD hp
  refine ag (aw ⟨_,rfl,by show 1<=sizeLine;decide,λlw nlw=>?_⟩)
  walk_at "d"
  obtain⟨g1,e1⟩:=laid (o:=.lst [V.str w]) nlw
  generalize upd H lw _=H1 at g1 e1 ⊢
  refine ag (aw ⟨by show 0<=sizeLine;decide,λlk nlk=>?_⟩)
  walk_at "d"
  have nwk:lw≠lk:=ao e1 nlk
  have nlk0:=bN g1 nlk
  obtain⟨g2,e2⟩:=laid (o:=.lst []) nlk
  have e1:=g2 _ _ e1
  have g12:=g1.trans g2
  generalize upd H1 lk _=H2 at g12 e1 e2 ⊢
  refine ag ⟨_,rfl,li,rfl,⟨_,SqL.of (g12 _ _ hli)⟩,oH (K:=K) (a:=li) (xs:=as.map V.ref) (BrI H x w li lw lk n xs) ⟨none,rfl,g12,e1,e2⟩ (λi σ H3 _ hh=>?_) (λi v σ H3 hi hh=>?_) λσ H3 hh=>?_⟩
  ·obtain⟨v5,rfl,g3,_,_⟩:=hh
   exact SqL.of (g3 _ _ hli)
  ·obtain⟨v5,rfl,g3,ew,ek⟩:=hh
   rw [List.getElem?_map]at hi
   obtain⟨a,ha,rfl⟩:=Option.map_eq_some_iff.mp hi
   obtain⟨q0,hq0,hqa⟩:=gy hp ha
   have hqx:=List.mem_of_getElem? hq0
   have hil:=(List.getElem?_eq_some_iff.mp hq0).1
   have et:xs.take (i+1)=xs.take i++[q0]:=by rw [List.take_add_one,hq0];rfl
   walk_at "d"
   obtain⟨C1,ln1,hC1,qa⟩:=(cr.keep (Kq.grow g3) hqa).at
   obtain⟨dx1,fs1,ex1,ef1⟩:=qa.ob' (m:="text") ‹0›
   refine ag (bn ⟨_,rfl,.inl ⟨rfl,_,SqL.of ew⟩,?_⟩)
   refine⟨_,rfl,a,C1,dx1,fs1,rfl,ex1,hC1,ef1,a,C1,ln1,_,_,_,rfl,VQ C1 hC1,qa,by show 3<=sizeLine;decide,λp np=>?_⟩
   obtain⟨g4,e4⟩:=laid (o:=.lst [V.str opS,V.str (jn (aY n q0)),V.str clS]) np
   have npw:lw≠p:=ao ew np
   have npk:lk≠p:=ao ek np
   have ew4:=g4 _ _ ew
   have ek4:=g4 _ _ ek
   have g34:=g3.trans g4
   have hbl:(brP n w (xs.take i)).length<=100:=by
    have h5:=dG (g:=λq=>[opS,jn (aY n q),clS]) (m:=3) (xs.take i) (λ_ _=>Nat.le_refl _)
    rw [List.length_take]at h5
    show (w::_).length<=100
    rw [List.length_cons]
    omega
   refine⟨lw,p,_,_,rfl,rfl,ew4,e4,?_,?_⟩
   ·rw [List.length_map]
    have h3:(brP n w (xs.take i)).length+3<=1000:=by omega
    exact Nat.le_of_lt (bu h3)
   have qa5:=(cr.keep (Kq.grow (g3.trans g4)) hqa).at
   generalize hH5:upd (upd H3 p _) lw _=H5
   have gw:∀b o,H b=some o->H5 b=some o:=λb o e=>by
    rw [<- hH5,ah (ao e nlw)];exact g34 _ _ e
   have ew5:H5 lw=some (.lst ((brP n w (xs.take (i+1))).map V.str)):=by
    rw [<- hH5,ai,et]
    show some (HO.lst ((w::(xs.take i).flatMap _).map V.str++_))=some (HO.lst ((w::(xs.take i++[q0]).flatMap _).map V.str))
    rw [List.flatMap_append,List.map_cons,List.map_cons,List.map_append,List.flatMap_cons,List.flatMap_nil,List.append_nil]
    rfl
   have ek5:H5 lk=some (.lst (((xs.take i).flatMap λq=>bD (dF n q)).map V.str)):=by rw [<- hH5,ah (Ne.symm nwk)];exact ek4
   obtain⟨C1,ln1,hC1,qa⟩:=(cr.keep (Kq.grow gw) hqa).at
   obtain⟨dx1,fs1,ex1,ef1⟩:=qa.ob' (m:="asked_keys") ‹0›
   dsimp only
   refine bn ⟨_,rfl,.inl ⟨rfl,_,SqL.of ek5⟩,?_⟩
   refine⟨_,rfl,a,C1,dx1,fs1,rfl,ex1,hC1,ef1,a,C1,ln1,_,_,_,rfl,VQ C1 hC1,qa,λp2 np2=>?_⟩
   obtain⟨g6,e6⟩:=laid (o:=.lst ((bD (dF n q0)).map V.str)) np2
   have hkn:=Nat.le_trans (hZ (hxs q0 hqx)) (C5 (show n<=3 by omega))
   have ho:(bD (dF n q0)).length<=512:=Nat.le_trans (fB _ _ rfl) hkn
   have hks:=dG (g:=λq=>bD (dF n q)) (m:=128) (xs.take i) λq hq=>by
    have:=hZ (hxs q (List.mem_of_mem_take hq))
    have h8:Kn n<=128:=by rcases (show n=0\/n=1\/n=2 by omega) with rfl | rfl | rfl <;> decide
    exact Nat.le_trans (fB _ _ rfl) ‹1›
   rw [List.length_take]at hks
   refine⟨lk,p2,_,_,rfl,rfl,g6 _ _ ek5,e6,?_,?_⟩
   ·rw [List.length_map,List.length_map]
    exact Nat.le_trans (show _<=2000 by omega) (by decide)
   refine⟨_,rfl,λb o e=>?_,?_,?_⟩
   ·rw [ah (ao e nlk0)];exact g6 _ _ (gw _ _ e)
   ·rw [ah nwk];exact g6 _ _ ew5
   ·rw [ai,et,List.flatMap_append,List.map_append,List.flatMap_cons,List.flatMap_nil,List.append_nil]
  ·obtain⟨v5,rfl,g3,ew,ek⟩:=hh
   rw [List.length_map,hal,List.take_length]at ew ek
   walk_at "d"
   have hli3:=g3 _ _ hli
   refine ag (bn ⟨_,rfl,_,rfl,_,rfl,bZ (yX ?_)⟩)
   dsimp only [tC]
   refine r6 (bZ (bQ ⟨_,rfl,li,rfl,⟨_,SqL.of hli3⟩,qE (ys0:=(xs.map (dI n)).map V.int) (by rw [List.length_map];omega) (by rw [List.length_map,List.length_map,List.length_map];omega) hli3 (λi v y H4 R hi hy g4 hR=>?_) λD nD=>?_⟩))
   ·rw [List.getElem?_map]at hi
    obtain⟨a,ha,rfl⟩:=Option.map_eq_some_iff.mp hi
    obtain⟨q0,hq0,hqa⟩:=gy hp ha
    rw [List.getElem?_map,List.getElem?_map,hq0]at hy
    cases (show some (V.int (dI n q0))=some y from hy)
    obtain⟨C1,ln1,hC1,qa⟩:=(cr.keep (Kq.grow (g3.trans g4)) hqa).at
    obtain⟨dx1,fs1,ex1,ef1⟩:=qa.ob' (m:="depth") ‹0›
    exact⟨_,rfl,a,C1,dx1,fs1,rfl,ex1,hC1,ef1,a,C1,ln1,_,_,_,rfl,VQ C1 hC1,qa,hR⟩
   obtain⟨g4,e4⟩:=laid (o:=.lst ((xs.map (dI n)).map V.int)) nD
   generalize upd H3 D _=H4 at g4 e4 ⊢
   refine⟨D,_,rfl,SqL.of e4,λz=>?_,λM hM1 hM2=>?_⟩
   ·rw [List.map_eq_nil_iff]at z
    rw [z]at hl4
    exact absurd hl4.1 (by decide)
   have hM0:0<=M:=by
    obtain⟨q0,_,e⟩:=List.mem_map.mp hM1
    rw [<- e];exact wx n q0
   have eM:=zH hM0 hM1 hM2
   refine⟨_,_,rfl,rfl,?_⟩
   dsimp only [cG,tC,iT,List.append_nil,List.cons_append,List.nil_append]
   have eD:1+M=dI (n+1) (.brk w xs):=by rw [eM];rfl
   rw [eD]
   have gH4:=g3.trans g4
   have hkl:=dG (g:=λq=>bD (dF n q)) (m:=128) xs λq hq=>by
    have:=hZ (hxs q hq)
    have h8:Kn n<=128:=by rcases (show n=0\/n=1\/n=2 by omega) with rfl | rfl | rfl <;> decide
    exact Nat.le_trans (fB _ _ rfl) ‹1›
   have hbl:=dG (g:=λq=>[opS,jn (aY n q),clS]) (m:=3) xs (λ_ _=>Nat.le_refl _)
   refine⟨x,C,dx,lw,lk,[],brP n w xs,xs.flatMap λq=>bD (dF n q),_,rfl,T,gH4 _ _ hx,by decide,g4 _ _ ew,SqL.of (g4 _ _ ek),by omega,mP (λv hv=>?_) ?_,λln H5 nl o5 el ex=>?_⟩
   ·rcases List.mem_cons.mp hv with z | hv
    ·rw [z];exact Nat.le_trans (wJ hw).hi (by decide)
    ·obtain⟨q0,hq0,hv⟩:=List.mem_flatMap.mp hv
     refine(all_cons (P:=λv=>v.length<=15000) ‹0› (all_cons (tN (hxs q0 hq0) h2) (all_cons ‹0› eY))) v hv
   ·show (w::_).length<=1000
    rw [List.length_cons];omega
   have ej:=B3 (w:=w) hxs
   unfold jn at ej
   rw [ej]at ex
   rw [sG]at el
   have nl0:=bN gH4 nl
   have nlx:ln≠x:=λz=>by rw [z,hx]at nl0;cases nl0
   refine ag ⟨_,rfl,_,rfl,x,C,dx,_,rfl,ex,T.cl,T.a_word,(by show 3 < 1000;decide),?_⟩
   have hli5:=o5 _ _ (g4 _ _ hli3) (cQ hli hx (λz=>nomatch z))
   have nlix:li≠x:=cQ hli hx (λz=>nomatch z)
   refine⟨_,rfl,li,_,rfl,.inl (SqL.of (by rw [ah nlix];exact hli5)),λlj nj=>?_⟩
   have njx:lj≠x:=λz=>by rw [z,ai]at nj;cases nj
   have nj5:H5 lj=none:=by rw [ah njx]at nj;exact nj
   have nlj:ln≠lj:=ao el nj5
   have nj0:H lj=none:=by
    cases e:H lj with
    | none=>rfl
    | some o=>rw [o5 _ _ (gH4 _ _ e) njx]at nj5;cases nj5
   refine⟨_,rfl,x,C,dx,_,rfl,by rw [ah (Ne.symm njx),ai],T.cl,T.a_inner,(by show 4 < 1000;decide),?_⟩
   refine q ln lj _ nl0 nj0 (λb o e nb=>?_) ?_ ?_ ai
   ·rw [ah nb,ah (ao e nj0),ah nb];exact o5 _ _ (gH4 _ _ e) nb
   ·rw [ah nlx,ah nlj,ah nlx];exact el
   ·rw [ah njx,ai]
inductive KidI (K:PySem.W.Frag) (c:Cs) (x C dx:Addr) (n:Nat) (w:Str) (as:List Addr) (xs:List Nd) (H:Hp) (Q:VK):Prop
 | mk (T:QuC K C) (hx:H x=some (.ins C dx [])) (hp:Paired (λa q=>cr c n q H a) as xs) (ok:iq (n+1) (.brk w xs)) (h2:n<=2) (q:∀(ln lj:Addr) (H':Hp),H ln=none->H lj=none->Ofr x H H'->H' ln=some (.lst ((bD (dF (n+1) (.brk w xs))).map V.str))->H' lj=some (.lst (as.map V.ref))->H' x=some (.ins C dx (yA n w xs ln lj))->Q .non H'):KidI K c x C dx n w as xs H Q
noncomputable def j5 (K:PySem.W.Frag) (c:Cs):Sp:=λvs H Q _=>∃(x C dx a1 a2:Addr) (w:Str) (n:Nat) (xs:List Nd),vs=[.ref x,.str w,.ref a1,.ref a2]/\KidI K c x C dx n w [a1,a2] xs H Q
noncomputable def j6 (K:PySem.W.Frag) (c:Cs):Sp:=λvs H Q _=>∃(x C dx a1 a2 a3 a4:Addr) (w:Str) (n:Nat) (xs:List Nd),vs=[.ref x,.str w,.ref a1,.ref a2,.ref a3,.ref a4]/\KidI K c x C dx n w [a1,a2,a3,a4] xs H Q
theorem xx:FnScope ["self", "word", "one", "other"] ["self", "word", "one", "other"] (au pT):=‹2›
theorem vG {c:Cs}{f f1:Addr}{fd:FuncData} (F:Fun K "__init__" "Reckoning.__init__" pT f fd) (N:Free mg){fd1:FuncData}{CB:Addr}{mc:Value} (CI:CMc P w K mg base "Bracketed" "__init__" 3 ["self", "word", "inner"] (ma K c) CB f1 fd1 mc):FnOk P w K mg base CX0 4 f fd ["self", "word", "one", "other"] (j5 K c):=by
 refine F.ok (k:=3) xx (λvs H Q E h=>?_) (λcdv A outer s H vs Q E hr h=>?_)
 ·obtain⟨x,C,dx,a1,a2,w,n,xs,rfl,_⟩:=h
  rfl
 ·obtain⟨x,C,dx,a1,a2,w,n,xs,rfl,T,hx,hp,ok,h2,q⟩:=h
  have hu:=aP hr
  refine⟨_,(aq (bo (dm rfl CI.nm CI.h1 CI.h2 CI.h3 rfl CI.ok (hr.mono (by decide)) CI.kp CI.bd .nil av (aa (pv 0) (aa (pv 1) (aa (be (aa (pv 2) (aa (pv 3) ae))) ae)))))),?_⟩
  refine bn ⟨_,rfl,_,rfl,_,rfl,_,rfl,by show 2<=sizeLine;decide,λp np=>?_⟩
  obtain⟨g1,e1⟩:=laid (o:=.lst ([a1,a2].map V.ref)) np
  refine⟨x,C,dx,p,w,n,[a1,a2],xs,rfl,T,g1 _ _ hx,e1,Paired.mono (λa q0 h=>cr.keep (Kq.grow g1) h) hp,ok,h2,λln lj H' nl nj o el ej ex=>?_⟩
  exact q ln lj H' (bN g1 nl) (bN g1 nj) (λb u e n=>o _ _ (g1 _ _ e) n) el ej ex
theorem xy:FnScope ["self", "word", "one", "other", "chosen", "otherwise"] ["self", "word", "one", "other", "chosen", "otherwise"] (au pU):=‹2›
theorem vH {c:Cs}{f f1:Addr}{fd:FuncData} (F:Fun K "__init__" "Choice.__init__" pU f fd) (N:Free mg){fd1:FuncData}{CB:Addr}{mc:Value} (CI:CMc P w K mg base "Bracketed" "__init__" 3 ["self", "word", "inner"] (ma K c) CB f1 fd1 mc):FnOk P w K mg base CX0 4 f fd ["self", "word", "one", "other", "chosen", "otherwise"] (j6 K c):=by
 refine F.ok (k:=3) xy (λvs H Q E h=>?_) (λcdv A outer s H vs Q E hr h=>?_)
 ·obtain⟨x,C,dx,a1,a2,a3,a4,w,n,xs,rfl,_⟩:=h
  rfl
 ·obtain⟨x,C,dx,a1,a2,a3,a4,w,n,xs,rfl,T,hx,hp,ok,h2,q⟩:=h
  have hu:=aP hr
  refine⟨_,(aq (bo (dm rfl CI.nm CI.h1 CI.h2 CI.h3 rfl CI.ok (hr.mono (by decide)) CI.kp CI.bd .nil av (aa (pv 0) (aa (pv 1) (aa (be (aa (pv 2) (aa (pv 3) (aa (pv 4) (aa (pv 5) ae))))) ae)))))),?_⟩
  refine bn ⟨_,rfl,_,rfl,_,rfl,_,rfl,_,rfl,_,rfl,by show 4<=sizeLine;decide,λp np=>?_⟩
  obtain⟨g1,e1⟩:=laid (o:=.lst ([a1,a2,a3,a4].map V.ref)) np
  refine⟨x,C,dx,p,w,n,[a1,a2,a3,a4],xs,rfl,T,g1 _ _ hx,e1,Paired.mono (λa q0 h=>cr.keep (Kq.grow g1) h) hp,ok,h2,λln lj H' nl nj o el ej ex=>?_⟩
  exact q ln lj H' (bN g1 nl) (bN g1 nj) (λb u e n=>o _ _ (g1 _ _ e) n) el ej ex
noncomputable abbrev ms:Stmt:=top 42
noncomputable abbrev sQh:Stmt:=top 41
noncomputable abbrev uy:Stmt:=top 43
noncomputable abbrev A5:Stmt:=top 40
structure MkC (P:Program) (w:World) (K:PySem.W.Frag) (mg:Str->Option Value) (base:Heap) (cn:Str) (k:Nat) (ps:List Str) (sp:Sp) (C f:Addr) (fd:FuncData):Prop where
 km:Mk K C f
 ok:FnOk P w K mg base CX0 k f fd ps sp
 nm:mg cn=some (.ref C)
 bd:cm K fd ps []
theorem Ofr.trans {r:Addr}{H H1 H2:Hp} (h:Ofr r H H1) (g:Ofr r H1 H2):Ofr r H H2:=λb o e n=>g _ _ (h _ _ e n) n
theorem Ofr.refl {r:Addr}{H:Hp}:Ofr r H H:=λ_ _ e _=>e
theorem RdAt.free {R:Addr}{H H1:Hp}{r lw x:Addr}{ws:List Str}{pl:Nat}{op:Int} (h1:RdAt R H1 r lw ws pl op) (o1:Ofr r H H1) (nx:H1 x=none):H x=none:=by
 cases e:H x with
 | none=>rfl
 | some o=>
  by_cases z:x=r
  ·obtain⟨d,er⟩:=h1.ob
   rw [z,er]at nx;cases nx
  ·rw [o1 _ _ e z]at nx;cases nx
theorem RdAt.made {R:Addr}{H1 H':Hp}{r lw x dx C:Addr}{ws:List Str}{pl:Nat}{op:Int} (h1:RdAt R H1 r lw ws pl op) (nx:H1 x=none) (nd:H1 dx=none) (o:Ofr x (upd (upd H1 dx (.own x)) x (.ins C dx [])) H'):aZ H1 H'/\RdAt R H' r lw ws pl op:=by
 have g:aZ H1 H':=λb u e=>o _ _ (by rw [ah (ao e nx),ah (ao e nd)];exact e) (ao e nx)
 exact⟨g,h1.keep g⟩
noncomputable def wo (H0 H:Hp):Hp:=λb=>match H0 b with
 | none=>H b
 | some _=>none
theorem gh {H0 H:Hp}{b:Addr} (h:H0 b=none):wo H0 H b=H b:=by unfold wo;rw [h]
theorem pc {H0 H:Hp}{b:Addr}{o:HO} (h:wo H0 H b=some o):H0 b=none/\H b=some o:=by
 unfold wo at h
 cases e:H0 b with
 | none=>rw [e]at h;exact⟨rfl,h⟩
 | some _=>rw [e]at h;cases h
theorem yG {H0 H:Hp}:aZ (wo H0 H) H:=λb o e=>(pc e).2
theorem lV {H0 H H':Hp} (g:∀b o,H0 b=none->H b=some o->H' b=some o):aZ (wo H0 H) (wo H0 H'):=λb o e=>by
 obtain⟨h1,h2⟩:=pc e
 rw [gh h1];exact g _ _ h1 h2
theorem iu {H0 H1 H:Hp} (g:∀b,H1 b=none->H0 b=none):aZ (wo H1 H) (wo H0 H):=λb o e=>by
 obtain⟨h1,h2⟩:=pc e
 rw [gh (g _ h1)];exact h2
theorem fQ {K:W.Frag}{c:Cs}{R:Addr}{H H1:Hp}{r lw x dx:Addr}{ws:List Str}{pl:Nat}{op:Int}{l:Lf}{Q:VK} (VQ:∀C∈c.all,QuC K C) (ok:eL l) (o1:Ofr r H H1) (h1:RdAt R H1 r lw ws pl op) (nx:H1 x=none) (nd:H1 dx=none)
  (q:∀x H',H x=none->Ofr r H H'->RdAt R H' r lw ws pl op->LfX c l (wo H H') x->Q (.ref x) H'):LfI K (lfC c l) x dx l (upd (upd H1 dx (.own x)) x (.ins (lfC c l) dx [])) (λv H2=>v=.non/\Q (.ref x) H2):=by
 refine⟨VQ _ (eV c l),ai,ok,λln H' nl o el ex=>⟨rfl,?_⟩⟩
 obtain⟨g,h'⟩:=h1.made nx nd o
 have nl1:H1 ln=none:=by
  cases e:H1 ln with
  | none=>rfl
  | some u=>rw [ah (ao e nx),ah (ao e nd),e]at nl;cases nl
 exact q x H' (h1.free o1 nx) (λb u e n=>g _ _ (o1 _ _ e n)) h' ⟨dx,ln,by rw [gh (h1.free o1 nx)];exact ex,by rw [gh (h1.free o1 nl1)];exact el⟩
noncomputable def rV:Lf->Prop
 | .gth _ _ _ _=>True
 | _=>False
noncomputable def nv (l:Lf):List Str:=(aX l).tail
noncomputable def cM (l:Lf):Str:=(aX l).headD ‹""›
theorem zF (l:Lf):aX l=cM l::nv l:=by cases l <;> rfl
inductive SgI (c:Cs) (R:Addr) (l:Lf) (r:Addr) (H:Hp) (Q:VK):Prop
 | mk (lw:Addr) (ws:List Str) (pl:Nat) (op:Int) (ok:eL l) (ng:¬rV l) (h:RdAt R H r lw ws pl op) (hat:At ws pl (nv l)) (q:∀x H',H x=none->Ofr r H H'->RdAt R H' r lw ws (pl+(nv l).length) op->LfX c l (wo H H') x->Q (.ref x) H'):SgI c R l r H Q
noncomputable def gJ (c:Cs) (R:Addr):Sp:=λvs H Q _=>∃(r:Addr) (l:Lf),vs=[.ref r,.str (cM l)]/\SgI c R l r H Q
theorem wl {w:Str} (h:Wd w):w.length < sizeLine:=Nat.lt_of_le_of_lt h.hi (by decide)
theorem nl {w:Str} (h:kE w):w.length < sizeLine:=wl (ls h)
theorem cj:FnScope ["reader", "word", "key", "bound", "first", "one", "other", "rank"] ["reader", "word"] (au ms):=‹2›
theorem sI {c:Cs}{f f1 f2 f3 f4 f5 f6 f7 f8 f9 R:Addr}{fd:FuncData} (F:Fun K "single_here" "single_here" ms f fd) (N:Free mg) (Z:Con mg) (VQ:∀C∈c.all,QuC K C){fd1:FuncData} (MV_:MC P w K mg base R "value_here" 4 ["self"] [] [] (tW R) f1 fd1){fd2:FuncData} (MD:MC P w K mg base R "day_here" 4 ["self", "earliest"] [] [] (jA R) f2 fd2){fd3:FuncData} (MK:MC P w K mg base R "key_here" 3 ["self"] [] [] (u7 R) f3 fd3){fd4:FuncData} (MN:MC P w K mg base R "number_here" 3 ["self", "low", "high"] [] [] (m8 R) f4 fd4){fd5:FuncData} (KNum:MkC P w K mg base "Number" 3 ["self", "number"] (ub K) c.num f5 fd5){fd6:FuncData} (KVal:MkC P w K mg base "Value" 3 ["self", "key", "day"] (u8 K) c.val f6 fd6){fd7:FuncData} (KSnc:MkC P w K mg base "Since" 3 ["self", "key", "bound", "first", "last"] (u9 K) c.snc f7 fd7){fd8:FuncData} (KPrt:MkC P w K mg base "Part" 3 ["self", "one", "other", "first", "last"] (ua K) c.prt f8 fd8){fd9:FuncData} (KChg:MkC P w K mg base "Change" 3 ["self", "rank", "key", "first", "last"] (uc K) c.chg f9 fd9):FnOk P w K mg base CX0 5 f fd ["reader", "word"] (gJ c R):=by
 obtain⟨t1,c1⟩:=Z.rank
 refine F.ok (k:=4) cj (λvs H Q E h=>?_) (λcdv A outer s H vs Q E hr h=>?_)
 ·obtain⟨r,l,rfl,_⟩:=h
  rfl
 ·obtain⟨r,l,rfl,lw,ws,pl,op,ok,ng,h,hat,q⟩:=h
  have hu:=aP hr
  refine⟨_,(af (bx (aN cH (pv 1) aR (aV _)) (aq (aB (dk KNum.km KNum.ok (hr.mono (by decide)) rfl KNum.nm KNum.bd .nil av (aa (bz (pv 0) MV_.cl MV_.mt MV_.ok (hr.mono (by decide)) MV_.bd MV_.dv av) ae)))) aL)
   (af (bx (aN cH (pv 1) aR (aV _)) (af (aA (i:=2) cj.nd rfl (Or.inl rfl) (bz (pv 0) MK.cl MK.mt MK.ok (hr.mono (by decide)) MK.bd MK.dv av))
   (aq (aB (dk KVal.km KVal.ok (hr.mono (by decide)) rfl KVal.nm KVal.bd .nil av (aa (pv 2) (aa (bM (pv 0) MD.cl MD.mt MD.ok (hr.mono (by decide)) MD.bd MD.dv av (aa aj ae)) ae)))))) aL)
   (af (bx (aN cH (pv 1) aR (aV _)) (af (aA (i:=2) cj.nd rfl (Or.inl rfl) (bz (pv 0) MK.cl MK.mt MK.ok (hr.mono (by decide)) MK.bd MK.dv av))
   (af (aA (i:=3) cj.nd rfl (Or.inl rfl) (bz (pv 0) MV_.cl MV_.mt MV_.ok (hr.mono (by decide)) MV_.bd MV_.dv av))
   (af (aA (i:=4) cj.nd rfl (Or.inl rfl) (bM (pv 0) MD.cl MD.mt MD.ok (hr.mono (by decide)) MD.bd MD.dv av (aa aj ae)))
   (aq (aB (dk KSnc.km KSnc.ok (hr.mono (by decide)) rfl KSnc.nm KSnc.bd .nil av (aa (pv 2) (aa (pv 3) (aa (pv 4) (aa (bM (pv 0) MD.cl MD.mt MD.ok (hr.mono (by decide)) MD.bd MD.dv av (aa (pv 4) ae)) ae)))))))))) aL)
   (af (bx (aN cH (pv 1) aR (aV _)) (af (aA (i:=5) cj.nd rfl (Or.inl rfl) (bz (pv 0) MK.cl MK.mt MK.ok (hr.mono (by decide)) MK.bd MK.dv av))
   (af (aA (i:=6) cj.nd rfl (Or.inl rfl) (bz (pv 0) MK.cl MK.mt MK.ok (hr.mono (by decide)) MK.bd MK.dv av))
   (af (aA (i:=4) cj.nd rfl (Or.inl rfl) (bM (pv 0) MD.cl MD.mt MD.ok (hr.mono (by decide)) MD.bd MD.dv av (aa aj ae)))
   (aq (aB (dk KPrt.km KPrt.ok (hr.mono (by decide)) rfl KPrt.nm KPrt.bd .nil av (aa (pv 5) (aa (pv 6) (aa (pv 4) (aa (bM (pv 0) MD.cl MD.mt MD.ok (hr.mono (by decide)) MD.bd MD.dv av (aa (pv 4) ae)) ae)))))))))) aL)
   (af (aA (i:=7) cj.nd rfl (Or.inl rfl) (bM (pv 0) MN.cl MN.mt MN.ok (hr.mono (by decide)) MN.bd MN.dv av (aa aj (aa (bO (v:=.int 400) (by rfl) c1 ⟨_,rfl⟩) ae))))
   (af (aA (i:=2) cj.nd rfl (Or.inl rfl) (bz (pv 0) MK.cl MK.mt MK.ok (hr.mono (by decide)) MK.bd MK.dv av))
   (af (aA (i:=4) cj.nd rfl (Or.inl rfl) (bM (pv 0) MD.cl MD.mt MD.ok (hr.mono (by decide)) MD.bd MD.dv av (aa aj ae)))
   (aq (aB (dk KChg.km KChg.ok (hr.mono (by decide)) rfl KChg.nm KChg.bd .nil av (aa (pv 7) (aa (pv 2) (aa (pv 4) (aa (bM (pv 0) MD.cl MD.mt MD.ok (hr.mono (by decide)) MD.bd MD.dv av (aa (pv 4) ae)) ae)))))))))))))),?_⟩
  cases l with
  | gth w ks f0 l0=>exact absurd True.intro ng
  | num z=>
   refine ag (aO ⟨_,rfl,rfl,_,rfl,?_⟩)
   refine bJ ?_
   have hz:=id ok
   have o0:Ofr r H H:=Ofr.refl
   obtain⟨dx0,ho0⟩:=h.ob
   have hx0:=hat.hd
   refine aF ⟨_,rfl,r,dx0,_,rfl,ho0,bA _ _ _ ‹0› ‹0› ‹0›,r,lw,ws,_,op,z,_,rfl,h,hx0,wl (cO hz.1 hz.2),de hz.1 hz.2 hz.1 hz.2,λH9 p9 h9=>?_⟩
   intro x dx nx nd _
   exact⟨x,_,dx,z,rfl,fQ (l:=.num z) VQ ok (o0.trans p9) h9 nx nd q⟩
  | val k d=>
   refine ag (aO ⟨_,rfl,rfl,_,rfl,?_⟩)
   rw [show decide (V.str (cM (.val k d))=V.str ‹"number"›)=false from (show decide (V.str ‹"value"›=V.str ‹"number"›)=false from ‹0›)]
   refine br (aD ?_)
   dsimp only
   refine ag (aO ⟨_,rfl,rfl,_,rfl,?_⟩)
   refine bJ ?_
   obtain⟨hk,d0,d1⟩:=id ok
   have o0:Ofr r H H:=Ofr.refl
   obtain⟨dx0,ho0⟩:=h.ob
   have hx0:=hat.hd
   have at0:=hat.tl
   refine ag (aw ⟨_,rfl,r,dx0,_,rfl,ho0,bA _ _ _ ‹0› ‹0› ‹0›,r,lw,ws,_,op,k,rfl,h,hx0,nl hk,hk,λH0 p0 h0_=>?_⟩)
   walk_at "d"
   have o1:=o0.trans p0
   obtain⟨dx1,ho1⟩:=h0_.ob
   have hx1:=at0.hd
   refine aF ⟨_,rfl,_,rfl,r,dx1,_,rfl,ho1,bA _ _ _ ‹0› ‹0› ‹0›,r,lw,ws,_,op,0,d,_,rfl,h0_,hx1,wl (cO ‹1› ‹1›),de ‹1› ‹1› ‹1› ‹1›,λH9 p9 h9=>?_⟩
   intro x dx nx nd _
   exact⟨x,_,dx,k,d,rfl,fQ (l:=.val k d) VQ ok (o1.trans p9) h9 nx nd q⟩
  | snc k b0 f0 l0=>
   refine ag (aO ⟨_,rfl,rfl,_,rfl,?_⟩)
   rw [show decide (V.str (cM (.snc k b0 f0 l0))=V.str ‹"number"›)=false from (show decide (V.str ‹"since"›=V.str ‹"number"›)=false from ‹0›)]
   refine br (aD ?_)
   dsimp only
   refine ag (aO ⟨_,rfl,rfl,_,rfl,?_⟩)
   rw [show decide (V.str (cM (.snc k b0 f0 l0))=V.str ‹"value"›)=false from (show decide (V.str ‹"since"›=V.str ‹"value"›)=false from ‹0›)]
   refine br (aD ?_)
   dsimp only
   refine ag (aO ⟨_,rfl,rfl,_,rfl,?_⟩)
   refine bJ ?_
   obtain⟨hk,hb,h1,h2,h3⟩:=id ok
   have o0:Ofr r H H:=Ofr.refl
   obtain⟨dx0,ho0⟩:=h.ob
   have hx0:=hat.hd
   have at0:=hat.tl
   refine ag (aw ⟨_,rfl,r,dx0,_,rfl,ho0,bA _ _ _ ‹0› ‹0› ‹0›,r,lw,ws,_,op,k,rfl,h,hx0,nl hk,hk,λH0 p0 h0_=>?_⟩)
   walk_at "d"
   have o1:=o0.trans p0
   obtain⟨dx1,ho1⟩:=h0_.ob
   have hx1:=at0.hd
   have at1:=at0.tl
   refine ag (aw ⟨_,rfl,r,dx1,_,rfl,ho1,bA _ _ _ ‹0› ‹0› ‹0›,r,lw,ws,_,op,b0,_,rfl,h0_,hx1,wl (cO hb.1 hb.2),de hb.1 hb.2 hb.1 hb.2,λH1 p1 h1_=>?_⟩)
   walk_at "d"
   have o2:=o1.trans p1
   obtain⟨dx2,ho2⟩:=h1_.ob
   have hx2:=at1.hd
   have at2:=at1.tl
   refine ag (aw ⟨_,rfl,r,dx2,_,rfl,ho2,bA _ _ _ ‹0› ‹0› ‹0›,r,lw,ws,_,op,0,f0,_,rfl,h1_,hx2,wl (cO ‹1› ‹1›),de ‹1› ‹1› ‹1› ‹1›,λH2 p2 h2_=>?_⟩)
   walk_at "d"
   have o3:=o2.trans p2
   obtain⟨dx3,ho3⟩:=h2_.ob
   have hx3:=at2.hd
   refine aF ⟨_,rfl,_,rfl,_,rfl,_,rfl,r,dx3,_,rfl,ho3,bA _ _ _ ‹0› ‹0› ‹0›,_,rfl,r,lw,ws,_,op,f0,l0,_,rfl,h2_,hx3,wl (cO ‹1› ‹1›),de ‹1› ‹1› ‹1› ‹1›,λH9 p9 h9=>?_⟩
   intro x dx nx nd _
   exact⟨x,_,dx,k,b0,f0,l0,rfl,fQ (l:=.snc k b0 f0 l0) VQ ok (o3.trans p9) h9 nx nd q⟩
  | prt k k2 f0 l0=>
   refine ag (aO ⟨_,rfl,rfl,_,rfl,?_⟩)
   rw [show decide (V.str (cM (.prt k k2 f0 l0))=V.str ‹"number"›)=false from (show decide (V.str ‹"part"›=V.str ‹"number"›)=false from ‹0›)]
   refine br (aD ?_)
   dsimp only
   refine ag (aO ⟨_,rfl,rfl,_,rfl,?_⟩)
   rw [show decide (V.str (cM (.prt k k2 f0 l0))=V.str ‹"value"›)=false from (show decide (V.str ‹"part"›=V.str ‹"value"›)=false from ‹0›)]
   refine br (aD ?_)
   dsimp only
   refine ag (aO ⟨_,rfl,rfl,_,rfl,?_⟩)
   rw [show decide (V.str (cM (.prt k k2 f0 l0))=V.str ‹"since"›)=false from (show decide (V.str ‹"part"›=V.str ‹"since"›)=false from ‹0›)]
   refine br (aD ?_)
   dsimp only
   refine ag (aO ⟨_,rfl,rfl,_,rfl,?_⟩)
   refine bJ ?_
   obtain⟨hk,hk2,h1,h2,h3⟩:=id ok
   have o0:Ofr r H H:=Ofr.refl
   obtain⟨dx0,ho0⟩:=h.ob
   have hx0:=hat.hd
   have at0:=hat.tl
   refine ag (aw ⟨_,rfl,r,dx0,_,rfl,ho0,bA _ _ _ ‹0› ‹0› ‹0›,r,lw,ws,_,op,k,rfl,h,hx0,nl hk,hk,λH0 p0 h0_=>?_⟩)
   walk_at "d"
   have o1:=o0.trans p0
   obtain⟨dx1,ho1⟩:=h0_.ob
   have hx1:=at0.hd
   have at1:=at0.tl
   refine ag (aw ⟨_,rfl,r,dx1,_,rfl,ho1,bA _ _ _ ‹0› ‹0› ‹0›,r,lw,ws,_,op,k2,rfl,h0_,hx1,nl hk2,hk2,λH1 p1 h1_=>?_⟩)
   walk_at "d"
   have o2:=o1.trans p1
   obtain⟨dx2,ho2⟩:=h1_.ob
   have hx2:=at1.hd
   have at2:=at1.tl
   refine ag (aw ⟨_,rfl,r,dx2,_,rfl,ho2,bA _ _ _ ‹0› ‹0› ‹0›,r,lw,ws,_,op,0,f0,_,rfl,h1_,hx2,wl (cO ‹1› ‹1›),de ‹1› ‹1› ‹1› ‹1›,λH2 p2 h2_=>?_⟩)
   walk_at "d"
   have o3:=o2.trans p2
   obtain⟨dx3,ho3⟩:=h2_.ob
   have hx3:=at2.hd
   refine aF ⟨_,rfl,_,rfl,_,rfl,_,rfl,r,dx3,_,rfl,ho3,bA _ _ _ ‹0› ‹0› ‹0›,_,rfl,r,lw,ws,_,op,f0,l0,_,rfl,h2_,hx3,wl (cO ‹1› ‹1›),de ‹1› ‹1› ‹1› ‹1›,λH9 p9 h9=>?_⟩
   intro x dx nx nd _
   exact⟨x,_,dx,k,k2,f0,l0,rfl,fQ (l:=.prt k k2 f0 l0) VQ ok (o3.trans p9) h9 nx nd q⟩
  | chg r0 k f0 l0=>
   refine ag (aO ⟨_,rfl,rfl,_,rfl,?_⟩)
   rw [show decide (V.str (cM (.chg r0 k f0 l0))=V.str ‹"number"›)=false from (show decide (V.str ‹"change"›=V.str ‹"number"›)=false from ‹0›)]
   refine br (aD ?_)
   dsimp only
   refine ag (aO ⟨_,rfl,rfl,_,rfl,?_⟩)
   rw [show decide (V.str (cM (.chg r0 k f0 l0))=V.str ‹"value"›)=false from (show decide (V.str ‹"change"›=V.str ‹"value"›)=false from ‹0›)]
   refine br (aD ?_)
   dsimp only
   refine ag (aO ⟨_,rfl,rfl,_,rfl,?_⟩)
   rw [show decide (V.str (cM (.chg r0 k f0 l0))=V.str ‹"since"›)=false from (show decide (V.str ‹"change"›=V.str ‹"since"›)=false from ‹0›)]
   refine br (aD ?_)
   dsimp only
   refine ag (aO ⟨_,rfl,rfl,_,rfl,?_⟩)
   rw [show decide (V.str (cM (.chg r0 k f0 l0))=V.str ‹"part"›)=false from (show decide (V.str ‹"change"›=V.str ‹"part"›)=false from ‹0›)]
   refine br (aD ?_)
   dsimp only
   obtain⟨⟨r1,r2⟩,hk,h1,h2,h3⟩:=id ok
   have o0:Ofr r H H:=Ofr.refl
   obtain⟨dx0,ho0⟩:=h.ob
   have hx0:=hat.hd
   have at0:=hat.tl
   refine ag (aw ⟨_,rfl,r,dx0,_,rfl,ho0,bA _ _ _ ‹0› ‹0› ‹0›,r,lw,ws,_,op,1,400,r0,_,rfl,h,hx0,wl (cO ‹1› ‹1›),de ‹1› ‹1› ‹1› ‹1›,λH0 p0 h0_=>?_⟩)
   walk_at "d"
   have o1:=o0.trans p0
   obtain⟨dx1,ho1⟩:=h0_.ob
   have hx1:=at0.hd
   have at1:=at0.tl
   refine ag (aw ⟨_,rfl,r,dx1,_,rfl,ho1,bA _ _ _ ‹0› ‹0› ‹0›,r,lw,ws,_,op,k,rfl,h0_,hx1,nl hk,hk,λH1 p1 h1_=>?_⟩)
   walk_at "d"
   have o2:=o1.trans p1
   obtain⟨dx2,ho2⟩:=h1_.ob
   have hx2:=at1.hd
   have at2:=at1.tl
   refine ag (aw ⟨_,rfl,r,dx2,_,rfl,ho2,bA _ _ _ ‹0› ‹0› ‹0›,r,lw,ws,_,op,0,f0,_,rfl,h1_,hx2,wl (cO ‹1› ‹1›),de ‹1› ‹1› ‹1› ‹1›,λH2 p2 h2_=>?_⟩)
   walk_at "d"
   have o3:=o2.trans p2
   obtain⟨dx3,ho3⟩:=h2_.ob
   have hx3:=at2.hd
   refine aF ⟨_,rfl,_,rfl,_,rfl,_,rfl,r,dx3,_,rfl,ho3,bA _ _ _ ‹0› ‹0› ‹0›,_,rfl,r,lw,ws,_,op,f0,l0,_,rfl,h2_,hx3,wl (cO ‹1› ‹1›),de ‹1› ‹1› ‹1› ‹1›,λH9 p9 h9=>?_⟩
   intro x dx nx nd _
   exact⟨x,_,dx,r0,k,f0,l0,rfl,fQ (l:=.chg r0 k f0 l0) VQ ok (o3.trans p9) h9 nx nd q⟩
theorem zi {K:W.Frag}{c:Cs}{R C:Addr}{H H1:Hp}{r lw x dx:Addr}{ws:List Str}{pl:Nat}{op:Int}{n:Nat}{w:Str}{as:List Addr}{xs:List Nd}{Q:VK} (VQ:∀C∈c.all,QuC K C) (hC:C=brC c w) (hp:Paired (λa q=>cr c n q (wo H H1) a) as xs) (ok:iq (n+1) (.brk w xs)) (h2:n<=2) (o1:Ofr r H H1) (h1:RdAt R H1 r lw ws pl op) (nx:H1 x=none) (nd:H1 dx=none)
  (q:∀x H',H x=none->Ofr r H H'->RdAt R H' r lw ws pl op->cr c (n+1) (.brk w xs) (wo H H') x->Q (.ref x) H'):KidI K c x C dx n w as xs (upd (upd H1 dx (.own x)) x (.ins C dx [])) (λv H2=>v=.non/\Q (.ref x) H2):=by
 have gu:aZ H1 (upd (upd H1 dx (.own x)) x (.ins C dx [])):=λb u e=>by rw [ah (ao e nx),ah (ao e nd)];exact e
 refine⟨by rw [hC];exact VQ _ (qG c w),ai,Paired.mono (λa q0 h=>cr.keep (Kq.grow (aZ.trans yG gu)) h) hp,ok,h2,λln lj H' nl nj o el ej ex=>⟨rfl,?_⟩⟩
 obtain⟨g,h'⟩:=h1.made nx nd o
 have f0:∀b,upd (upd H1 dx (.own x)) x (.ins C dx []) b=none->H b=none:=λb hb=>h1.free o1 (bN gu hb)
 rw [hC]at ex
 exact q x H' (h1.free o1 nx) (λb u e n=>g _ _ (o1 _ _ e n)) h' (BrX.mk dx ln lj as (by rw [gh (h1.free o1 nx)];exact ex) (by rw [gh (f0 _ nl)];exact el) (by rw [gh (f0 _ nj)];exact ej) (Paired.mono (λa q0 h=>cr.keep (Kq.grow (lV λb u _ e=>g _ _ e)) h) hp))
noncomputable def fH (n:Nat) (q:Nd):List Str:=opS::(aY n q++[clS])
inductive QhI (c:Cs) (R:Addr) (n:Nat) (nd:Nd) (r:Addr) (H:Hp) (Q:VK):Prop
 | mk (lw:Addr) (ws:List Str) (pl:Nat) (op:Int) (ok:iq n nd) (h:RdAt R H r lw ws pl op) (hat:At ws pl (aY n nd)) (hop:op+n<=3) (hn:n<=3) (q:∀x H',H x=none->Ofr r H H'->RdAt R H' r lw ws (pl+(aY n nd).length) op->cr c n nd (wo H H') x->Q (.ref x) H'):QhI c R n nd r H Q
noncomputable def tY (c:Cs) (R:Addr) (n:Nat):Sp:=λvs H Q _=>∃(r:Addr) (nd:Nd),vs=[.ref r]/\QhI c R n nd r H Q
inductive QsI (c:Cs) (R:Addr) (n:Nat) (xs:List Nd) (r:Addr) (H:Hp) (Q:VK):Prop
 | mk (m:Nat) (lw:Addr) (ws:List Str) (pl:Nat) (op:Int) (hm:n=m+1) (ok:∀x∈xs,iq m x) (h4:xs.length<=4) (h:RdAt R H r lw ws pl op) (hat:At ws pl (xs.flatMap (fH m))) (hop:op+n<=3) (hn:n<=3) (q:∀li as H',H li=none->Ofr r H H'->RdAt R H' r lw ws (pl+(xs.flatMap (fH m)).length) op->H' li=some (.lst (as.map V.ref))->Paired (λa q=>cr c m q (wo H H') a) as xs->Q (.ref li) H'):QsI c R n xs r H Q
noncomputable def nF (c:Cs) (R:Addr) (n:Nat):Sp:=λvs H Q _=>∃(r:Addr) (xs:List Nd),vs=[.ref r,.int (xs.length:Int)]/\QsI c R n xs r H Q
theorem oF {l:Lf} (h:¬rV l):cM l∉gC/\cM l∉eZ/\cM l∉fZ/\cM l∈iU:=by
 cases l with
 | gth=>exact absurd True.intro h
 | num=>exact⟨(by show ‹"number"›∉gC;decide +kernel),(by show ‹"number"›∉eZ;decide +kernel),(by show ‹"number"›∉fZ;decide +kernel),(by show ‹"number"›∈iU;decide +kernel)⟩
 | val=>exact⟨(by show ‹"value"›∉gC;decide +kernel),(by show ‹"value"›∉eZ;decide +kernel),(by show ‹"value"›∉fZ;decide +kernel),(by show ‹"value"›∈iU;decide +kernel)⟩
 | snc=>exact⟨(by show ‹"since"›∉gC;decide +kernel),(by show ‹"since"›∉eZ;decide +kernel),(by show ‹"since"›∉fZ;decide +kernel),(by show ‹"since"›∈iU;decide +kernel)⟩
 | prt=>exact⟨(by show ‹"part"›∉gC;decide +kernel),(by show ‹"part"›∉eZ;decide +kernel),(by show ‹"part"›∉fZ;decide +kernel),(by show ‹"part"›∈iU;decide +kernel)⟩
 | chg=>exact⟨(by show ‹"change"›∉gC;decide +kernel),(by show ‹"change"›∉eZ;decide +kernel),(by show ‹"change"›∉fZ;decide +kernel),(by show ‹"change"›∈iU;decide +kernel)⟩
theorem qF:(∀w∈eZ,w∉gC)/\(∀w∈fZ,w∉gC/\w∉eZ):=‹0›
theorem sw:FnScope ["reader", "word", "keys", "first", "inner"] ["reader"] (au sQh):=‹2›
theorem zf {c:Cs}{n:Nat}{f f1 f2 f3 f4 f5 f6 f7 f8 R:Addr}{fd:FuncData} (F:Fun K "question_here" "question_here" sQh f fd) (N:Free mg) (ZT:ConT K mg) (VQ:∀C∈c.all,QuC K C){fd1:FuncData} (MB:MC P w K mg base R "beginning_here" 2 ["self"] [] [] (qU R) f1 fd1){fd2:FuncData} (MD:MC P w K mg base R "day_here" 4 ["self", "earliest"] [] [] (jA R) f2 fd2){fd3:FuncData} (ME:MC P w K mg base R "keys_here" 4 ["self"] [] [] (j4 R) f3 fd3){fd4:FuncData} (CS:Cal P w K mg base "questions_here" (2 * n+5) ["reader", "count"] (nF c R n) f4 fd4){fd5:FuncData} (CG:Cal P w K mg base "single_here" 5 ["reader", "word"] (gJ c R) f5 fd5){fd6:FuncData} (KGth:MkC P w K mg base "Gathering" 3 ["self", "word", "keys", "first", "last"] (md K) c.gth f6 fd6){fd7:FuncData} (KRck:MkC P w K mg base "Reckoning" 4 ["self", "word", "one", "other"] (j5 K c) c.rck f7 fd7){fd8:FuncData} (KChc:MkC P w K mg base "Choice" 4 ["self", "word", "one", "other", "chosen", "otherwise"] (j6 K c) c.chc f8 fd8):FnOk P w K mg base CX0 (2 * n+6) f fd ["reader"] (tY c R n):=by
 obtain⟨a2,c2,q2⟩:=ZT.gth
 obtain⟨a3,c3,q3⟩:=ZT.rck
 obtain⟨a4,c4,q4⟩:=ZT.chc
 refine F.ok (k:=2 * n+5) sw (λvs H Q E h=>?_) (λcdv A outer s H vs Q E hr h=>?_)
 ·obtain⟨r,nd,rfl,_⟩:=h
  rfl
 ·obtain⟨r,nd,rfl,lw,ws,pl,op,ok,h,hat,hop,hn,q⟩:=h
  have hu:=aP hr
  refine⟨_,(af (aA (i:=1) sw.nd rfl (Or.inl rfl) (bz (pv 0) MB.cl MB.mt MB.ok (hr.mono ‹1›) MB.bd MB.dv av))
   (af (bx (aN cW (pv 1) (bO (v:=.ref a2) (by rfl) c2 rfl) (by with_unfolding_all rfl)) (af (aA (i:=2) sw.nd rfl (Or.inl rfl) (bz (pv 0) ME.cl ME.mt ME.ok (hr.mono ‹1›) ME.bd ME.dv av))
   (af (aA (i:=3) sw.nd rfl (Or.inl rfl) (bM (pv 0) MD.cl MD.mt MD.ok (hr.mono ‹1›) MD.bd MD.dv av (aa aj ae)))
   (aq (aB (dk KGth.km KGth.ok (hr.mono ‹1›) rfl KGth.nm KGth.bd .nil av (aa (pv 1) (aa (pv 2) (aa (pv 3) (aa (bM (pv 0) MD.cl MD.mt MD.ok (hr.mono ‹1›) MD.bd MD.dv av (aa (pv 3) ae)) ae))))))))) aL)
   (af (bx (aN cW (pv 1) (bO (v:=.ref a3) (by rfl) c3 rfl) (by with_unfolding_all rfl)) (af (aA (i:=4) sw.nd rfl (Or.inl rfl) (ay CS.ok (hr.mono ‹1›) rfl CS.nm CS.kp CS.bd .nil av (aa (pv 0) (aa aj ae))))
   (aq (aB (dk KRck.km KRck.ok (hr.mono ‹1›) rfl KRck.nm KRck.bd .nil av (aa (pv 1) (aa (bv bp (pv 4) aj (λ_ _=>rfl)) (aa (bv bp (pv 4) aj (λ_ _=>rfl)) ae))))))) aL)
   (af (bx (aN cW (pv 1) (bO (v:=.ref a4) (by rfl) c4 rfl) (by with_unfolding_all rfl)) (af (aA (i:=4) sw.nd rfl (Or.inl rfl) (ay CS.ok (hr.mono ‹1›) rfl CS.nm CS.kp CS.bd .nil av (aa (pv 0) (aa aj ae))))
   (aq (aB (dk KChc.km KChc.ok (hr.mono ‹1›) rfl KChc.nm KChc.bd .nil av (aa (pv 1) (aa (bv bp (pv 4) aj (λ_ _=>rfl)) (aa (bv bp (pv 4) aj (λ_ _=>rfl)) (aa (bv bp (pv 4) aj (λ_ _=>rfl)) (aa (bv bp (pv 4) aj (λ_ _=>rfl)) ae))))))))) aL)
   (aq (aB (ay CG.ok (hr.mono ‹1›) rfl CG.nm CG.kp CG.bd .nil av (aa (pv 0) (aa (pv 1) ae))))))))),?_⟩
  obtain⟨dx0,ho0⟩:=h.ob
  have hw:∃w0 r0,aY n nd=w0::r0/\(w0∈iU\/w0∈gC\/w0∈eZ\/w0∈fZ):=by
   cases nd with
   | leaf l=>
    by_cases z:rV l
    ·cases l with
     | gth w ks f0 l0=>exact⟨w,_,gG _ _,.inr (.inl (rg ok).1)⟩
     | _=>exact absurd z id
    ·exact⟨cM l,nv l,by rw [gG,zF],.inl (oF z).2.2.2⟩
   | brk w xs=>
    cases n with
    | zero=>exact(show False from ok).elim
    | succ m=>
     obtain⟨h1,_⟩:_/\_:=ok
     exact⟨w,_,rfl,h1.elim (λz=>.inr (.inr (.inl z.1))) λz=>.inr (.inr (.inr z.1))⟩
  obtain⟨w0,r0,ew,hw⟩:=hw
  have hx0:=At.hd (by rw [ew]at hat;exact hat)
  have at0:=At.tl (by rw [ew]at hat;exact hat)
  refine ag (aw ⟨_,rfl,r,dx0,_,rfl,ho0,bA _ _ _ ‹0› ‹0› ‹0›,r,lw,ws,pl,op,w0,rfl,h,hx0,hw,λH1 o1 h1=>?_⟩)
  walk_at "d"
  cases nd with
  | leaf l=>
   have okl:=rg ok
   rw [gG]at ew q
   by_cases z:rV l
   ·cases l with
    | gth w ks f0 l0=>
     obtain⟨rfl,rfl⟩:=List.cons.inj (show w::[jc ks,si f0,si l0]=w0::r0 from ew)
     obtain⟨hg,⟨k1,k8,knd,hk⟩,d1,d2,d3⟩:=id okl
     refine ag (aO ⟨_,rfl,a2,_,rfl,.inr (q2 _),rfl,bK _,?_⟩)
     rw [if_neg Bool.false_ne_true,ca]
     refine⟨_,rfl,?_⟩
     rw [decide_eq_true hg]
     refine bJ ?_
     obtain⟨dx1,ho1⟩:=h1.ob
     refine ag (aw ⟨_,rfl,r,dx1,_,rfl,ho1,bA _ _ _ ‹0› ‹0› ‹0›,r,lw,ws,_,op,ks,rfl,h1,at0.hd,Nat.le_of_lt (wl (zj k1 k8 hk)),k1,k8,knd,λk m=>⟨hk k m,nl (hk k m)⟩,λlk H2 nlk o2 elk h2=>?_⟩)
     walk_at "d"
     obtain⟨dx2,ho2⟩:=h2.ob
     have at1:=at0.tl
     refine ag (aw ⟨_,rfl,r,dx2,_,rfl,ho2,bA _ _ _ ‹0› ‹0› ‹0›,r,lw,ws,_,op,0,f0,_,rfl,h2,at1.hd,wl (cO ‹1› ‹1›),de ‹1› ‹1› ‹1› ‹1›,λH3 o3 h3=>?_⟩)
     walk_at "d"
     obtain⟨dx3,ho3⟩:=h3.ob
     have at2:=at1.tl
     have elk3:=o3 _ _ elk (cQ elk ho2 (λz=>nomatch z))
     refine aF ⟨_,rfl,_,rfl,_,rfl,_,rfl,r,dx3,_,rfl,ho3,bA _ _ _ ‹0› ‹0› ‹0›,_,rfl,r,lw,ws,_,op,f0,l0,_,rfl,h3,at2.hd,wl (cO ‹1› ‹1›),de ‹1› ‹1› ‹1› ‹1›,λH4 o4 h4=>?_⟩
     intro x dx nx nd _
     have elk4:=o4 _ _ elk3 (cQ elk3 ho3 (λz=>nomatch z))
     refine⟨x,_,dx,w,lk,f0,l0,ks,rfl,?_,fQ (l:=.gth w ks f0 l0) VQ okl (o1.trans (o2.trans (o3.trans o4))) h4 nx nd λx H' nx o h l=>q x H' nx o h (mF.mpr l)⟩
     rw [ah (ao elk4 nx),ah (ao elk4 nd)];exact elk4
    | _=>exact absurd z id
   ·obtain⟨z1,z2,z3,_⟩:=oF z
    rw [zF]at ew
    obtain⟨rfl,rfl⟩:=List.cons.inj ew
    refine ag (aO ⟨_,rfl,a2,_,rfl,.inr (q2 _),rfl,bK _,?_⟩)
    rw [if_neg Bool.false_ne_true,ca]
    refine⟨_,rfl,?_⟩
    rw [decide_eq_false z1]
    refine br (aD ?_)
    dsimp only
    refine ag (aO ⟨_,rfl,a3,_,rfl,.inr (q3 _),rfl,bK _,?_⟩)
    rw [if_neg Bool.false_ne_true,ca]
    refine⟨_,rfl,?_⟩
    rw [decide_eq_false z2]
    refine br (aD ?_)
    dsimp only
    refine ag (aO ⟨_,rfl,a4,_,rfl,.inr (q4 _),rfl,bK _,?_⟩)
    rw [if_neg Bool.false_ne_true,ca]
    refine⟨_,rfl,?_⟩
    rw [decide_eq_false z3]
    refine br (aD ?_)
    dsimp only
    refine aF ⟨_,rfl,_,rfl,r,l,rfl,lw,ws,_,op,okl,z,h1,at0,λx H' nx o h lx=>?_⟩
    rw [show pl+1+(nv l).length=pl+(aX l).length from by rw [zF l,List.length_cons];omega]at h
    exact q x H' (h1.free o1 nx) (o1.trans o) h (mF.mpr (lx.keep (Kq.grow (iu (H0:=H) λb hb=>h1.free o1 hb))))
  | brk w xs=>
   cases n with
   | zero=>exact(show False from ok).elim
   | succ m=>
    obtain⟨rfl,rfl⟩:=List.cons.inj (show w::xs.flatMap (fH m)=w0::r0 from ew)
    obtain⟨hb,hxs⟩:_/\_:=id ok
    have h4:=jq hb
    have hq:∀x H',H x=none->Ofr r H H'->RdAt R H' r lw ws (pl+1+(xs.flatMap (fH m)).length) op->cr c (m+1) (.brk w xs) (wo H H') x->Q (.ref x) H':=λx H' nx o h=>by
     rw [show pl+1+(xs.flatMap (fH m)).length=pl+(aY (m+1) (.brk w xs)).length from by show _=pl+(w::xs.flatMap (fH m)).length;rw [List.length_cons];omega]at h
     exact q x H' nx o h
    rcases hb with⟨hb,hl⟩ | ⟨hb,hl⟩
    ·have zg:=qF.1 w hb
     refine ag (aO ⟨_,rfl,a2,_,rfl,.inr (q2 _),rfl,bK _,?_⟩)
     rw [if_neg Bool.false_ne_true,ca]
     refine⟨_,rfl,?_⟩
     rw [decide_eq_false zg]
     refine br (aD ?_)
     dsimp only
     refine ag (aO ⟨_,rfl,a3,_,rfl,.inr (q3 _),rfl,bK _,?_⟩)
     rw [if_neg Bool.false_ne_true,ca]
     refine⟨_,rfl,?_⟩
     rw [decide_eq_true hb]
     refine bJ ?_
     refine ag (aw ⟨_,rfl,r,xs,(by rw [hl];rfl),m,lw,ws,_,op,rfl,hxs,h4.2,h1,at0,hop,hn,λli as H2 nli o2 h2 eli hp=>?_⟩)
     walk_at "d"
     have hal:=dD hp
     rw [hl]at hal
     match as,hal,hp,eli with
     | [b1,b2],_,hp,eli=>
      refine aF ⟨_,rfl,_,rfl,li,_,0,_,rfl,rfl,SqL.of eli,rfl,_,rfl,li,_,1,_,rfl,rfl,SqL.of eli,rfl,?_⟩
      intro x dx nx nd _
      refine⟨x,_,dx,b1,b2,w,m,xs,rfl,zi VQ ?_ (Paired.mono (λa q0 h=>cr.keep (Kq.grow (iu (H0:=H) λb hb=>h1.free o1 hb)) h) hp) ok ‹1› (o1.trans o2) h2 nx nd hq⟩
      unfold brC
      rw [if_pos hb]
    ·obtain⟨zg,zr⟩:=qF.2 w hb
     refine ag (aO ⟨_,rfl,a2,_,rfl,.inr (q2 _),rfl,bK _,?_⟩)
     rw [if_neg Bool.false_ne_true,ca]
     refine⟨_,rfl,?_⟩
     rw [decide_eq_false zg]
     refine br (aD ?_)
     dsimp only
     refine ag (aO ⟨_,rfl,a3,_,rfl,.inr (q3 _),rfl,bK _,?_⟩)
     rw [if_neg Bool.false_ne_true,ca]
     refine⟨_,rfl,?_⟩
     rw [decide_eq_false zr]
     refine br (aD ?_)
     dsimp only
     refine ag (aO ⟨_,rfl,a4,_,rfl,.inr (q4 _),rfl,bK _,?_⟩)
     rw [if_neg Bool.false_ne_true,ca]
     refine⟨_,rfl,?_⟩
     rw [decide_eq_true hb]
     refine bJ ?_
     refine ag (aw ⟨_,rfl,r,xs,(by rw [hl];rfl),m,lw,ws,_,op,rfl,hxs,h4.2,h1,at0,hop,hn,λli as H2 nli o2 h2 eli hp=>?_⟩)
     walk_at "d"
     have hal:=dD hp
     rw [hl]at hal
     match as,hal,hp,eli with
     | [b1,b2,b3,b4],_,hp,eli=>
      refine aF ⟨_,rfl,_,rfl,li,_,0,_,rfl,rfl,SqL.of eli,rfl,_,rfl,li,_,1,_,rfl,rfl,SqL.of eli,rfl,_,rfl,li,_,2,_,rfl,rfl,SqL.of eli,rfl,_,rfl,li,_,3,_,rfl,rfl,SqL.of eli,rfl,?_⟩
      intro x dx nx nd _
      refine⟨x,_,dx,b1,b2,b3,b4,w,m,xs,rfl,zi VQ ?_ (Paired.mono (λa q0 h=>cr.keep (Kq.grow (iu (H0:=H) λb hb=>h1.free o1 hb)) h) hp) ok ‹1› (o1.trans o2) h2 nx nd hq⟩
      unfold brC
      rw [if_neg (qF.2 w hb).2]
inductive QsW' (c:Cs) (R r lw li:Addr) (ws:List Str) (pl:Nat) (op:Int) (n:Nat) (xs:List Nd) (H H1:Hp) (i:Nat) (σ:St) (H2:Hp):Prop
 | mk (as:List Addr) (h0:i<=xs.length) (h1:σ=[some (.ref r),some (.int (xs.length:Int)),some (.ref li)]) (h2:Ofr r H H2) (h3:∀b o,H1 b=some o->b≠r->b≠li->H2 b=some o) (h4:RdAt R H2 r lw ws (pl+((xs.take i).flatMap (fH n)).length) op) (h5:H2 li=some (.lst (as.map V.ref))) (h6:Paired (λa q=>cr c n q (wo H1 H2) a) as (xs.take i)):QsW' c R r lw li ws pl op n xs H H1 i σ H2
inductive QsW (c:Cs) (R r lw li:Addr) (ws:List Str) (pl:Nat) (op:Int) (n:Nat) (xs:List Nd) (H H1:Hp) (m:Nat) (σ:St) (H2:Hp):Prop
 | mk (i:Nat) (as:List Addr) (hm:m=xs.length - i) (h0:i<=xs.length) (h1:σ=[some (.ref r),some (.int (xs.length:Int)),some (.ref li)]) (h2:Ofr r H H2) (h3:∀b o,H1 b=some o->b≠r->b≠li->H2 b=some o) (h4:RdAt R H2 r lw ws (pl+((xs.take i).flatMap (fH n)).length) op) (h5:H2 li=some (.lst (as.map V.ref))) (h6:Paired (λa q=>cr c n q (wo H1 H2) a) as (xs.take i)):QsW c R r lw li ws pl op n xs H H1 m σ H2
theorem yU:FnScope ["reader", "count", "inner"] ["reader", "count"] (au uy):=‹2›
theorem As {c:Cs}{n:Nat}{f f1 f2 f3 R:Addr}{fd:FuncData} (F:Fun K "questions_here" "questions_here" uy f fd) (N:Free mg){fd1:FuncData} (MO:MC P w K mg base R "bracket_opens" 2 ["self"] [] [] (j0 R) f1 fd1){fd2:FuncData} (MX:MC P w K mg base R "bracket_closes" 2 ["self"] [] [] (gK R) f2 fd2){fd3:FuncData} (CQ:Cal P w K mg base "question_here" (2 * n+6) ["reader"] (tY c R n) f3 fd3):FnOk P w K mg base CX0 (2 * n+7) f fd ["reader", "count"] (nF c R (n+1)):=by
 refine F.ok (k:=2 * n+6) yU (λvs H Q E h=>?_) (λcdv A outer s H vs Q E hr h=>?_)
 ·obtain⟨r,xs,rfl,_⟩:=h
  rfl
 ·obtain⟨r,xs,rfl,m,lw,ws,pl,op,hm,ok,h4,h,hat,hop,hn,q⟩:=h
  have hu:=aP hr
  refine⟨_,(af (aA (i:=2) yU.nd rfl (Or.inl rfl) (be ae))
   (af (vb PassesOwn.never (aN jO (aE aJ (by rfl) N.len PySem.boot_len (aa (pv 2) ae)) (pv 1) (aV _)) (af (bo (bz (pv 0) MO.cl MO.mt MO.ok (hr.mono ‹1›) MO.bd MO.dv av))
   (af (bo (dU PySem.F.plainAttrs_list PySem.F.slot_list_append PySem.F.type_list_append eJ (pv 2) (aa (ay CQ.ok (hr.mono ‹1›) rfl CQ.nm CQ.kp CQ.bd .nil av (aa (pv 0) ae)) ae)))
   (aq (bo (bz (pv 0) MX.cl MX.mt MX.ok (hr.mono ‹1›) MX.bd MX.dv av))))))
   (aq (aB (pv 2))))),?_⟩
  have okm:n=m:=Nat.succ.inj hm
  subst okm
  refine ag (aw ⟨by show 0<=sizeLine;decide,λli nli=>?_⟩)
  walk_at "d"
  obtain⟨g1,e1⟩:=laid (o:=.lst []) nli
  have h1:=h.keep g1
  generalize upd H li _=H1 at g1 e1 h1 ⊢
  refine ag (uX (QsW c R r lw li ws pl op n xs H H1) (m:=xs.length) ⟨0,[],rfl,Nat.zero_le _,rfl,λb o e nb=>g1 _ _ e,λb o e _ _=>e,h1,e1,.nil⟩ λmm σ H2 hh=>?_)
  obtain⟨i,as,rfl,hi,rfl,o2,k2,h2,e2,hp⟩:=hh
  have hal:=dD hp
  rw [List.length_take,Nat.min_eq_left hi]at hal
  refine⟨_,rfl,li,_,rfl,.inl (SqL.of e2),_,rfl,_,_,rfl,rfl,_,rfl,?_⟩
  rw [List.length_map,hal]
  by_cases hlt:i < xs.length
  ·rw [decide_eq_true ‹1›]
   refine bJ ⟨QsW' c R r lw li ws pl op n xs H H1 (i+1),λσ' H' hh=>?_,?_⟩
   ·obtain⟨as',z1,z2,z3,z4,z5,z6,z7⟩:=hh
    exact⟨xs.length - (i+1),by omega,i+1,as',rfl,z1,z2,z3,z4,z5,z6,z7⟩
   have hx:xs[i]?=some xs[i]:=List.getElem?_eq_getElem hlt
   have et:xs.take (i+1)=xs.take i++[xs[i]]:=by rw [List.take_add_one,hx];rfl
   have hsp:xs=xs.take i++xs[i]::xs.drop (i+1):=by
    have:=List.take_append_drop i xs
    rw [List.drop_eq_getElem_cons hlt]at this
    exact this.symm
   have at1:At ws (pl+((xs.take i).flatMap (fH n)).length) (opS::(aY n xs[i]++([clS]++(xs.drop (i+1)).flatMap (fH n)))):=by
    have:=hat
    rw [hsp,List.flatMap_append,List.flatMap_cons]at this
    have:=(At.app this).2
    rw [show fH n xs[i]++(xs.drop (i+1)).flatMap (fH n)=opS::(aY n xs[i]++([clS]++(xs.drop (i+1)).flatMap (fH n))) from by show opS::(aY n xs[i]++[clS])++_=_;rw [List.cons_append,List.append_assoc]]at this
    exact this
   have okx:=ok xs[i] (List.getElem_mem hlt)
   have nlr:li≠r:=λz=>by obtain⟨d,e⟩:=h.ob;rw [z,e]at nli;cases nli
   obtain⟨dx2,ho2⟩:=h2.ob
   refine ag (bn ⟨_,rfl,r,dx2,_,rfl,ho2,bA _ _ _ ‹0› ‹0› ‹0›,r,lw,ws,_,op,rfl,h2,at1.hd,by omega,λH3 o3 h3=>?_⟩)
   have at2:=at1.tl
   have e3:=o3 _ _ e2 nlr
   obtain⟨at3,at4⟩:=at2.app
   dsimp only
   refine ag (bn ⟨_,rfl,.inl ⟨rfl,_,SqL.of e3⟩,?_⟩)
   refine bZ ⟨_,rfl,r,xs[i],rfl,lw,ws,_,op+1,okx,h3,at3,by omega,by omega,λx H4 nx o4 h4 qn=>?_⟩
   have e4:=o4 _ _ e3 nlr
   refine⟨li,_,_,rfl,rfl,e4,?_,?_⟩
   ·rw [List.length_map,hal];exact bu ‹1›
   have h5:RdAt R (upd H4 li (.lst (as.map V.ref++[.ref x]))) r lw ws (pl+((xs.take i).flatMap (fH n)).length+1+(aY n xs[i]).length) (op+1):=by
    obtain⟨d,e⟩:=h4.ob
    refine⟨⟨d,by rw [ah (Ne.symm nlr)];exact e⟩,?_⟩
    rw [ah (ao h.wd nli)];exact h4.wd
   generalize hH5:upd H4 li _=H5 at h5
   have e5:H5 li=some (.lst ((as++[x]).map V.ref)):=by rw [<- hH5,ai,List.map_append];rfl
   have k5:∀b o,H4 b=some o->b≠li->H5 b=some o:=λb o e nb=>by rw [<- hH5,ah nb];exact e
   dsimp only
   obtain⟨dx5,ho5⟩:=h5.ob
   refine bn ⟨_,rfl,r,dx5,_,rfl,ho5,bA _ _ _ ‹0› ‹0› ‹0›,r,lw,ws,_,op+1,rfl,h5,at4.hd,λH6 o6 h6=>?_⟩
   refine⟨as++[x],by omega,rfl,λb o e nb=>?_,λb o e n1 n2=>?_,?_,o6 _ _ e5 nlr,?_⟩
   ·exact o6 _ _ (k5 _ _ (o4 _ _ (o3 _ _ (o2 _ _ e nb) nb) nb) (ao e nli)) nb
   ·exact o6 _ _ (k5 _ _ (o4 _ _ (o3 _ _ (k2 _ _ e n1 n2) n1) n1) n2) n1
   ·rw [show op+1 - 1=op from by omega]at h6
    rw [et,List.flatMap_append,List.length_append,List.flatMap_cons,List.flatMap_nil,List.append_nil]
    rw [show pl+(((xs.take i).flatMap (fH n)).length+(fH n xs[i]).length)=pl+((xs.take i).flatMap (fH n)).length+1+(aY n xs[i]).length+1 from by show _+(_+(opS::(_++[clS])).length)=_;rw [List.length_cons,List.length_append,List.length_singleton];omega]
    exact h6
   ·rw [et]
    have kk:∀b o,H1 b=none->H4 b=some o->H6 b=some o:=λb o n e=>o6 _ _ (k5 _ _ e (λz=>by rw [z,e1]at n;cases n)) (λz=>by obtain⟨d,er⟩:=h1.ob;rw [z,er]at n;cases n)
    refine Paired.snoc (Paired.mono (λa q0 hq0=>cr.keep (Kq.grow (lV λb o n e=>?_)) hq0) hp) (cr.keep (Kq.grow (aZ.trans (iu (H0:=H1) λb hb=>?_) (lV kk))) qn)
    ·exact kk _ _ n (o4 _ _ (o3 _ _ e (λz=>by obtain⟨d,er⟩:=h1.ob;rw [z,er]at n;cases n)) (λz=>by obtain⟨d,er⟩:=h1.ob;rw [z,er]at n;cases n))
    ·cases e:H1 b with
     | none=>rfl
     | some o=>
      by_cases zr:b=r
      ·obtain⟨d,er⟩:=h3.ob
       rw [zr,er]at hb;cases hb
      ·by_cases zl:b=li
       ·rw [zl,e3]at hb;cases hb
       ·rw [o3 _ _ (k2 _ _ e zr zl) zr]at hb;cases hb
  ·have:i=xs.length:=by omega
   subst this
   rw [decide_eq_false ‹1›]
   rw [List.take_length]at h2 hp
   refine br (aF ⟨_,rfl,q li as H2 nli o2 h2 e2 (Paired.mono (λa q0 hq0=>cr.keep (Kq.grow (iu (H0:=H) λb hb=>bN g1 hb)) hq0) hp)⟩)
noncomputable def yS (c:Cs) (R:Addr):Sp:=λvs H Q E=>∃n,n<=3/\tY c R n vs H Q E
theorem uZ {c:Cs}{f f1 f2 f3 f4 f5 f6 f7 f8 f9 f10 R:Addr}{fd:FuncData} (Fq:Fun K "question_here" "question_here" sQh f fd) (nq:mg "question_here" = some (.ref f)) (bq:cm K fd ["reader"] []){fd4:FuncData} (Fs:Fun K "questions_here" "questions_here" uy f4 fd4) (ns:mg "questions_here" = some (.ref f4)) (bs:cm K fd4 ["reader", "count"] []) (N:Free mg) (ZT:ConT K mg) (VQ:∀C∈c.all,QuC K C){fd1:FuncData} (MB:MC P w K mg base R "beginning_here" 2 ["self"] [] [] (qU R) f1 fd1){fd2:FuncData} (MD:MC P w K mg base R "day_here" 4 ["self", "earliest"] [] [] (jA R) f2 fd2){fd3:FuncData} (ME:MC P w K mg base R "keys_here" 4 ["self"] [] [] (j4 R) f3 fd3){fd5:FuncData} (CG:Cal P w K mg base "single_here" 5 ["reader", "word"] (gJ c R) f5 fd5){fd6:FuncData} (KGth:MkC P w K mg base "Gathering" 3 ["self", "word", "keys", "first", "last"] (md K) c.gth f6 fd6){fd7:FuncData} (KRck:MkC P w K mg base "Reckoning" 4 ["self", "word", "one", "other"] (j5 K c) c.rck f7 fd7){fd8:FuncData} (KChc:MkC P w K mg base "Choice" 4 ["self", "word", "one", "other", "chosen", "otherwise"] (j6 K c) c.chc f8 fd8){fd9:FuncData} (MO:MC P w K mg base R "bracket_opens" 2 ["self"] [] [] (j0 R) f9 fd9){fd10:FuncData} (MX:MC P w K mg base R "bracket_closes" 2 ["self"] [] [] (gK R) f10 fd10) :
  ∀n,Cal P w K mg base "questions_here" (2 * n+5) ["reader", "count"] (nF c R n) f4 fd4/\Cal P w K mg base "question_here" (2 * n+6) ["reader"] (tY c R n) f fd
 | 0=>by
  have a:Cal P w K mg base "questions_here" (2 * 0+5) ["reader", "count"] (nF c R 0) f4 fd4:=⟨FnOk.no (λvs H Q E h=>by obtain⟨r,xs,_,m,_,_,_,_,hm,_⟩:=h;cases hm),ns,Fs.kp,bs⟩
  exact⟨a,zf Fq N ZT VQ MB MD ME a CG KGth KRck KChc,nq,Fq.kp,bq⟩
 | n+1=>by
  obtain⟨_,h2⟩:=uZ Fq nq bq Fs ns bs N ZT VQ MB MD ME CG KGth KRck KChc MO MX n
  have a:Cal P w K mg base "questions_here" (2 * (n+1)+5) ["reader", "count"] (nF c R (n+1)) f4 fd4:=⟨As Fs N MO MX h2,ns,Fs.kp,bs⟩
  exact⟨a,zf Fq N ZT VQ MB MD ME a CG KGth KRck KChc,nq,Fq.kp,bq⟩
theorem Av {c:Cs}{f f1 f2 f3 f4 f5 f6 f7 f8 f9 f10 R:Addr}{fd:FuncData} (Fq:Fun K "question_here" "question_here" sQh f fd) (nq:mg "question_here" = some (.ref f)) (bq:cm K fd ["reader"] []){fd4:FuncData} (Fs:Fun K "questions_here" "questions_here" uy f4 fd4) (ns:mg "questions_here" = some (.ref f4)) (bs:cm K fd4 ["reader", "count"] []) (N:Free mg) (ZT:ConT K mg) (VQ:∀C∈c.all,QuC K C){fd1:FuncData} (MB:MC P w K mg base R "beginning_here" 2 ["self"] [] [] (qU R) f1 fd1){fd2:FuncData} (MD:MC P w K mg base R "day_here" 4 ["self", "earliest"] [] [] (jA R) f2 fd2){fd3:FuncData} (ME:MC P w K mg base R "keys_here" 4 ["self"] [] [] (j4 R) f3 fd3){fd5:FuncData} (CG:Cal P w K mg base "single_here" 5 ["reader", "word"] (gJ c R) f5 fd5){fd6:FuncData} (KGth:MkC P w K mg base "Gathering" 3 ["self", "word", "keys", "first", "last"] (md K) c.gth f6 fd6){fd7:FuncData} (KRck:MkC P w K mg base "Reckoning" 4 ["self", "word", "one", "other"] (j5 K c) c.rck f7 fd7){fd8:FuncData} (KChc:MkC P w K mg base "Choice" 4 ["self", "word", "one", "other", "chosen", "otherwise"] (j6 K c) c.chc f8 fd8){fd9:FuncData} (MO:MC P w K mg base R "bracket_opens" 2 ["self"] [] [] (j0 R) f9 fd9){fd10:FuncData} (MX:MC P w K mg base R "bracket_closes" 2 ["self"] [] [] (gK R) f10 fd10) :
  FnOk P w K mg base CX0 12 f fd ["reader"] (yS c R):=FnOk.ex (sp:=tY c R) (N:=3) λn hn=>FnOk.mono (uZ Fq nq bq Fs ns bs N ZT VQ MB MD ME CG KGth KRck KChc MO MX n).2.ok ‹1›
inductive QoI (c:Cs) (n:Nat) (nd:Nd) (H:Hp) (Q:VK):Prop
 | mk (ok:iq n nd) (hn:n<=3) (q:∀x H',H x=none->aZ H H'->cr c n nd (wo H H') x->Q (.ref x) H'):QoI c n nd H Q
noncomputable def yR (c:Cs):Sp:=λvs H Q _=>∃(n:Nat) (nd:Nd),vs=[.str (jn (aY n nd))]/\QoI c n nd H Q
theorem ul:FnScope ["text", "reader", "question"] ["text"] (au A5):=‹2›
theorem Au {c:Cs}{f f1 f2 f3 R:Addr}{fd:FuncData} (F:Fun K "question_of" "question_of" A5 f fd) (N:Free mg){fd1:FuncData} (KR:MkC P w K mg base "Reader" 1 ["self", "text"] (qS R) R f1 fd1){fd2:FuncData} (CQ:Cal P w K mg base "question_here" 12 ["reader"] (yS c R) f2 fd2){fd3:FuncData} (MZ:MC P w K mg base R "check_end" 1 ["self"] [] [] (yT R) f3 fd3):FnOk P w K mg base CX0 13 f fd ["text"] (yR c):=by
 refine F.ok (k:=12) ul (λvs H Q E h=>?_) (λcdv A outer s H vs Q E hr h=>?_)
 ·obtain⟨n,nd,rfl,_⟩:=h
  rfl
 ·obtain⟨n,nd,rfl,ok,hn,q⟩:=h
  have hu:=aP hr
  refine⟨_,(af (bx (dZ (dB (aE dc (by rfl) N.isinstance PyProof.Rows.Boot.«isinstance» (aa (pv 0) (aa (gY (v:=.ty "str") (by rfl) N.str PyProof.Rows.Boot.«str» rfl) ae))))) (aq gS) aL)
   (af (aA (i:=1) ul.nd rfl (Or.inl rfl) (dk KR.km KR.ok (hr.mono (by decide)) rfl KR.nm KR.bd .nil av (aa (pv 0) ae)))
   (af (aA (i:=2) ul.nd rfl (Or.inl rfl) (ay CQ.ok (hr.mono (by decide)) rfl CQ.nm CQ.kp CQ.bd .nil av (aa (pv 1) ae)))
   (af (bo (bz (pv 1) MZ.cl MZ.mt MZ.ok (hr.mono (by decide)) MZ.bd MZ.dv av))
   (aq (aB (pv 2))))))),?_⟩
  have hws:=js ok
  have hwl:=Nat.le_trans (ir ok) (C0 hn)
  have hjl:=vX (ws:=aY n nd) (m:=79) λw hw=>(hws w hw).len
  refine ag (aO ⟨_,rfl,_,_,_,_,rfl,.str _,rfl,_,rfl,?_⟩)
  refine br (aD ?_)
  dsimp only
  refine ag (aw ⟨_,rfl,?_⟩)
  intro r dr nr ndr ne
  refine⟨r,dr,aY n nd,rfl,ai,nn n ok,by omega,λw hw=>(hws w hw).free,Nat.le_trans hjl (Nat.le_trans (show _<=100000 by omega) (by decide)),λlw H1 nlw o1 h1=>⟨rfl,?_⟩⟩
  walk_at "d"
  have g1:aZ H H1:=λb o e=>o1 _ _ (by rw [ah (ao e nr),ah (ao e ndr)];exact e) (ao e nr)
  refine ag (aw ⟨_,rfl,n,hn,r,nd,rfl,lw,_,0,0,ok,h1,At.all _,by omega,hn,λx H2 nx o2 h2 qn=>?_⟩)
  walk_at "d"
  rw [Nat.zero_add]at h2
  have g2:aZ H H2:=λb o e=>o2 _ _ (g1 _ _ e) (ao e nr)
  obtain⟨d2,ho2⟩:=h2.ob
  refine ag (bn ⟨_,rfl,r,d2,_,rfl,ho2,bA _ _ _ ‹0› ‹0› ‹0›,r,lw,_,0,rfl,h2,?_⟩)
  dsimp only
  exact aF ⟨_,rfl,q x H2 (bN g1 nx) g2 (cr.keep (Kq.grow (iu (H0:=H) λb hb=>bN g1 hb)) qn)⟩
def Nm2 (ss:List Str):Prop:=(ss.length=8\/ss.length=2)/\ss.Nodup/\∀x∈ss,cF x dq 8=true
noncomputable def C4 (ss:List Str) (lo wd:Int):Lf->Prop
 | .num _=>True
 | .val k d=>k∈ss/\lo<=d/\d < lo+wd
 | .gth _ ks f l=>(∀k∈ks,k∈ss)/\lo<=f/\l < lo+wd
 | .snc k _ f l=>k∈ss/\lo<=f/\l < lo+wd
 | .prt a b f l=>(a∈ss/\b∈ss)/\lo<=f/\l < lo+wd
 | .chg _ k f l=>k∈ss/\lo<=f/\l < lo+wd
noncomputable def lfV (p:Addr):Lf->List V
 | .num z=>[.str ‹"number"›,.int z]
 | .val k d=>[.str ‹"value"›,.str k,.int d]
 | .gth w _ f l=>[.str w,.ref p,.int f,.int l]
 | .snc k b f l=>[.str ‹"since"›,.str k,.int b,.int f,.int l]
 | .prt a b f l=>[.str ‹"part"›,.str a,.str b,.int f,.int l]
 | .chg r k f l=>[.str ‹"change"›,.int r,.str k,.int f,.int l]
noncomputable def lfL (p:Addr) (H:Hp):Lf->Prop
 | .gth _ ks _ _=>H p=some (.lst (ks.map V.str))
 | _=>True
inductive LN (l:Lf) (H:Hp) (a:Addr):Prop
 | mk (p:Addr) (h1:H a=some (.tup (lfV p l))) (h2:lfL p H l):LN l H a
theorem LN.keep {l:Lf}{H H':Hp}{a:Addr} (h:LN l H a) (g:aZ H H'):LN l H' a:=by
 obtain⟨p,h1,h2⟩:=h
 refine⟨p,g _ _ h1,?_⟩
 cases l <;> first | exact True.intro | exact g _ _ h2
theorem vQ {ss:List Str}{n:Int} (h:Nm2 ss) (n0:0<=n) (n1:n < ss.length):∃k,atI (ss.map V.str) n=some (.str k)/\kE k/\k∈ss:=by
 obtain⟨_,_,hk⟩:=h
 obtain⟨j,rfl⟩:∃j:Nat,n=(j:Int):=⟨n.toNat,by omega⟩
 have hj:j < ss.length:=by omega
 exact⟨ss[j],dY (by rw [List.getElem?_map,List.getElem?_eq_getElem hj];rfl),hk _ (List.getElem_mem hj),List.getElem_mem hj⟩
noncomputable abbrev w9:List Str:=[‹"value"›, ‹"sum"›, ‹"count"›, ‹"least"›, ‹"greatest"›, ‹"since"›, ‹"part"›, ‹"change"›, ‹"number"›]
end Mine
namespace L2
open PySem PySem.Spec PyProof.Rows
section
variable {X:Cx}
end
noncomputable def rQ (z:Nat->Int):Nat->Option Int
 | 0=>none
 | j+1=>match rQ z j with
  | none=>some (z j)
  | some m=>some (if z j < m then z j else m)
section
variable {prog:Program}{w:World}{A:Around}{R:Result->Shared->Prop}{I:Addr}{fp wr:List Addr}{n:Nat}{P:Nat->Value->Prop}{St:Nat->Heap->Prop}
end
noncomputable def wL (ns:List Int):V:=match rQ (λi=>ns.getD i 0) ns.length with
 | none=>.non
 | some m=>.int m
noncomputable def rR (z:Nat->Int):Nat->Option Int
 | 0=>none
 | j+1=>match rR z j with
  | none=>some (z j)
  | some m=>some (if z j > m then z j else m)
section
variable {prog:Program}{w:World}{A:Around}{R:Result->Shared->Prop}{I:Addr}{fp wr:List Addr}{n:Nat}{P:Nat->Value->Prop}{St:Nat->Heap->Prop}
end
noncomputable def wM (ns:List Int):V:=match rR (λi=>ns.getD i 0) ns.length with
 | none=>.non
 | some m=>.int m
end L2
namespace L2
open PySem PySem.SetTable
def yC (xs:Array Nat):Prop:=∀(i k:Nat) (hi:i < xs.size) (hk:k < xs.size),i < k->xs[i] < xs[k]
structure CutN (xs:Array Nat) (j p:Nat):Prop where
 le:p<=xs.size
 lo:∀(i:Nat) (h:i < xs.size),i < p->xs[i] < j
 hi:∀(i:Nat) (h:i < xs.size),p<=i->j<=xs[i]
theorem qw {xs:Array Nat}{j:Nat} (r:yC xs):∀(fuel lo hi:Nat),hi - lo<=fuel->lo<=hi->hi<=xs.size->(∀(i:Nat) (h:i < xs.size),i < lo->xs[i] < j)->(∀(i:Nat) (h:i < xs.size),hi<=i->j<=xs[i])->CutN xs j (below.go xs j fuel lo hi)
 | 0,lo,hi,hf,hl,hs,h1,h2=>by
  have e:lo=hi:=by omega
  unfold below.go
  exact⟨by omega,h1,by rw [e];exact h2⟩
 | fuel+1,lo,hi,hf,hl,hs,h1,h2=>by
  unfold below.go
  by_cases hlt:lo < hi
  ·rw [if_pos hlt]
   have hm:(lo+hi) / 2 < xs.size:=by omega
   have hg:xs.getD ((lo+hi) / 2) j=xs[(lo+hi) / 2]:=by
    rw [Array.getD_eq_getD_getElem?,Array.getElem?_eq_getElem hm];rfl
   dsimp only
   rw [hg]
   by_cases hc:xs[(lo+hi) / 2] < j
   ·rw [if_pos hc]
    refine qw r fuel _ _ ‹1› ‹1› hs (λi h hi'=>?_) h2
    by_cases e:i=(lo+hi) / 2
    ·subst e;exact hc
    ·exact Nat.lt_trans (r i _ h hm ‹1›) hc
   ·rw [if_neg hc]
    refine qw r fuel _ _ ‹1› ‹1› ‹1› h1 (λi h hi'=>?_)
    by_cases e:i=(lo+hi) / 2
    ·subst e;omega
    ·have:=r _ i hm h ‹1›
     omega
  ·rw [if_neg hlt]
   have e:lo=hi:=by omega
   exact⟨by omega,h1,by rw [e];exact h2⟩
theorem dz {xs:Array Nat} (r:yC xs) (j:Nat):CutN xs j (below xs j):=qw r xs.size 0 xs.size ‹1› (Nat.zero_le _) (Nat.le_refl _) (λi _ h=>absurd h (Nat.not_lt_zero _)) λi h h'=>absurd h ‹1›
theorem wN {xs:Array Nat} (r:yC xs){j i:Nat} (h:xs[i]?=some j):below xs j=i:=by
 obtain⟨hi,e⟩:=Array.getElem?_eq_some_iff.mp h
 have c:=dz r j
 rcases Nat.lt_trichotomy (below xs j) i with z | z | z
 ·have h1:=c.hi (below xs j) ‹1› (Nat.le_refl _)
  have h2:=r _ _ ‹1› hi z
  omega
 ·exact z
 ·have:=c.lo i hi z
  omega
structure Tb (t:SetTable) (n:Nat):Prop where
 ris:yC t.place
 dum:t.dummies = #[]
 sz:t.place.size=n
 top:∀(i:Nat) (h:i < t.place.size),t.place[i]<=t.mask
theorem dw {t:SetTable}{n j i:Nat} (T:Tb t n):t.slot j=.live i↔t.place[i]?=some j:=by
 unfold slot
 dsimp only
 constructor
 ·intro h
  by_cases z:t.place[below t.place j]?=some j
  ·rw [if_pos (by rw [z];exact beq_self_eq_true _)]at h
   injection h with h
   rw [<- h];exact z
  ·rw [if_neg (λy=>z (eq_of_beq y))]at h
   rw [T.dum]at h
   cases h
 ·intro h
  rw [wN T.ris h,if_pos (by rw [h];exact beq_self_eq_true _)]
theorem gm {t:SetTable}{n j:Nat} (T:Tb t n):t.slot j=.empty↔∀i:Nat,t.place[i]?≠some j:=by
 constructor
 ·intro h i e
  rw [(dw T).mpr e]at h
  cases h
 ·intro h
  unfold slot
  dsimp only
  rw [if_neg (λy=>h _ (eq_of_beq y)),T.dum]
  rfl
theorem slot_cases {t:SetTable}{n:Nat} (T:Tb t n) (j:Nat):t.slot j=.empty\/∃i,t.slot j=.live i:=by
 by_cases h:∃i:Nat,t.place[i]?=some j
 ·obtain⟨i,h⟩:=h
  exact .inr ⟨i,(dw T).mpr h⟩
 ·exact .inl ((gm T).mpr λi e=>h ⟨i,e⟩)
end L2
namespace L2
open PySem PySem.SetTable
noncomputable def lp (n i:Nat):Nat:=(i * 5+1) % n
noncomputable def orb (n:Nat):Nat->Nat->Nat
 | i,0=>i
 | i,m+1=>orb n (lp n i) m
theorem je (n:Nat):∀(a i b:Nat),orb n i (a+b)=orb n (orb n i a) b
 | 0,i,b=>by rw [Nat.zero_add];rfl
 | a+1,i,b=>by rw [Nat.succ_add];exact je n a (lp n i) b
noncomputable def met (n:Nat):Nat->Nat->Nat->Nat
 | 0,_,acc=>acc
 | m+1,i,acc=>met n m (lp n i) (acc ||| (1 <<< i))
theorem met_bit (n:Nat):∀(m i acc s:Nat),(met n m i acc).testBit s=true->acc.testBit s=true\/∃k,k < m/\orb n i k=s
 | 0,_,acc,s,h=>.inl h
 | m+1,i,acc,s,h=>by
  rcases met_bit n m (lp n i) _ s h with h | ⟨k,hk,e⟩
  ·rw [Nat.testBit_or,Bool.or_eq_true]at h
   rcases h with h | h
   ·exact .inl h
   ·refine .inr ⟨0,by omega,?_⟩
    rw [Nat.one_shiftLeft,Nat.testBit_two_pow,decide_eq_true_eq]at h
    exact h
  ·exact .inr ⟨k+1,by omega,e⟩
theorem yh:∀n∈[8,32,128,512,2048],met n n 0 0=2 ^ n - 1/\orb n 0 n=0:=‹0›
theorem rf {n:Nat} (hn:n∈[8,32,128,512,2048]){i s:Nat} (hi:i < n) (hs:s < n):∃k,k < n/\orb n i k=s:=by
 obtain⟨h1,h2⟩:=yh n hn
 have at0:∀s,s < n->∃k,k < n/\orb n 0 k=s:=λs hs=>by
  have:(met n n 0 0).testBit s=true:=by rw [h1,Nat.testBit_two_pow_sub_one];exact decide_eq_true hs
  rcases met_bit n n 0 0 s this with h | h
  ·rw [Nat.zero_testBit]at h;cases h
  ·exact h
 obtain⟨a,ha,ea⟩:=at0 i hi
 obtain⟨b,hb,eb⟩:=at0 s hs
 by_cases hab:a<=b
 ·refine⟨b - a,by omega,?_⟩
  rw [<- ea,<- je,Nat.add_sub_cancel' hab,eb]
 ·refine⟨n - a+b,by omega,?_⟩
  rw [<- ea,<- je,show a+(n - a+b)=n+b by omega,je,h2,eb]
end L2
namespace L2
open PySem PySem.SetTable
noncomputable def wk (t:SetTable) (p:Probe):Nat->Probe
 | 0=>p
 | k+1=>wk t (t.advance p) k
theorem cR (t:SetTable):∀(a:Nat) (p:Probe) (b:Nat),wk t p (a+b)=wk t (wk t p a) b
 | 0,p,b=>by rw [Nat.zero_add];rfl
 | a+1,p,b=>by rw [Nat.succ_add];exact cR t a (t.advance p) b
theorem qK (t:SetTable) (p:Probe) (k:Nat):wk t p (k+1)=t.advance (wk t p k):=cR t k p 1
noncomputable def std (t:SetTable) (i pt:Nat) (d:Option Nat):Probe:={ j:=i,more:=runEnd t.mask i - i,i,perturb:=pt,dummy:=d }
theorem sh (t:SetTable) (h:Int):t.probeStart h=std t (bits h % (t.mask+1)) (bits h) none:=rfl
theorem uT (mask i:Nat):runEnd mask i - i<=9:=by unfold runEnd;split <;> omega
theorem pe (t:SetTable) (i pt:Nat) (d:Option Nat):∀(m j:Nat),wk t { j:=j,more:=m,i:=i,perturb:=pt,dummy:=d } m={ j:=j+m,more:=0,i:=i,perturb:=pt,dummy:=d }
 | 0,j=>rfl
 | m+1,j=>by
  show wk t (t.advance { j:=j,more:=m+1,i:=i,perturb:=pt,dummy:=d }) m=_
  have e:t.advance { j:=j,more:=m+1,i:=i,perturb:=pt,dummy:=d }={ j:=j+1,more:=m,i:=i,perturb:=pt,dummy:=d }:=by
   unfold advance
   rw [if_pos (Nat.succ_pos m)]
   rfl
  rw [e,pe t i pt d m (j+1)]
  simp only [Probe.mk.injEq,and_true,true_and]
  omega
theorem wW (t:SetTable) (i pt:Nat) (d:Option Nat):∃k,k<=10/\wk t (std t i pt d) k=std t (leap t.mask i pt).1 (leap t.mask i pt).2 d:=by
 refine⟨runEnd t.mask i - i+1,by have:=uT t.mask i;omega,?_⟩
 rw [qK]
 unfold std
 rw [pe]
 unfold advance
 rw [if_neg (Nat.lt_irrefl 0)]
noncomputable def lps (mask:Nat):Nat->Nat × Nat->Nat × Nat
 | 0,x=>x
 | k+1,x=>lps mask k (leap mask x.1 x.2)
theorem mL (mask:Nat):∀(a b:Nat) (x:Nat × Nat),lps mask (a+b) x=lps mask b (lps mask a x)
 | 0,b,x=>by rw [Nat.zero_add];rfl
 | a+1,b,x=>by rw [Nat.succ_add];exact mL mask a b _
theorem tF (t:SetTable) (d:Option Nat):∀(n:Nat) (x:Nat × Nat),∃k,k<=10 * n/\wk t (std t x.1 x.2 d) k=std t (lps t.mask n x).1 (lps t.mask n x).2 d
 | 0,x=>⟨0,Nat.le_refl _,rfl⟩
 | n+1,x=>by
  obtain⟨a,ha,ea⟩:=wW t x.1 x.2 d
  obtain⟨b,hb,eb⟩:=tF t d n (leap t.mask x.1 x.2)
  exact⟨a+b,by omega,by rw [cR,ea];exact eb⟩
theorem qp (mask:Nat):∀(n:Nat) (x:Nat × Nat),(lps mask n x).2=x.2 / 32 ^ n
 | 0,x=>by rw [Nat.pow_zero,Nat.div_one];rfl
 | n+1,x=>by
  show (lps mask n (leap mask x.1 x.2)).2=_
  rw [qp mask n]
  show x.2 / 32 / 32 ^ n=_
  rw [Nat.div_div_eq_div_mul,Nat.pow_succ,Nat.mul_comm]
theorem qq (mask:Nat):∀(n:Nat) (x:Nat × Nat),x.1 < mask+1->(lps mask n x).1 < mask+1
 | 0,x,h=>h
 | n+1,x,h=>qq mask n _ (Nat.mod_lt _ (Nat.succ_pos _))
theorem mK (mask:Nat):∀(n i:Nat),lps mask n (i,0)=(orb (mask+1) i n,0)
 | 0,i=>rfl
 | n+1,i=>by
  show lps mask n (leap mask i 0)=_
  have e:leap mask i 0=(lp (mask+1) i,0):=by
   unfold leap lp
   rw [Nat.zero_div,Nat.add_zero]
  rw [e,mK mask n]
  rfl
theorem rS (h:Int):bits h < 2 ^ 64:=by
 unfold bits
 have h1:=Int.emod_nonneg h (show (2 ^ 64:Int)≠0 by decide)
 have h2:=Int.emod_lt_of_pos h (show (0:Int) < 2 ^ 64 by decide)
 have:((h % (2 ^ 64:Int)).toNat:Int) < ((2 ^ 64:Nat):Int):=by
  rw [Int.toNat_of_nonneg h1]
  exact h2
 exact Int.ofNat_lt.mp this
theorem zE {t:SetTable} (hm:t.mask+1∈[8,32,128,512,2048]) (h:Int){s:Nat} (hs:s<=t.mask):∃k,k<=10 * (13+t.mask)/\(wk t (t.probeStart h) k).j=s:=by
 have h0:bits h % (t.mask+1) < t.mask+1:=Nat.mod_lt _ (Nat.succ_pos _)
 have hi:=qq t.mask 13 (bits h % (t.mask+1),bits h) h0
 have hp:(lps t.mask 13 (bits h % (t.mask+1),bits h)).2=0:=by
  rw [qp]
  exact Nat.div_eq_of_lt (Nat.lt_of_lt_of_le (rS h) (by decide))
 obtain⟨m,hm',em⟩:=rf hm hi (Nat.lt_succ_of_le hs)
 obtain⟨k,hk,ek⟩:=tF t none (13+m) (bits h % (t.mask+1),bits h)
 refine⟨k,by omega,?_⟩
 rw [sh,ek,mL]
 have e:lps t.mask 13 (bits h % (t.mask+1),bits h)=((lps t.mask 13 (bits h % (t.mask+1),bits h)).1,0):=Prod.ext rfl hp
 rw [e,mK]
 exact em
inductive Mets (t:SetTable) (ha:Nat->Int) (h:Int) (p:Probe) (k:Nat) (r:Option Met):Prop
 | emp (m:Nat) (h1:m<=k) (h2:t.slot (wk t p m).j=.empty) (h3:∀x,x < m->∃i,t.slot (wk t p x).j=.live i/\ha i≠h) (h4:r=some (.empty (wk t p m).j p.dummy)):Mets t ha h p k r
 | can (m i:Nat) (h1:m < k) (h2:t.slot (wk t p m).j=.live i) (h3:ha i=h) (h4:∀x,x < m->∃i,t.slot (wk t p x).j=.live i/\ha i≠h) (h5:r=some (.candidate (wk t p m).j i (wk t p (m+1)))):Mets t ha h p k r
theorem lT (t:SetTable) (p:Probe):(t.advance p).dummy=p.dummy:=by
 unfold advance
 split <;> rfl
theorem go_mets {t:SetTable}{n:Nat} (T:Tb t n) (ha:Nat->Int) (h:Int):∀(fuel k:Nat) (p:Probe),k < fuel->t.slot (wk t p k).j=.empty->Mets t ha h p k (probe.go t ha h fuel p)
 | 0,k,p,hk,_=>absurd hk (Nat.not_lt_zero _)
 | fuel+1,k,p,hk,he=>by
  rcases slot_cases T p.j with hj | ⟨i,hj⟩
  ·refine .emp 0 (Nat.zero_le _) hj (λx hx=>absurd hx (Nat.not_lt_zero _)) ?_
   unfold probe.go
   rw [hj]
   rfl
  ·cases k with
   | zero=>rw [show t.slot p.j=.empty from he]at hj;cases hj
   | succ k=>
    by_cases hh:ha i=h
    ·refine .can 0 i (Nat.succ_pos _) hj hh (λx hx=>absurd hx (Nat.not_lt_zero _)) ?_
     unfold probe.go
     rw [hj]
     dsimp only
     rw [if_pos (by rw [hh];exact beq_self_eq_true _)]
     rfl
    ·have e:probe.go t ha h (fuel+1) p=probe.go t ha h fuel (t.advance p):=by
      rw [probe.go]
      rw [hj]
      dsimp only
      rw [if_neg (λy=>hh (eq_of_beq y))]
     rw [e]
     rcases go_mets T ha h fuel k (t.advance p) ‹1› he with⟨m,h1,h2,h3,h4⟩ | ⟨m,i2,h1,h2,h3,h4,h5⟩
     ·refine .emp (m+1) ‹1› h2 (λx hx=>?_) (by rw [h4,lT];rfl)
      cases x with
      | zero=>exact⟨i,hj,hh⟩
      | succ x=>exact h3 x ‹1›
     ·refine .can (m+1) i2 ‹1› h2 h3 (λx hx=>?_) h5
      cases x with
      | zero=>exact⟨i,hj,hh⟩
      | succ x=>exact h4 x ‹1›
end L2
namespace L2
open PySem PySem.SetTable
theorem cJ {α:Type} (xs:Array α) (p:Nat) (x:α) (hp:p<=xs.size) (i:Nat):(insertAt xs p x)[i]?=if i < p then xs[i]? else if i=p then some x else xs[i - 1]?:=by
 unfold insertAt
 have hs:((xs.extract 0 p).push x).size=p+1:=by rw [Array.size_push,Array.size_extract];omega
 by_cases h1:i < p
 ·rw [if_pos h1,Array.getElem?_append_left ‹1›,Array.getElem?_push,if_neg (by rw [Array.size_extract];omega),Array.getElem?_extract,if_pos ‹1›,Nat.zero_add]
 ·rw [if_neg h1]
  by_cases h2:i=p
  ·rw [if_pos h2,Array.getElem?_append_left ‹1›,Array.getElem?_push,if_pos (by rw [Array.size_extract];omega)]
  ·rw [if_neg h2,Array.getElem?_append_right ‹1›,hs,Array.getElem?_extract]
   by_cases h3:i - (p+1) < xs.size - p
   ·rw [if_pos ‹1›,show p+(i - (p+1))=i - 1 by omega]
   ·rw [if_neg ‹1›,Array.getElem?_eq_none ‹1›]
theorem iH {α:Type} (xs:Array α) (p:Nat) (x:α) (hp:p<=xs.size):(insertAt xs p x).size=xs.size+1:=by
 unfold insertAt
 rw [Array.size_append,Array.size_push,Array.size_extract,Array.size_extract]
 omega
def Ent {α:Type} (t:SetTable) (es:Array (Int × α)) (j:Nat) (h:Int) (x:α):Prop:=∃i:Nat,t.place[i]?=some j/\es[i]?=some (h,x)
def lU (t:SetTable) (h:Int) (j:Nat):Prop:=∃k,(wk t (t.probeStart h) k).j=j/\∀m,m < k->t.slot (wk t (t.probeStart h) m).j≠.empty
structure Tbl {α:Type} (t:SetTable) (es:Array (Int × α)):Prop where
 tb:Tb t es.size
 reach:∀j h x,Ent t es j h x->lU t h j
theorem rE {α:Type}{t:SetTable}{es:Array (Int × α)} (T:Tb t es.size){j:Nat} (h:Int) (x:α) (j':Nat) (h':Int) (x':α):Ent (t.put j).1 (insertAt es (t.put j).2 (h,x)) j' h' x'↔Ent t es j' h' x'\/(j'=j/\h'=h/\x'=x):=by
 have hp:below t.place j<=t.place.size:=(dz T.ris j).le
 have hq:below t.place j<=es.size:=by rw [<- T.sz];exact hp
 unfold Ent put
 dsimp only
 constructor
 ·rintro⟨i,e1,e2⟩
  rw [cJ _ _ _ hp]at e1
  rw [cJ _ _ _ hq]at e2
  by_cases h1:i < below t.place j
  ·rw [if_pos h1]at e1 e2
   exact .inl ⟨i,e1,e2⟩
  ·rw [if_neg h1]at e1 e2
   by_cases h2:i=below t.place j
   ·rw [if_pos h2]at e1 e2
    cases e1;cases e2
    exact .inr ⟨rfl,rfl,rfl⟩
   ·rw [if_neg h2]at e1 e2
    exact .inl ⟨i - 1,e1,e2⟩
 ·rintro(⟨i,e1,e2⟩ | ⟨rfl,rfl,rfl⟩)
  ·by_cases h1:i < below t.place j
   ·exact⟨i,by rw [cJ _ _ _ hp,if_pos h1];exact e1,by rw [cJ _ _ _ hq,if_pos h1];exact e2⟩
   ·exact⟨i+1,by rw [cJ _ _ _ hp,if_neg ‹1›,if_neg ‹1›];exact e1,by rw [cJ _ _ _ hq,if_neg ‹1›,if_neg ‹1›];exact e2⟩
  ·exact⟨below t.place j',by rw [cJ _ _ _ hp,if_neg ‹1›,if_pos rfl],by rw [cJ _ _ _ hq,if_neg ‹1›,if_pos rfl]⟩
theorem Ak {t:SetTable}{n j:Nat} (T:Tb t n) (he:t.slot j=.empty) (hj:j<=t.mask):Tb (t.put j).1 (n+1):=by
 have c:=dz T.ris j
 have hp:=c.le
 have ne:=(gm T).mp he
 have key:∀(i:Nat) (h:i < (insertAt t.place (below t.place j) j).size),some ((insertAt t.place (below t.place j) j)[i])=if i < below t.place j then t.place[i]? else if i=below t.place j then some j else t.place[i - 1]?:=λi h=>by
  rw [<- cJ _ _ _ hp,Array.getElem?_eq_getElem h]
 have lo:∀i v,i < below t.place j->t.place[i]?=some v->v < j:=λi v hi e=>by
  obtain⟨h1,h2⟩:=Array.getElem?_eq_some_iff.mp e
  rw [<- h2];exact c.lo i h1 hi
 have hi_:∀i v,below t.place j<=i->t.place[i]?=some v->j < v:=λi v hi e=>by
  obtain⟨h1,h2⟩:=Array.getElem?_eq_some_iff.mp e
  have:=c.hi i h1 hi
  have n2:v≠j:=λz=>ne i (by rw [e,z])
  omega
 have rs:∀i k v w,t.place[i]?=some v->t.place[k]?=some w->i < k->v < w:=λi k v w e1 e2 hik=>by
  obtain⟨h1,rfl⟩:=Array.getElem?_eq_some_iff.mp e1
  obtain⟨h2,rfl⟩:=Array.getElem?_eq_some_iff.mp e2
  exact T.ris i k h1 h2 hik
 refine⟨λi k hi hk hik=>?_,?_,?_,λi hi=>?_⟩
 ·have a:=key i hi
  have b:=key k hk
  show (insertAt t.place (below t.place j) j)[i] < (insertAt t.place (below t.place j) j)[k]
  generalize (insertAt t.place (below t.place j) j)[i]=v at a ⊢
  generalize (insertAt t.place (below t.place j) j)[k]=w at b ⊢
  by_cases h1:i < below t.place j
  ·rw [if_pos h1]at a
   by_cases h2:k < below t.place j
   ·rw [if_pos h2]at b;exact rs i k v w a.symm b.symm hik
   ·rw [if_neg h2]at b
    by_cases h3:k=below t.place j
    ·rw [if_pos h3]at b;cases b;exact lo i v h1 a.symm
    ·rw [if_neg h3]at b
     exact Nat.lt_trans (lo i v h1 a.symm) (hi_ (k - 1) w ‹1› b.symm)
  ·rw [if_neg h1]at a
   have h2:¬k < below t.place j:=by omega
   have h3:k≠below t.place j:=by omega
   rw [if_neg h2,if_neg h3]at b
   by_cases h4:i=below t.place j
   ·rw [if_pos h4]at a;cases a;exact hi_ (k - 1) w ‹1› b.symm
   ·rw [if_neg h4]at a;exact rs (i - 1) (k - 1) v w a.symm b.symm ‹1›
 ·show (if has t.dummies j then _ else t.dummies)=_
  rw [T.dum]
  rfl
 ·show (insertAt t.place (below t.place j) j).size=_
  rw [iH _ _ _ hp,T.sz]
 ·have a:=key i hi
  show (insertAt t.place (below t.place j) j)[i]<=t.mask
  generalize (insertAt t.place (below t.place j) j)[i]=v at a ⊢
  have top:∀i v,t.place[i]?=some v->v<=t.mask:=λi v e=>by
   obtain⟨h1,rfl⟩:=Array.getElem?_eq_some_iff.mp e
   exact T.top i h1
  by_cases h1:i < below t.place j
  ·rw [if_pos h1]at a;exact top i v a.symm
  ·rw [if_neg h1]at a
   by_cases h4:i=below t.place j
   ·rw [if_pos h4]at a;cases a;exact hj
   ·rw [if_neg h4]at a;exact top _ v a.symm
end L2
namespace L2
open PySem PySem.SetTable
theorem wP {t t':SetTable} (e:t'.mask=t.mask) (p:Probe):t'.advance p=t.advance p:=by
 unfold advance
 rw [e]
theorem gF {t t':SetTable} (e:t'.mask=t.mask):∀(k:Nat) (p:Probe),wk t' p k=wk t p k
 | 0,p=>rfl
 | k+1,p=>by
  show wk t' (t'.advance p) k=wk t (t.advance p) k
  rw [wP e,gF e k]
theorem jw {t t':SetTable} (e:t'.mask=t.mask) (h:Int):t'.probeStart h=t.probeStart h:=by
 unfold probeStart
 rw [e]
theorem eG {t:SetTable}{n j:Nat} (T:Tb t n):t.slot j≠.empty↔∃i:Nat,t.place[i]?=some j:=by
 constructor
 ·intro h
  rcases slot_cases T j with z | ⟨i,z⟩
  ·exact absurd z h
  ·exact⟨i,(dw T).mp z⟩
 ·rintro⟨i,e⟩ z
  exact(gm T).mp z i e
theorem gB {t t':SetTable}{n n':Nat}{h:Int}{j:Nat} (e:t'.mask=t.mask) (T:Tb t n) (T':Tb t' n') (sub:∀j,(∃i:Nat,t.place[i]?=some j)->∃i:Nat,t'.place[i]?=some j) (l:lU t h j):lU t' h j:=by
 obtain⟨k,e1,h1⟩:=l
 refine⟨k,by rw [jw e,gF e];exact e1,λm hm=>?_⟩
 rw [jw e,gF e]
 exact(eG T').mpr (sub _ ((eG T).mp (h1 m hm)))
section
variable {α:Type}{t:SetTable}{es:Array (Int × α)}
theorem mV (T:Tb t es.size){i j:Nat} (h:t.place[i]?=some j):∃h' x,Ent t es j h' x/\es[i]?=some (h',x):=by
 have hi:=(Array.getElem?_eq_some_iff.mp h).1
 rw [T.sz]at hi
 exact⟨es[i].1,es[i].2,⟨i,h,by rw [Array.getElem?_eq_getElem hi]⟩,by rw [Array.getElem?_eq_getElem hi]⟩
theorem wZ {j:Nat}{h:Int}{x:α} (T:Tbl t es) (he:t.slot j=.empty) (hj:j<=t.mask) (hl:lU t h j):Tbl (t.put j).1 (insertAt es (t.put j).2 (h,x)):=by
 have hq:(t.put j).2<=es.size:=by rw [<- T.tb.sz];exact(dz T.tb.ris j).le
 have T1:Tb (t.put j).1 (insertAt es (t.put j).2 (h,x)).size:=by rw [iH _ _ _ hq];exact Ak T.tb he hj
 have sub:∀j',(∃i:Nat,t.place[i]?=some j')->∃i:Nat,(t.put j).1.place[i]?=some j':=λj' ⟨i,e⟩=>by
  obtain⟨h',x',en,_⟩:=mV T.tb e
  obtain⟨i',e',_⟩:=(rE T.tb (j:=j) h x j' h' x').mpr (.inl en)
  exact⟨i',e'⟩
 refine⟨T1,λj' h' x' en=>?_⟩
 rcases (rE T.tb h x j' h' x').mp en with en | ⟨rfl,rfl,rfl⟩
 ·exact gB (t:=t) (t':=(t.put j).1) rfl T.tb T1 sub (T.reach j' h' x' en)
 ·exact gB (t:=t) (t':=(t.put j').1) rfl T.tb T1 sub hl
theorem yg {h:Int}{m:Nat} (T:Tbl t es) (he:t.slot (wk t (t.probeStart h) m).j=.empty){j:Nat}{x:α} (en:Ent t es j h x):∃k,k < m/\(wk t (t.probeStart h) k).j=j:=by
 obtain⟨k,e1,h1⟩:=T.reach j h x en
 obtain⟨i,ei,_⟩:=en
 refine⟨k,?_,e1⟩
 rcases Nat.lt_trichotomy k m with z | z | z
 ·exact z
 ·rw [<- z,e1]at he
  exact absurd he ((eG T.tb).mpr ⟨i,ei⟩)
 ·exact absurd he (h1 m z)
theorem hG:∀{l l':List Nat},l.Nodup->(∀x∈l,x∈l')->l.length<=l'.length
 | [],_,_,_=>Nat.zero_le _
 | a::l,l',nd,h=>by
  have ha:=h a List.mem_cons_self
  obtain⟨n1,n2⟩:=List.nodup_cons.mp nd
  have h1:=hG (l:=l) (l':=l'.erase a) n2 λx hx=>(List.mem_erase_of_ne (show x≠a from λz=>n1 (by rw [<- z];exact hx))).mpr (h x (List.mem_cons_of_mem _ hx))
  rw [List.length_erase_of_mem ha]at h1
  have:=List.length_pos_of_mem ha
  rw [List.length_cons]
  omega
theorem vk {n:Nat} (T:Tb t n) (hn:n<=t.mask):∃s,s<=t.mask/\t.slot s=.empty:=by
 refine Classical.byContradiction λhno=>?_
 have all:∀s,s<=t.mask->∃i:Nat,t.place[i]?=some s:=λs hs=>(eG T).mp λz=>hno ⟨s,hs,z⟩
 have sub:∀s∈List.range (t.mask+1),s∈t.place.toList:=λs hs=>by
  obtain⟨i,e⟩:=all s (by have:=List.mem_range.mp hs;omega)
  exact List.mem_of_getElem? (by rw [Array.getElem?_toList];exact e)
 have:=hG List.nodup_range sub
 rw [List.length_range,Array.length_toList,T.sz]at this
 omega
end
end L2
namespace L2
open PySem PySem.SetTable
noncomputable def tM (mask:Nat):SetTable:={ mask:=mask,place:=#[],dummies:=#[],finger:=0,led:=false,moves:=0,plain:=true }
noncomputable def Fr_ (owner:Array (Option Nat)) (j:Nat):Bool:=(owner.getD j (some 0)).isNone
def Via (mask:Nat) (owner:Array (Option Nat)) (p:Probe) (j:Nat):Prop:=∃k,(wk (tM mask) p k).j=j/\∀m,m < k->Fr_ owner (wk (tM mask) p m).j=false
theorem tH (mask i pt:Nat){m:Nat} (hm:m<=runEnd mask i - i):(wk (tM mask) (std (tM mask) i pt none) m).j=i+m:=by
 have h:∀(m r j:Nat),m<=r->(wk (tM mask) { j:=j,more:=r,i:=i,perturb:=pt,dummy:=none } m).j=j+m:=by
  intro m
  induction m with
  | zero=>intro r j _;rfl
  | succ m ih=>
   intro r j hr
   obtain⟨r,rfl⟩:∃r',r=r'+1:=⟨r - 1,by omega⟩
   show (wk (tM mask) ((tM mask).advance { j:=j,more:=r+1,i:=i,perturb:=pt,dummy:=none }) m).j=_
   have e:(tM mask).advance { j:=j,more:=r+1,i:=i,perturb:=pt,dummy:=none }={ j:=j+1,more:=r,i:=i,perturb:=pt,dummy:=none }:=by
    unfold advance
    rw [if_pos (Nat.succ_pos r)]
    rfl
   rw [e,ih r (j+1) ‹1›]
   omega
 exact h m _ i hm
theorem kf {p:Nat->Bool}:∀(n:Nat),(∀k,(List.range n).find? p=some k->k < n/\p k=true/\∀m,m < k->p m=false)/\((List.range n).find? p=none->∀m,m < n->p m=false):=by
 intro n
 refine⟨λk h=>?_,λh m hm=>?_⟩
 ·have h1:=List.find?_some h
  have h2:=List.mem_range.mp (List.mem_of_find?_eq_some h)
  refine⟨h2,h1,λm hm=>?_⟩
  rw [List.find?_eq_some_iff_getElem]at h
  obtain⟨_,i,hi,e,h3⟩:=h
  have e':i=k:=by rw [List.getElem_range]at e;exact e
  have:=h3 m ‹1›
  rw [List.getElem_range]at this
  simpa using this
 ·have:=List.find?_eq_none.mp h m (List.mem_range.mpr hm)
  simpa using this
theorem oG {mask:Nat}{owner:Array (Option Nat)}:∀(fuel i pt j:Nat),layClean.free mask owner fuel i pt=some j->Fr_ owner j=true/\Via mask owner (std (tM mask) i pt none) j
 | 0,_,_,_,h=>by cases h
 | fuel+1,i,pt,j,h=>by
  unfold layClean.free at h
  have fr:=kf (p:=λk=>(owner.getD (i+k) (some 0)).isNone) (runEnd mask i+1 - i)
  cases hf:(List.range (runEnd mask i+1 - i)).find? λk=>(owner.getD (i+k) (some 0)).isNone with
  | some k=>
   rw [hf]at h
   cases h
   obtain⟨h1,h2,h3⟩:=fr.1 k hf
   refine⟨h2,k,tH mask i pt ‹1›,λm hm=>?_⟩
   rw [tH mask i pt ‹1›]
   exact h3 m hm
  | none=>
   rw [hf]at h
   have h3:=fr.2 hf
   obtain⟨f1,k,e1,h2⟩:=oG fuel _ _ j h
   have hr:i<=runEnd mask i:=by unfold runEnd;split <;> omega
   have el:wk (tM mask) (std (tM mask) i pt none) (runEnd mask i - i+1)=std (tM mask) (leap mask i pt).1 (leap mask i pt).2 none:=by
    rw [qK]
    unfold std
    rw [show (tM mask).mask=mask from rfl,pe]
    unfold advance
    rw [if_neg (Nat.lt_irrefl 0)]
    rfl
   refine⟨f1,runEnd mask i - i+1+k,by rw [cR,el];exact e1,λm hm=>?_⟩
   by_cases hm2:m<=runEnd mask i - i
   ·rw [tH mask i pt hm2]
    exact h3 m ‹1›
   ·have:m=runEnd mask i - i+1+(m - (runEnd mask i - i+1)):=by omega
    rw [this,cR,el]
    exact h2 _ ‹1›
theorem lG {mask:Nat}{owner:Array (Option Nat)}:∀(fuel L i pt:Nat),L < fuel->Fr_ owner (lps mask L (i,pt)).1=true->∃j,layClean.free mask owner fuel i pt=some j
 | 0,L,_,_,h,_=>absurd h (Nat.not_lt_zero _)
 | fuel+1,L,i,pt,hL,hf=>by
  unfold layClean.free
  cases hq:(List.range (runEnd mask i+1 - i)).find? λk=>(owner.getD (i+k) (some 0)).isNone with
  | some k=>exact⟨_,rfl⟩
  | none=>
   cases L with
   | zero=>
    have hr:i<=runEnd mask i:=by unfold runEnd;split <;> omega
    have:=(kf (p:=λk=>(owner.getD (i+k) (some 0)).isNone) (runEnd mask i+1 - i)).2 hq 0 ‹1›
    rw [Nat.add_zero]at this
    rw [show (lps mask 0 (i,pt)).1=i from rfl]at hf
    rw [show (owner.getD i (some 0)).isNone=Fr_ owner i from rfl,hf]at this
    cases this
   | succ L=>exact lG fuel L _ _ ‹1› hf
theorem yo {mask:Nat}{owner:Array (Option Nat)} (hm:mask+1∈[8,32,128,512,2048]) (h:Int){s:Nat} (hs:s<=mask) (hf:Fr_ owner s=true):∃j,layClean.free mask owner (turns mask) (bits h % (mask+1)) (bits h)=some j:=by
 have h0:bits h % (mask+1) < mask+1:=Nat.mod_lt _ (Nat.succ_pos _)
 have hi:=qq mask 13 (bits h % (mask+1),bits h) h0
 have hp:(lps mask 13 (bits h % (mask+1),bits h)).2=0:=by
  rw [qp]
  exact Nat.div_eq_of_lt (Nat.lt_of_lt_of_le (rS h) (by decide))
 obtain⟨m,hm',em⟩:=rf hm hi (Nat.lt_succ_of_le hs)
 refine lG (turns mask) (13+m) _ _ (by unfold turns;omega) ?_
 rw [mL]
 have e:lps mask 13 (bits h % (mask+1),bits h)=((lps mask 13 (bits h % (mask+1),bits h)).1,0):=Prod.ext rfl hp
 rw [e,mK,em]
 exact hf
end L2
namespace L2
open PySem PySem.SetTable
noncomputable def stH (mask:Nat) (h:Int):Probe:=std (tM mask) (bits h % (mask+1)) (bits h) none
theorem jX {owner:Array (Option Nat)}{j:Nat}:Fr_ owner j=true↔owner[j]?=some none:=by
 unfold Fr_
 rw [Array.getD_eq_getD_getElem?]
 cases h:owner[j]? with
 | none=>simp
 | some x=>cases x <;> simp
structure Lay (mask:Nat) (hs:List Int) (owner:Array (Option Nat)):Prop where
 sz:owner.size=mask+1
 at_:∀(k:Nat) (h:Int),hs[k]?=some h->∃j,owner[j]?=some (some k)/\Via mask owner (stH mask h) j
 lt:∀j k:Nat,owner[j]?=some (some k)->k < hs.length
 inj:∀j j' k:Nat,owner[j]?=some (some k)->owner[j']?=some (some k)->j=j'
theorem vV {mask:Nat}{hs:List Int}{owner:Array (Option Nat)} (L:Lay mask hs owner) (hn:hs.length<=mask):∃s,s<=mask/\Fr_ owner s=true:=by
 refine Classical.byContradiction λhno=>?_
 have all:∀s,s < mask+1->∃k,owner[s]?=some (some k):=λs hs'=>by
  have hlt:s < owner.size:=by rw [L.sz];exact hs'
  cases e:owner[s] with
  | none=>exact absurd ⟨s,by omega,jX.mpr (by rw [Array.getElem?_eq_getElem hlt,e])⟩ hno
  | some k=>exact⟨k,by rw [Array.getElem?_eq_getElem hlt,e]⟩
 let f:Nat->Nat:=λs=>((owner[s]?).getD none).getD 0
 have hf:∀s,s < mask+1->owner[s]?=some (some (f s)):=λs hs'=>by
  obtain⟨k,e⟩:=all s hs'
  show owner[s]?=some (some (((owner[s]?).getD none).getD 0))
  rw [e];rfl
 have nd:((List.range (mask+1)).map f).Nodup:=by
  rw [List.nodup_iff_pairwise_ne,List.pairwise_map]
  refine List.Pairwise.imp_of_mem ?_ (List.nodup_iff_pairwise_ne.mp List.nodup_range)
  intro a b ha hb hab z
  have ea:=hf a (List.mem_range.mp ha)
  have eb:=hf b (List.mem_range.mp hb)
  rw [z]at ea
  exact hab (L.inj _ _ _ ea eb)
 have:=hG (l':=List.range hs.length) nd λx hx=>by
  obtain⟨s,hs',rfl⟩:=List.mem_map.mp hx
  exact List.mem_range.mpr (L.lt _ _ (hf s (List.mem_range.mp hs')))
 rw [List.length_map,List.length_range,List.length_range]at this
 omega
theorem gN {owner:Array (Option Nat)}{j:Nat} (hj:j < owner.size) (v:Option Nat) (i:Nat):(owner.setIfInBounds j v)[i]?=if i=j then some v else owner[i]?:=by
 rw [Array.getElem?_setIfInBounds]
 by_cases h:j=i
 ·rw [if_pos h,if_pos h.symm,if_pos ‹1›]
 ·rw [if_neg h,if_neg (λz=>h z.symm)]
theorem vU {mask:Nat}{hs:List Int}{owner:Array (Option Nat)}{j:Nat}{h:Int} (L:Lay mask hs owner) (hf:layClean.free mask owner (turns mask) (bits h % (mask+1)) (bits h)=some j):Lay mask (hs++[h]) (owner.setIfInBounds j (some hs.length)):=by
 obtain⟨f1,v1⟩:=oG _ _ _ _ hf
 have ej:=jX.mp f1
 have hj:=(Array.getElem?_eq_some_iff.mp ej).1
 have keep:∀i,Fr_ owner i=false->Fr_ (owner.setIfInBounds j (some hs.length)) i=false:=λi hi=>by
  rw [Bool.eq_false_iff]at hi ⊢
  intro z
  have z:=jX.mp z
  rw [gN hj]at z
  by_cases e:i=j
  ·rw [if_pos e]at z;cases z
  ·rw [if_neg e]at z;exact hi (jX.mpr z)
 have via:∀{p:Probe}{j':Nat},Via mask owner p j'->Via mask (owner.setIfInBounds j (some hs.length)) p j':=λ⟨k,e,h'⟩=>⟨k,e,λm hm=>keep _ (h' m hm)⟩
 refine⟨by rw [Array.size_setIfInBounds];exact L.sz,λk h' e=>?_,λa k e=>?_,λa b k e1 e2=>?_⟩
 ·by_cases hk:k < hs.length
  ·rw [List.getElem?_append_left hk]at e
   obtain⟨j',e',v'⟩:=L.at_ k h' e
   refine⟨j',?_,via v'⟩
   rw [gN hj,if_neg (λz=>by rw [z,ej]at e';cases e')]
   exact e'
  ·rw [List.getElem?_append_right ‹1›]at e
   have hk2:k=hs.length:=by
    have:=(List.getElem?_eq_some_iff.mp e).1
    rw [List.length_singleton]at this
    omega
   subst hk2
   rw [Nat.sub_self]at e
   cases e
   exact⟨j,by rw [gN hj,if_pos rfl],via v1⟩
 ·rw [gN hj]at e
  rw [List.length_append,List.length_singleton]
  by_cases z:a=j
  ·rw [if_pos z]at e;cases e;omega
  ·rw [if_neg z]at e;have:=L.lt _ _ e;omega
 ·rw [gN hj]at e1 e2
  by_cases z:a=j
  ·rw [if_pos z]at e1
   cases e1
   by_cases y:b=j
   ·rw [z,y]
   ·rw [if_neg y]at e2
    exact absurd (L.lt _ _ e2) (Nat.lt_irrefl _)
  ·rw [if_neg z]at e1
   by_cases y:b=j
   ·rw [if_pos y]at e2
    cases e2
    exact absurd (L.lt _ _ e1) (Nat.lt_irrefl _)
   ·rw [if_neg y]at e2
    exact L.inj _ _ _ e1 e2
end L2
namespace L2
open PySem PySem.SetTable
noncomputable def tU (mask:Nat) (acc:Option (Array (Option Nat) × Nat)) (h:Int):Option (Array (Option Nat) × Nat):=do
 let (owner,k) <- acc
 let j <- layClean.free mask owner (turns mask) (bits h % (mask+1)) (bits h)
 pure (owner.setIfInBounds j (some k),k+1)
theorem oz {mask:Nat} (hm:mask+1∈[8,32,128,512,2048]):∀(l hs:List Int) (owner:Array (Option Nat)),Lay mask hs owner->hs.length+l.length<=mask+1->∃owner',l.foldl (tU mask) (some (owner,hs.length))=some (owner',hs.length+l.length)/\Lay mask (hs++l) owner'
 | [],hs,owner,L,_=>⟨owner,rfl,by rw [List.append_nil];exact L⟩
 | h::l,hs,owner,L,hn=>by
  rw [List.length_cons]at hn
  obtain⟨s,hs',hf⟩:=vV L ‹1›
  obtain⟨j,ej⟩:=yo hm h hs' hf
  have L1:=vU L ej
  have e1:tU mask (some (owner,hs.length)) h=some (owner.setIfInBounds j (some hs.length),hs.length+1):=by
   show (layClean.free mask owner (turns mask) (bits h % (mask+1)) (bits h) >>= λj=>pure (owner.setIfInBounds j (some hs.length),hs.length+1))=_
   rw [ej]
   rfl
  obtain⟨o',e2,L2⟩:=oz hm l (hs++[h]) _ L1 (by rw [List.length_append,List.length_singleton];omega)
  refine⟨o',?_,by rw [List.append_assoc]at L2;exact L2⟩
  rw [List.foldl_cons,e1]
  rw [List.length_append,List.length_singleton]at e2
  rw [e2,List.length_cons]
  congr 2
  omega
theorem sQ {mask:Nat} (hm:mask+1∈[8,32,128,512,2048]) (hs:Array Int) (hn:hs.size<=mask+1):∃owner,layClean mask hs=some owner/\Lay mask hs.toList owner:=by
 have L0:Lay mask [] (Array.replicate (mask+1) none):=by
  have no:∀(j k:Nat),(Array.replicate (mask+1) (none:Option Nat))[j]?≠some (some k):=λj k e=>by
   rw [Array.getElem?_replicate]at e
   split at e <;> cases e
  exact⟨Array.size_replicate,(λk h e=>by cases e),(λj k e=>absurd e (no j k)),λj j' k e _=>absurd e (no j k)⟩
 obtain⟨o,e,L⟩:=oz hm hs.toList [] _ L0 (by rw [List.length_nil,Array.length_toList];omega)
 refine⟨o,?_,L⟩
 show (hs.foldl (tU mask) (some (Array.replicate (mask+1) none,0))).map (·.1)=some o
 rw [<- Array.foldl_toList,show (some (Array.replicate (mask+1) (none:Option Nat),0))=some (Array.replicate (mask+1) (none:Option Nat),([]:List Int).length) from rfl,e]
 rfl
noncomputable def bV (mask:Nat) (owner:Array (Option Nat)):List (Nat × Nat):=(List.range (mask+1)).filterMap λj=>(owner.getD j none).map (j,·)
theorem cx {mask:Nat}{owner:Array (Option Nat)} (hsz:owner.size=mask+1){j k:Nat}:(j,k)∈bV mask owner↔owner[j]?=some (some k):=by
 unfold bV
 rw [List.mem_filterMap]
 constructor
 ·rintro⟨a,_,e⟩
  rw [Array.getD_eq_getD_getElem?]at e
  cases h:owner[a]? with
  | none=>rw [h]at e;cases e
  | some v=>
   rw [h]at e
   cases v with
   | none=>cases e
   | some k'=>cases e;exact h
 ·intro h
  have hj:=(Array.getElem?_eq_some_iff.mp h).1
  refine⟨j,List.mem_range.mpr ‹1›,?_⟩
  rw [Array.getD_eq_getD_getElem?,h]
  rfl
theorem oq (mask:Nat) (owner:Array (Option Nat)):(bV mask owner).Pairwise λa b=>a.1 < b.1:=by
 unfold bV
 rw [List.pairwise_filterMap]
 refine List.Pairwise.imp ?_ List.pairwise_lt_range
 intro a b hab x hx y hy
 obtain⟨k,_,rfl⟩:=Option.map_eq_some_iff.mp hx
 obtain⟨k',_,rfl⟩:=Option.map_eq_some_iff.mp hy
 exact hab
end L2
namespace L2
open PySem PySem.SetTable
theorem qx {α β:Type}{f:α->Option β}:∀{l:List α} (i:Nat),(∀k∈l,∃v,f k=some v)->(l.filterMap f)[i]?=(l[i]?).bind f
 | [],i,_=>rfl
 | a::l,i,h=>by
  obtain⟨v,e⟩:=h a List.mem_cons_self
  rw [List.filterMap_cons_some e]
  cases i with
  | zero=>exact e.symm
  | succ i=>exact qx i λk hk=>h k (List.mem_cons_of_mem _ hk)
theorem wj {α β:Type}{f:α->Option β}:∀{l:List α},(∀k∈l,∃v,f k=some v)->(l.filterMap f).length=l.length
 | [],_=>rfl
 | a::l,h=>by
  obtain⟨v,e⟩:=h a List.mem_cons_self
  rw [List.filterMap_cons_some e,List.length_cons,List.length_cons,wj λk hk=>h k (List.mem_cons_of_mem _ hk)]
section
variable {α:Type}{es:Array (Int × α)}{mask:Nat}{owner:Array (Option Nat)}
noncomputable def tL (mask finger moves:Nat) (led plain:Bool) (owner:Array (Option Nat)):SetTable:={ mask:=mask,place:=((bV mask owner).map (·.1)).toArray,dummies:=#[],finger:=finger,led:=led,moves:=moves,plain:=plain }
theorem ou (L:Lay mask (es.map (·.1)).toList owner):(bV mask owner).length=es.size:=by
 have hl:(es.map (·.1)).toList.length=es.size:=by rw [Array.length_toList,Array.size_map]
 have ris:=oq mask owner
 have nd:((bV mask owner).map (·.2)).Nodup:=by
  rw [List.nodup_iff_pairwise_ne,List.pairwise_map]
  refine List.Pairwise.imp_of_mem ?_ ris
  intro a b ha hb hab z
  have ea:=(cx L.sz (j:=a.1) (k:=a.2)).mp ha
  have eb:=(cx L.sz (j:=b.1) (k:=b.2)).mp hb
  rw [z]at ea
  have:=L.inj _ _ _ ea eb
  omega
 have h1:=hG (l':=List.range es.size) nd λx hx=>by
  obtain⟨a,ha,rfl⟩:=List.mem_map.mp hx
  have:=L.lt _ _ ((cx L.sz (j:=a.1) (k:=a.2)).mp ha)
  rw [hl]at this
  exact List.mem_range.mpr this
 have h2:=hG (l':=(bV mask owner).map (·.2)) (List.nodup_range (n:=es.size)) λx hx=>by
  have hx:=List.mem_range.mp hx
  have:(es.map (·.1)).toList[x]?=some es[x].1:=by
   rw [Array.getElem?_toList,Array.getElem?_map,Array.getElem?_eq_getElem hx];rfl
  obtain⟨j,ej,_⟩:=L.at_ x _ this
  exact List.mem_map.mpr ⟨(j,x),(cx L.sz).mpr ej,rfl⟩
 rw [List.length_map,List.length_range]at h1
 rw [List.length_map,List.length_range]at h2
 omega
theorem wp (L:Lay mask (es.map (·.1)).toList owner) (i:Nat):((((bV mask owner).map (·.2)).toArray).filterMap (es[·]?))[i]?=((bV mask owner)[i]?).bind λa=>es[a.2]?:=by
 have hl:(es.map (·.1)).toList.length=es.size:=by rw [Array.length_toList,Array.size_map]
 have all:∀k∈(bV mask owner).map (·.2),∃v,es[k]?=some v:=λk hk=>by
  obtain⟨a,ha,rfl⟩:=List.mem_map.mp hk
  have:=L.lt _ _ ((cx L.sz (j:=a.1) (k:=a.2)).mp ha)
  rw [hl]at this
  exact⟨_,Array.getElem?_eq_getElem this⟩
 rw [<- Array.getElem?_toList,Array.toList_filterMap,qx i all,List.getElem?_map]
 cases (bV mask owner)[i]? <;> rfl
theorem rD (L:Lay mask (es.map (·.1)).toList owner):((((bV mask owner).map (·.2)).toArray).filterMap (es[·]?)).size=es.size:=by
 have hl:(es.map (·.1)).toList.length=es.size:=by rw [Array.length_toList,Array.size_map]
 have all:∀k∈(bV mask owner).map (·.2),∃v,es[k]?=some v:=λk hk=>by
  obtain⟨a,ha,rfl⟩:=List.mem_map.mp hk
  have:=L.lt _ _ ((cx L.sz (j:=a.1) (k:=a.2)).mp ha)
  rw [hl]at this
  exact⟨_,Array.getElem?_eq_getElem this⟩
 rw [<- Array.length_toList,Array.toList_filterMap,wj all,List.length_map,ou L]
theorem kq {finger moves:Nat}{led plain:Bool} (L:Lay mask (es.map (·.1)).toList owner) (j:Nat) (h:Int) (x:α):Ent (tL mask finger moves led plain owner) ((((bV mask owner).map (·.2)).toArray).filterMap (es[·]?)) j h x↔∃k:Nat,owner[j]?=some (some k)/\es[k]?=some (h,x):=by
 constructor
 ·rintro⟨i,e1,e2⟩
  rw [wp L]at e2
  have e1:((bV mask owner).map (·.1)).toArray[i]?=some j:=e1
  rw [List.getElem?_toArray,List.getElem?_map]at e1
  obtain⟨a,ea,rfl⟩:=Option.map_eq_some_iff.mp e1
  rw [ea]at e2
  exact⟨a.2,(cx L.sz).mp (List.mem_of_getElem? ea),e2⟩
 ·rintro⟨k,e1,e2⟩
  obtain⟨i,hi,ei⟩:=List.getElem_of_mem ((cx L.sz).mpr e1)
  have ei':(bV mask owner)[i]?=some (j,k):=by rw [List.getElem?_eq_getElem hi,ei]
  refine⟨i,?_,by rw [wp L,ei'];exact e2⟩
  show ((bV mask owner).map (·.1)).toArray[i]?=some j
  rw [List.getElem?_toArray,List.getElem?_map,ei']
  rfl
end
end L2
namespace L2
open PySem PySem.SetTable
theorem qc {mask i:Nat} (h:i<=mask):i<=runEnd mask i/\runEnd mask i<=mask:=by unfold runEnd;split <;> omega
theorem tG (t:SetTable):∀(k:Nat) (p:Probe),p.j+p.more<=t.mask->(wk t p k).j<=t.mask
 | 0,p,h=>by show p.j<=_;omega
 | k+1,p,h=>by
  refine tG t k (t.advance p) ?_
  unfold advance
  by_cases hm:p.more > 0
  ·rw [if_pos hm]
   show p.j+1+(p.more - 1)<=_
   omega
  ·rw [if_neg hm]
   show (leap t.mask p.i p.perturb).1+(runEnd t.mask (leap t.mask p.i p.perturb).1 - (leap t.mask p.i p.perturb).1)<=t.mask
   have h1:(leap t.mask p.i p.perturb).1 < t.mask+1:=Nat.mod_lt _ (Nat.succ_pos _)
   have h2:=qc (mask:=t.mask) (i:=(leap t.mask p.i p.perturb).1) ‹1›
   omega
theorem Bs (mask:Nat) (h:Int) (k:Nat):(wk (tM mask) (stH mask h) k).j<=mask:=by
 refine tG (tM mask) k (stH mask h) ?_
 show bits h % (mask+1)+(runEnd mask (bits h % (mask+1)) - bits h % (mask+1))<=mask
 have h1:bits h % (mask+1) < mask+1:=Nat.mod_lt _ (Nat.succ_pos _)
 have h2:=qc (mask:=mask) (i:=bits h % (mask+1)) ‹1›
 omega
section
variable {α:Type}{es:Array (Int × α)}{mask finger moves:Nat}{led plain:Bool}{owner:Array (Option Nat)}
theorem x8 (L:Lay mask (es.map (·.1)).toList owner):Tb (tL mask finger moves led plain owner) es.size:=by
 have ris:=oq mask owner
 have sz:((bV mask owner).map (·.1)).toArray.size=es.size:=by rw [List.size_toArray,List.length_map,ou L]
 have get:∀(i:Nat) (hi:i < (tL mask finger moves led plain owner).place.size),((bV mask owner).map (·.1))[i]?=some ((tL mask finger moves led plain owner).place[i]):=λi hi=>by
  rw [<- Array.getElem?_eq_getElem hi]
  show _=((bV mask owner).map (·.1)).toArray[i]?
  rw [List.getElem?_toArray]
 refine⟨λi k hi hk hik=>?_,rfl,sz,λi hi=>?_⟩
 ·have pw:((bV mask owner).map (·.1)).Pairwise (· < ·):=by rw [List.pairwise_map];exact ris
  obtain⟨h1,e1⟩:=List.getElem?_eq_some_iff.mp (get i hi)
  obtain⟨h2,e2⟩:=List.getElem?_eq_some_iff.mp (get k hk)
  rw [<- e1,<- e2]
  exact List.pairwise_iff_getElem.mp pw i k h1 h2 hik
 ·have hm:=List.mem_of_getElem? (get i hi)
  obtain⟨a,ha,e⟩:=List.mem_map.mp hm
  have:=(cx L.sz (j:=a.1) (k:=a.2)).mp ha
  have h1:=(Array.getElem?_eq_some_iff.mp this).1
  rw [L.sz]at h1
  rw [<- e]
  show a.1<=mask
  omega
theorem tQ (L:Lay mask (es.map (·.1)).toList owner):Tbl (tL mask finger moves led plain owner) ((((bV mask owner).map (·.2)).toArray).filterMap (es[·]?)):=by
 have T:Tb (tL mask finger moves led plain owner) es.size:=x8 L
 refine⟨by rw [rD L];exact T,λj h x en=>?_⟩
 obtain⟨k,e1,e2⟩:=(kq L j h x).mp en
 have ek:(es.map (·.1)).toList[k]?=some h:=by
  rw [Array.getElem?_toList,Array.getElem?_map,e2];rfl
 obtain⟨j',e3,m,e4,h4⟩:=L.at_ k h ek
 obtain rfl:=L.inj _ _ _ e1 e3
 refine⟨m,?_,λx hx=>?_⟩
 ·rw [gF (t:=tM mask) (t':=tL mask finger moves led plain owner) rfl];exact e4
 ·have hf:=h4 x hx
  have hle:=Bs mask h x
  rw [gF (t:=tM mask) (t':=tL mask finger moves led plain owner) rfl]
  show (tL mask finger moves led plain owner).slot (wk (tM mask) (stH mask h) x).j≠.empty
  generalize (wk (tM mask) (stH mask h) x).j=s at hf hle ⊢
  have hlt:s < owner.size:=by rw [L.sz];omega
  cases ev:owner[s] with
  | none=>
   rw [jX.mpr (by rw [Array.getElem?_eq_getElem hlt,ev])]at hf
   cases hf
  | some k'=>
   have hmem:=(cx L.sz).mpr (show owner[s]?=some (some k') by rw [Array.getElem?_eq_getElem hlt,ev])
   obtain⟨i,hi,ei⟩:=List.getElem_of_mem hmem
   refine(eG T).mpr ⟨i,?_⟩
   show ((bV mask owner).map (·.1)).toArray[i]?=some s
   rw [List.getElem?_toArray,List.getElem?_map,List.getElem?_eq_getElem hi,ei]
   rfl
end
theorem sB {α:Type}{t:SetTable}{es:Array (Int × α)}{n:Nat} (hm:sizeAbove n∈[8,32,128,512,2048]) (hn:es.size<=sizeAbove n):∃(t':SetTable) (order:Array Nat),t.relaid (es.map (·.1)) n=some (t',order)/\t'.mask=sizeAbove n - 1/\t'.led=t.led/\t'.plain=t.plain/\(order.filterMap (es[·]?)).size=es.size/\Tbl t' (order.filterMap (es[·]?))/\∀h x,(∃j,Ent t' (order.filterMap (es[·]?)) j h x)↔∃k:Nat,es[k]?=some (h,x):=by
 have hp:sizeAbove n - 1+1=sizeAbove n:=by
  have:0 < sizeAbove n:=by
   simp only [List.mem_cons,List.not_mem_nil,or_false]at hm
   omega
  omega
 obtain⟨owner,e,L⟩:=sQ (mask:=sizeAbove n - 1) (by rw [hp];exact hm) (es.map (·.1)) (by rw [Array.size_map,hp];exact hn)
 refine⟨tL (sizeAbove n - 1) t.finger (t.movedTo (sizeAbove n - 1)) t.led t.plain owner,((bV (sizeAbove n - 1) owner).map (·.2)).toArray,?_,rfl,rfl,rfl,rD L,tQ L,λh x=>⟨λ⟨j,en⟩=>?_,λ⟨k,ek⟩=>?_⟩⟩
 ·unfold relaid SetTable.laid
  rw [e]
  rfl
 ·obtain⟨k,_,e2⟩:=(kq L j h x).mp en
  exact⟨k,e2⟩
 ·have eh:(es.map (·.1)).toList[k]?=some h:=by
   rw [Array.getElem?_toList,Array.getElem?_map,ek];rfl
  obtain⟨j,ej,_⟩:=L.at_ k h eh
  exact⟨j,(kq L j h x).mpr ⟨k,ej,ek⟩⟩
end L2
namespace L2
open PySem PySem.Spec PySem.SetTable PyProof.Rows
noncomputable abbrev KZ:=List Key × Addr
noncomputable def bt (prog:Program) (w:World) (k:List Key):Int:=tupleKeyHash (aG prog w) k
noncomputable def kJ (prog:Program) (w:World) (z:KZ):Int × Value:=(bt prog w z.1,.ref z.2)
def Siz (mask n:Nat):Prop:=(mask=7/\n < 5)\/(mask=31/\n < 19)\/(mask=127/\n < 77)\/(mask=511/\n < 307)\/(mask=2047/\n < 1229)
theorem Siz.mem {mask n:Nat} (h:Siz mask n):mask+1∈[8,32,128,512,2048]:=by
 rcases h with⟨h,_⟩ | ⟨h,_⟩ | ⟨h,_⟩ | ⟨h,_⟩ | ⟨h,_⟩ <;> rw [h] <;> decide
theorem Siz.odd {mask n:Nat} (h:Siz mask n):(mask % 2 == 0)=false:=by
 rcases h with⟨h,_⟩ | ⟨h,_⟩ | ⟨h,_⟩ | ⟨h,_⟩ | ⟨h,_⟩ <;> rw [h] <;> decide
theorem Siz.le {mask n:Nat} (h:Siz mask n):n<=mask/\mask<=2047:=by unfold Siz at h;omega
structure SetD (prog:Program) (w:World) (led:Bool) (zs:List KZ) (es:Array (Int × Value)) (t:SetTable):Prop where
 tb:Tbl t es
 sz:Siz t.mask es.size
 ld:t.led=led
 nd:(zs.map (·.1)).Nodup
 pm:es.toList.Perm (zs.map (kJ prog w))
theorem SetD.fits {prog:Program}{w:World}{led:Bool}{zs:List KZ}{es:Array (Int × Value)}{t:SetTable} (D:SetD prog w led zs es t):t.fits es.size=true:=by
 have h1:=D.tb.tb.sz
 have h2:=D.tb.tb.dum
 have h3:=D.sz.le
 unfold SetTable.fits SetTable.fill
 rw [h2,h1,Bool.and_eq_true]
 exact⟨beq_self_eq_true _,decide_eq_true (by show es.size+0<=_;omega)⟩
theorem SetD.at_ {prog:Program}{w:World}{led:Bool}{zs:List KZ}{es:Array (Int × Value)}{t:SetTable} (D:SetD prog w led zs es t){i:Nat}{hv:Int × Value} (h:es[i]?=some hv):∃z∈zs,hv=kJ prog w z:=by
 have:=D.pm.mem_iff.mp (List.mem_of_getElem? (by rw [Array.getElem?_toList];exact h))
 obtain⟨z,hz,e⟩:=List.mem_map.mp this
 exact⟨z,hz,e.symm⟩
theorem SetD.has {prog:Program}{w:World}{led:Bool}{zs:List KZ}{es:Array (Int × Value)}{t:SetTable} (D:SetD prog w led zs es t){z:KZ} (h:z∈zs):∃i:Nat,es[i]?=some (kJ prog w z):=by
 have:=D.pm.mem_iff.mpr (List.mem_map_of_mem (f:=kJ prog w) h)
 obtain⟨i,hi,e⟩:=List.getElem_of_mem this
 exact⟨i,by rw [<- Array.getElem?_toList,List.getElem?_eq_getElem hi,e]⟩
section
variable {prog:Program}{w:World}{A:Around}{E:Value->Shared->Prop}{s:Shared}
theorem rO {k:List Key}{b:Addr}{Q:Bool->Shared->Prop} (hk:IsTupleKey (aG prog w) s.heap k b) (h:Q false s):wpAny (model prog w) A (ofAClassStatement 8 (.ref b)) Q E s:=by
 have hT:=hk.typeIs
 obtain⟨o,items,n,ho,hc,hd,hi⟩:=hk
 unfold ofAClassStatement
 refine zB0 (wpAny_typeOf hT ?_)
 dsimp only
 refine zB0 (zP0 ?_)
 refine zB0 (wpAny_seqItems ho hd ?_)
 dsimp only
 refine zB0 ?_
 rw [<- Array.forIn_toList]
 refine wpAny_forIn_list _ (λrest r s'=>r.1=none/\s'=s/\∀v∈rest,carriedByValue v=true) _ ?_ ?_ _ _ ⟨rfl,rfl,hi.byValue⟩
 ·rintro v rest r s' ⟨hr,rfl,hall⟩
  have e:ofAClassStatement 7 v=pure false:=by
   have:=hall v List.mem_cons_self
   cases v with
   | ref a=>simp [carriedByValue]at this
   | _=>first | rfl | simp [ofAClassStatement]
  rw [e]
  refine zB0 (zP0 ?_)
  simp only [Bool.false_eq_true,if_false]
  exact zP0 ⟨rfl,rfl,λu hu'=>hall u (List.mem_cons_of_mem _ hu')⟩
 ·rintro⟨r1,r2⟩ s' ⟨hr,rfl,_⟩
  simp only at hr
  subst hr
  exact zP0 h
theorem yf {k:List Key}{b:Addr}{Q:Bool->Shared->Prop}{vs:List Value} (hk:IsTupleKey (aG prog w) s.heap k b) (hv:∀v∈vs,∃k' b',v=.ref b'/\IsTupleKey (aG prog w) s.heap k' b') (h:Q false s):wpAny (model prog w) A (searchCouldBeSeen (.ref b) vs) Q E s:=by
 unfold searchCouldBeSeen
 refine zB0 ?_
 refine wpAny_forIn_list _ (λrest r s'=>r.1=none/\s'=s/\∀v∈rest,∃k' b',v=.ref b'/\IsTupleKey (aG prog w) s.heap k' b') _ ?_ ?_ _ _ ⟨rfl,rfl,hv⟩
 ·rintro v rest r s' ⟨hr,rfl,hall⟩
  obtain⟨k',b',rfl,hk'⟩:=hall v List.mem_cons_self
  have fin:r.1=none/\s'=s'/\∀v∈rest,∃k' b',v=.ref b'/\IsTupleKey (aG prog w) s'.heap k' b':=⟨hr,rfl,λu hu'=>hall u (List.mem_cons_of_mem _ hu')⟩
  dsimp only
  split
  ·exact zP0 ⟨rfl,rfl,λu hu'=>hall u (List.mem_cons_of_mem _ hu')⟩
  ·refine zB0 (wpAny_eqIsQuiet_tuple hk ?_)
   simp only [Bool.not_true,Bool.false_eq_true,if_false]
   refine zB0 (wpAny_eqIsQuiet_tuple hk' ?_)
   simp only [Bool.not_true,Bool.false_eq_true,if_false]
   refine zB0 (rO hk ?_)
   simp only [Bool.false_eq_true,if_false]
   refine zB0 (rO hk' ?_)
   simp only [Bool.false_eq_true,if_false]
   exact zP0 ⟨rfl,rfl,λu hu'=>hall u (List.mem_cons_of_mem _ hu')⟩
 ·rintro⟨r1,r2⟩ s' ⟨hr,rfl,_⟩
  simp only at hr
  subst hr
  exact zP0 h
theorem BZ {k:List Key}{b:Addr}{Q:Bool->Shared->Prop} (hk:IsTupleKey (aG prog w) s.heap k b) (h:∀r,Q r s):wpAny (model prog w) A (hashByValue 8 (.ref b)) Q E s:=by
 have hT:=hk.typeIs
 obtain⟨o,items,n,ho,hc,hd,hi⟩:=hk
 unfold hashByValue
 refine zB0 (wpAny_specialOf hT F.slot_tuple_hash.lookup ?_)
 dsimp only
 refine zB0 (wpAny_seqItems ho hd ?_)
 refine zB0 ?_
 show wpAny _ _ (forIn items _ _) _ _ s
 rw [<- Array.forIn_toList]
 refine wpAny_forIn_list _ (λrest r s'=>r.1=none/\s'=s/\∀v∈rest,carriedByValue v=true) _ ?_ ?_ _ _ ⟨rfl,rfl,hi.byValue⟩
 ·rintro v rest r s' ⟨hr,rfl,hall⟩
  have e:∃c,hashByValue 7 v=pure c:=by
   have:=hall v List.mem_cons_self
   cases v with
   | ref a=>simp [carriedByValue]at this
   | _=>exact⟨_,rfl⟩
  obtain⟨c,e⟩:=e
  rw [e]
  refine zB0 (zP0 ?_)
  cases c with
  | false=>
   simp only [Bool.not_false,if_true]
   exact zP0 (zP0 (h _))
  | true=>
   simp only [Bool.not_true,Bool.false_eq_true,if_false]
   exact zP0 ⟨rfl,rfl,λu hu'=>hall u (List.mem_cons_of_mem _ hu')⟩
 ·rintro⟨r1,r2⟩ s' ⟨hr,rfl,_⟩
  simp only at hr
  subst hr
  exact zP0 (h _)
end
end L2
namespace L2
open PySem PySem.Spec PySem.SetTable PyProof.Rows
section
variable {prog:Program}{w:World}{A:Around}{E:Value->Shared->Prop}{s:Shared}{a b:Addr}{k:List Key}{o:Obj}{es:Array (Int × Value)}{ep:Nat}{t:SetTable}{led:Bool}{zs:List KZ}{Q:SetFound->Shared->Prop}
theorem nK (a:Addr):isSame (.ref a) (.ref a)=pure true:=by
 unfold isSame
 simp only [beq_self_eq_true,if_true]
theorem gs (hu:A.units < cLine) (ho:s.heap.get? a=some o) (hd:o.data=.set es ep t) (D:SetD prog w led zs es t) (hk:IsTupleKey (aG prog w) s.heap k b) (his:∀z∈zs,IsTupleKey (aG prog w) s.heap z.1 z.2)
  (hno:k∉zs.map (·.1)->∀j,t.slot j=.empty->j<=t.mask->lU t (bt prog w k) j->Q (.free j false) s) (hyes:k∈zs.map (·.1)->Q (.there none) s)
  {K0:Nat} (hK:K0<=10 * (13+t.mask)) (he:t.slot (wk t (t.probeStart (bt prog w k)) K0).j=.empty) :
  ∀(fuel m0:Nat) (stand:Option Probe),stand.getD (t.probeStart (bt prog w k))=wk t (t.probeStart (bt prog w k)) m0->m0<=K0->K0 - m0 < fuel->(∀x,x < m0->∃i z,t.slot (wk t (t.probeStart (bt prog w k)) x).j=.live i/\es[i]?=some (kJ prog w z)/\z∈zs/\(z.1≠k\/bt prog w z.1≠bt prog w k))->
   wpAny (model prog w) A (setSearchFrom a (.ref b) (bt prog w k) true fuel stand) Q E s
 | 0,_,_,_,_,h,_=>absurd h (Nat.not_lt_zero _)
 | fuel+1,m0,stand,hs,hm,hf,vis=>by
  unfold setSearchFrom
  refine zB0 (wpAny_setState_of ho hd D.fits ?_)
  dsimp only
  have gw:t.gaveWay=false:=D.sz.odd
  rw [gw]
  simp only [Bool.false_eq_true,if_false]
  have dum:(wk t (t.probeStart (bt prog w k)) m0).dummy=none:=by
   have:∀(n:Nat) (p:Probe),p.dummy=none->(wk t p n).dummy=none:=λn=>by
    induction n with
    | zero=>intro p h;exact h
    | succ n ih=>intro p h;exact ih _ (by rw [lT];exact h)
   exact this m0 _ rfl
  rw [hs]
  k_delta "storedHashAt"
  have fz:10 * turns t.mask=10 * t.mask+150:=by unfold turns;omega
  have M:Mets t (λi=>(es[i]?.map (·.1)).getD 0) (bt prog w k) (wk t (t.probeStart (bt prog w k)) m0) (K0 - m0) (t.probe (λi=>(es[i]?.map (·.1)).getD 0) (bt prog w k) (wk t (t.probeStart (bt prog w k)) m0)):=
   go_mets D.tb.tb _ _ (10 * turns t.mask) (K0 - m0) _ (by rw [fz];omega) (by rw [<- cR,Nat.add_sub_cancel' hm];exact he)
  revert M
  generalize t.probe (λi=>(es[i]?.map (·.1)).getD 0) (bt prog w k) (wk t (t.probeStart (bt prog w k)) m0)=r
  intro M
  have jle:∀x,(wk t (t.probeStart (bt prog w k)) x).j<=t.mask:=λx=>by
   refine tG t x _ ?_
   show bits (bt prog w k) % (t.mask+1)+(runEnd t.mask (bits (bt prog w k) % (t.mask+1)) - bits (bt prog w k) % (t.mask+1))<=t.mask
   have h1:bits (bt prog w k) % (t.mask+1) < t.mask+1:=Nat.mod_lt _ (Nat.succ_pos _)
   have h2:=qc (mask:=t.mask) (i:=bits (bt prog w k) % (t.mask+1)) ‹1›
   omega
  rcases M with⟨m,h1,h2,h3,h4⟩ | ⟨m,i,h1,h2,h3,h4,h5⟩
  ·subst h4
   dsimp only
   rw [dum]
   dsimp only
   rw [<- cR]at h2 ⊢
   refine zP0 (hno (λhin=>?_) _ h2 (jle _) ⟨m0+m,rfl,λx hx=>?_⟩)
   ·obtain⟨z,hz,ez⟩:=List.mem_map.mp hin
    obtain⟨i,ei⟩:=D.has hz
    have hi:i < t.place.size:=by rw [D.tb.tb.sz];exact(Array.getElem?_eq_some_iff.mp ei).1
    have ep':t.place[i]?=some t.place[i]:=Array.getElem?_eq_getElem hi
    obtain⟨x,hx,ex⟩:=yg D.tb h2 (j:=t.place[i]) (x:=Value.ref z.2) ⟨i,ep',by rw [ei];unfold kJ;rw [ez]⟩
    have sl:=(dw D.tb.tb).mpr ep'
    rw [<- ex]at sl
    by_cases hx0:x < m0
    ·obtain⟨i',z',v1,v2,v3,v4⟩:=vis x hx0
     rw [v1]at sl
     cases sl
     rw [v2]at ei
     have e2:z'.2=z.2:=by
      have:=congrArg Prod.snd (Option.some.inj ei)
      exact Value.ref.inj this
     have e1:z'.1=z.1:=(his z' v3).inj (by rw [e2];exact his z hz)
     rcases v4 with v4 | v4
     ·exact v4 (e1.trans ez)
     ·exact v4 (by rw [e1,ez])
    ·obtain⟨i',v1,v2⟩:=h3 (x - m0) ‹1›
     rw [<- cR,Nat.add_sub_cancel' ‹1›,sl]at v1
     cases v1
     refine v2 ?_
     rw [ei]
     show bt prog w z.1=_
     rw [ez]
   ·by_cases hx0:x < m0
    ·obtain⟨i',z',v1,_⟩:=vis x hx0
     rw [v1];exact λz=>nomatch z
    ·obtain⟨i',v1,v2⟩:=h3 (x - m0) ‹1›
     rw [<- cR,Nat.add_sub_cancel' ‹1›]at v1
     rw [v1];exact λz=>nomatch z
  ·subst h5
   rw [<- cR]at h2
   rw [<- cR,<- cR]
   have ep':=(dw D.tb.tb).mp h2
   have hi:i < es.size:=by rw [<- D.tb.tb.sz];exact(Array.getElem?_eq_some_iff.mp ep').1
   obtain⟨z,hz,ez⟩:=D.at_ (Array.getElem?_eq_getElem hi)
   have ei:es[i]?=some (bt prog w z.1,Value.ref z.2):=by rw [Array.getElem?_eq_getElem hi,ez];rfl
   have hkz:=his z hz
   dsimp only
   have go:∀x,x < m0+m->∃i z,t.slot (wk t (t.probeStart (bt prog w k)) x).j=.live i/\es[i]?=some (kJ prog w z)/\z∈zs/\(z.1≠k\/bt prog w z.1≠bt prog w k):=λx hx=>by
    by_cases hx0:x < m0
    ·exact vis x hx0
    ·obtain⟨i',v1,v2⟩:=h4 (x - m0) ‹1›
     rw [<- cR,Nat.add_sub_cancel' ‹1›]at v1
     have ep2:=(dw D.tb.tb).mp v1
     have hi2:i' < es.size:=by rw [<- D.tb.tb.sz];exact(Array.getElem?_eq_some_iff.mp ep2).1
     obtain⟨z',hz',ez'⟩:=D.at_ (Array.getElem?_eq_getElem hi2)
     refine⟨i',z',v1,by rw [Array.getElem?_eq_getElem hi2,ez'],hz',.inr λq=>v2 ?_⟩
     rw [Array.getElem?_eq_getElem hi2,ez']
     exact q
   have sm:t.sameMemory t.moves t.mask=some true:=by unfold sameMemory;rw [if_pos (beq_self_eq_true _)]
   split
   ·refine zB0 (yf hk (λv hv=>?_) ?_)
    ·obtain⟨e1,he1,rfl⟩:=List.mem_map.mp hv
     obtain⟨z',hz',ez'⟩:=List.mem_map.mp (D.pm.mem_iff.mp (List.mem_filter.mp (by rw [<- Array.toList_filter];exact he1)).1)
     exact⟨z'.1,z'.2,by rw [<- ez'];rfl,his z' hz'⟩
    simp only [Bool.false_eq_true,if_false]
    rw [ei]
    dsimp only
    refine zB0 (wpAny_holding (wpAny_eqBool_tuple hu hkz hk ?_))
    refine zB0 (wpAny_setState_of ho hd D.fits ?_)
    dsimp only
    by_cases hq:z.1=k
    ·rw [decide_eq_true hq]
     simp only [Bool.and_self,if_true]
     exact zP0 (hyes (List.mem_map.mpr ⟨z,hz,hq⟩))
    ·rw [decide_eq_false hq]
     simp only [Bool.and_false,Bool.false_eq_true,if_false]
     rw [sm]
     dsimp only
     rw [if_pos rfl,h2]
     dsimp only
     rw [ei]
     dsimp only
     refine zB0 (wpAny_of_eq (nK z.2) ?_)
     refine zB0 (zP0 ?_)
     rw [if_pos rfl]
     refine gs hu ho hd D hk his hno hyes hK he fuel (m0+(m+1)) _ rfl ‹1› ‹1› λx hx=>?_
     by_cases hx1:x < m0+m
     ·exact go x hx1
     ·have ex:x=m0+m:=by omega
      subst ex
      exact⟨i,z,h2,ei,hz,.inl hq⟩
   ·rw [ei]
    dsimp only
    refine zB0 (wpAny_holding (wpAny_eqBool_tuple hu hkz hk ?_))
    refine zB0 (wpAny_setState_of ho hd D.fits ?_)
    dsimp only
    by_cases hq:z.1=k
    ·rw [decide_eq_true hq]
     simp only [Bool.and_self,if_true]
     exact zP0 (hyes (List.mem_map.mpr ⟨z,hz,hq⟩))
    ·rw [decide_eq_false hq]
     simp only [Bool.and_false,Bool.false_eq_true,if_false]
     rw [sm]
     dsimp only
     rw [if_pos rfl,h2]
     dsimp only
     rw [ei]
     dsimp only
     refine zB0 (wpAny_of_eq (nK z.2) ?_)
     refine zB0 (zP0 ?_)
     rw [if_pos rfl]
     refine gs hu ho hd D hk his hno hyes hK he fuel (m0+(m+1)) _ rfl ‹1› ‹1› λx hx=>?_
     by_cases hx1:x < m0+m
     ·exact go x hx1
     ·have ex:x=m0+m:=by omega
      subst ex
      exact⟨i,z,h2,ei,hz,.inl hq⟩
theorem xo (hu:A.units < cLine) (ho:s.heap.get? a=some o) (hd:o.data=.set es ep t) (D:SetD prog w led zs es t) (hk:IsTupleKey (aG prog w) s.heap k b) (his:∀z∈zs,IsTupleKey (aG prog w) s.heap z.1 z.2)
  (hno:k∉zs.map (·.1)->∀j,t.slot j=.empty->j<=t.mask->lU t (bt prog w k) j->Q (.free j false) s) (hyes:k∈zs.map (·.1)->Q (.there none) s) :
  wpAny (model prog w) A (setSearch a (.ref b) (bt prog w k) true) Q E s:=by
 obtain⟨f,hf,ef⟩:=vk D.tb.tb D.sz.le.1
 obtain⟨K0,h1,h2⟩:=zE D.sz.mem (bt prog w k) hf
 have:=D.sz.le.2
 unfold setSearch
 exact gs hu ho hd D hk his hno hyes h1 (by rw [h2];exact ef) 100000 0 none rfl (Nat.zero_le _) ‹1› λx hx=>absurd hx (Nat.not_lt_zero _)
theorem tP {α:Type}{es:Array (Int × α)}{t t':SetTable} (e1:t'.mask=t.mask) (e2:t'.place=t.place) (e3:t'.dummies=t.dummies) (T:Tbl t es):Tbl t' es:=by
 have T1:Tb t' es.size:=⟨by rw [e2];exact T.tb.ris,by rw [e3];exact T.tb.dum,by rw [e2];exact T.tb.sz,by rw [e1];intro i h;have:=T.tb.top i (by rw [<- e2];exact h);simpa only [e2] using this⟩
 refine⟨T1,λj h x en=>gB e1 T.tb T1 (λj' q=>by rw [e2];exact q) (T.reach j h x ?_)⟩
 obtain⟨i,a1,a2⟩:=en
 exact⟨i,by rw [<- e2];exact a1,a2⟩
theorem siz_next {mask n:Nat} (h:Siz mask n) (hn:n < 1000):((n+1) * 5>=mask * 3/\sizeAbove (grown (n+1))∈[8,32,128,512,2048]/\Siz (sizeAbove (grown (n+1)) - 1) (n+1))\/(¬(n+1) * 5>=mask * 3/\Siz mask (n+1)):=by
 have g:∀m,m<=1000->grown m=m * 4:=λm hm=>by unfold grown;rw [if_neg ‹1›]
 rcases h with⟨rfl,h⟩ | ⟨rfl,h⟩ | ⟨rfl,h⟩ | ⟨rfl,h⟩ | ⟨rfl,h⟩
 ·by_cases e:n=4
  ·subst e;exact .inl ⟨by omega,by decide,by unfold Siz;exact .inr (.inl ⟨by decide,by omega⟩)⟩
  ·exact .inr ⟨by omega,.inl ⟨rfl,by omega⟩⟩
 ·by_cases e:n=18
  ·subst e;exact .inl ⟨by omega,by decide,by unfold Siz;exact .inr (.inr (.inl ⟨by decide,by omega⟩))⟩
  ·exact .inr ⟨by omega,.inr (.inl ⟨rfl,by omega⟩)⟩
 ·by_cases e:n=76
  ·subst e;exact .inl ⟨by omega,by decide,by unfold Siz;exact .inr (.inr (.inr (.inl ⟨by decide,by omega⟩)))⟩
  ·exact .inr ⟨by omega,.inr (.inr (.inl ⟨rfl,by omega⟩))⟩
 ·by_cases e:n=306
  ·subst e;exact .inl ⟨by omega,by decide,by unfold Siz;exact .inr (.inr (.inr (.inr ⟨by decide,by omega⟩)))⟩
  ·exact .inr ⟨by omega,.inr (.inr (.inr (.inl ⟨rfl,by omega⟩)))⟩
 ·exact .inr ⟨by omega,.inr (.inr (.inr (.inr ⟨rfl,by omega⟩)))⟩
open Classical in
noncomputable def iX (zs:List KZ) (z:KZ):List KZ:=if z.1∈zs.map (·.1) then zs else zs++[z]
def dO (prog:Program) (w:World) (a:Addr) (led:Bool) (zs:List KZ) (h:Heap):Prop:=∃o es ep t,h.get? a=some o/\o.ExactSet/\o.data=.set es ep t/\SetD prog w led zs es t
theorem jL {α:Type}:∀{l l':List α},l.Nodup->(∀x∈l,x∈l')->l'.length<=l.length->l.Perm l'
 | [],l',_,_,h=>by rw [List.length_eq_zero_iff.mp (Nat.le_zero.mp h)]
 | a::l,l',nd,hs,h=>by
  obtain⟨n1,n2⟩:=List.nodup_cons.mp nd
  obtain⟨u,v,rfl⟩:=List.append_of_mem (hs a List.mem_cons_self)
  have ih:=jL (l:=l) (l':=u++v) n2 (λx hx=>by
   have:=hs x (List.mem_cons_of_mem _ hx)
   rw [List.mem_append,List.mem_cons]at this
   rw [List.mem_append]
   rcases this with q | q | q
   ·exact .inl q
   ·exact absurd (q ▸ hx) n1
   ·exact .inr q) (by simp only [List.length_append,List.length_cons]at h ⊢;omega)
  exact(ih.cons a).trans List.perm_middle.symm
theorem sY {h:Heap}{zs:List KZ} (nd:(zs.map (·.1)).Nodup) (his:∀z∈zs,IsTupleKey (aG prog w) h z.1 z.2):(zs.map (kJ prog w)).Nodup:=by
 rw [List.nodup_iff_pairwise_ne,List.pairwise_map]at nd ⊢
 refine nd.imp_of_mem λ{x y} hx hy ne e=>ne ?_
 have e2:x.2=y.2:=Value.ref.inj (congrArg Prod.snd e)
 exact(his x hx).inj (by rw [e2];exact his y hy)
theorem Af {Q:Unit->Shared->Prop}{n:Nat} (ho:s.heap.get? a=some o) (hx:o.ExactSet) (hd:o.data=.set es ep t) (hf:t.fits es.size=true) (hm:sizeAbove n∈[8,32,128,512,2048]) (hn:es.size<=sizeAbove n) (hl:t.led=led) (nd:(zs.map (·.1)).Nodup) (pm:es.toList.Perm (zs.map (kJ prog w))) (hs:Siz (sizeAbove n - 1) es.size) (nde:es.toList.Nodup)
  (h:∀h',Heap.SameBut a s.heap h'->dO prog w a led zs h'->Q () { s with heap:=h' }):wpAny (model prog w) A (setRelay a n) Q E s:=by
 unfold setRelay
 refine zB0 (wpAny_setState_of ho hd hf ?_)
 dsimp only
 have z0:¬sizeAbove n > sizeLine:=by
  simp only [List.mem_cons,List.not_mem_nil,or_false]at hm
  rw [sizeLine_eq]
  omega
 rw [if_neg z0]
 obtain⟨t',ord,e,em,el,epl,ez,T,en⟩:=sB (t:=t) (es:=es) hm hn
 rw [e]
 k_delta "reordered"
 dsimp only
 rw [if_neg (by rw [ez];simp)]
 refine zB0 (zP0 ?_)
 dsimp only
 have hp:(Array.filterMap (λx=>es[x]?) ord).toList.Perm es.toList:=by
  refine(jL nde (λx hx=>?_) (by rw [Array.length_toList,Array.length_toList,ez];exact Nat.le_refl _)).symm
  obtain⟨i,hi,ei⟩:=List.getElem_of_mem hx
  obtain⟨j,i',_,e2⟩:=(en x.1 x.2).mpr ⟨i,by rw [<- Array.getElem?_toList,List.getElem?_eq_getElem hi,ei]⟩
  exact List.mem_of_getElem? (by rw [Array.getElem?_toList];exact e2)
 refine wpAny_storeSet_of ho hd (h _ (Heap.SameBut.update ..) ⟨{ o with data:=.set (Array.filterMap (λx=>es[x]?) ord) (ep+1) t' },_,_,t',?_,hx,rfl,⟨T,by rw [em,ez];exact hs,el.trans hl,nd,hp.trans pm⟩⟩) (by rw [ez,sizeLine_eq];have:=hs.le;omega)
 have:=Heap.get?_update_self (Obj.putSet (Array.filterMap (λx=>es[x]?) ord) t') ho (by rw [putSet_of _ t' hd];rfl)
 rw [putSet_of _ t' hd]at this
 exact this
theorem Cy {Q:Bool->Shared->Prop} (hu:A.units < cLine) (S:dO prog w a led zs s.heap) (hl:zs.length < 1000) (hk:IsTupleKey (aG prog w) s.heap k b) (his:∀z∈zs,IsTupleKey (aG prog w) s.heap z.1 z.2)
  (h:∀r h',Heap.SameBut a s.heap h'->dO prog w a led (iX zs (k,b)) h'->Q r { s with heap:=h' }):wpAny (model prog w) A (setAddHashed a (.ref b) (bt prog w k)) Q E s:=by
 obtain⟨o,es,ep,t,ho,hx,hd,D⟩:=S
 have hsz:es.size=zs.length:=by
  have:=D.pm.length_eq
  rw [List.length_map,Array.length_toList]at this
  exact this
 unfold setAddHashed setAddHashedIn
 refine wpAny_holding (zB0 (wpAny_setState_of ho hd D.fits ?_))
 dsimp only
 have bs:byScan (.ref b) es=false:=rfl
 rw [bs]
 simp only [Bool.false_eq_true,if_false]
 refine zB0 (xo hu ho hd D hk his (λhn j h1 h2 h3=>?_) λhy=>?_)
 ·refine zB0 (wpAny_setState_of ho hd D.fits ?_)
  dsimp only
  have ez:iX zs (k,b)=zs++[(k,b)]:=by unfold iX;rw [if_neg hn]
  have T1:=wZ (x:=Value.ref b) D.tb h1 h2 h3
  have P1:(insertAt es (t.put j).2 (bt prog w k,Value.ref b)).toList.Perm ((zs++[(k,b)]).map (kJ prog w)):=by
   refine(SetTable.insertAt_perm es _ _).trans ?_
   rw [Array.toList_push,List.map_append]
   exact D.pm.append_right _
  have N1:((zs++[(k,b)]).map (·.1)).Nodup:=by
   rw [List.map_append,List.nodup_append]
   refine⟨D.nd,by simp,λx hx y hy=>?_⟩
   simp only [List.map_cons,List.map_nil,List.mem_singleton]at hy
   subst hy
   exact λe=>hn (e ▸ hx)
  have zq:(t.put j).2<=es.size:=by rw [<- D.tb.tb.sz];exact(dz D.tb.tb.ris j).le
  have Z1:(insertAt es (t.put j).2 (bt prog w k,Value.ref b)).size=es.size+1:=iH _ _ _ zq
  have key:∀t1:SetTable,t1.mask=t.mask->t1.place=(t.put j).1.place->t1.dummies=(t.put j).1.dummies->t1.led=t.led->wpAny (model prog w) A (do
    storeSet a (insertAt es (t.put j).2 (bt prog w k,Value.ref b)) t1
    if (!false && t1.tooFull)=true then do
      setRelay a (SetTable.grown (es.size+1))
      pure true
     else pure true) Q E s:=λt1 q1 q2 q3 q4=>by
   have T2:Tbl t1 (insertAt es (t.put j).2 (bt prog w k,Value.ref b)):=tP (t:=(t.put j).1) q1 q2 q3 T1
   have g1:(s.heap.update a (Obj.putSet (insertAt es (t.put j).2 (bt prog w k,Value.ref b)) t1)).get? a=some { o with data:=.set (insertAt es (t.put j).2 (bt prog w k,Value.ref b)) (ep+1) t1 }:=by
    have:=Heap.get?_update_self (Obj.putSet (insertAt es (t.put j).2 (bt prog w k,Value.ref b)) t1) ho (by rw [putSet_of _ t1 hd];rfl)
    rw [putSet_of _ t1 hd]at this
    exact this
   have b1:=Heap.SameBut.update s.heap a (Obj.putSet (insertAt es (t.put j).2 (bt prog w k,Value.ref b)) t1)
   refine zB0 (wpAny_storeSet_of ho hd ?_ (by rw [Z1,sizeLine_eq];omega))
   have fl:t1.fill=es.size+1:=by
    unfold SetTable.fill
    rw [T2.tb.sz,T2.tb.dum,Z1]
    rfl
   rcases siz_next D.sz ‹1› with⟨f1,f2,f3⟩ | ⟨f1,f2⟩
   ·have tf:t1.tooFull=true:=by unfold tooFull;rw [fl,q1];exact decide_eq_true f1
    rw [tf,if_pos (show (!false && true)=true from rfl)]
    refine zB0 (Af g1 hx rfl ?_ f2 (by rw [Z1];have:=f3.le;omega) (q4.trans D.ld) N1 P1 (by rw [Z1];exact f3) ?_ λh' b2 S2=>zP0 ?_)
    ·unfold SetTable.fits
     rw [fl,T2.tb.sz,q1,Z1,Bool.and_eq_true]
     have:=D.sz
     unfold Siz at this
     exact⟨beq_self_eq_true _,decide_eq_true ‹1›⟩
    ·exact P1.nodup_iff.mpr (sY N1 λz hz=>by
      rcases List.mem_append.mp hz with hz | hz
      ·exact his z hz
      ·rw [List.mem_singleton.mp hz];exact hk)
    ·exact h true h' (b1.trans b2) (by rw [ez];exact S2)
   ·have tf:t1.tooFull=false:=by unfold tooFull;rw [fl,q1];exact decide_eq_false f1
    rw [tf]
    refine zP0 (h true _ b1 (by rw [ez];exact⟨_,_,_,t1,g1,hx,rfl,⟨T2,by rw [Z1,q1];exact f2,q4.trans D.ld,N1,P1⟩⟩))
  split
  ·refine zB0 (BZ hk λr=>?_)
   cases r with
   | true=>
    simp only [if_true]
    exact key _ rfl rfl rfl rfl
   | false=>
    simp only [Bool.false_eq_true,if_false]
    exact key _ rfl rfl rfl rfl
  ·refine zB0 (zP0 ?_)
   simp only [if_true]
   exact key _ rfl rfl rfl rfl
 ·have ez:iX zs (k,b)=zs:=by unfold iX;rw [if_pos hy]
  exact zP0 (h false s.heap (Heap.SameBut.refl a s.heap) (by rw [ez];exact⟨o,es,ep,t,ho,hx,hd,D⟩))
end
end L2
namespace L2
open PySem PySem.Spec PyProof.Rows
noncomputable def ee (w:World):Bool:=!(w.params.followText "set-order")
theorem dO.at_ {P:Program}{w:World}{a:Addr}{led:Bool}{zs:List KZ}{h h':Heap} (x:dO P w a led zs h) (e:∀o,h.get? a=some o->h'.get? a=some o):dO P w a led zs h':=by
 obtain⟨o,es,ep,t,ho,r⟩:=x
 exact⟨o,es,ep,t,e o ho,r⟩
noncomputable def ddZ (zs:List KZ) (i:Nat):List KZ:=(zs.take i).foldl iX []
theorem oS {zs:List KZ}{i:Nat}{z:KZ} (h:zs[i]?=some z):ddZ zs (i+1)=iX (ddZ zs i) z:=by
 unfold ddZ
 rw [List.take_add_one,h,List.foldl_append]
 rfl
theorem addZ_mem {zs:List KZ}{z x:KZ} (h:x∈iX zs z):x∈zs\/x=z:=by
 unfold iX at h
 split at h
 ·exact .inl h
 ·rcases List.mem_append.mp h with h | h
  ·exact .inl h
  ·exact .inr (List.mem_singleton.mp h)
theorem mW {zs:List KZ}:∀(i:Nat){x:KZ},x∈ddZ zs i->x∈zs
 | 0,x,h=>by cases h
 | i+1,x,h=>by
  cases e:zs[i]? with
  | none=>
   have hl:zs.length<=i:=List.getElem?_eq_none_iff.mp e
   have:ddZ zs (i+1)=ddZ zs i:=by unfold ddZ;rw [List.take_of_length_le ‹1›,List.take_of_length_le hl]
   rw [this]at h
   exact mW i h
  | some z=>
   rw [oS e]at h
   rcases addZ_mem h with h | rfl
   ·exact mW i h
   ·exact List.mem_of_getElem? e
section
variable {prog:Program}{w:World}{A:Around}{R:Result->Shared->Prop}{it:Addr}{fp wr:List Addr}{G:Array GenState->Array GenState->Prop}{P:Nat->Value->Prop}{St:Nat->Shared->Prop}
def tz (zs:List KZ):Prop:=∀i,i < zs.length->(ddZ zs i).length < 1000
theorem sr {zs:List KZ} (W:WalksS prog w A.in1 it fp wr G zs.length P St) (S:Addr) (hS:S∉fp) (val:∀i v,P i v->∃z,zs[i]?=some z/\v=.ref z.2) (hb:tz zs) (hu:A.in1.units < cLine) (nS:∀z∈zs,z.2≠S/\z.2∉wr){led:Bool} :
  ∀(k i:Nat) (s:Shared),zs.length - i=k->i<=zs.length->St i s->(∀z∈zs,IsTupleKey (aG prog w) s.heap z.1 z.2)->dO prog w S led (ddZ zs i) s.heap->
   (∀s',Moved (S::wr) G s s'->dO prog w S led (ddZ zs zs.length) s'.heap->R (.ok (.ret .none)) s')->
   codeAny (model prog w) A (.builtin "set.update.loop" ⟨[.ref S,.ref it],[]⟩) R s:=by
 have nw:S∉wr:=λz=>hS (W.sub _ z)
 have up:∀b∈wr,b∈S::wr:=λb z=>List.mem_cons_of_mem _ z
 intro k
 induction k with
 | zero=>
  intro i s ek le st ks x fin
  have e:i=zs.length:=by omega
  subst e
  refine codeAny_builtin F.entry_set_update_loop ?_
  rw [Around.under_plainId F.plain_set_update_loop _]
  show wpAny _ A.in1 (pyNext (.ref it) >>= _) _ _ s
  refine zB0 (W.done s _ _ st λs' mv=>?_)
  exact zP0 (fin s' (mv.mono up) (x.at_ λo e=>mv.heap S o nw e))
 | succ k ih=>
  intro i s ek le st ks x fin
  refine codeAny_builtin F.entry_set_update_loop ?_
  rw [Around.under_plainId F.plain_set_update_loop _]
  show wpAny _ A.in1 (pyNext (.ref it) >>= _) _ _ s
  refine zB0 (W.item i s _ _ ‹1› st λv s' pv st' mv=>?_)
  obtain⟨z,ez,rfl⟩:=val i v pv
  have hz:z∈zs:=List.mem_of_getElem? ez
  have x':=x.at_ λo e=>mv.heap S o nw e
  have ks':∀z∈zs,IsTupleKey (aG prog w) s'.heap z.1 z.2:=λz hz=>by
   obtain⟨o,its,n,ho,r⟩:=ks z hz
   exact⟨o,its,n,mv.heap _ _ (nS z hz).2 ho,r⟩
  show wpAny _ A.in1 (holding [Value.ref z.2] (setAdd S (.ref z.2)) >>= _) _ _ s'
  refine zB0 (wpAny_holding ?_)
  unfold setAdd
  refine wpAny_holding ?_
  refine zB0 (wpAny_pyHash_tuple hu (ks' z hz) ?_)
  refine Cy (s:={ s' with toks:=s'.toks+(z.1.length+1) }) hu x' (hb i ‹1›) (ks' z hz) (λz' hz'=>ks' z' (mW i hz')) λr h' sb x2=>?_
  have x3:dO prog w S led (ddZ zs (i+1)) h':=by rw [oS ez];exact x2
  refine zP0 ⟨plainId_quiet F.plain_set_update_loop _,ih (i+1) _ ‹1› ‹1› (W.frame _ s' _ _ st' (Nat.le_add_right _ _) λb hb o e=>?_) (λz hz=>?_) x3 λs'' mv'' x4=>?_⟩
  ·rw [sb.2 b (λh:b=S=>hS (by rw [<- h];exact hb))];exact e
  ·obtain⟨o,its,n,ho,r⟩:=ks' z hz
   exact⟨o,its,n,(sb.2 z.2 (nS z hz).1).trans ho,r⟩
  ·refine fin s'' (Moved.trans W.gtrans ((mv.mono up).then_heap (Nat.le_add_right _ _) λb o hb e=>?_) mv'') x4
   rw [sb.2 b (λh:b=S=>hb (by rw [h];exact List.mem_cons_self))];exact e
end
section
variable {prog:Program}{w:World}{A:Around}{E:Value->Shared->Prop}{s:Shared}
open PySem.F in
theorem ui (a:Value){Q₁:Value->Shared->Prop} (h:Q₁ (.ref s.heap.objs.size) { s with heap:=s.heap.push (bR (ee w)) }) :
  codeAny (model prog w) A (.call (.builtin "set.__new__") ⟨[.type "set", a],[]⟩) (wants Q₁ E) s:=by
 refine codeAny_of_tree ?_
 show wpAny _ A.in1 (do checkBuiltinCall "set.__new__" ⟨[.type "set", a],[]⟩;again (.builtin "set.__new__" ⟨[.type "set", a],[]⟩)) _ _ s
 refine zB0 (wpAny_of_eq (F.newCall_set_1 a) (zP0 ⟨plainId_quiet F.plain_set_new _,codeAny_builtin F.entry_set_new ?_⟩))
 rw [Around.under_plainId F.plain_set_new _]
 unfold Builtin.«set.__new__» Builtin.Frozenset.newClass
 have hsub:=sub_set_self
 obtain⟨hp,g,d,tk,os⟩:=s
 dsimp only
 wp_walk
 refine wpAny_askSetting (zP0 ?_)
 dsimp only
 simp only [newObj]
 refine zB0 (wpAny_alloc (zP0 ?_))
 exact zP0 h
theorem AV (P:Program) (h:Heap){a:Addr} (hS:h.get? a=some (bR (ee w))):dO P w a (ee w) [] h:=by
 refine⟨_,#[],0,_,hS,⟨rfl,rfl,rfl⟩,rfl,⟨⟨⟨λi k hi=>absurd hi (Nat.not_lt_zero _),rfl,rfl,λi hi=>absurd hi (Nat.not_lt_zero _)⟩,λj h x ⟨i,e,_⟩=>?_⟩,.inl ⟨rfl,by show 0 < 5;omega⟩,rfl,.nil,.nil⟩⟩
 simp [SetTable.fresh]at e
theorem kK {l:Addr}{its:Array Value}{zs:List KZ}{Q:Value->Shared->Prop} (hh:A.handled=none) (hu:A.units+8 < cLine) (hl:s.heap.IsList l its) (hs:its.toList=zs.map λz=>Value.ref z.2) (hk:∀z∈zs,IsTupleKey (aG prog w) s.heap z.1 z.2) (hb:tz zs)
  (q:∀(h':Heap) (tk:Nat),dO prog w s.heap.objs.size (ee w) (ddZ zs zs.length) h'->(∀a o,a < s.heap.objs.size->s.heap.get? a=some o->h'.get? a=some o)->Q (.ref s.heap.objs.size) { s with heap:=h',toks:=tk }) :
  wpAny (model prog w) A (call (.type "set") [.ref l]) Q E s:=by
 have ft:=PySem.F.called_set
 obtain⟨c0,tl0,m0⟩:=ft.mro
 have m1:=ft.made
 have m2:=ft.sub
 have hlen:its.size=zs.length:=by
  have:=congrArg List.length hs
  rw [Array.length_toList,List.length_map]at this
  exact this
 refine wpAny_call (codeAny_of_tree ?_)
 show wpAny _ _ (callAny (.type "set") _) _ _ _
 refine zP0 ⟨Code.quiet_builtin _ ‹0›,codeAny_builtin PySem.F.entry_type_call ?_⟩
 rw [Around.under_plain (weight_type_call_type "set" [.ref l] []) rfl]
 have m3:=ft.notType
 have m4:=ft.canCreate
 have m5:=PySem.F.typeCall_set_1 (.ref l)
 repeat (any_goals (first | assumption | wp_step))
 refine codeAny_mono (ui (.ref l) (E:=E) (Q₁:=λo s1=>o=.ref s.heap.objs.size/\s1={ s with heap:=s.heap.push (bR (ee w)) }) ⟨rfl,rfl⟩) λr s1 hr=>?_
 cases r with
 | error e=>exact hr
 | ok fl=>
  cases fl with
  | ret o=>
   obtain⟨rfl,rfl⟩:=hr
   generalize eb:ee w=b at q
   have hS:(s.heap.push (bR b)).get? s.heap.objs.size=some (bR b):=Heap.get?_push_size _ rfl
   have hT:Shared.TypeIs { s with heap:=s.heap.push (bR b) } (.ref s.heap.objs.size) "set":=⟨_,hS,rfl⟩
   have n1:=ft.init.lookup
   have n2:=ft.init.bind (.ref s.heap.objs.size)
   repeat (any_goals (first | assumption | wp_step))
   refine codeAny_mono (codeAny_call_builtin (R:=wants (λr s2=>r=.none/\∃h' tk,s2={ s with heap:=h',toks:=tk }/\dO prog w s.heap.objs.size b (ddZ zs zs.length) h'/\∀a o,a < s.heap.objs.size->s.heap.get? a=some o->h'.get? a=some o) E) ft.init.plain PySem.F.entry_set_init (PySem.check_set_init_1 hT ?_)) λr2 s2 hr2=>?_
   ·obtain⟨ol,hol,hcl,nl,hdl⟩:=hl
    obtain⟨oc,od,oa,os⟩:=ol
    simp only at hcl hdl
    subst hcl;subst hdl
    have ho1:(s.heap.push (bR b)).get? l=some { cls:=.type "list", dict:=od,data:=.seq its nl,slots:=os }:=zH0 _ hol
    have k1:=PySem.F.sub_list_set
    have k2:=PySem.F.sub_list_frozenset
    have k3:(Value.type "list" == Value.type "dict")=false:=by decide
    have l1:(s.heap.push (bR b)).IsList l its:=⟨_,ho1,rfl,nl,rfl⟩
    have lS:l < s.heap.objs.size:=Heap.lt_size hol
    unfold Builtin.«set.__init__» noKeywords Builtin.Frozenset.updateFrom
    generalize eI:pyIter=PI
    wp_walk
    subst eI
    refine wpAny_pyIter_list l1 ?_
    refine zB0 (wpAny_runValue ?_)
    have zp:(s.heap.push (bR b)).objs.size=s.heap.objs.size+1:=Heap.size_push _ _
    have d1:l≠(s.heap.push (bR b)).objs.size:=by rw [zp];exact Nat.ne_of_lt (Nat.lt_succ_of_lt lS)
    have d2:s.heap.objs.size∉[(s.heap.push (bR b)).objs.size,l]:=by
     rw [zp]
     intro z
     rcases List.mem_cons.mp z with z | z
     ·exact Nat.ne_of_lt (Nat.lt_succ_self _) z
     ·exact Nat.ne_of_gt lS (List.mem_singleton.mp z)
    have W:=(Walks.list (prog:=prog) (w:=w) (A:=A.in1.in1.in1) (by simp [hh]) _ l d1 its).toS
    rw [hlen]at W
    have zlt:∀z∈zs,z.2 < s.heap.objs.size:=λz hz=>by
     obtain⟨o,_,_,ho,_⟩:=hk z hz
     exact Heap.lt_size ho
    refine sr (led:=b) W s.heap.objs.size d2 (λi v hv=>?_) hb (by simp only [Around.in1];omega) (λz hz=>⟨Nat.ne_of_lt (zlt z hz),λy=>?_⟩) (zs.length - 0) 0 _ ‹1› (Nat.zero_le _) ⟨⟨_,Heap.get?_push_size _ rfl,rfl,rfl⟩,l1.push _⟩ ?ks ?s0 ?fin
    ·have hv:its.toList[i]?=some v:=by rw [Array.getElem?_toList];exact hv
     rw [hs,List.getElem?_map]at hv
     obtain⟨z,e1,e2⟩:=Option.map_eq_some_iff.mp hv
     exact⟨z,e1,e2.symm⟩
    ·have e:=List.mem_singleton.mp y
     rw [zp]at e
     have:=zlt z hz
     rw [e]at this
     exact absurd this (Nat.not_lt.mpr (Nat.le_succ _))
    case ks=>
     intro z hz
     obtain⟨o,i2,n2,ho,r⟩:=hk z hz
     exact⟨o,i2,n2,zH0 _ (zH0 _ ho),r⟩
    case s0=>rw [<- eb];exact AV prog _ (zH0 _ (by rw [eb];exact hS))
    case fin=>
     intro s' mv x
     obtain⟨h',g',d',tk',os'⟩:=s'
     obtain rfl:g'=s.gens:=mv.gens
     obtain rfl:d'=s.drawn:=mv.drawn
     obtain rfl:os'=s.os:=mv.os
     refine zP0 ?_
     show wpAny _ _ (ret Value.none) _ _ _
     refine zP0 ⟨rfl,h',tk',rfl,x,λa o ha e=>mv.heap a o (λz=>?_) (zH0 _ (zH0 _ e))⟩
     rcases List.mem_cons.mp z with z | z
     ·exact Nat.ne_of_lt ha z
     ·rw [zp]at z
      exact Nat.ne_of_lt (Nat.lt_succ_of_lt ha) (List.mem_singleton.mp z)
   ·cases r2 with
    | error e=>exact hr2
    | ok f2=>
     cases f2 with
     | ret r=>
      obtain⟨rfl,h',tk,rfl,x,kp⟩:=hr2
      repeat (any_goals (first | assumption | wp_step))
      exact q _ _ x kp
     | _=>exact hr2.elim
  | _=>exact hr.elim
end
theorem b8:Slot "set_iterator" "__next__" "set_iterator.__next__":=
 .of (owner:="set_iterator") (n:="__next__") (by rw [typeLookup_type,builtinLookup_eq_fast];kernel_rfl) ‹0› ‹0› ‹0›
  (by first | exact .inl ‹0› | exact .inr ‹0›) (by rw [isSubtype_type];kernel_rfl)
theorem cZ:entryFor table "set_iterator.__next__" = some Builtin.«set_iterator.__next__»:=entryFor_of_tree (by kernel_rfl)
theorem nV:Manifest.owners.lookup (String.ofList ['r','o','t','a','r','e','t','i','_','t','e','s'].reverse)=some Manifest.sig_set_iterator:=by kernel_rfl
theorem du (a:Value):argsOk "set_iterator.__next__" ⟨[a],[]⟩:=by
 unfold argsOk;rw [signature?_of (id:="set_iterator.__next__") (n:=['_','_','t','x','e','n','_','_']) (o:=['r','o','t','a','r','e','t','i','_','t','e','s']) (by kernel_rfl) nV];kernel_rfl
theorem gM:Slot "set_iterator" "__iter__" "set_iterator.__iter__":=
 .of (owner:="set_iterator") (n:="__iter__") (by rw [typeLookup_type,builtinLookup_eq_fast];kernel_rfl) ‹0› ‹0› ‹0›
  (by first | exact .inl ‹0› | exact .inr ‹0›) (by rw [isSubtype_type];kernel_rfl)
theorem kI:entryFor table "set_iterator.__iter__" = some Builtin.«dict_keyiterator.__iter__»:=entryFor_alias (id':="dict_keyiterator.__iter__") (by kernel_rfl) ‹0› ‹0› (by kernel_rfl)
theorem nh (a:Value):argsOk "set_iterator.__iter__" ⟨[a],[]⟩:=by
 unfold argsOk;rw [signature?_of (id:="set_iterator.__iter__") (n:=['_','_','r','e','t','i','_','_']) (o:=['r','o','t','a','r','e','t','i','_','t','e','s']) (by kernel_rfl) nV];kernel_rfl
theorem entry_set_iter:entryFor table "set.__iter__" = some Builtin.«frozenset.__iter__»:=entryFor_alias (id':="frozenset.__iter__") (by kernel_rfl) ‹0› ‹0› (by kernel_rfl)
def fb (h:Heap) (it a:Addr) (first:Value) (i n ep:Nat):Prop:=∃o,h.get? it=some o/\o.cls=.type "set_iterator"/\o.data=.fields #[first,.int i 0,.ref a,.int n 0,.int ep 0]
theorem fb.typeIs {s:Shared}{it a:Addr}{first:Value}{i n ep:Nat} (x:fb s.heap it a first i n ep):s.TypeIs (.ref it) "set_iterator":=let ⟨o,ho,hc,_⟩:=x;⟨o,ho,hc⟩
theorem fb.at_ {h h':Heap}{it a:Addr}{first:Value}{i n ep:Nat} (x:fb h it a first i n ep) (e:∀o,h.get? it=some o->h'.get? it=some o):fb h' it a first i n ep:=let ⟨o,ho,r⟩:=x;⟨o,e _ ho,r⟩
def ip (h:Heap) (a:Addr) (es:Array (Int × Value)) (ep:Nat) (t:SetTable):Prop:=∃o,h.get? a=some o/\o.data=.set es ep t/\t.fits es.size=true
section
variable {prog:Program}{w:World}{A:Around}{E:Value->Shared->Prop}{s:Shared}{it a tp:Addr}{i n ep slot nxt:Nat}{es:Array (Int × Value)}{t:SetTable}{x:Value}{Q:Option Value->Shared->Prop}
theorem yO {first:Value}{h1:Heap}{R:Value->Shared->Prop}{α:Type}{Q:α->Shared->Prop} (hh:A.handled=none) (hR:∀h' e,(∀b o,h1.get? b=some o->h'.get? b=some o)->Shared.TypeIs { s with heap:=h' } e "StopIteration"->R e { s with heap:=h' }) :
  wpAny (model prog w) A (newExc (.type "StopIteration") [] >>= raiseNew (α:=α)) Q R { s with heap:=h1 }:=by
 refine zB0 ?_
 simp only [newExc,newTuple]
 refine zB0 (wpAny_newObj_type ?_ (by size_fits))
 refine zB0 (m:=firstArgMember _ _) (wpAny_of_eq (a:=Value.none) (by first | rfl | (simp only [firstArgMember];rfl)) ?_)
 refine wpAny_newObj_type ?_ (by size_fits)
 simp only [raiseNew]
 refine zB0 (wpAny_handled ?_)
 rw [hh]
 refine zB0 (zP0 (wpAny_throw ?_))
 exact hR _ _ (λb o e=>zH0 _ (zH0 _ e)) ⟨_,Heap.get?_push_size _ rfl,rfl⟩
theorem zh (hit:fb s.heap it a (.int slot 0) i n ep) (hs:ip s.heap a es ep t) (hn:es.size=n) (nx:∀(A:Around) (E:Value->Shared->Prop) (Q:Option (Value × Nat)->Shared->Prop),Q (some (x,nxt)) s->wpAny (model prog w) A (setNext a slot i ep) Q E s)
  (hQ:∀h',fb h' it a (.int nxt 0) (i+1) n ep->Heap.SameBut it s.heap h'->Q (some x) { s with heap:=h' }):wpAny (model prog w) A (pyNext (.ref it)) Q E s:=by
 obtain⟨o,ho,hc,hd⟩:=id hit
 obtain⟨os,hos,hds,hf⟩:=hs
 unfold pyNext
 refine zB0 (wpAny_attempt (wpAny_callSpecial?_slot (name:=‹"__next__"›) hit.typeIs b8
  (wpAny_call_entry b8 hit.typeIs cZ ?_ (du _))))
 unfold Builtin.«set_iterator.__next__»
 refine zB0 (zP0 ?_)
 refine zB0 (wpAny_fieldsOf ho hd ?_)
 dsimp only
 refine zB0 (wpAny_setEntries_of hos hds hf ?_)
 rw [if_neg (by rw [hn];simp)]
 refine zB0 (nx _ _ _ ?_)
 dsimp only
 refine zB0 (wpAny_setField ho hd (by simp) ?_)
 have g1:=Heap.get?_update_self (Obj.mapFields λx=>x.setIfInBounds 0 (rawInt (nxt:Int))) ho (Obj.isFreed_of_fields (Obj.data_mapFields hd _))
 have d1:=Obj.data_mapFields hd (λx=>x.setIfInBounds 0 (rawInt (nxt:Int)))
 refine zB0 (wpAny_setField g1 d1 (by simp) (zP0 ⟨x,rfl,zP0 (hQ _ ?_ ((Heap.SameBut.update ..).trans (Heap.SameBut.update ..)))⟩))
 exact⟨_,Heap.get?_update_self _ g1 (Obj.isFreed_of_fields (Obj.data_mapFields d1 _)),(Obj.cls_mapFields ..).trans ((Obj.cls_mapFields ..).trans hc),by
  rw [Obj.data_mapFields d1];simp [rawInt]⟩
theorem BW (hh:A.handled=none) (hit:fb s.heap it a (.int slot 0) i n ep) (hs:ip s.heap a es ep t) (hn:es.size=n) (nx:∀(A:Around) (E:Value->Shared->Prop) (Q:Option (Value × Nat)->Shared->Prop),Q none s->wpAny (model prog w) A (setNext a slot i ep) Q E s)
  (hQ:∀h',Heap.ExtBut it s.heap h'->Q none { s with heap:=h' }):wpAny (model prog w) A (pyNext (.ref it)) Q E s:=by
 obtain⟨o,ho,hc,hd⟩:=id hit
 obtain⟨os,hos,hds,hf⟩:=hs
 unfold pyNext
 refine zB0 (wpAny_attempt (wpAny_callSpecial?_slot (name:=‹"__next__"›) hit.typeIs b8
  (wpAny_call_entry b8 hit.typeIs cZ ?_ (du _))))
 unfold Builtin.«set_iterator.__next__»
 refine zB0 (zP0 ?_)
 refine zB0 (wpAny_fieldsOf ho hd ?_)
 dsimp only
 refine zB0 (wpAny_setEntries_of hos hds hf ?_)
 rw [if_neg (by rw [hn];simp)]
 refine zB0 (nx _ _ _ ?_)
 dsimp only
 refine zB0 (wpAny_setField ho hd (by simp) ?_)
 refine yO (first:=.none) hh λh' e kp hT=>?_
 refine zB0 (wpAny_isInstance (b:=true) hT isSubtype_stop ?_)
 exact zP0 (hQ _ λb o hb e=>kp b o (by rw [Heap.get?_update_other _ _ (Ne.symm hb)];exact e))
theorem BF {pl:Nat}{vs:Array Value}{hv:Int} (hit:fb s.heap it a (.ref tp) i n ep) (hs:ip s.heap a es ep t) (hn:es.size=n) (htp:∃o c,s.heap.get? tp=some o/\o.data=.seq vs c) (hv1:vs[i]?=some (.int pl 0)) (hx:es[pl]?=some (hv,x))
  (hQ:∀h',fb h' it a (.ref tp) (i+1) n ep->Heap.SameBut it s.heap h'->Q (some x) { s with heap:=h' }):wpAny (model prog w) A (pyNext (.ref it)) Q E s:=by
 obtain⟨o,ho,hc,hd⟩:=id hit
 obtain⟨os,hos,hds,hf⟩:=hs
 obtain⟨ot,ct,hot,hdt⟩:=htp
 unfold pyNext
 refine zB0 (wpAny_attempt (wpAny_callSpecial?_slot (name:=‹"__next__"›) hit.typeIs b8
  (wpAny_call_entry b8 hit.typeIs cZ ?_ (du _))))
 unfold Builtin.«set_iterator.__next__»
 refine zB0 (zP0 ?_)
 refine zB0 (wpAny_fieldsOf ho hd ?_)
 dsimp only
 refine zB0 (wpAny_setEntries_of hos hds hf ?_)
 rw [if_neg (by rw [hn];simp)]
 refine zB0 (wpAny_seqItems hot hdt ?_)
 dsimp only
 rw [Int.toNat_natCast,hv1]
 dsimp only
 refine zB0 ?_
 unfold setNextDrawn
 refine zB0 (wpAny_setState_of hos hds hf ?_)
 dsimp only
 rw [Int.toNat_natCast,Int.toNat_natCast,if_neg (by simp),hx]
 refine zP0 ?_
 refine zB0 (wpAny_setField ho hd (by simp) (zP0 ⟨x,rfl,zP0 (hQ _ ?_ (Heap.SameBut.update ..))⟩))
 exact⟨_,Heap.get?_update_self _ ho (Obj.isFreed_of_fields (Obj.data_mapFields hd _)),(Obj.cls_mapFields ..).trans hc,by
  rw [Obj.data_mapFields hd];simp [rawInt]⟩
theorem Ct {vs:Array Value} (hh:A.handled=none) (hit:fb s.heap it a (.ref tp) i n ep) (hs:ip s.heap a es ep t) (hn:es.size=n) (htp:∃o c,s.heap.get? tp=some o/\o.data=.seq vs c) (hv1:vs[i]?=none)
  (hQ:∀h',Heap.ExtBut it s.heap h'->Q none { s with heap:=h' }):wpAny (model prog w) A (pyNext (.ref it)) Q E s:=by
 obtain⟨o,ho,hc,hd⟩:=id hit
 obtain⟨os,hos,hds,hf⟩:=hs
 obtain⟨ot,ct,hot,hdt⟩:=htp
 unfold pyNext
 refine zB0 (wpAny_attempt (wpAny_callSpecial?_slot (name:=‹"__next__"›) hit.typeIs b8
  (wpAny_call_entry b8 hit.typeIs cZ ?_ (du _))))
 unfold Builtin.«set_iterator.__next__»
 refine zB0 (zP0 ?_)
 refine zB0 (wpAny_fieldsOf ho hd ?_)
 dsimp only
 refine zB0 (wpAny_setEntries_of hos hds hf ?_)
 rw [if_neg (by rw [hn];simp)]
 refine zB0 (wpAny_seqItems hot hdt ?_)
 dsimp only
 rw [Int.toNat_natCast,hv1]
 dsimp only
 refine zB0 (wpAny_setField ho hd (by simp) ?_)
 have g1:=Heap.get?_update_self (Obj.mapFields λx=>x.setIfInBounds 0 (rawInt 0)) ho (Obj.isFreed_of_fields (Obj.data_mapFields hd _))
 have d1:=Obj.data_mapFields hd (λx=>x.setIfInBounds 0 (rawInt 0))
 refine zB0 (wpAny_setField g1 d1 (by simp) ?_)
 refine yO (first:=.none) hh λh' e kp hT=>?_
 refine zB0 (wpAny_isInstance (b:=true) hT isSubtype_stop ?_)
 exact zP0 (hQ _ λb o hb e=>kp b o (by rw [Heap.get?_update_other _ _ (Ne.symm hb),Heap.get?_update_other _ _ (Ne.symm hb)];exact e))
end
theorem ko {α:Type}:∀{l:List α}{i:Nat} (h:i < l.length),(l[i]::l.eraseIdx i).Perm l
 | a::l,0,_=>.refl _
 | a::l,i+1,h=>by
  rw [List.getElem_cons_succ,List.eraseIdx_cons_succ]
  exact(List.Perm.swap _ _ _).trans ((ko (Nat.lt_of_succ_lt_succ h)).cons a)
theorem rc {α:Type} (next:Nat->Nat):∀(fuel k:Nat) (left:List α) (out:Array α),left.length=fuel->(pickOrder.go next fuel k left out).toList.Perm (out.toList++left)
 | 0,k,left,out,h=>by
  rw [List.length_eq_zero_iff.mp h,List.append_nil]
  exact .refl _
 | fuel+1,k,left,out,h=>by
  have hlt:next k % left.length < left.length:=Nat.mod_lt _ ‹1›
  unfold pickOrder.go
  rw [List.getElem?_eq_getElem hlt]
  dsimp only
  refine(rc next fuel (k+1) _ _ (by rw [List.length_eraseIdx_of_lt hlt];omega)).trans ?_
  rw [Array.toList_push,List.append_assoc]
  refine List.Perm.append_left _ ?_
  exact ko hlt
theorem iz {α:Type} (next:Nat->Nat) (xs:Array α):(pickOrder next xs).toList.Perm xs.toList:=by
 have:=rc next xs.size 0 xs.toList #[] Array.length_toList
 unfold pickOrder
 simpa using this
section
variable {prog:Program}{w:World}{A:Around}{E:Value->Shared->Prop}
theorem yx {src:Source}{n:Nat}{s:Shared}{Q:Nat->Shared->Prop} (hn:n≠0) (h:∀i d,i < n->Q i { s with drawn:=d }):wpAny (model prog w) A (choose src n) Q E s:=by
 intro Γ p _
 unfold choose
 rw [Sem.wp_choose]
 exact⟨hn,h _ _ (Nat.mod_lt _ (Nat.pos_of_ne_zero hn))⟩
theorem zt {α:Type}:∀(n:Nat) (xs:List α) (s:Shared){Q:List α->Shared->Prop},xs.length=n->(∀ys d,ys.Perm xs->Q ys { s with drawn:=d })->wpAny (model prog w) A (drawOrder n xs) Q E s
 | 0,xs,s,Q,hl,h=>by
  unfold drawOrder
  exact zP0 (by have:=h [] s.drawn (by rw [List.length_eq_zero_iff.mp hl]);exact this)
 | n+1,[],s,Q,hl,h=>by cases hl
 | n+1,x::xs,s,Q,hl,h=>by
  unfold drawOrder
  refine zB0 (yx (by simp) λi d hi=>?_)
  rw [List.getElem?_eq_getElem hi]
  dsimp only
  refine zB0 (zt n _ _ (by rw [List.length_eraseIdx_of_lt hi];omega) λys d' hp=>zP0 ?_)
  exact h _ d' ((hp.cons _).trans (ko hi))
end
section
variable {prog:Program}{w:World}{A:Around}{E:Value->Shared->Prop}{s:Shared}{it a:Addr}{n ep:Nat}{es:Array (Int × Value)}{t:SetTable}
theorem ip.at_ {h h':Heap} (x:ip h a es ep t) (e:∀o,h.get? a=some o->h'.get? a=some o):ip h' a es ep t:=let ⟨o,ho,r⟩:=x;⟨o,e _ ho,r⟩
theorem fW {Q:Bool->Shared->Prop} (h:Q (!(ee w)) s):wpAny (model prog w) A setsByText Q E s:=by
 unfold setsByText
 refine zB0 (wpAny_askSetting (zP0 ?_))
 unfold ee at h
 rw [Bool.not_not]at h
 exact h
theorem uk {it a:Addr}{first:Value}{i n ep:Nat}{Q:Value->Shared->Prop} (hit:fb s.heap it a first i n ep) (h:Q (.ref it) s):wpAny (model prog w) A (pyIter (.ref it)) Q E s:=by
 refine wpAny_pyIter_slot hit.typeIs gM (wpAny_call_entry gM hit.typeIs kI ?_ (nh _))
 show wpAny _ _ (ret (.ref it)) _ _ s
 exact zP0 ⟨_,rfl,"set_iterator", _,hit.typeIs,b8.lookup,h⟩
def wR (es:Array (Int × Value)) (vs:List Value):Prop:=vs.Perm (es.toList.map (·.2))
theorem Be (hb:ee w=false) (hne:a≠it):∃vs,wR es vs/\∀A:Around,A.handled=none->Walks prog w A it [it,a] [it] es.size (λi v=>vs[i]?=some v) (λi h=>fb h it a (.int 0 0) i es.size ep/\ip h a es ep t):=by
 refine⟨((pickOrder (w.params.setOrder a ep) es).toList.map λe:Int × Value=>e.2),(iz _ es).map _,λA hh=>⟨λb hb=>by simp at hb;simp [hb],λi h h' st k=>⟨st.1.at_ λo e=>k it (by simp) o e,st.2.at_ λo e=>k a (by simp) o e⟩,λi s Q E hi st hQ=>?_,λs Q E st hQ=>?_,λi s Q E st hQ=>uk st.1 hQ⟩⟩
 ·have hz:(pickOrder (w.params.setOrder a ep) es).size=es.size:=by
   have:=(iz (w.params.setOrder a ep) es).length_eq
   simpa using this
  have hi':i < (pickOrder (w.params.setOrder a ep) es).size:=by rw [hz];exact hi
  refine zh (slot:=0) (nxt:=0) (x:=((pickOrder (w.params.setOrder a ep) es)[i]).2) st.1 st.2 rfl (λA E Q hq=>?_) λh' i' sb=>?_
  ·obtain⟨o,ho,hd,hf⟩:=st.2
   unfold setNext
   refine zB0 (wpAny_setState_of ho hd hf ?_)
   dsimp only
   refine zB0 (fW ?_)
   rw [hb]
   simp only [Bool.not_false,if_true]
   rw [if_neg (by simp)]
   refine zB0 ?_
   unfold setWalk
   refine zB0 (wpAny_setState_of ho hd hf ?_)
   dsimp only
   refine zB0 (fW ?_)
   rw [hb]
   simp only [Bool.not_false,if_true]
   refine zB0 (wpAny_askSetting (zP0 (zP0 ?_)))
   have e1:(pickOrder (w.params.setOrder a ep) es)[i]?=some ((pickOrder (w.params.setOrder a ep) es)[i]):=Array.getElem?_eq_getElem hi'
   show Q (((pickOrder (w.params.setOrder a ep) es)[i]?).map λe=>(e.2,0)) s
   rw [e1]
   exact hq
  ·refine hQ _ h' s.toks ?_ ⟨i',st.2.at_ λo e=>(sb.2 a hne).trans e⟩ λb o hb e=>(sb.2 b (λq=>hb (by simp [q]))).trans e
   rw [List.getElem?_map,Array.getElem?_toList,Array.getElem?_eq_getElem hi']
   rfl
 ·have hz:(pickOrder (w.params.setOrder a ep) es).size=es.size:=by
   have:=(iz (w.params.setOrder a ep) es).length_eq
   simpa using this
  refine BW (slot:=0) hh st.1 st.2 rfl (λA E Q hq=>?_) λh' eb=>hQ h' s.toks λb o hb e=>eb b o (λq=>hb (by simp [q])) e
  obtain⟨o,ho,hd,hf⟩:=st.2
  unfold setNext
  refine zB0 (wpAny_setState_of ho hd hf ?_)
  dsimp only
  refine zB0 (fW ?_)
  rw [hb]
  simp only [Bool.not_false,if_true]
  rw [if_neg (by simp)]
  refine zB0 ?_
  unfold setWalk
  refine zB0 (wpAny_setState_of ho hd hf ?_)
  dsimp only
  refine zB0 (fW ?_)
  rw [hb]
  simp only [Bool.not_false,if_true]
  refine zB0 (wpAny_askSetting (zP0 (zP0 ?_)))
  have e1:(pickOrder (w.params.setOrder a ep) es)[es.size]?=none:=Array.getElem?_eq_none ‹1›
  show Q (((pickOrder (w.params.setOrder a ep) es)[es.size]?).map λe=>(e.2,0)) s
  rw [e1]
  exact hq
theorem Bg {tp:Addr}{is:List Nat} (hne:a≠it) (hnt:tp≠it) (hp:is.Perm (List.range es.size)):∃vs,wR es vs/\∀A:Around,A.handled=none->Walks prog w A it [it,a,tp] [it] es.size (λi v=>vs[i]?=some v) (λi h=>fb h it a (.ref tp) i es.size ep/\ip h a es ep t/\∃o c,h.get? tp=some o/\o.data=.seq ((is.map λ(i:Nat)=>rawInt i).toArray) c):=by
 have hl:is.length=es.size:=by rw [hp.length_eq,List.length_range]
 have all:∀k∈is,∃v,es[k]?=some v:=λk hk=>⟨_,Array.getElem?_eq_getElem (List.mem_range.mp (hp.mem_iff.mp hk))⟩
 have ov:wR es ((is.filterMap (es[·]?)).map (·.2)):=by
  refine List.Perm.map _ ((hp.filterMap _).trans ?_)
  rw [filterMap_getElem?_range]
 refine⟨(is.filterMap (es[·]?)).map (·.2),ov,λA hh=>⟨λb hb=>by simp at hb;simp [hb],λi h h' st k=>⟨st.1.at_ λo e=>k it (by simp) o e,st.2.1.at_ λo e=>k a (by simp) o e,?_⟩,λi s Q E hi st hQ=>?_,λs Q E st hQ=>?_,λi s Q E st hQ=>uk st.1 hQ⟩⟩
 ·obtain⟨o,c,e,r⟩:=st.2.2
  exact⟨o,c,k tp (by simp) o e,r⟩
 ·have hi':i < is.length:=by omega
  have hk:=List.mem_range.mp (hp.mem_iff.mp (List.getElem_mem hi'))
  refine BF (pl:=is[i]) (x:=(es[is[i]]).2) (hv:=(es[is[i]]).1) st.1 st.2.1 rfl st.2.2 (by simp [rawInt,hi']) (Array.getElem?_eq_getElem hk) λh' i' sb=>?_
  refine hQ _ h' s.toks ?_ ⟨i',st.2.1.at_ λo e=>(sb.2 a hne).trans e,?_⟩ λb o hb e=>(sb.2 b (λq=>hb (by simp [q]))).trans e
  ·rw [List.getElem?_map,qx i all,List.getElem?_eq_getElem hi']
   show Option.map _ (es[is[i]]?)=_
   rw [Array.getElem?_eq_getElem hk]
   rfl
  ·obtain⟨o,c,e,r⟩:=st.2.2
   exact⟨o,c,(sb.2 tp hnt).trans e,r⟩
 ·exact Ct hh st.1 st.2.1 rfl st.2.2 (by simp [hl]) λh' eb=>hQ h' s.toks λb o hb e=>eb b o (λq=>hb (by simp [q])) e
noncomputable def fg (t:SetTable):Nat->Nat
 | 0=>0
 | i+1=>(t.place[i]?).getD 0+1
theorem Bf (hb:ee w=true) (hl:t.led=true) (hdr:(!t.plain && decide (es.size > 1))=false) (T:Tb t es.size) (hne:a≠it):∃vs,wR es vs/\∀A:Around,A.handled=none->Walks prog w A it [it,a] [it] es.size (λi v=>vs[i]?=some v) (λi h=>fb h it a (.int (fg t i) 0) i es.size ep/\ip h a es ep t):=by
 have bel:∀i,i<=es.size->SetTable.below t.place (fg t i)=i:=λi hi=>by
  have c:=dz T.ris (fg t i)
  have hsz:=T.sz
  cases i with
  | zero=>
   rcases Nat.eq_zero_or_pos (SetTable.below t.place (fg t 0)) with e | e
   ·exact e
   ·exact absurd (c.lo 0 (by have:=c.le;omega) e) (Nat.not_lt_zero _)
  | succ i=>
   have hi2:i < t.place.size:=by omega
   have es':fg t (i+1)=t.place[i]+1:=by show (t.place[i]?).getD 0+1=_;rw [Array.getElem?_eq_getElem hi2];rfl
   rw [es']at c ⊢
   rcases Nat.lt_trichotomy (SetTable.below t.place (t.place[i]+1)) (i+1) with e | e | e
   ·have:=c.hi i hi2 ‹1›
    omega
   ·exact e
   ·have h1:=c.le
    have h2:=c.lo (i+1) ‹1› e
    have h3:=T.ris i (i+1) hi2 ‹1› ‹1›
    omega
 have nx:∀(i:Nat) (s:Shared) (A:Around) (E:Value->Shared->Prop) (Q:Option (Value × Nat)->Shared->Prop),i<=es.size->ip s.heap a es ep t->Q (match es[i]?,t.place[i]? with | some (_,x),some j=>some (x,j+1) | _,_=>none) s->wpAny (model prog w) A (setNext a (fg t i) i ep) Q E s:=λi s A E Q hi hS hq=>by
  obtain⟨o,ho,hd,hf⟩:=hS
  unfold setNext
  refine zB0 (wpAny_setState_of ho hd hf ?_)
  dsimp only
  refine zB0 (fW ?_)
  rw [hb]
  simp only [Bool.not_true,Bool.false_eq_true,if_false]
  k_delta "drawn"
  rw [hdr]
  simp only [Bool.false_eq_true,if_false]
  k_delta "mustBeLedForItsPlaces"
  rw [hl]
  simp only [Bool.not_true,Bool.false_and,Bool.false_eq_true,if_false]
  refine zB0 (zP0 ?_)
  rw [bel i hi]
  exact zP0 hq
 refine⟨es.toList.map λe:Int × Value=>e.2,List.Perm.refl _,λA hh=>⟨λb hb=>by simp at hb;simp [hb],λi h h' st k=>⟨st.1.at_ λo e=>k it (by simp) o e,st.2.at_ λo e=>k a (by simp) o e⟩,λi s Q E hi st hQ=>?_,λs Q E st hQ=>?_,λi s Q E st hQ=>uk st.1 hQ⟩⟩
 ·have hp:i < t.place.size:=by rw [T.sz];exact hi
  refine zh (slot:=fg t i) (nxt:=fg t (i+1)) (x:=(es[i]).2) st.1 st.2 rfl (λA E Q hq=>nx i s A E Q ‹1› st.2 ?_) λh' i' sb=>?_
  ·rw [Array.getElem?_eq_getElem hi,Array.getElem?_eq_getElem hp]
   have:fg t (i+1)=t.place[i]+1:=by show (t.place[i]?).getD 0+1=_;rw [Array.getElem?_eq_getElem hp];rfl
   rw [this]at hq
   exact hq
  ·refine hQ _ h' s.toks ?_ ⟨i',st.2.at_ λo e=>(sb.2 a hne).trans e⟩ λb o hb e=>(sb.2 b (λq=>hb (by simp [q]))).trans e
   rw [List.getElem?_map,Array.getElem?_toList,Array.getElem?_eq_getElem hi]
   rfl
 ·refine BW (slot:=fg t es.size) hh st.1 st.2 rfl (λA E Q hq=>nx es.size s A E Q (Nat.le_refl _) st.2 ?_) λh' eb=>hQ h' s.toks λb o hb e=>eb b o (λq=>hb (by simp [q])) e
  rw [Array.getElem?_eq_none (Nat.le_refl _)]
  exact hq
theorem BL {led:Bool}{zs:List KZ}{Q:Value->Shared->Prop} (hh:A.handled=none) (S:dO prog w a (ee w) zs s.heap)
  (hQ:∀(it:Addr) (h':Heap) (d:_) (fp:List Addr) (St:Nat->Heap->Prop) (vs:List Value),(∀b o,s.heap.get? b=some o->h'.get? b=some o)->(∀B:Around,B.handled=none->Walks prog w B it fp [it] vs.length (λi v=>vs[i]?=some v) St)->St 0 h'->(∀b∈fp,s.heap.get? b=none\/b=a)->s.heap.objs.size<=it->vs.Perm (zs.map λz=>Value.ref z.2)->Q (.ref it) { s with heap:=h',drawn:=d }) :
  wpAny (model prog w) A (pyIter (.ref a)) Q E s:=by
 obtain⟨o,es,ep,t,ho,hx,hd,D⟩:=S
 have hT:s.TypeIs (.ref a) "set":=⟨o,ho,hx.1⟩
 have hlt:=Heap.lt_size ho
 have pv:(es.toList.map (·.2)).Perm (zs.map λz=>Value.ref z.2):=by
  have:=D.pm.map (·.2)
  rw [List.map_map]at this
  exact this
 have vl:∀vs,wR es vs->vs.length=es.size:=λvs h=>by rw [List.Perm.length_eq h,List.length_map,Array.length_toList]
 refine wpAny_pyIter_slot hT F.slot_set_iter (wpAny_call_entry F.slot_set_iter hT entry_set_iter ?_ (F.args_set_iter_1 _))
 unfold Builtin.«frozenset.__iter__»
 refine zB0 (m:=Builtin.Frozenset.slot0 "__iter__" _) (zB0 (zP0 (zP0 ?_)))
 refine zB0 (zB0 (wpAny_setEntries_of ho hd D.fits (zP0 ?_)))
 refine zB0 ?_
 unfold setDrawn
 refine zB0 (wpAny_setState_of ho hd D.fits ?_)
 dsimp only
 refine zB0 (fW (zP0 ?_))
 k_delta "drawn"
 cases hw:ee w with
 | false=>
  simp only [Bool.not_false,Bool.not_true,Bool.false_and,Bool.false_eq_true,if_false]
  refine zB0 (zP0 ?_)
  refine zB0 (wpAny_setEpoch_of ho hd D.fits ?_)
  refine zB0 (wpAny_newObj_type (zP0 ⟨_,rfl,"set_iterator", _,⟨_,Heap.get?_push_size _ rfl,rfl⟩,b8.lookup,?_⟩))
  obtain⟨vs,hv,W⟩:=Be (prog:=prog) (es:=es) (ep:=ep) (t:=t) hw (Nat.ne_of_lt hlt)
  refine hQ s.heap.objs.size _ s.drawn [s.heap.objs.size,a] (λi h=>fb h s.heap.objs.size a (.int 0 0) i es.size ep/\ip h a es ep t) vs (λb o e=>zH0 _ e) (λB hB=>by rw [vl vs hv];exact W B hB) ⟨⟨_,Heap.get?_push_size _ rfl,rfl,rfl⟩,o,zH0 _ ho,hd,D.fits⟩ (λb hb=>?_) (Nat.le_refl _) (List.Perm.trans hv pv)
  rcases List.mem_cons.mp hb with rfl | hb
  ·exact .inl (Heap.get?_none_of_le (Nat.le_refl _))
  ·exact .inr (List.mem_singleton.mp hb)
 | true=>
  simp only [Bool.not_true,Bool.not_false,Bool.true_and]
  show wpAny _ _ (if (!t.plain && decide (es.size > 1))=true then _ else _) _ _ _
  cases hdr:(!t.plain && decide (es.size > 1)) with
  | false=>
   simp only [Bool.false_eq_true,if_false]
   refine zB0 (zP0 ?_)
   refine zB0 (wpAny_setEpoch_of ho hd D.fits ?_)
   refine zB0 (wpAny_newObj_type (zP0 ⟨_,rfl,"set_iterator", _,⟨_,Heap.get?_push_size _ rfl,rfl⟩,b8.lookup,?_⟩))
   obtain⟨vs,hv,W⟩:=Bf (prog:=prog) (es:=es) (ep:=ep) (t:=t) hw (D.ld.trans hw) hdr D.tb.tb (Nat.ne_of_lt hlt)
   refine hQ s.heap.objs.size _ s.drawn [s.heap.objs.size,a] (λi h=>fb h s.heap.objs.size a (.int (fg t i) 0) i es.size ep/\ip h a es ep t) vs (λb o e=>zH0 _ e) (λB hB=>by rw [vl vs hv];exact W B hB) ⟨⟨_,Heap.get?_push_size _ rfl,rfl,rfl⟩,o,zH0 _ ho,hd,D.fits⟩ (λb hb=>?_) (Nat.le_refl _) (List.Perm.trans hv pv)
   rcases List.mem_cons.mp hb with rfl | hb
   ·exact .inl (Heap.get?_none_of_le (Nat.le_refl _))
   ·exact .inr (List.mem_singleton.mp hb)
  | true=>
   simp only [if_true]
   refine zB0 (zt es.size (List.range es.size) s List.length_range λis d hp=>?_)
   have z2:=D.sz.le
   refine zB0 (wpAny_newTuple ?_ (by rw [List.length_map,hp.length_eq,List.length_range,sizeLine_eq];omega))
   refine zB0 (wpAny_setEpoch_of (o:=o) (zH0 _ ho) hd D.fits ?_)
   refine zB0 (wpAny_newObj_type (zP0 ⟨_,rfl,"set_iterator", _,⟨_,Heap.get?_push_size _ rfl,rfl⟩,b8.lookup,?_⟩))
   have zp:(s.heap.push { cls:=.type "tuple", data:=.seq ((is.map λ(i:Nat)=>rawInt i).toArray) }).objs.size=s.heap.objs.size+1:=Heap.size_push _ _
   obtain⟨vs,hv,W⟩:=Bg (prog:=prog) (w:=w) (es:=es) (ep:=ep) (t:=t) (it:=s.heap.objs.size+1) (tp:=s.heap.objs.size) (Nat.ne_of_lt (Nat.lt_succ_of_lt hlt)) (Nat.ne_of_lt (Nat.lt_succ_self _)) hp
   show Q (.ref (s.heap.push { cls:=.type "tuple", data:=.seq ((is.map λ(i:Nat)=>rawInt i).toArray) }).objs.size) _
   rw [zp]
   refine hQ (s.heap.objs.size+1) _ d [s.heap.objs.size+1,a,s.heap.objs.size] (λi h=>fb h (s.heap.objs.size+1) a (.ref s.heap.objs.size) i es.size ep/\ip h a es ep t/\∃o c,h.get? s.heap.objs.size=some o/\o.data=.seq ((is.map λ(i:Nat)=>rawInt i).toArray) c) vs (λb o e=>zH0 _ (zH0 _ e)) (λB hB=>by rw [vl vs hv];exact W B hB) ⟨⟨_,by rw [<- zp];exact Heap.get?_push_size _ rfl,rfl,rfl⟩,⟨o,zH0 _ (zH0 _ ho),hd,D.fits⟩,_,_,zH0 _ (Heap.get?_push_size _ rfl),rfl⟩ (λb hb=>?_) (Nat.le_succ _) (List.Perm.trans hv pv)
   rcases List.mem_cons.mp hb with rfl | hb
   ·exact .inl (Heap.get?_none_of_le (Nat.le_succ _))
   ·rcases List.mem_cons.mp hb with rfl | hb
    ·exact .inr rfl
    ·rw [List.mem_singleton.mp hb];exact .inl (Heap.get?_none_of_le (Nat.le_refl _))
end
end L2
namespace L2
open PySem PySem.Spec PyProof.Rows PySem.W
section
variable {prog:Program}{w:World}{A:Around}{E:Value->Shared->Prop}{s:Shared}{a:Addr}{zs:List KZ}
theorem BQ {r:Addr}{Q:Bool->Shared->Prop} (hT:s.TypeIs (.ref r) "set") (h:Q false s):wpAny (model prog w) A (Builtin.List.listLengthHint (.ref r)) Q E s:=by
 unfold Builtin.List.listLengthHint
 refine zB0 (wpAny_specialOf hT PySem.F.slot_set_len.lookup ?_)
 generalize hid:("set.__len__" : String)=id0
 wp_delta
 rw [show splitId id0=some ("set", "__len__") from by subst hid;decide +kernel]
 subst hid
 refine zB0 (wpAny_isInstance (T:="set") (b:=true) hT (by rw [isSubtype_type];kernel_rfl) ?_)
 refine wpAny_ite_split (λhab=>absurd hab (by decide)) (λ_=>?_)
 refine wpAny_ite_split (λ_=>?_) (λhab=>absurd ‹0› hab)
 refine zB0 (wpAny_typeOf hT ?_)
 exact zP0 h
theorem vY {vs:List Value}{acc:Array Value} (h:ItemsOf (λi v=>vs[i]?=some v) acc vs.length):acc.toList=vs:=by
 refine List.ext_getElem? λi=>?_
 rw [Array.getElem?_toList]
 cases e:acc[i]? with
 | some v=>exact(h.2 i v e).symm
 | none=>
  have:=Array.getElem?_eq_none_iff.mp e
  rw [h.1]at this
  exact(List.getElem?_eq_none this).symm
theorem wH {R:List Value->Shared->Prop} (hh:A.handled=none) (S:dO prog w a (ee w) zs s.heap) (hn:zs.length<=sizeLine)
  (h:∀(h':Heap) (tk:Nat) (d:_) (vs:List Value),(∀b o,s.heap.get? b=some o->h'.get? b=some o)->vs.Perm (zs.map λz=>Value.ref z.2)->R vs { s with heap:=h',toks:=tk,drawn:=d }) :
  wpAny (model prog w) A (collect (.ref a)) R E s:=by
 have hlt:a < s.heap.objs.size:=by
  obtain⟨o,_,_,_,ho,_⟩:=S
  exact Heap.lt_size ho
 unfold collect
 refine zB0 (wpAny_runValue (codeAny_builtin entry_proto_collect' ?_))
 rw [Around.under_plainId PySem.F.plain_proto_collect _]
 show wpAny _ A.in1 (newList [] >>= λl=>again (.builtin "list.__iadd__" ⟨[l,.ref a],[]⟩)) _ _ s
 refine zB0 (wpAny_newObj_type ?_)
 refine zP0 ⟨plainId_quiet PySem.F.plain_list_iadd _,codeAny_builtin entry_list_iadd' ?_⟩
 rw [Around.under_plainId PySem.F.plain_list_iadd _]
 have hS₁:(s.heap.push { cls:=.type "list", data:=.seq ([]:List Value).toArray }).get? s.heap.objs.size=some { cls:=.type "list", data:=.seq #[] }:=Heap.get?_push_size _ rfl
 show wpAny _ A.in1 (Builtin.List.listExtendWith (.ref s.heap.objs.size) (.ref a) (.ref s.heap.objs.size)) _ _ _
 have S1:dO prog w a (ee w) zs (s.heap.push { cls:=.type "list", data:=.seq ([]:List Value).toArray }):=S.at_ λo e=>zH0 _ e
 have hT:Shared.TypeIs { s with heap:=s.heap.push { cls:=.type "list", data:=.seq ([]:List Value).toArray } } (.ref a) "set":=by
  obtain⟨o,_,_,_,ho,hx,_⟩:=S1
  exact⟨o,ho,hx.1⟩
 unfold Builtin.List.listExtendWith
 refine zB0 (wpAny_typeOf (T:="set") hT ?_)
 have h1:Builtin.List.listSameRef (.ref s.heap.objs.size) (.ref a)=false:=by
  have:s.heap.objs.size≠a:=Nat.ne_of_gt hlt
  simp [Builtin.List.listSameRef,this]
 have h2:(Value.type "set" == Value.type "list")=false:=by decide
 have h3:(Value.type "set" == Value.type "tuple")=false:=by decide
 simp only [h1,h2,h3,Bool.or_false,Bool.false_eq_true,if_false]
 refine zB0 (BL (led:=true) (by simpa using hh) S1 λit h' d fp St vs kp W st ff le pv=>?_)
 have hT':Shared.TypeIs { s with heap:=h',drawn:=d } (.ref a) "set":=by
  obtain⟨o,ho,hc⟩:=hT
  exact⟨o,kp _ _ ho,hc⟩
 refine zB0 (wpAny_holding (BQ hT' ?_))
 have hl:vs.length<=sizeLine:=by rw [pv.length_eq,List.length_map];exact hn
 have zp:(s.heap.push { cls:=.type "list", data:=.seq ([]:List Value).toArray }).objs.size=s.heap.objs.size+1:=Heap.size_push _ _
 have hSf:s.heap.objs.size∉fp:=λz=>by
  rcases ff _ z with e | e
  ·rw [hS₁]at e;cases e
  ·exact absurd e (Nat.ne_of_gt hlt)
 have hSi:s.heap.objs.size≠it:=by
  rw [zp]at le
  exact Nat.ne_of_lt le
 have key:∀(h2:Heap) (c₁ tk:Nat),St 0 h2->(∀b o,b≠s.heap.objs.size->h'.get? b=some o->h2.get? b=some o)->
   h2.get? s.heap.objs.size=some { cls:=.type "list", data:=.seq #[] c₁ }->codeAny (model prog w) A (.builtin "list.extend.loop" ⟨[.ref s.heap.objs.size,.ref it,.ref s.heap.objs.size],[]⟩) (λ(q:Result) (s':Shared)=>∃(h':Heap) (tk:Nat) (d:_) (acc':Array Value) (c':Nat),q=.ok (.ret (.ref s.heap.objs.size))/\s'={ s with heap:=h',toks:=tk,drawn:=d }/\
   (∀b o,s.heap.get? b=some o->h'.get? b=some o)/\h'.get? s.heap.objs.size=some { cls:=.type "list", dict:=none,data:=.seq acc' c',slots:=#[] }/\acc'.toList=vs) { s with heap:=h2,toks:=tk,drawn:=d }:=by
  intro h2 c₁ tk hst hk hS2
  refine codeAny_extend_loopS (W A.in1 (by simpa using hh)).toS hl s.heap.objs.size hSf _ vs.length 0 _ #[] c₁ rfl (Nat.zero_le _) hst hS2 (ItemsOf.nil _) λs' acc' c' hm hS' hacc=>?_
  rw [Moved.eq_with hm]
  refine⟨s'.heap,s'.toks,d,acc',c',rfl,rfl,λb o e=>hm.heap b o (λhmem=>?_) (hk b o (Nat.ne_of_lt (Heap.lt_size e)) (kp b o (zH0 _ e))),hS',vY hacc⟩
  rcases List.mem_cons.mp hmem with e' | hmem
  ·exact absurd e' (Nat.ne_of_lt (Heap.lt_size e))
  ·have:=Heap.lt_size e
   rw [List.mem_singleton.mp hmem]at this
   rw [zp]at le
   exact absurd this (Nat.not_lt.mpr (Nat.le_of_succ_le le))
 refine wpAny_ite_split (λ_=>?_) (λhab=>absurd ‹0› hab)
 refine zB0 (wpAny_rule ?_)
 refine zB0 ?_
 show wpAny _ _ (updateSeq s.heap.objs.size (·.push .none) >>= λ_=>updateSeq s.heap.objs.size (·.pop)) _ _ _
 have hS2:=kp _ _ hS₁
 refine zB0 (wpAny_updateSeq hS2 rfl ?_)
 have hS₂:=Heap.get?_update_self (Obj.mapSeq (·.push Value.none)) hS2 rfl
 refine wpAny_updateSeq (hz:=by seq_fits) hS₂ rfl ?_
 have hS₃:=Heap.get?_update_self (Obj.mapSeq (·.pop)) hS₂ rfl
 refine zP0 ⟨plainId_quiet PySem.F.plain_extend_loop _,codeAny_mono (key _ _ _ ?_ (λb o hb e=>?_) hS₃) λq s₂ y=>?_⟩
 ·refine(W A hh).frame 0 _ _ st λb hb o e=>?_
  have hbS:b≠s.heap.objs.size:=λz=>hSf (z ▸ hb)
  exact(Heap.get?_update_other _ _ (Ne.symm hbS)).trans ((Heap.get?_update_other _ _ (Ne.symm hbS)).trans e)
 ·exact(Heap.get?_update_other _ _ (Ne.symm hb)).trans ((Heap.get?_update_other _ _ (Ne.symm hb)).trans e)
 ·obtain⟨h',tk,d,acc',c',rfl,rfl,hk,hS',hacc⟩:=y
  show wpAny _ A (load s.heap.objs.size >>= _) _ _ _
  refine zB0 (wpAny_load hS' ?_)
  refine zP0 ?_
  rw [hacc]
  exact h h' tk d vs hk pv
end
end L2
namespace L2
open PySem PySem.Spec PyProof.Rows PySem.W
noncomputable def ltK (x y:Str × Int):Bool:=if x.1=y.1 then decide (x.2 < y.2) else decide (x.1.cps.toList < y.1.cps.toList)
theorem wz {x y:Str} (h:x.cps.toList=y.cps.toList):x=y:=by
 cases x;cases y
 simp only [Str.mk.injEq]
 exact Array.toList_inj.mp h
theorem rj (x:Str × Int):ltK x x=false:=by unfold ltK;rw [if_pos rfl];exact decide_eq_false (Int.lt_irrefl _)
theorem lz {x y z:Str × Int} (h1:ltK x y=true) (h2:ltK y z=true):ltK x z=true:=by
 unfold ltK at *
 by_cases a:x.1=y.1
 ·rw [if_pos a]at h1
  by_cases b:y.1=z.1
  ·rw [if_pos b]at h2
   rw [if_pos (a.trans b)]
   simp only [decide_eq_true_eq]at *
   omega
  ·rw [if_neg b]at h2
   rw [if_neg (by rw [a];exact b),a]
   exact h2
 ·rw [if_neg a]at h1
  by_cases b:y.1=z.1
  ·rw [if_neg (by rw [<- b];exact a),<- b]
   exact h1
  ·rw [if_neg b]at h2
   simp only [decide_eq_true_eq]at *
   have h3:=List.lt_trans h1 h2
   rw [if_neg (λe=>by rw [e]at h3;exact List.lt_irrefl _ h3)]
   exact decide_eq_true h3
theorem lA {x y:Str × Int} (h1:ltK x y=false) (h2:ltK y x=false):x=y:=by
 unfold ltK at *
 by_cases a:x.1=y.1
 ·rw [if_pos a]at h1
  rw [if_pos a.symm]at h2
  simp only [decide_eq_false_iff_not]at *
  exact Prod.ext a ‹1›
 ·rw [if_neg a]at h1
  rw [if_neg (λe=>a e.symm)]at h2
  simp only [decide_eq_false_iff_not]at *
  exact absurd (wz (List.le_antisymm (List.not_lt.mp h2) (List.not_lt.mp h1))) a
noncomputable def lh (L:List (Str × Int)) (x:Str × Int):Int:=(L.countP λy=>ltK y x:Nat)
theorem iI {α:Type}{p q:α->Bool}:∀{L:List α}{a:α},(∀x∈L,p x=true->q x=true)->a∈L->p a=false->q a=true->L.countP p < L.countP q
 | b::L,a,h,ha,hp,hq=>by
  rw [List.countP_cons,List.countP_cons]
  have le:L.countP p<=L.countP q:=List.countP_mono_left λx hx=>h x (List.mem_cons_of_mem _ hx)
  rcases List.mem_cons.mp ha with e | ha
  ·rw [<- e,hp,hq,if_neg (by decide),if_pos rfl]
   omega
  ·have ih:=iI (λx hx=>h x (List.mem_cons_of_mem _ hx)) ha hp hq
   cases hb:p b with
   | true=>rw [h b List.mem_cons_self hb,if_pos rfl];omega
   | false=>rw [if_neg (by decide)];split <;> omega
theorem nN {L:List (Str × Int)}{x y:Str × Int} (hx:x∈L) (hy:y∈L):decide (lh L x < lh L y)=ltK x y:=by
 unfold lh
 cases h:ltK x y with
 | true=>
  have:=iI (L:=L) (p:=λz=>ltK z x) (q:=λz=>ltK z y) (a:=x) (λz _ hz=>lz hz h) hx (rj x) h
  exact decide_eq_true ‹1›
 | false=>
  refine decide_eq_false λhlt=>?_
  by_cases e:y=x
  ·rw [e]at hlt;omega
  ·have h2:ltK y x=true:=by
    cases q:ltK y x with
    | true=>rfl
    | false=>exact absurd (lA q h) e
   have:=iI (L:=L) (p:=λz=>ltK z y) (q:=λz=>ltK z x) (a:=y) (λz _ hz=>lz hz h2) hy (rj y) h2
   omega
def ck (h:Heap) (v:Value) (x:Str × Int):Prop:=∃b o c t u,v=.ref b/\h.get? b=some o/\o.cls=.type "tuple"/\o.data=.seq #[.str x.1 t,.int x.2 u] c
theorem ck.inj {h:Heap}{v:Value}{x y:Str × Int} (a:ck h v x) (b:ck h v y):x=y:=by
 obtain⟨b1,o1,c1,t1,u1,rfl,e1,_,d1⟩:=a
 obtain⟨b2,o2,c2,t2,u2,e,e2,_,d2⟩:=b
 cases e
 rw [e1]at e2
 cases e2
 rw [d1]at d2
 injection d2 with d2 _
 have:=congrArg Array.toList d2
 simp only [List.cons.injEq,Value.str.injEq,Value.int.injEq,and_true]at this
 exact Prod.ext this.1.1 this.2.1
theorem ck.at_ {h h':Heap}{v:Value}{x:Str × Int} (a:ck h v x) (k:∀b o,v=.ref b->h.get? b=some o->o.cls=.type "tuple"->h'.get? b=some o):ck h' v x:=by
 obtain⟨b1,o1,c1,t1,u1,e,e1,q,d1⟩:=a
 exact⟨b1,o1,c1,t1,u1,e,k b1 o1 e e1 q,q,d1⟩
open Classical in
noncomputable def kH (h:Heap) (v:Value):Str × Int:=if e:∃x,ck h v x then Classical.choose e else (⟨#[]⟩,0)
theorem eR {h:Heap}{v:Value}{x:Str × Int} (a:ck h v x):kH h v=x:=by
 unfold kH
 rw [dif_pos ⟨x,a⟩]
 exact(Classical.choose_spec (⟨x,a⟩:∃x,ck h v x)).inj a
section
variable {prog:Program}{w:World}{A:Around}{E:Value->Shared->Prop}{s:Shared}
theorem AC {u v:Value}{x y:Str × Int}{R:Bool->Shared->Prop} (hu:ck s.heap u x) (hv:ck s.heap v y) (h:R (ltK x y) s):wpAny (model prog w) A (keyLt' (tuples' true) u v) R E s:=by
 obtain⟨b1,o1,c1,t1,u1,rfl,e1,_,d1⟩:=hu
 obtain⟨b2,o2,c2,t2,u2,rfl,e2,_,d2⟩:=hv
 refine kat_lt e1 d1 e2 d2 ?_
 show KatLex prog w A true false R [(.str x.1 t1,.str y.1 t2),(.int x.2 u1,.int y.2 u2)] 0 s
 refine kat_cons ((aG prog w).eqBool (a:=.inr x.1) (b:=.inr y.1) (by simp [aG,gc,Value.isStrOf,Value.isInt]) (by simp [aG,gc,Value.isStrOf,Value.isInt]) ?_)
 unfold ltK at h
 by_cases q:x.1=y.1
 ·rw [show decide ((Sum.inr x.1:Key)=Sum.inr y.1)=true from decide_eq_true (by rw [q])]
  rw [if_pos q]at h
  refine kat_yes ?_
  refine kat_cons ((aG prog w).eqBool (a:=.inl x.2) (b:=.inl y.2) (by simp [aG,gc,Value.isStrOf,Value.isInt]) (by simp [aG,gc,Value.isStrOf,Value.isInt]) ?_)
  by_cases q2:x.2=y.2
  ·rw [show decide ((Sum.inl x.2:Key)=Sum.inl y.2)=true from decide_eq_true (by rw [q2])]
   refine kat_yes (kat_nil ?_)
   rw [q2,decide_eq_false (Int.lt_irrefl _)]at h
   exact h
  ·rw [show decide ((Sum.inl x.2:Key)=Sum.inl y.2)=false from decide_eq_false (λz=>q2 (Sum.inl.inj z))]
   refine kat_no ?_
   refine kat_one _ _ ?_
   exact PyProof.Rows.lt_int h
 ·rw [show decide ((Sum.inr x.1:Key)=Sum.inr y.1)=false from decide_eq_false (λz=>q (Sum.inr.inj z))]
  rw [if_neg q]at h
  refine kat_no ?_
  exact oneLt_str h
noncomputable def Bh (prog:Program) (w:World) (A:Around) (s:Shared) (L:List (Str × Int)):RkOk prog w A s where
 rk:=λv=>lh L (kH s.heap v)
 kd:=tuples' true
 ok:=λv=>∃x∈L,ck s.heap v x
 lt:=by
  rintro u v E R ⟨x,hx,tx⟩ ⟨y,hy,ty⟩ h
  rw [eR tx,eR ty,nN hx hy]at h
  exact AC tx ty h
theorem sS {vs:List Value}{Q:SortKind->Shared->Prop} (hv:∀v∈vs,∃x,ck s.heap v x) (hn:0 < vs.length) (h:Q (tuples' true) s):wpAny (model prog w) A (keyKind' vs.toArray) Q E s:=by
 have key:∀vs:List Value,(∀v∈vs,∃x,ck s.heap v x)->∃fs,KatTups s.heap vs fs/\fs.length=vs.length/\∀f∈fs,∃x t,f=Value.str x t:=λvs=>by
  induction vs with
  | nil=>intro _;exact⟨[],trivial,rfl,λf hf=>by cases hf⟩
  | cons v vs ih=>
   intro hv
   obtain⟨fs,k1,k2,k3⟩:=ih λu hu=>hv u (List.mem_cons_of_mem _ hu)
   obtain⟨x,b,o,c,t,u,rfl,e,q,d⟩:=hv v List.mem_cons_self
   exact⟨.str x.1 t::fs,KatTups.cons e q d rfl k1,by simp [k2],λf hf=>by
    rcases List.mem_cons.mp hf with rfl | hf
    ·exact⟨_,_,rfl⟩
    ·exact k3 f hf⟩
 obtain⟨fs,k1,k2,k3⟩:=key vs hv
 refine kat_kind (T:=.type "str") k1 ‹1› (λv hv=>?_) (by decide) ?_
 ·obtain⟨x,t,rfl⟩:=k3 v hv
  exact .now
 ·exact h
theorem sq {a:Addr}{vs:List Value}{n:Nat}{P:PySem.Fin->Shared->Prop} (ho:s.heap.get? a=some (seqObj "list" vs.toArray n)) (hv:∀v∈vs,∃x,ck s.heap v x) (hz:vs.length<=sizeLine)
  (h:∀out:List Value,out.Perm vs->out.Pairwise (λu v=>∀x y,ck s.heap u x->ck s.heap v y->ltK y x=false)->P (.done (.ret .none)) { s with heap:=sortedHeap s.heap a vs out.toArray }) :
  wpAny (model prog w) A (Builtin.«list.sort» ⟨[.ref a],[]⟩) P E s:=by
 rw [list_sort_plain]
 have ha:a < s.heap.objs.size:=Heap.lt_size ho
 have sz:vs.toArray.size=vs.length:=by simp
 refine zB0 (listItems_at ho rfl ?_)
 refine zB0 (listUpdate_at ho rfl ?_ (by rw [sz];exact hz) (Nat.zero_le _))
 obtain⟨e1,ho1⟩:∃e1,(s.heap.update a (Obj.mapSeq λ_=>#[])).get? a=some (seqObj "list" #[] e1):=⟨_,get?_update_seq ho (λ_=>#[])⟩
 refine zB0 (seqEpoch_at ho1 rfl ?_)
 refine zB0 (wpAny_newTuple ?_ (by simpa using hz))
 refine zB0 (wpAny_newList ?_ (Nat.zero_le _))
 refine wpAny_holding ?_
 have ho6:(((s.heap.update a (Obj.mapSeq λ_=>#[])).push (seqObj "tuple" vs.toArray 0)).push (seqObj "list" #[] 0)).get? a=some (seqObj "list" #[] e1):=by
  rw [Heap.get?_push_ne _ _ _ (by rw [size_push',Heap.size_update];exact Nat.ne_of_lt (Nat.lt_succ_of_lt ha)),Heap.get?_push_ne _ _ _ (by rw [Heap.size_update];exact Nat.ne_of_lt ha)]
  exact ho1
 show wpAny (model prog w) A _ P E { s with heap:=((s.heap.update a (Obj.mapSeq λ_=>#[])).push (seqObj "tuple" vs.toArray 0)).push (seqObj "list" #[] 0) }
 dsimp only
 have kp:∀v x,ck s.heap v x->ck (((s.heap.update a (Obj.mapSeq λ_=>#[])).push (seqObj "tuple" vs.toArray 0)).push (seqObj "list" #[] 0)) v x:=λv x t=>t.at_ λb o _ e c=>by
  refine zH0 _ (zH0 _ ?_)
  rw [Heap.get?_update_ne _ _ _ _ (λz=>by rw [z,ho]at e;cases e;exact absurd c (by simp [seqObj]))]
  exact e
 have mapz:∀st':SortSt,(arrOf st').Perm (pairsOf vs)->(((arrOf st').map (·.2)).toList).Perm vs/\∀p∈(arrOf st').toList,p.1=p.2/\p.1∈vs:=λst' hp=>by
  have hl:(arrOf st').toList.Perm (vs.zip vs):=by rw [<- pairsOf_toList];exact Array.perm_iff_toList_perm.mp hp
  refine⟨?_,λp hp'=>mem_zip_self (hl.mem_iff.mp hp')⟩
  rw [Array.toList_map]
  refine(hl.map _).trans ?_
  rw [List.map_snd_zip (Nat.le_refl _)]
 have fin:∀st':SortSt,(arrOf st').Perm (pairsOf vs)->(((arrOf st').map (·.2)).toList).Pairwise (λu v=>∀x y,ck s.heap u x->ck s.heap v y->ltK y x=false)->P (.done (.ret .none)) { s with heap:=sortedHeap s.heap a vs ((arrOf st').map (·.2)) }:=λst' hp hs=>by
  have:=h _ (mapz st' hp).1 hs
  rw [Array.toArray_toList]at this
  exact this
 by_cases h2:vs.toArray.size < 2
 ·rw [if_pos h2,if_pos h2]
  refine zB0 (zP0 ?_)
  rw [StateT.run_pure]
  refine zB0 (zP0 ?_)
  dsimp only
  refine zB0 (seqEpoch_at ho6 rfl ?_)
  refine zB0 (listUpdate_at ho6 rfl ?_ (Nat.zero_le _) (hsz2:=by rw [Array.size_map];show (pairsOf vs).size<=_;rw [pairsOf_size];exact Nat.le_succ_of_le hz))
  simp only [bne_self_eq_false,Bool.false_eq_true,if_false]
  refine zP0 (fin (SortSt.mk' general' (vs.toArray.zip vs.toArray) #[] 7 none) (Array.Perm.refl _) ?_)
  rw [sz]at h2
  have e:((arrOf (SortSt.mk' general' (vs.toArray.zip vs.toArray) #[] 7 none)).map (·.2)).toList.length < 2:=by
   rw [(mapz _ (Array.Perm.refl _)).1.length_eq];exact h2
  revert e
  generalize ((arrOf (SortSt.mk' general' (vs.toArray.zip vs.toArray) #[] 7 none)).map (·.2)).toList=l
  intro e
  match l,e with
  | [],_=>exact .nil
  | [x],_=>exact List.pairwise_singleton _ _
 ·rw [if_neg h2,if_neg h2]
  rw [sz]at h2
  refine zB0 (sS (λv q=>?_) ‹1› ?_)
  ·obtain⟨x,t⟩:=hv v q
   exact⟨x,kp v x t⟩
  let s6:Shared:={ s with heap:=((s.heap.update a (Obj.mapSeq λ_=>#[])).push (seqObj "tuple" vs.toArray 0)).push (seqObj "list" #[] 0) }
  letI:=Bh prog w A s6 (vs.map (kH s.heap))
  have srt:=tD (prog:=prog) (w:=w) (A:=A) (E:=E) (s:=s6) (a₀:=pairsOf vs) (st:=SortSt.mk' (tuples' true) (vs.toArray.zip vs.toArray) #[] 7 none)
   (Q:=λ_ v=>(arrOf v).Perm (pairsOf vs)/\failedOf v=none/\zB (arrOf v) (pairsOf vs).size) (λp hp=>?_) ⟨Array.Perm.refl _,rfl,rfl,rfl⟩ (by rw [pairsOf_size];omega) λv a1 a2 a3=>⟨a1,a2,a3⟩
  ·refine zB0 (wpAny_mono srt ?_ λ_ _ e=>e)
   rintro⟨⟨⟩,v⟩ s' ⟨rfl,pm,fl,so⟩
   dsimp only
   refine zB0 (seqEpoch_at ho6 rfl ?_)
   refine zB0 (listUpdate_at ho6 rfl ?_ (Nat.zero_le _) (hsz2:=by refine Nat.le_trans (Nat.le_of_eq ((Array.size_map ..).trans (pm.size_eq.trans (pairsOf_size _)))) ?_;exact Nat.le_succ_of_le hz))
   rw [fl]
   simp only [bne_self_eq_false,Bool.false_eq_true,if_false]
   refine zP0 (fin v pm ?_)
   obtain⟨m1,m2⟩:=mapz v pm
   rw [Array.toList_map,List.pairwise_map,List.pairwise_iff_getElem]
   intro i j hi hj hij x y tx ty
   rw [Array.length_toList]at hi hj
   have le:=so i j (Nat.le_of_lt hij) (by rw [<- pm.size_eq];exact hj)
   unfold Kr at le
   rw [getElem?_pos (arrOf v) i hi,getElem?_pos (arrOf v) j hj]at le
   have qi:=m2 (arrOf v)[i] (by simp)
   have qj:=m2 (arrOf v)[j] (by simp)
   rw [Array.getElem_toList]at tx ty
   rw [<- qi.1]at tx
   rw [<- qj.1]at ty
   have le:lh (vs.map (kH s.heap)) (kH s6.heap (arrOf v)[i].1)<=lh (vs.map (kH s.heap)) (kH s6.heap (arrOf v)[j].1):=le
   rw [eR (kp _ _ tx),eR (kp _ _ ty)]at le
   have hx:x∈vs.map (kH s.heap):=List.mem_map.mpr ⟨_,qi.2,eR tx⟩
   have hy:y∈vs.map (kH s.heap):=List.mem_map.mpr ⟨_,qj.2,eR ty⟩
   rw [<- nN hy hx]
   exact decide_eq_false ‹1›
  ·rw [pairsOf_toList]at hp
   obtain⟨x,t⟩:=hv p.1 (mem_zip_self hp).2
   exact⟨x,List.mem_map.mpr ⟨_,(mem_zip_self hp).2,eR t⟩,kp _ _ t⟩
end
end L2
namespace L2
open PySem PySem.Spec PyProof.Rows PySem.W
theorem Inv.draw {X:Cx}{pins:List (Addr × Obj)}{σ:St}{H:Hp}{s:Shared} (I:Inv X pins σ H s) (d:Drawn):Inv X pins σ H { s with drawn:=d }:=⟨I.ok,I.os,I.bare,I.base,I.loc,I.cell,I.free,I.freeC,I.pin,I.hok,I.len⟩
inductive rSetT (P:Program) (w:World) (xs:List V) (H:Hp) (Q:VK):Prop
 | mk (a zs) (h1:xs=[.ref a]) (h2:H a=some (.lst (zs.map λz:KZ=>V.ref z.2))) (h3:∀z∈zs,H z.2=some (.tup (z.1.map kV))) (h4:tz zs) (h5:∀p,H p=none->Q (.ref p) (upd H p (.ext (dO P w p (ee w) (ddZ zs zs.length))))):rSetT P w xs H Q
theorem uW:∀{zs:List KZ}{us:List Value},aU (zs.map λz=>V.ref z.2) us->us=zs.map λz=>Value.ref z.2
 | [],_,r=>by cases r;rfl
 | z::zs,_,r=>by
  cases r with
  | cons h t=>
   rw [uW t,List.map_cons]
   congr 1
theorem lK {X:Cx} (hc:X.calm=true) (hu:X.A.units+8 < cLine):cD X (.type "set") (rSetT X.prog X.w):=by
 intro pins s σ H xs us Q I r h
 obtain⟨a,zs,rfl,hl,hz,hf,q⟩:=h
 obtain⟨u,rfl,ru⟩:=da r
 cases (show u=Value.ref a from ru)
 obtain⟨its,rv,p,_⟩:=I.list (.inl (.of hl))
 refine kK (I.ok.hd hc) hu p.isList (by simpa using uW rv) (λz hz'=>jT I.hok (hz z hz')) hf λh' tk x kp=>?_
 refine⟨.ref s.heap.objs.size,_,I.laid (o:=.ext (dO X.prog X.w s.heap.objs.size (ee X.w) (ddZ zs zs.length))) (t':=tk) (h':=h') (λb u e=>kp b u (Heap.lt_size e) e) (Nat.le_refl _) (by
  obtain⟨o,_,_,_,e,_⟩:=id x
  exact⟨x,⟨o,e⟩,λh1 h2 e k=>e.at_ k⟩),rfl,q _ (I.hok.fresh (Nat.le_refl _))⟩
noncomputable abbrev RZ:=(Str × Int) × Addr
noncomputable def uV (r:RZ):List V:=[.str r.1.1,.int r.1.2]
noncomputable def dh (r:RZ):KZ:=([.inr r.1.1,.inl r.1.2],r.2)
def kA (rs:List RZ):Prop:=rs.Pairwise λa b=>ltK b.1 a.1=false
theorem Bi {X:Cx}{pins:List (Addr × Obj)}{σ:St}{H:Hp}{s:Shared}{r:RZ} (I:Inv X pins σ H s) (e:H r.2=some (.tup (uV r))):ck s.heap (.ref r.2) r.1:=by
 obtain⟨_,its,rv,o,h1,h2,n,h3⟩:=(show bB X.prog X.w H s.heap r.2 (.tup (uV r)) from I.hok r.2 _ e)
 cases rv with
 | cons q1 rv=>
  cases rv with
  | cons q2 rv=>
   cases rv
   obtain⟨t,rfl⟩:=q1
   obtain⟨u,rfl⟩:=q2
   exact⟨r.2,o,n,t,u,rfl,h1,h2,h3⟩
theorem nR {α β:Type} (f:α->β):∀{l:List α}{l':List β},l'.Perm (l.map f)->∃m:List α,m.Perm l/\m.map f=l'
 | [],l',h=>⟨[],.refl _,by rw [List.map_nil]at h;rw [List.Perm.eq_nil h];rfl⟩
 | a::l,l',h=>by
  obtain⟨u,v,rfl⟩:=List.append_of_mem (h.mem_iff.mpr List.mem_cons_self)
  have h2:(u++v).Perm (l.map f):=List.Perm.cons_inv (List.perm_middle.symm.trans h)
  obtain⟨m,m1,m2⟩:=nR f h2
  obtain⟨m3,m4,e,e1,e2⟩:=List.map_eq_append_iff.mp m2
  exact⟨m3++a::m4,List.perm_middle.trans ((show (m3++m4).Perm l by rw [<- e];exact m1).cons a),by rw [List.map_append,List.map_cons,e1,e2]⟩
section
variable {X:Cx}{pins:List (Addr × Obj)}{σ:St}{H:Hp}{s:Shared}{Q:VK}
theorem xg {E:Value->Shared->Prop}{vs:List Value}{rs:List RZ}{A:Around}{W:Value->Shared->Prop} (I:Inv X pins σ H s) (hr:∀r∈rs,H r.2=some (.tup (uV r))) (hv:vs.Perm (rs.map λr=>Value.ref r.2)) (hz:rs.length<=sizeLine)
  (q:∀rs' u s',H s.heap.objs.size=none->rs'.Perm rs->kA rs'->Inv X pins σ (upd H s.heap.objs.size (.lst (rs'.map λr=>V.ref r.2))) s'->W u s') :
  wpAny (model X.prog X.w) A (holding [.ref s.heap.objs.size] (call (.builtin "list.sort") [.ref s.heap.objs.size] [])) W E { s with heap:=s.heap.push (seqObj "list" vs.toArray 0) }:=by
 have hl:vs.length=rs.length:=by rw [hv.length_eq,List.length_map]
 have hoL:(s.heap.push (seqObj "list" vs.toArray 0)).get? s.heap.objs.size=some (seqObj "list" vs.toArray 0):=Heap.get?_push_size _ rfl
 have up:∀r∈rs,ck (s.heap.push (seqObj "list" vs.toArray 0)) (.ref r.2) r.1:=λr hr'=>(Bi I (hr r hr')).at_ λb o _ e _=>zH0 _ e
 refine wpAny_holding (wpAny_call_entry slot_list_sort ⟨_,hoL,rfl⟩ entry_list_sort (sq (s:={ s with heap:=s.heap.push (seqObj "list" vs.toArray 0) }) hoL (λv hv'=>?_) (by rw [hl];exact hz) λout o1 o2=>⟨_,rfl,?_⟩) (args_list_sort _))
 ·obtain⟨r,h1,h2⟩:=List.mem_map.mp (hv.mem_iff.mp hv')
  exact⟨r.1,by rw [<- h2];exact up r h1⟩
 ·obtain⟨rs',p1,p2⟩:=nR (λr:RZ=>Value.ref r.2) (o1.trans hv)
  have hsrt:kA rs':=by
   subst p2
   rw [List.pairwise_map]at o2
   refine o2.imp_of_mem λ{a b} ha hb z=>?_
   exact z _ _ (up a (p1.mem_iff.mp ha)) (up b (p1.mem_iff.mp hb))
  obtain⟨e0,he0⟩:=sortedHeap_at (out:=out.toArray) hoL
  have old:∀b o,s.heap.get? b=some o->(sortedHeap (s.heap.push (seqObj "list" vs.toArray 0)) s.heap.objs.size vs out.toArray).get? b=some o:=λb o e=>by
   have hlt:=Heap.lt_size e
   rw [sortedHeap_old (Nat.ne_of_lt hlt) (by rw [size_push'];exact Nat.lt_succ_of_lt hlt)]
   exact zH0 _ e
  refine q rs' _ _ (I.hok.fresh (Nat.le_refl _)) p1 hsrt (I.laid (t':=s.toks) old (Nat.le_refl _) (show bB X.prog X.w _ _ _ (.lst (rs'.map λr=>V.ref r.2)) from ⟨?_,out,e0,?_,he0⟩))
  ·rw [List.length_map,p1.length_eq];exact hz
  ·rw [<- p2]
   clear p1 p2 hsrt
   induction rs' with
   | nil=>exact .nil
   | cons r rs' ih=>exact .cons rfl ih
inductive rSortS (P:Program) (w:World) (xs:List V) (H:Hp) (Q:VK):Prop
 | mk (a) (rs:List RZ) (h1:xs=[.ref a]) (h2:H a=some (.ext (dO P w a (ee w) (rs.map dh)))) (h3:∀r∈rs,H r.2=some (.tup (uV r))) (h4:rs.length<=sizeLine) (h5:∀D rs',H D=none->rs'.Perm rs->kA rs'->Q (.ref D) (upd H D (.lst (rs'.map λr=>V.ref r.2)))):rSortS P w xs H Q
theorem il {X:Cx} (hc:X.calm=true):cD X (.builtin "sorted") (rSortS X.prog X.w):=by
 intro pins s σ H xs us Q I r h
 obtain⟨a,rs,rfl,hl,hz,z,q⟩:=h
 obtain⟨u,rfl,ru⟩:=da r
 cases (show u=Value.ref a from ru)
 have S:=(show bB X.prog X.w H s.heap a _ from I.hok a _ hl).1
 refine Calls.call_function_entry kind_sorted plain_sorted entry_sorted (args_sorted1 _) ?_
 unfold Builtin.«sorted»
 refine zB0 (m:=checkCount "sorted" 1 1 _) (zP0 ?_)
 refine zB0 (wH (by simpa using I.ok.hd hc) S (by rw [List.length_map];exact z) λh' tk d vs kp pv=>?_)
 rw [List.map_map]at pv
 refine zB0 (wpAny_newList ?_ (by rw [pv.length_eq,List.length_map];exact z))
 have I1:Inv X pins σ H { s with heap:=h',toks:=tk,drawn:=d }:=(I.kept (t':=tk) kp).draw d
 refine zB0 (xg I1 hz pv z λrs' u s' n1 p1 s1 I2=>?_)
 exact zP0 ⟨_,rfl,.ref _,_,I2,rfl,q _ rs' n1 p1 s1⟩
end
end L2
namespace L2
open PySem PySem.Spec PyProof.Rows
noncomputable def bI (c:Addr) (v:V):Heap->Prop:=λh=>∃u,aW v u/\h.IsCell c (some u)
theorem bI.st {c:Addr}{v:V}{h1 h2:Heap} (x:bI c v h1) (k:∀o,h1.get? c=some o->h2.get? c=some o):bI c v h2:=by
 obtain⟨u,r,o,e,d⟩:=x
 exact⟨u,r,o,k o e,d⟩
theorem bI.obj {c:Addr}{v:V}{h:Heap} (x:bI c v h):∃o,h.get? c=some o:=let ⟨_,_,o,e,_⟩:=x;⟨o,e⟩
noncomputable def kF (f:Addr) (name qual:Str) (params:Arguments) (body:List Stmt) (scope:Scope) (cl:List (Str × Addr)) (c:Addr):Heap->Prop:=λh=>∃doc pm ctv,h.get? f=some (PySem.W.fnMade name qual params body scope cl doc pm c ctv)
theorem kF.st {f:Addr}{name qual:Str}{params:Arguments}{body:List Stmt}{scope:Scope}{cl:List (Str × Addr)}{c:Addr}{h1 h2:Heap} (x:kF f name qual params body scope cl c h1) (k:∀o,h1.get? f=some o->h2.get? f=some o):kF f name qual params body scope cl c h2:=by
 obtain⟨d,pm,ctv,e⟩:=x
 exact⟨d,pm,ctv,k _ e⟩
noncomputable def less (cs:List Addr) (H:Hp):Hp:=λb=>if b∈cs then none else H b
noncomputable def back (cs:List Addr) (H H':Hp):Hp:=λb=>if b∈cs then H b else H' b
theorem fS {cs:List Addr}{H:Hp}{b:Addr} (h:b∈cs):less cs H b=none:=if_pos h
theorem bW {cs:List Addr}{H:Hp}{b:Addr} (h:b∉cs):less cs H b=H b:=if_neg h
theorem mY {cs:List Addr}{H H':Hp}{b:Addr} (h:b∈cs):back cs H H' b=H b:=if_pos h
theorem cy {cs:List Addr}{H H':Hp}{b:Addr} (h:b∉cs):back cs H H' b=H' b:=if_neg h
theorem dy {cs:List Addr}{H:Hp}{b:Addr} (h:H b=none):less cs H b=none:=by
 by_cases z:b∈cs
 ·exact fS z
 ·rw [bW z];exact h
theorem vT {cs:List Addr}{H:Hp}{b:Addr}{o:HO} (h:less cs H b=some o):b∉cs/\H b=some o:=by
 by_cases z:b∈cs
 ·rw [fS z]at h;cases h
 ·rw [bW z]at h;exact⟨z,h⟩
structure ClScope (N ps:List Str) (cl:List (Str × Addr)) (sc:Scope):Prop where
 kind:sc.kind=.function
 co:sc.isCoroutine=false
 gen:sc.isGenerator=false
 nd:N.Nodup
 pre:N.take (ps.length+cl.length)=ps++cl.map (·.1)
 len:ps.length+cl.length<=N.length
 par:∀x∈ps,sc.names.lookup x=some .local
 fre:∀x∈cl.map (·.1),sc.names.lookup x=some .free
 nocell:∀x∈sc.names,x.2≠.cell
 all:∀x,sc.names.lookup x=some .free->x∈cl.map (·.1)
 addr:(cl.map (·.2)).Nodup
noncomputable def clX (P:Program) (w:World) (K:PySem.W.Frag) (mg:Str->Option Value) (base:Heap) (N:List Str) (qual:Str) (scope:Scope) (f:Addr) (cd:Value) (cl:List (Str × Addr)) (A:Around) (outer:List Env) (s:Shared) (H:Hp):Cx where
 prog:=P
 w:=w
 K:=K
 mg:=mg
 base:=base
 A:=A.deeper (PySem.W.envX qual scope s.heap.objs.size f cd cl)
 N:=N
 s₀:=s
 H₀:=H
 env:=PySem.W.envX qual scope s.heap.objs.size f cd cl
 outer:=outer
 stack:=PySem.W.envX qual scope s.heap.objs.size f cd cl::outer
 ex:=[]
 calm:=true
 fn:=λ_=>false
 pn:=[]
 xe:=λ_ _=>False
theorem dE {x:Str}{c:Addr}:∀{cl:List (Str × Addr)},cl.lookup x=some c->(x,c)∈cl
 | (y,d)::cl,h=>by
  rw [List.lookup_cons]at h
  by_cases z:x=y
  ·rw [beq_iff_eq.mpr z]at h
   cases h
   rw [z];exact List.mem_cons_self
  ·rw [beq_eq_false_iff_ne.mpr z]at h
   exact List.mem_cons_of_mem _ (dE h)
theorem iQ {x:Str}:∀{cl:List (Str × Addr)},x∈cl.map (·.1)->∃c,cl.lookup x=some c
 | (y,d)::cl,h=>by
  rw [List.lookup_cons]
  by_cases z:x=y
  ·rw [beq_iff_eq.mpr z];exact⟨d,rfl⟩
  ·rw [beq_eq_false_iff_ne.mpr z]
   exact iQ ((List.mem_cons.mp h).resolve_left z)
theorem hX {x:Str}{c:Addr}:∀{cl:List (Str × Addr)}{i:Nat},(cl.map (·.1)).Nodup->cl[i]?=some (x,c)->cl.lookup x=some c
 | (y,d)::cl,0,_,h=>by
  cases h
  rw [List.lookup_cons,beq_self_eq_true]
 | (y,d)::cl,i+1,nd,h=>by
  have nd:=List.nodup_cons.mp nd
  have hm:(x,c)∈cl:=List.mem_of_getElem? (show cl[i]?=some (x,c) from h)
  rw [List.lookup_cons,beq_eq_false_iff_ne.mpr (λz:x=y=>nd.1 (show y∈cl.map (·.1) from by rw [<- z];exact List.mem_map.mpr ⟨(x,c),hm,rfl⟩))]
  exact hX nd.2 h
theorem pb {x y:Str}{c:Addr}:∀{cl:List (Str × Addr)},(cl.map (·.2)).Nodup->(x,c)∈cl->(y,c)∈cl->x=y
 | (z,d)::cl,nd,h1,h2=>by
  have nd:=List.nodup_cons.mp nd
  rcases List.mem_cons.mp h1 with e1 | k1
  ·rcases List.mem_cons.mp h2 with e2 | k2
   ·cases e1;cases e2;rfl
   ·cases e1;exact absurd (show c∈cl.map (·.2) from List.mem_map.mpr ⟨(y,c),k2,rfl⟩) nd.1
  ·rcases List.mem_cons.mp h2 with e2 | k2
   ·cases e2;exact absurd (show c∈cl.map (·.2) from List.mem_map.mpr ⟨(x,c),k1,rfl⟩) nd.1
   ·exact pb nd.2 k1 k2
theorem jJ {x:Str}{v:Value}:∀{ps:List Str}{us:List Value}{i:Nat},ps.Nodup->ps[i]?=some x->us[i]?=some v->(ps.zip us).reverse.lookup x=some v
 | p::ps,u::us,0,nd,h1,h2=>by
  cases h1;cases h2
  rw [List.zip_cons_cons,List.reverse_cons,List.lookup_append]
  have e:(ps.zip us).reverse.lookup x=none:=by
   refine List.lookup_eq_none_iff.mpr λq hq=>?_
   have hm:=List.mem_reverse.mp hq
   exact bne_iff_ne.mpr λz=>(List.nodup_cons.mp nd).1 (by rw [z];exact(List.of_mem_zip (a:=q.1) (b:=q.2) hm).1)
  rw [e]
  show List.lookup x [(x,v)]=some v
  rw [List.lookup_cons,beq_self_eq_true]
 | p::ps,u::us,i+1,nd,h1,h2=>by
  rw [List.zip_cons_cons,List.reverse_cons,List.lookup_append,jJ (i:=i) (List.nodup_cons.mp nd).2 h1 h2]
  rfl
 | [],_,_,_,h,_=>by cases h
 | _::_,[],_,_,_,h=>by cases h
section
variable {P:Program}{w:World}{K:W.Frag}{mg:Str->Option Value}{base:Heap}{A:Around}{outer:List Env}{s:Shared}{H:Hp}{cs:List Addr}
theorem wb {h:Heap} (hk:HOk P w H h) (hcs:∀c∈cs,∃φ,H c=some (.ext φ)):HOk P w (less cs H) h:=λa o e=>by
 obtain⟨na,e⟩:=vT e
 refine(hk a o e).stay (λ_ _ _ q=>q) (λb q=>?_) λb xs q=>?_
 ·rw [bW (λz=>by obtain⟨φ,e⟩:=hcs b z;rw [e]at q;cases q)];exact q
 ·rw [bW (λz=>by obtain⟨φ,e⟩:=hcs b z;rw [e]at q;cases q)];exact q
theorem AN {N ps:List Str}{cl:List (Str × Addr)}{qual:Str}{scope:Scope}{f:Addr}{cd:Value}{us:List Value}{vs cvs:List V}{h₁:Heap}{tk:Nat}
  (S:ClScope N ps cl scope) (hd:A.handled=none) (e0:Env0 P w K mg base A outer s H) (hl:vs.length=ps.length) (r:aU vs us) (hcl:Paired (λ(p:Str × Addr) v=>H p.2=some (.ext (bI p.2 v))) cl cvs)
  (hns:h₁.Ns s.heap.objs.size (λx=>(ps.zip us).reverse.lookup x)) (hk:∀b o,s.heap.get? b=some o->h₁.get? b=some o) :
  Inv (clX P w K mg base N qual scope f cd cl A outer s (less (cl.map (·.2)) H)) [] (cN N (vs++cvs)) (less (cl.map (·.2)) H) { s with heap:=h₁,toks:=tk }:=by
 have hcs:∀c∈cl.map (·.2),∃v,H c=some (.ext (bI c v)):=by
  have:∀{cl:List (Str × Addr)}{cvs:List V},Paired (λ(p:Str × Addr) v=>H p.2=some (.ext (bI p.2 v))) cl cvs->∀c∈cl.map (·.2),∃v,H c=some (.ext (bI c v)):=by
   intro cl cvs h
   induction h with
   | nil=>intro c hc;cases hc
   | cons a t ih=>
    intro c hc
    rcases List.mem_cons.mp hc with z | hc
    ·rw [z];exact⟨_,a⟩
    ·exact ih c hc
  exact this hcl
 have hcl2:=Paired.length hcl
 have cellAt:∀x c,cl.lookup x=some c->∃v,bI c v h₁:=λx c e=>by
  obtain⟨v,hv⟩:=hcs c (List.mem_map_of_mem (dE e))
  exact⟨v,bI.st (e0.hok c _ hv).1 (λo q=>hk c o q)⟩
 have noA:∀b:Addr,b∉(clX P w K mg base N qual scope f cd cl A outer s (less (cl.map (·.2)) H)).ex:=λb z=>absurd (show b∈([]:List Addr) from z) (by simp)
 have ndN:(ps++cl.map (·.1)).Nodup:=by rw [<- S.pre];exact S.nd.sublist (List.take_sublist _ _)
 refine⟨⟨e0.mod,S.kind,rfl,rfl,Nat.le_refl _,λy z c h1 h2=>pb S.addr (dE h1) (dE h2),λy hy=>?_,λy c h _=>(by cases h),λ_=>hd,Around.frames_deeper e0.frames,.inr ⟨rfl,rfl⟩,λb z=>absurd z (noA b),λb o e=>⟨(e0.bs b o e).1,dy (e0.bs b o e).2⟩,e0.bsz,λb _ _=>noA b,λb z=>absurd z (noA b),e0.funs,λb hb=>dy (e0.frf b hb)⟩,
  rfl,e0.bare,Un.kept hk,⟨_,hns,λi y v h1 h2 h3=>?_⟩,λy c h=>?_,dy (e0.hok.fresh (Nat.le_refl _)),λy c h=>fS (List.mem_map_of_mem (dE h)),λp hp=>absurd (show p∈([]:List (Addr × Obj)) from hp) (by simp),(wb e0.hok λc hc=>let ⟨v,e⟩:=hcs c hc;⟨_,e⟩).kept hk,?_⟩
 ·have hy:scope.names.lookup y=some .cell\/scope.names.lookup y=some .free:=hy
  rcases hy with hy | hy
  ·exact absurd rfl (S.nocell _ (PySem.mem_of_lookup hy))
  ·exact iQ (S.all y hy)
 ·have hi:i < (vs++cvs).length:=by
   unfold cN at h2
   by_cases hi:i < (vs++cvs).length
   ·exact hi
   ·rw [List.getElem?_append_right (by simpa using hi)]at h2
    rw [List.getElem?_replicate]at h2
    split at h2 <;> cases h2
  have ha:(vs++cvs)[i]?=some v:=by
   unfold cN at h2
   rw [List.getElem?_append_left (by simpa using hi),List.getElem?_map]at h2
   cases e:(vs++cvs)[i]? with
   | none=>rw [e]at h2;cases h2
   | some a=>rw [e]at h2;cases h2;rfl
  rw [List.length_append]at hi
  have hN:(ps++cl.map (·.1))[i]?=some y:=by
   rw [<- S.pre,List.getElem?_take_of_lt ‹1›];exact h1
  by_cases hlt:i < ps.length
  ·rw [List.getElem?_append_left hlt]at hN
   rw [List.getElem?_append_left ‹1›]at ha
   obtain⟨u,hu,rv⟩:=r.get ha
   exact⟨u,rv,.inl ⟨S.par y (List.mem_of_getElem? hN),jJ (List.nodup_append.mp ndN).1 hN hu⟩⟩
  ·rw [List.getElem?_append_right ‹1›]at hN ha
   rw [hl]at ha
   rw [List.getElem?_map]at hN
   obtain⟨⟨y',c⟩,hp,e⟩:=Option.map_eq_some_iff.mp hN
   cases (show y'=y from e)
   have getP:∀{α β:Type}{F:α->β->Prop}{xs:List α}{ys:List β}{i:Nat}{x:α}{y:β},Paired F xs ys->xs[i]?=some x->ys[i]?=some y->F x y:=by
    intro α β F xs ys i x y h
    induction h generalizing i with
    | nil=>intro h;cases h
    | cons a t ih=>
     intro h1 h2
     cases i with
     | zero=>cases h1;cases h2;exact a
     | succ i=>exact ih h1 h2
   have hv:=getP hcl hp ha
   obtain⟨u,ru,hc⟩:=bI.st (e0.hok c _ hv).1 (λo q=>hk c o q)
   exact⟨u,ru,.inr ⟨.inr (S.fre y (List.mem_map_of_mem (List.mem_of_getElem? hp))),c,hX (List.nodup_append.mp ndN).2.1 hp,hc⟩⟩
 ·obtain⟨v,u,_,hc⟩:=cellAt y c h
  exact⟨_,hc⟩
 ·unfold cN
  show _=N.length
  have:=S.len
  rw [List.length_append,List.length_map,List.length_replicate,List.length_append]
  omega
theorem yz {H':Hp}{s':Shared}{Q:VK}{v:V}{u:Value} (e0:Env0 P w K mg base A outer s H) (hcs:∀c∈cs,∃v,H c=some (.ext (bI c v))) (os:s'.os=s.os) (bare:AllBare s'.gens) (un:Un (frs outer) [] (less cs H) H' s.heap s'.heap) (hok:HOk P w H' s'.heap) (rv:aW v u) (q:Q v (back cs H H')):CE outer P w H s Q u s':=by
 have inC:∀c∈cs,∃o,s.heap.get? c=some o:=λc hc=>by
  obtain⟨v,e⟩:=hcs c hc
  exact(e0.hok c _ e).2.1
 have kC:∀c∈cs,∀o,s.heap.get? c=some o->s'.heap.get? c=some o:=λc hc o e=>un.keep c o e (fS hc) (λz=>by obtain⟨v,e⟩:=hcs c hc;rw [e0.frf c z]at e;cases e) (by simp)
 have nC:∀c∈cs,H' c=none:=λc hc=>by
  obtain⟨o,e⟩:=inC c hc
  exact un.free c o e (fS hc) (by simp)
 refine⟨v,back cs H H',os,bare,⟨λb o e n hb hx=>un.keep b o e (dy n) hb hx,λb o e n hb hx=>un.slot b o e (dy n) hb hx,λb o e n hx=>?_,un.there,λb xs e=>?_,λb o x e=>?_,λb ps e=>?_⟩,λa o e=>?_,rv,q⟩
 ·by_cases z:b∈cs
  ·rw [mY z];exact n
  ·rw [cy z];exact un.free b o e (dy n) hx
 ·have z:b∉cs:=λz=>by obtain⟨v,e'⟩:=hcs b z;rw [e']at e;cases e
  rw [cy z];exact un.tups b xs (by rw [bW z];exact e)
 ·have z:b∉cs:=λz=>by obtain⟨v,e'⟩:=hcs b z;rw [e']at e;cases e
  rw [cy z];exact un.frzs b o x (by rw [bW z];exact e)
 ·have z:b∉cs:=λz=>by obtain⟨v,e'⟩:=hcs b z;rw [e']at e;cases e
  obtain⟨m,em⟩:=un.tbls b ps (by rw [bW z];exact e)
  exact⟨m,by rw [cy z];exact em⟩
 ·by_cases z:a∈cs
  ·rw [mY z]at e
   obtain⟨v,ev⟩:=hcs a z
   rw [ev]at e
   cases e
   have x:=(e0.hok a _ ev)
   have x':bI a v s'.heap:=bI.st x.1 (kC a z)
   exact⟨x',x'.obj,λh1 h2 y k=>y.st k⟩
  ·rw [cy z]at e
   refine(hok a o e).stay (λ_ _ _ q=>q) (λb q=>?_) λb xs q=>?_
   ·rw [cy (λz=>by rw [nC b z]at q;cases q)];exact q
   ·rw [cy (λz=>by rw [nC b z]at q;cases q)];exact q
theorem yw {k:Nat}{N ps:List Str}{cl:List (Str × Addr)}{name qual:Str}{params:Arguments}{body:List Stmt}{scope:Scope}{f c':Addr}{us:List Value}{vs cvs:List V}{Q:VK}{E:XK}
  (hr:Room (k+1) A) (e0:Env0 P w K mg base A outer s H) (hf:H f=some (.ext (kF f name qual params body scope cl c'))) (hc:H c'=some (.ext (bL c' qual))) (hcl:Paired (λ(p:Str × Addr) v=>H p.2=some (.ext (bI p.2 v))) cl cvs)
  (S:ClScope N ps cl scope) (r:aU vs us) (hl:vs.length=ps.length) (hbind:∀(s:Shared) (doc pm ctv:Value),BindsTo s (PySem.W.fnX name qual params body scope cl .none .none doc pm none (.ref c') ctv) ⟨us,[]⟩ (ps.zip us))
  (hbody:Room k (A.deeper (PySem.W.envX qual scope s.heap.objs.size f (.ref c') cl))->∃t,PSs (clX P w K mg base N qual scope f (.ref c') cl A outer s (less (cl.map (·.2)) H)) body t/\
   t { nx:=λ_ H'=>(∀c∈cl.map (·.2),H' c=none)->Q .non (back (cl.map (·.2)) H H'),rt:=λv H'=>(∀c∈cl.map (·.2),H' c=none)->Q v (back (cl.map (·.2)) H H') } (cN N (vs++cvs)) (less (cl.map (·.2)) H)) :
  codeAny (model P w) A (.call (.ref f) ⟨us,[]⟩) (CR CX0 outer P w H s Q E) s:=by
 obtain⟨doc,pm,ctv,ho⟩:=(e0.hok f _ hf).1
 have hrec:s.heap.CodeRec (.ref c') qual:=(e0.hok c' _ hc).1
 have lim:s.heap.NoLimit:=e0.mod.nolimit.keeps λb o e=>(e0.bs b o e).1
 have hcs:∀c∈cl.map (·.2),∃v,H c=some (.ext (bI c v)):=by
  have:∀{cl:List (Str × Addr)}{cvs:List V},Paired (λ(p:Str × Addr) v=>H p.2=some (.ext (bI p.2 v))) cl cvs->∀c∈cl.map (·.2),∃v,H c=some (.ext (bI c v)):=by
   intro cl cvs h
   induction h with
   | nil=>intro c hc;cases hc
   | cons a t ih=>
    intro c hc
    rcases List.mem_cons.mp hc with z | hc
    ·rw [z];exact⟨_,a⟩
    ·exact ih c hc
  exact this hcl
 refine codeAny_call_def (fd:=PySem.W.fnX name qual params body scope cl .none .none doc pm none (.ref c') ctv) (body:=body) (binds:=ps.zip us) hr.depth ho rfl lim hrec rfl (hbind s doc pm ctv) S.nocell (λx hx=>S.par x.1 (List.of_mem_zip (a:=x.1) (b:=x.2) hx).1) (λh₁ hns hk=>?_) S.co S.gen S.kind
 obtain⟨t,ht,hq⟩:=hbody (hr.deeper _)
 have I:=AN (qual:=qual) (f:=f) (cd:=.ref c') (tk:=s.toks+(ps.zip us).length) S hr.hd e0 hl r hcl hns hk
 refine wpAny_mono (ht [] _ _ _ _ I hq) (λfl s' hs=>?_) λe s' hs=>False.elim hs
 have fin:∀{σ':St}{H':Hp}{v:V}{u:Value},Inv (clX P w K mg base N qual scope f (.ref c') cl A outer s (less (cl.map (·.2)) H)) [] σ' H' s'->aW v u->((∀c∈cl.map (·.2),H' c=none)->Q v (back (cl.map (·.2)) H H'))->CE outer P w H s Q u s':=
  λ{σ' H' v u} J rv q=>yz e0 hcs J.os J.bare J.base J.hok rv (q λc hc=>by
   obtain⟨v,e⟩:=hcs c hc
   obtain⟨o,eo⟩:=(e0.hok c _ e).2.1
   exact J.base.free c o eo (fS hc) (by simp [clX]))
 cases fl with
 | ret u=>
  obtain⟨v,σ',H',J,rv,q⟩:=hs
  exact fin J rv q
 | next=>
  obtain⟨σ',H',J,q⟩:=hs
  exact fin (v:=V.non) (u:=Value.none) J rfl q
 | brk=>
  obtain⟨_,_,_,q⟩:=hs
  exact False.elim q
 | cont=>
  obtain⟨_,_,_,q⟩:=hs
  exact False.elim q
end
noncomputable def Cf (P:Addr) (pos:Pos) (name q:Str) (params:Arguments) (body:List Stmt) (scope:Scope) (clos:List (Str × Addr)) (i:Nat):TS:=λD σ H=>kP P pos q H/\
 ∀H' f c,Go P pos q H H'->H f=none->H' c=some (.ext (bL c q))->H' f=some (.ext (kF f name q params body scope clos c))->D.nx (σ.set i (some (.ref f))) H'
theorem Al {X:Cx}{name q:Str}{params:Arguments}{body:List Stmt}{scope:Scope}{pos:Pos}{clos:List (Str × Addr)}{i:Nat}{c P:Addr} (hN:X.N.Nodup) (hi:X.N[i]?=some name) (hx:Loc X.env.scope name) (hcd:X.env.code=.ref c) (hC:PySem.W.CodeHd X.base c P) (hB:X.base.BuiltinsAt X.mg P)
  (hcl:closureFor scope X.env=pure clos) (hd0:params.defaults=[]:=by rfl) (hk0:params.kw_defaults=[]:=by rfl) (ha:annTrees params none X.env=[]:=by rfl) (hq:qualnameIn X.env name name=q:=by rfl)
  (hf:X.fn name=true\/X.env.scope.names.lookup name=some .local:=by first | exact .inl rfl | exact .inr rfl | assumption):PS X (.FunctionDef name params body [] none [] scope none name pos) (Cf P pos name q params body scope clos i):=by
 intro pins s σ H D I hh
 obtain⟨L,h⟩:=hh
 refine PySem.W.nestDef_K hd0 hk0 ha ?_
 rw [hq]
 have hg:s.heap.Ns mainGlobals X.mg:=I.ok.mod.glob.keeps I.bk
 have hgP:mainGlobals≠P:=λz=>by
  obtain⟨o,es,ep,e,_⟩:=I.ok.mod.glob
  have n:=(I.bs _ _ e).2
  obtain⟨ps,eP⟩:=L.tbl
  rw [z,eP]at n
  cases n
 rcases L with L | ⟨c1,L,Lc⟩
 ·have hP:s.heap.get? P=some (PySem.W.tabObj #[]):=I.hok P _ L
  have hPlt:P < s.heap.objs.size:=Heap.lt_size hP
  refine PySem.W.makeFunction_K hcl I.ok.glob hg hcd (hC.keeps I.bk) hP trivial rfl hgP (hB.keeps I.bk) λc' ctv doc h' tk hx' hge hlt hrec htb=>?_
  have fge:s.heap.objs.size<=h'.objs.size:=Nat.le_trans hge (Nat.le_of_lt hlt)
  have nc:H c'=none:=I.hok.fresh hge
  have nf:H h'.objs.size=none:=I.hok.fresh fge
  have cP:c'≠P:=Nat.ne_of_gt (Nat.lt_of_lt_of_le hPlt hge)
  have fP:h'.objs.size≠P:=Nat.ne_of_gt (Nat.lt_of_lt_of_le hPlt fge)
  have cf:c'≠h'.objs.size:=Nat.ne_of_lt hlt
  have I1:=I.table (h':=h'.push (PySem.W.fnMade name q params body scope clos doc ((X.mg "__name__").getD .none) c' ctv)) (more:=#[rawInt pos.line,rawInt pos.col,.ref c']) (t':=tk) L
   (λb o z q=>zH0 _ (hx' b o z q)) (zH0 _ htb)
  have e0:(#[]:Array Value)++#[rawInt pos.line,rawInt pos.col,.ref c'] = #[rawInt pos.line,rawInt pos.col,.ref c']:=by simp
  rw [e0]at I1
  have rec':bL c' q (h'.push (PySem.W.fnMade name q params body scope clos doc ((X.mg "__name__").getD .none) c' ctv)):=
   bL.st (show bL c' _ h' from hrec) λo q=>zH0 _ q
  have I2:=I1.track (a:=c') (o:=.ext (bL c' q)) (Nat.le_trans I.sz hge) (I.fpOk hge (by rw [ah cP];exact nc)) ⟨rec',rec'.obj,λh1 h2 x k=>x.st k⟩
  have fn':kF h'.objs.size name q params body scope clos c' (h'.push (PySem.W.fnMade name q params body scope clos doc ((X.mg "__name__").getD .none) c' ctv)):=⟨_,_,_,Heap.get?_push_size _ rfl⟩
  have I3:=I2.track (a:=h'.objs.size) (o:=.ext (kF h'.objs.size name q params body scope clos c')) (Nat.le_trans I.sz fge)
   (I.fpOk fge (by rw [ah cf.symm,ah fP];exact nf)) ⟨fn',⟨_,Heap.get?_push_size _ rfl⟩,λh1 h2 x k=>x.st k⟩
  refine fe I3 hN hi hx (v:=.ref h'.objs.size) rfl (λs' I'=>⟨_,_,I',h _ _ c' ⟨λb o z q=>?_,.inr ⟨c',?_,?_⟩⟩ nf ?_ ai⟩) hf
  ·rw [ah (ao q nf),ah (ao q nc),ah z];exact q
  ·rw [ah fP.symm,ah cP.symm,ai]
  ·rw [ah cf,ai]
  ·rw [ah cf,ai]
 ·have hP:s.heap.get? P=some (PySem.W.tabObj #[rawInt pos.line,rawInt pos.col,.ref c1]):=I.hok P _ L
  refine PySem.W.makeFunction_hit (cv:=.ref c1) hcl I.ok.glob hg hcd (hC.keeps I.bk) hP (by simp [TriplesOk,rawInt]) (by simp [codeAmong,rawInt]) (hB.keeps I.bk) λctv doc h' tk hk hsz=>?_
  have nf:H h'.objs.size=none:=I.hok.fresh hsz
  have fn':kF h'.objs.size name q params body scope clos c1 (h'.push { cls:=.type "function", data:=.func (PySem.W.fnX name q params body scope clos .none .none doc ((X.mg "__name__").getD .none) none (.ref c1) ctv) }):=⟨_,_,_,Heap.get?_push_size _ rfl⟩
  have I1:=I.laid (a:=h'.objs.size) (o:=.ext (kF h'.objs.size name q params body scope clos c1)) (t':=tk) (λb u q=>zH0 _ (hk b u q)) hsz ⟨fn',⟨_,Heap.get?_push_size _ rfl⟩,λh1 h2 x k=>x.st k⟩
  refine fe I1 hN hi hx (v:=.ref h'.objs.size) rfl (λs' I'=>⟨_,_,I',h _ _ c1 (Go.new (.inr ⟨c1,L,Lc⟩) nf) nf ?_ ai⟩) hf
  rw [ah (ao Lc nf)];exact Lc
def PSr (X:Cx) (b:List Stmt) (t:(V->St->Hp->Prop)->St->Hp->Prop):Prop:=
 ∀(pins:List (Addr × Obj)) (s:Shared) (σ:St) (H:Hp) (R:V->St->Hp->Prop),Inv X pins σ H s->t R σ H->
  wpAny (model X.prog X.w) X.A (execs b X.env) (λfl s'=>∃u v σ' H',fl=.ret u/\Inv X pins σ' H' s'/\aW v u/\R v σ' H') X.xe s
theorem xJ {X:Cx}{e:Expr}{te:TE}{pos:Pos} (h:PE X e te):PSr X [.Return (some e) pos] (λR σ H=>te σ H λv H'=>R v σ H'):=by
 intro pins s σ H R I hh
 refine wpAny_execs_cons ?_
 refine wpAny_Return_some (thn (h pins s σ H _ I hh) λu s1 ⟨v,H1,I1,r,q⟩=>?_)
 exact⟨u,v,σ,H1,rfl,I1,r,q⟩
theorem va {X:Cx}{st:Stmt}{rest:List Stmt}{t:TS}{u:(V->St->Hp->Prop)->St->Hp->Prop} (h1:PS X st t) (h2:PSr X rest u):PSr X (st::rest) (λR σ H=>t { nx:=u R,rt:=λ_ _=>False } σ H):=by
 intro pins s σ H R I h
 refine wpAny_execs_cons (thn (h1 pins s σ H { nx:=u R,rt:=λ_ _=>False } I h) λf s1 q=>?_)
 cases f with
 | next=>
  obtain⟨σ',H',I',q⟩:=q
  exact h2 pins s1 σ' H' R I' q
 | ret v=>obtain⟨_,_,_,_,_,q⟩:=q;exact False.elim q
 | brk=>obtain⟨_,_,_,q⟩:=q;exact False.elim q
 | cont=>obtain⟨_,_,_,q⟩:=q;exact False.elim q
noncomputable def iS (cs:List (Addr × V)) (H:Hp):Hp:=λb=>match cs.lookup b with
 | some v=>some (.ext (bI b v))
 | none=>H b
theorem cC {cs:List (Addr × V)}{H:Hp}{b:Addr} (h:cs.lookup b=none):iS cs H b=H b:=by unfold iS;rw [h]
theorem kx {cs:List (Addr × V)}{H:Hp}{b:Addr}{v:V} (h:cs.lookup b=some v):iS cs H b=some (.ext (bI b v)):=by unfold iS;rw [h]
def rW (X:Cx) (σ:St) (cs:List (Addr × V)):Prop:=∀c v,cs.lookup c=some v->∃(i:Nat) (x:Str),X.N[i]?=some x/\σ[i]?=some (some v)/\X.env.scope.names.lookup x=some .cell/\X.env.cells.lookup x=some c
theorem oX {CX:CXT}{P:Program}{w:World}{K:W.Frag}{mg:Str->Option Value}{base:Heap}{N:List Str}{qual:Str}{scope:Scope}{f:Addr}{cd:Value}{A:Around}{outer:List Env}{s s':Shared}{H H':Hp}{E:XK}{σ:St}{cs:List (Addr × V)}{Q:VK}{v:V}{u:Value}
  (J:Inv (kr CX P w K mg base N qual scope f cd A outer s H E) [] σ H' s') (C:rW (kr CX P w K mg base N qual scope f cd A outer s H E) σ cs) (rv:aW v u) (q:(∀c v,cs.lookup c=some v->H' c=none)->Q v (iS cs H')):CE outer P w H s Q u s':=by
 have at':∀c v,cs.lookup c=some v->bI c v s'.heap/\s.heap.objs.size<=c/\H' c=none:=λc v e=>by
  obtain⟨i,x,h1,h2,h3,h4⟩:=C c v e
  obtain⟨m,hn,hl⟩:=J.loc
  obtain⟨u,ru,lk⟩:=hl i x v h1 h2 (.inr (.inl h3))
  refine⟨?_,J.ok.cab x c rfl h4,J.freeC x c h4⟩
  rcases lk with⟨k,_⟩ | ⟨_,c',e',hc⟩
  ·have k:scope.names.lookup x=some .local:=k
   have h3:scope.names.lookup x=some .cell:=h3
   rw [h3]at k;cases k
  ·rw [h4]at e'
   cases e'
   exact⟨u,ru,hc⟩
 have q:=q λc v e=>(at' c v e).2.2
 have old:∀b o,s.heap.get? b=some o->cs.lookup b=none:=λb o e=>by
  cases z:cs.lookup b with
  | none=>rfl
  | some v=>exact absurd (Nat.lt_of_lt_of_le (Heap.lt_size e) (at' b v z).2.1) (Nat.lt_irrefl _)
 have trk:∀b o,H' b=some o->cs.lookup b=none:=λb o e=>by
  cases z:cs.lookup b with
  | none=>rfl
  | some v=>rw [(at' b v z).2.2]at e;cases e
 have un:=J.base
 refine⟨v,iS cs H',J.os,J.bare,⟨un.keep,un.slot,λb o e n hx=>?_,un.there,λb xs e=>?_,λb o x e=>?_,λb ps e=>?_⟩,λa o e=>?_,rv,q⟩
 ·rw [cC (old b o e)];exact un.free b o e n hx
 ·have r:=un.tups b xs e
  rw [cC (trk _ _ r)];exact r
 ·have r:=un.frzs b o x e
  rw [cC (trk _ _ r)];exact r
 ·obtain⟨m,r⟩:=un.tbls b ps e
  exact⟨m,by rw [cC (trk _ _ r)];exact r⟩
 ·cases z:cs.lookup a with
  | some v=>
   rw [kx z]at e
   cases e
   have x:=(at' a v z).1
   exact⟨x,x.obj,λh1 h2 y k=>y.st k⟩
  | none=>
   rw [cC z]at e
   refine(J.hok a o e).stay (λ_ _ _ q=>q) (λb q=>?_) λb xs q=>?_
   ·rw [cC (trk _ _ q)];exact q
   ·rw [cC (trk _ _ q)];exact q
theorem Fun.okA {P:Program}{w:World}{K:W.Frag}{mg:Str->Option Value}{base:Heap}{x qual:Str}{st:Stmt}{f:Addr}{fd:FuncData}{N ps:List Str}{k:Nat}{sp:Sp} (F:Fun K x qual st f fd) (S:FnScope N ps (au st)) (len:∀vs H Q E,sp vs H Q E->vs.length=ps.length)
  (hbody:∀(cdv:Value) (A:Around) (outer:List Env) (s:Shared) (H:Hp) (vs:List V) (Q:VK) (E:XK),Room k (A.deeper (envOfC qual (au st) s.heap.objs.size f cdv))->(∃oc od kV doc pm an ct osl,K.lookup f=some ⟨oc,od,.func (PySem.W.fnOf x qual (dt st) (cB st) (au st) .none kV doc pm an cdv ct),osl⟩)->sp vs H Q E->
   ∃t,PSr (kr CX0 P w K mg base N qual (au st) f cdv A outer s H E) (cB st) t/\t (λv σ H'=>∃cs,rW (kr CX0 P w K mg base N qual (au st) f cdv A outer s H E) σ cs/\((∀c v,cs.lookup c=some v->H' c=none)->Q v (iS cs H'))) (cN N vs) H):FnOk P w K mg base CX0 (k+1) f fd ps sp:=by
 obtain⟨oc,od,kV,doc,pm,an,cdv,ct,osl,rfl,lk,hcd⟩:=F.ex
 refine⟨len,λA outer s H args us vs Q E hr e0 hb r hsp=>?_⟩
 have hl:=len _ _ _ _ hsp
 have KX:K.In s.heap:=e0.mod.kin.keeps λb o e=>(e0.bs b o e).1
 have lim:s.heap.NoLimit:=e0.mod.nolimit.keeps λb o e=>(e0.bs b o e).1
 have hkind:∀y∈ps.zip us,(au st).names.lookup y.1=some .local\/((au st).names.lookup y.1=some .cell/\((cellsFrom (s.heap.objs.size+1) (au st).names []).lookup y.1).isSome=true):=λ⟨n,v⟩ hy=>by
  rcases S.par n (List.of_mem_zip hy).1 with q | q
  ·exact .inl q
  ·exact .inr ⟨q,PySem.W.cellsFrom_some _ _ _ (.inl q)⟩
 refine codeAny_call_function hr.depth (KX _ _ lk) rfl S.co S.gen rfl (PySem.W.codeRec_of KX hcd) (hb _ _ _ _ ?_)
 refine wpAny_newFunctionEnv_cells S.kind hkind λenv he s1 x=>?_
 subst he
 refine⟨lim.keeps x.toInCall.keep,codeAny_func ?_⟩
 obtain⟨t,ht,hq⟩:=hbody cdv A outer s H vs Q E (hr.deeper _) ⟨oc,od,kV,doc,pm,an,ct,osl,lk⟩ hsp
 have I:Inv (kr CX0 P w K mg base N qual (au st) f cdv A outer s H E) [] (cN N vs) H s1:=lE S hr.hd e0 hl r x
 refine wpAny_mono (ht [] s1 (cN N vs) H _ I hq) (λfl s' hs=>?_) λe s' hs=>hs
 obtain⟨u,v,σ',H',rfl,J,rv,cs,C,q⟩:=hs
 exact oX J C rv q
def zC (P:Program) (w:World) (K:PySem.W.Frag) (mg:Str->Option Value) (base:Heap) (k:Nat) (f:Addr) (sp:Sp):Prop:=
 ∀(A:Around) (outer:List Env) (s:Shared) (H:Hp) (us:List Value) (vs:List V) (Q:VK) (E:XK),Room k A->Env0 P w K mg base A outer s H->aU vs us->sp vs H Q E->codeAny (model P w) A (.call (.ref f) ⟨us,[]⟩) (CR CX0 outer P w H s Q E) s
def FnH (H:Hp) (f:Addr):Prop:=∃φ,H f=some (.ext φ)/\∀h,φ h->PySem.W.FnAt f h
theorem FnH.of {H:Hp}{f c:Addr}{name qual:Str}{params:Arguments}{body:List Stmt}{scope:Scope}{cl:List (Str × Addr)} (h:H f=some (.ext (kF f name qual params body scope cl c))):FnH H f:=
 ⟨_,h,λh ⟨_,_,_,e⟩=>⟨_,_,_,_,e⟩⟩
inductive tCallV (V:Addr->Sp->Prop) (tv:TE) (t:TA) (σ:St) (H:Hp) (Q:VK):Prop
 | mk (h:tv σ H λx H1=>∃(f:Addr) (sp:Sp),x=.ref f/\V f sp/\FnH H1 f/\t σ H1 λvs H2=>FnH H2 f/\sp vs H2 Q E0):tCallV V tv t σ H Q
theorem fu {X:Cx}{k:Nat}{V:Addr->Sp->Prop}{x:Str}{p pos:Pos}{e:Expr}{es:List Expr}{tv:TE}{t:TA} (hV:∀f sp,V f sp->zC X.prog X.w X.K X.mg X.base k f sp) (hv:PE X (.Name x p) tv) (hr:Room k X.A) (hx:dM CX0 X E0) (ha:PA X (e::es) t)
  (he:starEach (e::es) X.env=(false,eval e X.env)::starEach es X.env:=by rfl) (hpl:(backTo pos (starEach es X.env)).any (·.1)=false:=by rfl):PE X (.Call (.Name x p) (e::es) [] pos) (tCallV V tv t):=by
 intro pins s σ H Q I h
 obtain⟨h⟩:=h
 refine wpAny_Call_Name_kw (thn (hv pins s σ H _ I h) λu s1 ⟨v,H1,I1,rx,f,sp,ex,vc,hf1,q⟩=>?_)
 subst ex
 obtain rfl:u=Value.ref f:=rx
 have fa:∀{H:Hp}{s:Shared},Inv X pins σ H s->FnH H f->PySem.W.FnAt f s.heap:=λ{H s} I ⟨φ,e,k⟩=>k _ (I.hok f _ e).1
 refine PySem.W.callWith_F (first:=[]) (fa I1 hf1) (thn (ha pos pins s1 σ H1 _ I1 q) λus s2 ⟨vs,H2,I2,r,hf2,q2⟩=>⟨fa I2 hf2,?_⟩) he hpl
 refine wpAny_call (codeAny_mono (hV f sp vc X.A X.stack s2 H2 us vs Q E0 hr I2.env0 r q2) λr s' hq=>?_)
 cases r with
 | error e=>exact hx pins σ H2 s2 e s' I2 hq
 | ok fl=>
  cases fl with
  | ret u=>exact I2.after hq
  | next=>exact False.elim hq
  | brk=>exact False.elim hq
  | cont=>exact False.elim hq
noncomputable def zJ (V:Addr->Sp->Prop) (m:Str) (E:XK) (ta:TE) (t:TA):TE:=λσ H Q=>ta σ H λx H1=>∃a C dx fs sp,x=.ref a/\H1 a=some (.ins C dx fs)/\V C sp/\fs.lookup m=none/\
 t σ H1 λvs H2=>sp (x::vs) H2 Q E
section
variable {X:Cx}{CX:CXT}{k:Nat}{ps:List Str}{E:XK}{m:Str}{pos apos:Pos}{e o:Expr}{es:List Expr}{ta:TE}{t:TA}
theorem fq {V:Addr->Sp->Prop}{pl:Sem Bool} (hV:∀C sp,V C sp->MV X.prog X.w X.K X.mg X.base CX m k ps sp C) (he:PE X o ta) (hr:Room k X.A) (hx:dM CX X E) (ha:PA X (e::es) t)
  (hst:starEach (e::es) X.env=(false,eval e X.env)::starEach es X.env:=by rfl) (hpl:(backTo pos (starEach es X.env)).any (·.1)=false:=by rfl)
  (ht:eval (.Call (.Attribute o m apos) (e::es) [] pos) X.env=(do
   let ov <- eval o X.env
   standAt apos.atName
   let (f,first) <- holding [ov] (getMethod ov m pl)
   callWith pos f first (backTo pos (starEach (e::es) X.env)) (backToKw pos (keywordEach [] X.env))):=by rfl) :
  PE X (.Call (.Attribute o m apos) (e::es) [] pos) (zJ V m E ta t):=by
 intro pins s σ H Q I h
 refine PySem.W.methodCall_KW (pl:=pl) (thn (he pins s σ H _ I h) λu s1 ⟨x,H1,I1,rx,a,C,dx,fs,sp,ex,ea,vc,l,q⟩=>?_) ht
 obtain⟨c,f,fd,hm,F,hb⟩:=hV C sp vc
 subst ex
 obtain rfl:u=Value.ref a:=rx
 refine eW I1 ea c hm l ?_
 refine PySem.W.callWith_K (first:=[.ref a]) (h₀:=X.base) I.ok.mod.kin hm.kp (thn (ha pos pins s1 σ H1 _ I1 q) λus s2 ⟨vs,H2,I2,r,q2⟩=>⟨I2.kIn,?_⟩) hst hpl
 exact ix (us:=.ref a::us) (vs:=.ref a::vs) (dvs:=[]) F hr hb .nil hx I2 (.cons rfl r) (by rw [List.append_nil];exact q2)
end
end L2
namespace Mine
open PySem L2
variable {P:Program}{w:World}{K:W.Frag}{mg:Str->Option Value}{base:Heap}
noncomputable abbrev bU:Stmt:=top 55
noncomputable abbrev nL:Stmt:=(cB bU).getD 0 (.Pass ⟨0,0,0,0⟩)
noncomputable abbrev yI:Pos:=⟨395,4,397,57⟩
noncomputable abbrev jt:Str:=("_law_telling" : Str)++".<locals>."++"_law_told"
abbrev Lm (T:Addr) (H:Hp):Prop:=kP T yI jt H
abbrev Gm (T:Addr) (H H':Hp):Prop:=Go T yI jt H H'
noncomputable def clT (c1 c2:Addr):List (Str × Addr):=[("_law_table_here", c1),("_law_asked", c2)]
inductive Tld (H:Hp) (f la tb:Addr):Prop
 | mk (c1 c2 c':Addr) (n12:c1≠c2) (hf:H f=some (.ext (kF f "_law_told" jt (dt nL) (cB nL) (au nL) (clT c1 c2) c'))) (hc:H c'=some (.ext (bL c' jt))) (h1:H c1=some (.ext (bI c1 (.ref tb)))) (h2:H c2=some (.ext (bI c2 (.ref la)))):Tld H f la tb
theorem Tld.keep {H H':Hp}{f la tb:Addr} (t:Tld H f la tb) (k:∀b φ,H b=some (.ext φ)->H' b=some (.ext φ)):Tld H' f la tb:=by
 obtain⟨c1,c2,c',n,hf,hc,h1,h2⟩:=t
 exact⟨c1,c2,c',n,k _ _ hf,k _ _ hc,k _ _ h1,k _ _ h2⟩
noncomputable def tel (kvs:List (List Key × V)) (k:Str) (d:Int):V:=(valV kvs [.inr k,.inl d]).getD .non
inductive Askd (H:Hp) (la:Addr) (rs:List RZ):Prop
 | mk (h1:H la=some (.lst (rs.map λr=>V.ref r.2))) (h2:∀r∈rs,H r.2=some (.tup (uV r))):Askd H la rs
noncomputable def zO (f la tb:Addr) (kvs:List (List Key × V)):Sp:=λvs H Q _=>∃(k:Str) (d:Int) (rs:List RZ),vs=[.str k,.int d]/\Tld H f la tb/\H tb=some (.dT kvs)/\Askd H la rs/\rs.length < 100000/\
 ∀(p:Addr) (H':Hp),H p=none->Off la H H'->Askd H' la (rs++[((k,d),p)])->Q (tel kvs k d) H'
inductive VT (f:Addr) (sp:Sp):Prop
 | mk (la tb:Addr) (kvs:List (List Key × V)) (h:sp=zO f la tb kvs):VT f sp
theorem xp (c1 c2:Addr) (n:c1≠c2):ClScope ["_law_name", "_law_day", "_law_table_here", "_law_asked"] ["_law_name", "_law_day"] (clT c1 c2) (au nL) where
 kind:=rfl
 co:=rfl
 gen:=rfl
 nd:=‹0›
 pre:=rfl
 len:=by show 4<=4;decide
 par:=‹0›
 fre:=by show ∀x∈[("_law_table_here" : Str),"_law_asked"],_;decide +kernel
 nocell:=‹0›
 all:=λx h=>by
  have h:=PySem.mem_of_lookup h
  have:∀p∈(au nL).names,p.2=.free->p.1∈[("_law_table_here" : Str),"_law_asked"]:=‹0›
  exact this _ h rfl
 addr:=by
  show [c1,c2].Nodup
  simp [n]
theorem eC:∀f sp,VT f sp->zC P w K mg base 1 f sp:=by
 rintro f sp ⟨la,tb,kvs,rfl⟩ A outer s H us vs Q E hr e0 r h
 obtain⟨k,d,rs,rfl,T,ht,⟨hl,hrs⟩,hlen,q⟩:=h
 obtain⟨c1,c2,c',n12,hf,hc,h1,h2⟩:=T
 obtain⟨u1,u2,rfl⟩:∃u1 u2,us=[u1,u2]:=by
  cases r with
  | cons a r=>
   cases r with
   | cons b r=>
    cases r
    exact⟨_,_,rfl⟩
 refine yw (k:=0) (cvs:=[.ref tb,.ref la]) hr e0 hf hc (.cons h1 (.cons h2 .nil)) (xp c1 c2 n12) r rfl (λs doc pm ctv=>.of_eq rfl) λhr'=>?_
 have hu:=aP hr'
 refine⟨_,(af (bo (dU PySem.F.plainAttrs_list PySem.F.slot_list_append PySem.F.type_list_append eJ (pv 3) (aa (bG (aa (pv 0) (aa (pv 1) ae))) ae)))
   (aq (aB (eF hu (pv 2) (bG (aa (pv 0) (aa (pv 1) ae))) ⟨rfl,rfl,rfl,rfl⟩)))),?_⟩
 have nla:la∉(clT c1 c2).map (·.2):=λz=>by
  rcases List.mem_cons.mp z with z | z
  ·rw [z,h1]at hl;cases hl
  ·rw [List.mem_singleton.mp z,h2]at hl;cases hl
 have ntb:tb∉(clT c1 c2).map (·.2):=λz=>by
  rcases List.mem_cons.mp z with z | z
  ·rw [z,h1]at ht;cases ht
  ·rw [List.mem_singleton.mp z,h2]at ht;cases ht
 have hcs:∀c∈(clT c1 c2).map (·.2),∃φ,H c=some (.ext φ):=λc hc=>by
  rcases List.mem_cons.mp hc with z | z
  ·rw [z];exact⟨_,h1⟩
  ·rw [List.mem_singleton.mp z];exact⟨_,h2⟩
 have hl1:less ((clT c1 c2).map (·.2)) H la=some (.lst (rs.map λr=>V.ref r.2)):=by rw [bW nla];exact hl
 have ht1:less ((clT c1 c2).map (·.2)) H tb=some (.dT kvs):=by rw [bW ntb];exact ht
 refine ag (bn ⟨_,rfl,.inl ⟨rfl,_,SqL.of hl1⟩,_,rfl,_,rfl,by show 2<=sizeLine;decide,λp np=>?_⟩)
 have npl:p≠la:=λz=>by rw [z,hl1]at np;cases np
 have npt:p≠tb:=λz=>by rw [z,ht1]at np;cases np
 refine⟨la,_,_,rfl,rfl,by rw [ah (Ne.symm npl)];exact hl1,by rw [List.length_map];exact Nat.lt_of_lt_of_le hlen (by decide),?_⟩
 dsimp only
 have ltb:la≠tb:=λz=>by rw [z,ht]at hl;cases hl
 refine aF ⟨_,rfl,tb,rfl,.inr ⟨kvs,.of (by rw [ah (Ne.symm ltb),ah (Ne.symm npt)];exact ht1)⟩,_,rfl,_,rfl,by show 2<=sizeLine;decide,λp2 np2=>?_⟩
 have p2l:p2≠la:=λz=>by rw [z,ai]at np2;cases np2
 have p2p:p2≠p:=λz=>by rw [z,ah npl,ai]at np2;cases np2
 have p2t:p2≠tb:=λz=>by rw [z,ah (Ne.symm ltb),ah (Ne.symm npt),ht1]at np2;cases np2
 refine⟨_,.inr ⟨kvs,[.inr k,.inl d],p2,.of (by rw [ah (Ne.symm p2t),ah (Ne.symm ltb),ah (Ne.symm npt)];exact ht1),rfl,ai,rfl⟩,?_⟩
 intro nC
 have pC:p∉(clT c1 c2).map (·.2):=λz=>by
  have:=nC p z
  rw [ah (Ne.symm p2p),ah npl,ai]at this
  cases this
 have p2C:p2∉(clT c1 c2).map (·.2):=λz=>by
  have:=nC p2 z
  rw [ai]at this
  cases this
 have np0:H p=none:=by rw [bW pC]at np;exact np
 have np20:H p2=none:=by
  rw [ah p2l,ah p2p,bW p2C]at np2
  exact np2
 have off:∀b o,H b=some o->b≠la->back ((clT c1 c2).map (·.2)) H (upd (upd (upd (less ((clT c1 c2).map (·.2)) H) p (.tup [.str k,.int d])) la (.lst ((rs.map λr=>V.ref r.2)++[.ref p]))) p2 (.tup [.str k,.int d])) b=some o:=λb o e n=>by
  by_cases z:b∈(clT c1 c2).map (·.2)
  ·rw [mY z];exact e
  ·rw [cy z,ah (ao e np20),ah n,ah (ao e np0),bW z];exact e
 refine q p _ np0 off ⟨?_,λr hr=>?_⟩
 ·rw [cy nla,ah (Ne.symm p2l),ai,List.map_append]
  rfl
 ·rcases List.mem_append.mp hr with hr | hr
  ·refine off _ _ (hrs r hr) λz=>?_
   have:=hrs r hr
   rw [z,hl]at this
   cases this
  ·rw [List.mem_singleton.mp hr]
   show back _ _ _ p=_
   rw [cy pC,ah (Ne.symm p2p),ah npl,ai]
   rfl
noncomputable def kY (T:Addr):Sp:=λvs H Q _=>∃(tb la:Addr),vs=[.ref tb,.ref la]/\Lm T H/\∀(f:Addr) (H':Hp),H f=none->Gm T H H'->Tld H' f la tb->Q (.ref f) H'
theorem lg:FnScope ["_law_table_here", "_law_asked", "_law_told"] ["_law_table_here", "_law_asked"] (au bU):=‹2›
theorem qg {f c T:Addr}{fd:FuncData}{oc kV doc pm ct:Value}{od an:Option Addr}{osl:Array (Option Value)} (F:Fun K "_law_telling" "_law_telling" bU f fd)
  (lk:K.lookup f=some ⟨oc,od,.func (PySem.W.fnOf "_law_telling" "_law_telling" (dt bU) (cB bU) (au bU) .none kV doc pm an (.ref c) ct),osl⟩) (hC:PySem.W.CodeHd base c T) (hB:base.BuiltinsAt mg T) :
  FnOk P w K mg base CX0 2 f fd ["_law_table_here", "_law_asked"] (kY T):=by
 refine F.okA (k:=1) lg (λvs H Q E h=>?_) λcdv A outer s H vs Q E hr hk h=>?_
 ·obtain⟨tb,la,rfl,_⟩:=h
  rfl
 ·obtain⟨tb,la,rfl,L,q⟩:=h
  obtain⟨oc',od',kV',doc',pm',an',ct',osl',lk'⟩:=hk
  rw [lk]at lk'
  have ec:cdv=.ref c:=by
   have e:=congrArg (λo:Option Obj=>o.map λx=>match x.data with | .func fd=>fd.code | _=>Value.none) lk'
   exact(Option.some.inj e).symm
  subst ec
  refine⟨_,va (Al (i:=2) (clos:=clT (s.heap.objs.size+1) (s.heap.objs.size+2)) (q:=jt) lg.nd rfl (Or.inl rfl) rfl hC hB rfl) (xJ (pv 2)),?_⟩
  refine⟨L,λH' f' c' G nf hc hf=>?_⟩
  refine⟨_,rfl,[(s.heap.objs.size+1,.ref tb),(s.heap.objs.size+2,.ref la)],?_,λnC=>?_⟩
  ·intro c v e
   rw [List.lookup_cons]at e
   by_cases z:c=s.heap.objs.size+1
   ·rw [beq_iff_eq.mpr z]at e
    cases e
    rw [z]
    exact⟨0,"_law_table_here", rfl,rfl,(show (au bU).names.lookup _=_ from ‹0›),rfl⟩
   ·rw [beq_eq_false_iff_ne.mpr z,List.lookup_cons]at e
    by_cases z2:c=s.heap.objs.size+2
    ·rw [beq_iff_eq.mpr z2]at e
     cases e
     rw [z2]
     exact⟨1,"_law_asked", rfl,rfl,(show (au bU).names.lookup _=_ from ‹0›),rfl⟩
    ·rw [beq_eq_false_iff_ne.mpr z2]at e
     cases e
  ·have out:∀b o,H' b=some o->iS [(s.heap.objs.size+1,V.ref tb),(s.heap.objs.size+2,V.ref la)] H' b=some o:=λb o e=>by
    rw [cC ?_]
    ·exact e
    ·cases z:List.lookup b [(s.heap.objs.size+1,V.ref tb),(s.heap.objs.size+2,V.ref la)] with
     | none=>rfl
     | some v=>rw [nC b v z]at e;cases e
   refine q f' _ nf ⟨λb o n e=>out _ _ (G.same b o n e),?_⟩ ⟨s.heap.objs.size+1,s.heap.objs.size+2,c',Nat.ne_of_lt (Nat.lt_succ_self _),out _ _ hf,out _ _ hc,kx ?_,kx ?_⟩
   ·rcases G.lam with e | ⟨c1,e1,e2⟩
    ·exact .inl (out _ _ e)
    ·exact .inr ⟨c1,out _ _ e1,out _ _ e2⟩
   ·rw [List.lookup_cons,beq_self_eq_true]
   ·rw [List.lookup_cons,beq_eq_false_iff_ne.mpr (Nat.ne_of_gt (Nat.lt_succ_self _)),List.lookup_cons,beq_self_eq_true]
noncomputable def aK (k:Str) (f:Int) (n:Nat):List (Str × Int):=(List.range n).map λi:Nat=>(k,f+i)
noncomputable def len2 (f l:Int):Nat:=(l+1 - f).toNat
noncomputable def nmV:V->Option Int
 | .int n=>some n
 | _=>none
noncomputable def Cn (vs:List V):List Int:=vs.filterMap nmV
def iY (v:V):Prop:=v=.non\/∃n,v=.int n
def zA (kvs:List (List Key × V)):Prop:=∀k d,iY (tel kvs k d)
noncomputable def iV (T:Str->Int->V) (ps:List (Str × Int)):List V:=ps.map λp=>T p.1 p.2
noncomputable def gat (w:Str) (ns:List Int):V:=if w=‹"sum"› then .int ns.sum else if w=‹"count"› then .int ns.length else if w=‹"least"› then wL ns else wM ns
inductive TeA (f la tb:Addr) (kvs:List (List Key × V)) (H:Hp) (rs:List RZ):Prop
 | mk (t:Tld H f la tb) (ht:H tb=some (.dT kvs)) (ha:Askd H la rs):TeA f la tb kvs H rs
noncomputable def prs (rs:List RZ):List (Str × Int):=rs.map (·.1)
theorem TeA.off {f la tb:Addr}{kvs:List (List Key × V)}{H H':Hp}{rs rs':List RZ} (h:TeA f la tb kvs H rs) (o:Off la H H') (a:Askd H' la rs'):TeA f la tb kvs H' rs':=by
 obtain⟨t,ht,⟨h1,_⟩⟩:=h
 refine⟨t.keep λb φ e=>o _ _ e λz=>?_,o _ _ ht λz=>?_,a⟩
 ·rw [z,h1]at e;cases e
 ·rw [z,h1]at ht;cases ht
theorem Askd.grow {la:Addr}{H H':Hp}{rs:List RZ} (h:Askd H la rs) (g:aZ H H'):Askd H' la rs:=by
 obtain⟨h1,h2⟩:=h
 exact⟨g _ _ h1,λr hr=>g _ _ (h2 r hr)⟩
theorem TeA.grow {f la tb:Addr}{kvs:List (List Key × V)}{H H':Hp}{rs:List RZ} (h:TeA f la tb kvs H rs) (g:aZ H H'):TeA f la tb kvs H' rs:=by
 obtain⟨t,ht,a⟩:=h
 exact⟨t.keep λb φ e=>g _ _ e,g _ _ ht,a.grow g⟩
theorem TeA.lst {f la tb:Addr}{kvs:List (List Key × V)}{H:Hp}{rs:List RZ} (h:TeA f la tb kvs H rs):∃xs,H la=some (.lst xs):=let ⟨_,_,⟨h1,_⟩⟩:=h;⟨_,h1⟩
theorem Askd.off {la b:Addr}{H H':Hp}{rs:List RZ} (h:Askd H la rs) (n:b≠la) (nr:∀xs,H b≠some (.tup xs)) (g:∀b' o,H b'=some o->b'≠b->H' b'=some o):Askd H' la rs:=by
 obtain⟨h1,h2⟩:=h
 exact⟨g _ _ h1 (Ne.symm n),λr hr=>g _ _ (h2 r hr) λz=>nr _ (by rw [<- z];exact h2 r hr)⟩
theorem Tld.fn {H:Hp}{f la tb:Addr} (t:Tld H f la tb):FnH H f:=by
 obtain⟨_,_,_,_,hf,_,_,_⟩:=t
 exact FnH.of hf
theorem wY {f la tb:Addr}{kvs:List (List Key × V)}{H:Hp}{rs:List RZ}{k:Str}{d:Int}{Q:VK} (h:TeA f la tb kvs H rs) (hl:rs.length < 100000) (q:∀(p:Addr) (H':Hp),Off la H H'->Askd H' la (rs++[((k,d),p)])->Q (tel kvs k d) H'):∃sp,VT f sp/\FnH H f/\FnH H f/\sp [.str k,.int d] H Q E0:=by
 obtain⟨t,ht,a⟩:=h
 exact⟨_,⟨la,tb,kvs,rfl⟩,t.fn,t.fn,k,d,rs,rfl,t,ht,a,hl,λp H' _ o a'=>q p H' o a'⟩
theorem wD {f la tb:Addr}{kvs:List (List Key × V)}{rs:List RZ}{k:Str}{lo:Int}{n:Nat}{sub:List Nat}{te:TE}{σ:St}{Q:VK}{H:Hp} (hT:TeA f la tb kvs H rs) (hn:n<=1000) (hl:rs.length+n < 100000)
  (hte:∀(d:Int) (H2:Hp) (rs2:List RZ) (R:VK),TeA f la tb kvs H2 rs2->rs2.length < 100000->(∀(p:Addr) (H3:Hp),Off la H2 H3->Askd H3 la (rs2++[((k,d),p)])->R (tel kvs k d) H3)->te (some (.int d)::bP sub σ) H2 R)
  (hq:∀(D:Addr) (H':Hp) (rs':List RZ),H D=none->Off la H H'->Askd H' la rs'->prs rs'=prs rs++aK k lo n->H' D=some (.lst (iV (tel kvs) (aK k lo n)))->Q (.ref D) H'):fL (Itr lo n) sub (λ_ H Q=>Q true H) te σ Q H:=by
 intro D nD
 have nDl:D≠la:=λz=>by obtain⟨xs,e⟩:=hT.lst;rw [z,e]at nD;cases nD
 refine dJ (lo:=lo) (n:=n) (sub:=sub) (tt:=λ_ H Q=>Q true H) (te:=te) (Q:=Q) (σ:=σ) (λi ys H2=>∃rs2,ys=iV (tel kvs) (aK k lo i)/\H2 D=some (.lst ys)/\Off la H H2/\TeA f la tb kvs H2 rs2/\prs rs2=prs rs++aK k lo i) ⟨rs,rfl,ai,Off.grow (laid nD).1,hT.grow (laid nD).1,by rw [show aK k lo 0=[] from rfl,List.append_nil]⟩ (λi ys H2 hi hh=>?_) λys H2 hh=>?_
 ·obtain⟨rs2,rfl,e2,o2,t2,p2⟩:=hh
  have hz:rs2.length=rs.length+i:=by
   have:=congrArg List.length p2
   unfold prs aK at this
   rw [List.length_append,List.length_map,List.length_map,List.length_map,List.length_range]at this
   exact this
  refine bJ (hte _ _ rs2 _ t2 ‹1› λp H3 o3 a3=>?_)
  have nD3:∀xs,H3 D≠some (.tup xs):=λxs z=>by rw [o3 _ _ e2 nDl]at z;cases z
  have a4:=a3.off (b:=D) (H':=upd H3 D (.lst (iV (tel kvs) (aK k lo i)++[tel kvs k (lo+i)]))) nDl nD3 (λb' o e n=>by rw [ah n];exact e)
  have ep:aK k lo (i+1)=aK k lo i++[(k,lo+i)]:=by unfold aK;rw [List.range_succ,List.map_append];rfl
  have o4:Off la H2 (upd H3 D (.lst (iV (tel kvs) (aK k lo i)++[tel kvs k (lo+i)])))\/True:=.inr trivial
  refine⟨o3 _ _ e2 nDl,?_,rs2++[((k,lo+i),p)],?_,ai,λb o e nb=>?_,?_,?_⟩
  ·unfold iV aK;rw [List.length_map,List.length_map,List.length_range];exact bu ‹1›
  ·rw [ep];unfold iV;rw [List.map_append];rfl
  ·rw [ah (ao e nD)];exact o3 _ _ (o2 _ _ e nb) nb
  ·obtain⟨tt,ht,_⟩:=t2.off o3 a3
   refine⟨tt.keep λb φ e=>?_,?_,a4⟩
   ·rw [ah λz=>by rw [z,o3 _ _ e2 nDl]at e;cases e];exact e
   ·rw [ah λz=>by rw [z,o3 _ _ e2 nDl]at ht;cases ht];exact ht
  ·rw [ep,<- List.append_assoc,<- p2]
   unfold prs
   rw [List.map_append]
   rfl
 ·obtain⟨rs2,rfl,e2,o2,t2,p2⟩:=hh
  obtain⟨_,_,a2⟩:=t2
  exact hq D H2 rs2 nD o2 a2 p2 e2
noncomputable def gi:Sp:=λvs H Q _=>∃(f la tb:Addr) (kvs:List (List Key × V)) (rs:List RZ) (k:Str) (f0 l0:Int),vs=[.ref f,.str k,.int f0,.int l0]/\TeA f la tb kvs H rs/\ni f0 l0/\rs.length < 90000/\
 ∀(D:Addr) (H':Hp) (rs':List RZ),H D=none->Off la H H'->Askd H' la rs'->prs rs'=prs rs++aK k f0 (len2 f0 l0)->H' D=some (.lst (iV (tel kvs) (aK k f0 (len2 f0 l0))))->Q (.ref D) H'
noncomputable abbrev iw:Stmt:=top 28
theorem pE:FnScope ["told", "key", "first", "last"] ["told", "key", "first", "last"] (au iw):=‹2›
theorem nZ {f:Addr}{fd:FuncData} (F:Fun K "tellings" "tellings" iw f fd) (N:Free mg):FnOk P w K mg base CX0 3 f fd ["told", "key", "first", "last"] gi:=by
 refine F.ok (k:=2) pE (λvs H Q E h=>?_) (λcdv A outer s H vs Q E hr h=>?_)
 ·obtain⟨f,la,tb,kvs,rs,k,f0,l0,rfl,_⟩:=h
  rfl
 ·obtain⟨f,la,tb,kvs,rs,k,f0,l0,rfl,hT,⟨d0,d1,d2⟩,hl,q⟩:=h
  have hu:=aP hr
  refine⟨_,(aq (aB (dS (bh rfl (bX rfl N.range (aa (pv 2) (aa (aH bw (pv 3) aj) ae))) rfl rfl (by show ∀p∈_,eN [‹"told"›, ‹"key"›] p;decide) (by decide) rfl (by show ([‹"day"›, ‹"told"›, ‹"key"›]:List Str).Nodup;decide) (.cons (i:=0) rfl (.inr (.inl rfl)) (by show (some NameKind.cell)≠some NameKind.local;decide) (.inl rfl) rfl (.cons (i:=1) rfl (.inr (.inl rfl)) (by show (some NameKind.cell)≠some NameKind.local;decide) (.inl rfl) rfl .nil)) (λC fp s H=>cp) (λC fp s H=>(fu eC (pv 1) (hr.mono (by decide)) av (aa (pv 2) (aa (pv 0) ae)))))))),?_⟩
  refine aF (bQ ?_)
  refine⟨_,rfl,_,rfl,_,_,rfl,rfl,f0,l0+1,rfl,⟨by omega,by omega,by omega,by omega⟩,?_⟩
  have en:(l0+1 - f0).toNat=len2 f0 l0:=rfl
  have hn:len2 f0 l0<=400:=by unfold len2;omega
  refine wD (n:=len2 f0 l0) hT ‹1› ‹1› (λd H2 rs2 R h2 hl2 hR=>?_) λD H' rs' nD o a p e=>q D H' rs' nD o a p e
  obtain⟨sp,hv,h3,h4,h5⟩:=wY (k:=k) (d:=d) h2 hl2 hR
  exact⟨_,rfl,f,sp,rfl,hv,h3,_,rfl,_,rfl,h4,h5⟩
end Mine
namespace L2
open PySem PySem.Spec PyProof.Rows
noncomputable def Itn (hi:Int) (n:Nat):It:=⟨λi _=>i < n,λi H x H'=>H'=H/\x=.int (hi - i),λi _=>n<=i⟩
def AY (it:Addr) (hi:Int) (n i:Nat) (h:Heap):Prop:=IsRangeIter h it (hi+(i:Nat) * (-1)) ((n:Int) - (i:Nat)) (-1)
theorem se {P:Program}{w:World}{K:W.Frag}{tg:Expr} (it:Addr) (hi:Int) (n:Nat):Turn P w K tg (Itn hi n) [it] it (AY it hi n) where
 mem:=List.mem_singleton.mpr rfl
 obj:=λi h st b hb=>by
  rw [List.mem_singleton.mp hb]
  exact⟨_,st,λv z=>by
   have z':Data.fields _=Data.cell v:=z
   cases z'⟩
 keep:=λi h h' st k=>k it (List.mem_singleton.mpr rfl) _ st
 item:=by
  intro X hP hw hK hc i pins s σ H E I hf st hg
  subst hP hw hK
  obtain⟨f0,f1,f2,f3,f4,f5⟩:=hf it (by simp)
  refine(Walks.range (prog:=X.prog) (w:=X.w) (I.ok.hd hc) it hi (-1) n).item i s _ _ hg st λv h' tk hv st' kk=>?_
  obtain⟨t,rfl⟩:=hv
  have I1:Inv X pins σ H { s with heap:=h',toks:=tk }:=I.turned (λb o hb e=>kk b o (by simpa using hb) e) f0 f1 f3 f4 f5
  refine⟨_,rfl,lF (s:={ s with heap:=h',toks:=tk }) (n:="range_iterator") st' rfl rfl (by decide) ⟨.int (hi - i),H,I1,⟨t,?_⟩,⟨rfl,rfl⟩,st',λb hb=>(hf b hb).1⟩⟩
  rw [show hi+(i:Int) * -1=hi - i from by omega]
 done:=by
  intro X hP hw hK hc i pins s σ H E I hf st hg
  subst hP hw hK
  obtain⟨f0,f1,f2,f3,f4,f5⟩:=hf it (by simp)
  exact wpAny_pyNext_range_end (I.ok.hd hc) st (by have:n<=i:=hg;omega) λh' eb=>⟨rfl,I.turned (t':=s.toks) (λb o hb e=>eb b o hb e) f0 f1 f3 f4 f5⟩
 self:=λ_ _ _ _ _ st h=>wpAny_pyIter_rangeiter st h
theorem lb (a b:Int):Builtin.Range.rangeSize a b (-1)=if b < a then a - b else 0:=by
 unfold Builtin.Range.rangeSize
 rw [if_neg (by decide),show -(-1:Int)=1 from rfl,Int.ediv_one]
 split <;> omega
theorem pB {a b:Int} (h1 : -(2 ^ 61)<=a) (h2:a < 2 ^ 61) (h3 : -(2 ^ 61)<=b) (h4:b < 2 ^ 61):Builtin.Range.small a b (-1)=true:=by
 unfold Builtin.Range.small
 rw [lb]
 simp only [Builtin.Range.rangeFitsLong,Bool.and_eq_true,Bool.or_eq_true,decide_eq_true_eq,beq_iff_eq,show ¬((-1:Int) > 0) by decide,if_false]
 split <;> omega
section
variable {X:Cx}{tg:Expr}
theorem yr {pins:List (Addr × Obj)}{σ:St}{H:Hp}{s:Shared}{R:It->Hp->Prop}{E:Value->Shared->Prop}{a b:Int}{t u v:Tok}{tk:Nat} (I:Inv X pins σ H s) (h:Builtin.Range.small a b (-1)=true)
  (q:R (Itn a (a - b).toNat) H):wpAny (model X.prog X.w) X.A (pyIter (.ref s.heap.objs.size)) (PIE X pins σ tg R) E { s with heap:=s.heap.push { cls:=.type "range", data:=.fields #[.int a t,.int b u,.int (-1) v] },toks:=tk }:=by
 generalize ho:({ cls:=.type "range", data:=.fields #[.int a t,.int b u,.int (-1) v] }:Obj)=o0
 have I1:Inv X pins σ H { s with heap:=s.heap.push o0,toks:=tk }:=I.kept λb o e=>zH0 _ e
 subst ho
 refine wpAny_pyIter_range (IsRange.new ..) h ?_
 refine⟨_,[_],AY _ a (a - b).toNat,_,H,rfl,I1.kept (t':=tk) λb o e=>zH0 _ e,se _ a (a - b).toNat,?_,λc hb=>?_,q⟩
 ·have e1:a+((0:Nat):Int) * (-1)=a:=by simp
  have e2:(((a - b).toNat:Nat):Int) - ((0:Nat):Int)=Builtin.Range.rangeSize a b (-1):=by rw [lb];split <;> omega
  unfold AY
  rw [e1,e2]
  exact Heap.get?_push_size _ rfl
 ·rw [List.mem_singleton.mp hb]
  exact I1.fpOk (Nat.le_refl _) (I1.hok.fresh (Nat.le_refl _))
noncomputable def BN (ta:TA):TI:=λσ H R=>ta σ H λvs H1=>∃i j:Int,vs=[.int i,.int j,.int (-1)]/\(-(2 ^ 61)<=i/\i < 2 ^ 61/\-(2 ^ 61)<=j/\j < 2 ^ 61)/\R (Itn i (i - j).toNat) H1
theorem sD {a b c:Expr}{ta:TA}{p pos:Pos} (hg:Gl X "range") (hm:X.mg "range" = none) (ha:PA X [a,b,c] ta) (hs:starEach [a,b,c] X.env=[(false,eval a X.env),(false,eval b X.env),(false,eval c X.env)]:=by rfl) (hs2:starEach [b,c] X.env=[(false,eval b X.env),(false,eval c X.env)]:=by rfl) :
  PI X tg (.Call (.Name "range" p) [a,b,c] [] pos) (BN ta):=by
 intro pins s σ H R I h
 refine Call_ (iD I hg hm boot_range (PyProof.Rows.callWith_type1 (thn (ha pos pins s σ H _ I h) λus s1 ⟨vs,H1,I1,r1,q1⟩=>?_) (by rw [hs,hs2]) (by rw [hs2];rfl)))
 obtain⟨i,j,e,⟨q1,q2,q3,q4⟩,q⟩:=q1
 subst e
 cases r1 with
 | cons r rr=>
  cases rr with
  | cons r' rr=>
   cases rr with
   | cons r2 rr=>
    cases rr
    obtain⟨t,rfl⟩:=r
    obtain⟨t',rfl⟩:=r'
    obtain⟨t2,rfl⟩:=r2
    exact call_range_3 (by decide) (yr I1 (pB q1 q2 q3 q4) q) (.inl (PyProof.noPylong_small (by decide)))
end
theorem wg {hi:Int}{n:Nat}{g:TG}{tb:TS}{D:Ends}{σ:St}{H:Hp} (Pv:Nat->St->Hp->Prop) (h0:Pv 0 σ H)
  (hs:∀i σ H,i < n->Pv i σ H->g (.int (hi - i)) σ H λσ2 H2=>tb { D with nx:=Pv (i+1),ct:=Pv (i+1),bk:=D.nx } σ2 H2) (hd:∀σ H,Pv n σ H->D.nx σ H) :
  ∃W:Nat->Nat->St->Hp->Prop,(∃m,W 0 m σ H)/\∀i m σ H,W i m σ H->
   ((Itn hi n).stop i H/\D.nx σ H)\/((Itn hi n).go i H/\∃N:St->Hp->Prop,(∀σ' H',N σ' H'->∃m',m' < m/\W (i+1) m' σ' H')/\∀x H',(Itn hi n).yld i H x H'->g x σ H' λσ2 H2=>tb { D with nx:=N,ct:=N,bk:=D.nx } σ2 H2):=by
 refine⟨λi m σ H=>m=n - i/\i<=n/\Pv i σ H,⟨n,rfl,Nat.zero_le _,h0⟩,?_⟩
 rintro i m σ H ⟨rfl,hi,p⟩
 rcases Nat.lt_or_eq_of_le hi with hlt | rfl
 ·refine .inr ⟨hlt,Pv (i+1),λσ' H' p'=>⟨n - (i+1),by omega,rfl,hlt,p'⟩,?_⟩
  rintro x H' ⟨rfl,rfl⟩
  exact hs i σ _ hlt p
 ·exact .inl ⟨Nat.le_refl _,hd σ H p⟩
end L2
namespace Mine
open PySem L2
variable {P:Program}{w:World}{K:W.Frag}{mg:Str->Option Value}{base:Heap}
theorem cA {X:Cx}{K:W.Frag}{e:Expr}{ta:TE}{f:Str}{pos:Pos} (h:X.K=K) (he:PE X e ta) (hb:attributeBase e f X.env (eval e X.env)=eval e X.env):PE X (.Attribute e f pos) (Bq K ta f):=by
 subst h
 exact bH he hb
theorem db {X:Cx}{K:W.Frag} (h:X.K=K):IxR X (xG K):=by
 subst h
 exact bp
noncomputable def dys (lo:Int) (n:Nat):List Int:=(List.range n).map λi:Nat=>lo+(i:Int)
theorem oN (lo:Int) (n:Nat):dys lo (n+1)=dys lo n++[lo+(n:Int)]:=by unfold dys;rw [List.range_succ,List.map_append];rfl
theorem fU (lo:Int) (n:Nat):(dys lo n).length=n:=by unfold dys;rw [List.length_map,List.length_range]
theorem jo {lo d:Int}{n:Nat}:d∈dys lo n↔lo<=d/\d < lo+n:=by
 unfold dys
 rw [List.mem_map]
 constructor
 ·rintro⟨i,hi,rfl⟩
  have:=List.mem_range.mp hi
  omega
 ·intro h
  exact⟨(d - lo).toNat,List.mem_range.mpr ‹1›,by omega⟩
def B8 (tt:TT) (te:TE) (sub:List Nat) (σ:St) (H:Hp) (p:Int->Bool) (g:Int->V) (d:Int):Prop:=
 (∀(H2:Hp) (R:Bool->Hp->Prop),aZ H H2->(∀H3,aZ H2 H3->R (p d) H3)->tt (some (.int d)::bP sub σ) H2 R)/\
 (p d=true->∀(H2:Hp) (R:VK),aZ H H2->(∀H3,aZ H2 H3->R (g d) H3)->te (some (.int d)::bP sub σ) H2 R)
def wU (H:Hp) (D:Addr) (p:Int->Bool) (g:Int->V) (xs:List Int) (ys:List V) (H2:Hp):Prop:=ys=(xs.filter p).map g/\aZ H H2/\H2 D=some (.lst ys)
theorem oW {tt:TT}{te:TE}{sub:List Nat}{σ:St}{H H2:Hp}{D:Addr}{p:Int->Bool}{g:Int->V}{d:Int}{xs:List Int}{ys:List V} (nD:H D=none) (h:B8 tt te sub σ H p g d) (hn:xs.length < 10000) (hh:wU H D p g xs ys H2) :
  tt (some (.int d)::bP sub σ) H2 λb H4=>if b=true then te (some (.int d)::bP sub σ) H4 λy H5=>H5 D=some (.lst ys)/\ys.length < sizeLine/\wU H D p g (xs++[d]) (ys++[y]) (upd H5 D (.lst (ys++[y]))) else wU H D p g (xs++[d]) ys H4:=by
 obtain⟨rfl,g2,e2⟩:=hh
 have lf:=List.length_filter_le p xs
 refine h.1 H2 _ g2 λH3 g3=>?_
 cases hp:p d with
 | false=>exact br ⟨by rw [List.filter_append];simp [hp],g2.trans g3,g3 _ _ e2⟩
 | true=>
  refine bJ (h.2 hp H3 _ (g2.trans g3) λH5 g5=>⟨g5 _ _ (g3 _ _ e2),?_,?_,λb o e=>?_,ai⟩)
  ·rw [List.length_map];exact Nat.lt_of_lt_of_le (show _ < 10000 by omega) (by decide)
  ·rw [List.filter_append];simp [hp]
  ·rw [ah (ao e nD)];exact g5 _ _ (g3 _ _ (g2 _ _ e))
theorem ii {lo:Int}{n:Nat}{sub:List Nat}{tt:TT}{te:TE}{σ:St}{Q:VK}{H:Hp} (p:Int->Bool) (g:Int->V) (hn:n < 10000)
  (hs:∀d,lo<=d->d < lo+n->B8 tt te sub σ H p g d)
  (hq:∀(D:Addr) (H':Hp),H D=none->aZ H H'->H' D=some (.lst (((dys lo n).filter p).map g))->Q (.ref D) H'):fL (Itr lo n) sub tt te σ Q H:=by
 intro D nD
 refine dJ (lo:=lo) (n:=n) (sub:=sub) (tt:=tt) (te:=te) (Q:=Q) (σ:=σ) (λi ys H2=>wU H D p g (dys lo i) ys H2) ⟨rfl,(laid nD).1,ai⟩ (λi ys H2 hi hh=>?_) λys H2 hh=>?_
 ·rw [oN]
  exact oW nD (hs _ ‹1› ‹1›) (by rw [fU];omega) hh
 ·obtain⟨rfl,g2,e2⟩:=hh
  exact hq D H2 nD g2 e2
theorem wG {K:W.Frag}{la:Addr}{xs:List Int}{sub:List Nat}{tt:TT}{te:TE}{σ:St}{Q:VK}{H:Hp} (p:Int->Bool) (g:Int->V) (hn:xs.length < 10000) (ha:H la=some (.lst (xs.map V.int)))
  (hs:∀d∈xs,B8 tt te sub σ H p g d)
  (hq:∀(D:Addr) (H':Hp),H D=none->aZ H H'->H' D=some (.lst ((xs.filter p).map g))->Q (.ref D) H'):fL (Itl K la) sub tt te σ Q H:=by
 intro D nD
 refine eK (K:=K) (a:=la) (xs:=xs.map V.int) (sub:=sub) (tt:=tt) (te:=te) (Q:=Q) (σ:=σ) (λi ys H2=>wU H D p g (xs.take i) ys H2) ⟨rfl,(laid nD).1,ai⟩ (λi ys H2 _ hh=>?_) (λi x ys H2 hi hh=>?_) λys H2 hh=>?_
 ·exact SqL.of (hh.2.1 _ _ ha)
 ·rw [List.getElem?_map]at hi
  obtain⟨d,hd,rfl⟩:=Option.map_eq_some_iff.mp hi
  rw [List.take_add_one,hd]
  exact oW nD (hs d (List.mem_of_getElem? hd)) (by rw [List.length_take];omega) hh
 ·obtain⟨rfl,g2,e2⟩:=hh
  rw [List.length_map,List.take_length]at e2
  exact hq D H2 nD g2 e2
noncomputable abbrev pL:Stmt:=aQ (top 21) 1
noncomputable abbrev pJ:Stmt:=aQ (top 21) 2
noncomputable abbrev pI:Stmt:=aQ (top 21) 3
noncomputable abbrev pM:Stmt:=aQ (top 22) 1
noncomputable abbrev pN:Stmt:=aQ (top 23) 1
noncomputable abbrev pK:Stmt:=aQ (top 23) 2
noncomputable abbrev pH:Stmt:=aQ (top 17) 5
noncomputable def lfK:Lf->Nat
 | .num _=>0
 | .val _ _=>1
 | .gth _ _ _ _=>2
 | .snc _ _ _ _=>3
 | .prt _ _ _ _=>4
 | .chg _ _ _ _=>5
noncomputable def rch (bd:Int):V->Bool
 | .int n=>decide (bd<=n)
 | _=>false
noncomputable def sncJ (g:Nat->Bool):Nat->Nat
 | 0=>0
 | n+1=>if g n=true then sncJ g n else n+1
theorem jC (g:Nat->Bool):∀n,sncJ g n<=n
 | 0=>Nat.le_refl _
 | n+1=>by
  unfold sncJ
  have:=jC g n
  split <;> omega
theorem mh {g:Nat->Bool}{k:Nat}:∀{n:Nat},k<=n->(∀m,k<=m->m < n->g m=true)->sncJ g n=sncJ g k
 | 0,h,_=>by rw [show k=0 by omega]
 | n+1,h,hg=>by
  by_cases e:k=n+1
  ·rw [e]
  ·rw [sncJ,if_pos (hg n ‹1› ‹1›)]
   exact mh ‹1› λm h1 h2=>hg m h1 ‹1›
noncomputable def cE (T:Str->Int->V) (k:Str) (bd f:Int):Nat->Bool:=λi=>rch bd (T k (f+(i:Int)))
noncomputable def gL (f:Int) (j n:Nat):V:=if j < n then .int (f+(j:Int)) else .non
noncomputable def dnP (k:Str) (l:Int) (n:Nat):List (Str × Int):=(List.range n).map λi:Nat=>(k,l - (i:Int))
noncomputable def cb (T:Str->Int->V) (k:Str) (f:Int) (n:Nat):List Int:=(dys (f+1) n).filter λd=>!decide (T k d=T k (d - 1))
noncomputable def xL (T:Str->Int->V) (a b:Str) (f:Int) (n:Nat):List Int:=(dys f n).filter λd=>!decide (T a d=T b d)
noncomputable def oE:Option Int->V
 | some d=>.int d
 | none=>.non
noncomputable def BH:Lf->List (Str × Int)
 | .val k d=>[(k,d)]
 | .gth _ ks f l=>(bD ks).flatMap λk=>aK k f (len2 f l)
 | .snc k _ f l=>aK k f (len2 f l)
 | .prt a b f l=>aK a f (len2 f l)++aK b f (len2 f l)
 | .chg _ k f l=>aK k f (len2 f l)
 | .num _=>[]
noncomputable def qt (T:Str->Int->V):Lf->List (Str × Int)
 | .snc k bd f l=>dnP k l (len2 f l - (sncJ (cE T k bd f) (len2 f l) - 1))
 | .chg r k f l=>match (cb T k f (len2 f l - 1))[(r - 1).toNat]? with
  | some d=>aK k f (d - f+1).toNat
  | none=>aK k f (len2 f l)
 | l=>BH l
noncomputable def fY (T:Str->Int->V):Lf->V
 | .num z=>.int z
 | .val k d=>T k d
 | .gth w ks f l=>gat w (Cn (iV T ((bD ks).flatMap λk=>aK k f (len2 f l))))
 | .snc k bd f l=>gL f (sncJ (cE T k bd f) (len2 f l)) (len2 f l)
 | .prt a b f l=>.int (xL T a b f (len2 f l)).length
 | .chg r k f l=>oE (cb T k f (len2 f l - 1))[(r - 1).toNat]?
inductive PlI (A:(Str->Int->V)->Lf->V) (R:(Str->Int->V)->Lf->List (Str × Int)) (c:Cs) (l:Lf) (x f:Addr) (H:Hp) (Q:VK):Prop
 | mk (la tb:Addr) (kvs:List (List Key × V)) (rs:List RZ) (hx:LfX c l H x) (ok:eL l) (T:TeA f la tb kvs H rs) (tab:zA kvs) (hl:rs.length < 80000) (q:∀(rs':List RZ) (H':Hp),Off la H H'->Askd H' la rs'->prs rs'=prs rs++R (tel kvs) l->Q (A (tel kvs) l) H'):PlI A R c l x f H Q
noncomputable def sk (c:Cs) (n:Nat):Sp:=λvs H Q _=>∃(x f:Addr) (l:Lf),vs=[.ref x,.ref f]/\lfK l=n/\PlI fY (λ_=>BH) c l x f H Q
inductive VPl (c:Cs):Addr->Sp->Prop
 | mk (l0:Lf) (h:3<=lfK l0):VPl c (lfC c l0) (sk c (lfK l0))
theorem ow {l:Lf}{ln:Addr}{m:Str} (hm:m∉cS):(mN l ln).lookup m=none:=Ai hm (oy l ln)
noncomputable def iZ (c:Cs):Sp:=λvs H Q _=>∃(x:Addr) (v:V) (k:Str) (bd f l:Int),vs=[.ref x,v]/\iY v/\(∃dx ln,H x=some (.ins c.snc dx (mN (.snc k bd f l) ln)))/\Q (.bl (rch bd v)) H
inductive VRe (c:Cs):Addr->Sp->Prop
 | mk:VRe c c.snc (iZ c)
theorem jd {rs:List RZ}{ps:List (Str × Int)}{qs:List (Str × Int)} (h:prs rs=ps++qs):rs.length=ps.length+qs.length:=by
 have:=congrArg List.length h
 unfold prs at this
 rw [List.length_map,List.length_append]at this
 exact this
theorem lm (rs:List RZ):(prs rs).length=rs.length:=List.length_map _
theorem gE (k:Str) (f:Int) (n:Nat):(aK k f n).length=n:=by unfold aK;rw [List.length_map,List.length_range]
theorem qB (k:Str) (f:Int) (n:Nat):aK k f (n+1)=aK k f n++[(k,f+n)]:=by unfold aK;rw [List.range_succ,List.map_append];rfl
theorem Cu (k:Str) (l:Int) (n:Nat):dnP k l (n+1)=dnP k l n++[(k,l - n)]:=by unfold dnP;rw [List.range_succ,List.map_append];rfl
theorem Cv (k:Str) (f:Int) (n:Nat):(dnP k f n).length=n:=by unfold dnP;rw [List.length_map,List.length_range]
theorem xr:FnScope ["self", "value"] ["self", "value"] (au pI):=‹2›
theorem vp {f:Addr}{fd:FuncData} (F:Fun K "reaches" "Since.reaches" pI f fd){c:Cs} (VQ:∀C∈c.all,QuC K C):FnOk P w K mg base CX0 1 f fd ["self", "value"] (iZ c):=by
 refine F.ok (k:=0) xr (λvs H Q E h=>?_) (λcdv A outer s H vs Q E hr h=>?_)
 ·obtain⟨x,v,k,bd,f0,l0,rfl,_⟩:=h
  rfl
 ·obtain⟨x,v,k,bd,f0,l0,rfl,hv,hx,q⟩:=h
  have hu:=aP hr
  refine⟨_,(aq (aB (fw (mH (re (pv 1))) (fo (c9 ze (pv 1) (bH (pv 0) rfl) (aV _)))))),?_⟩
  obtain⟨dx,ln,h1⟩:=hx
  have T:=VQ _ (eV c (.snc k bd f0 l0))
  refine aF ?_
  rcases hv with rfl | ⟨n,rfl⟩
  ·exact⟨_,rfl,_,rfl,br q⟩
  ·exact⟨_,rfl,_,rfl,bJ ⟨_,rfl,_,rfl,x,c.snc,dx,_,_,rfl,h1,T.cl,T.a_bound,rfl,n,bd,rfl,rfl,q⟩⟩
inductive SpI (H:Hp) (x f la tb:Addr) (kvs:List (List Key × V)) (rs:List RZ) (k:Str) (bd f0:Int) (i:Nat) (σ:St) (H2:Hp):Prop
 | mk (v3:Option V) (rs2:List RZ) (h1:σ=[some (.ref x),some (.ref f),some (gL f0 (sncJ (cE (tel kvs) k bd f0) i) i),v3]) (h2:Off la H H2) (h3:TeA f la tb kvs H2 rs2) (h4:prs rs2=prs rs++aK k f0 i):SpI H x f la tb kvs rs k bd f0 i σ H2
theorem gP:FnScope ["self", "told", "start", "day"] ["self", "told"] (au pL):=‹2›
theorem vw {f:Addr}{fd:FuncData} (F:Fun K "plain" "Since.plain" pL f fd) (N:Free mg){c:Cs} (VQ:∀C∈c.all,QuC K C) (VE:∀C sp,VRe c C sp->MV P w K mg base CX0 "reaches" 1 ["self", "value"] sp C):FnOk P w K mg base CX0 3 f fd ["self", "told"] (sk c 3):=by
 refine F.ok (k:=2) gP (λvs H Q E h=>?_) (λcdv A outer s H vs Q E hr h=>?_)
 ·obtain⟨x,f,l,rfl,_⟩:=h
  rfl
 ·obtain⟨x,f,l,rfl,hk,⟨la,tb,kvs,rs,hx,ok,hT,tab,hl,q⟩⟩:=h
  have hu:=aP hr
  refine⟨_,(af (aA (i:=2) gP.nd rfl (Or.inl rfl) dC)
   (af (ed PassesOwn.never rfl (bX rfl N.range (aa (bH (pv 0) rfl) (aa (aH bw (bH (pv 0) rfl) aj) ae))) (aI (i:=3) gP.nd rfl (Or.inl rfl))
   (aq (bx (dZ (dB (fq VE (pv 0) (hr.mono (by decide)) av (aa (fu eC (pv 1) (hr.mono (by decide)) av (aa (bH (pv 0) rfl) (aa (pv 3) ae))) ae)))) (aq (aA (i:=2) gP.nd rfl (Or.inl rfl) dC)) (aq (bx (mG (iB (pv 2))) (aq (aA (i:=2) gP.nd rfl (Or.inl rfl) (pv 3))) aL)))))
   (aq (aB (pv 2))))),?_⟩
  cases l with
  | snc k bd f0 l0=>
   obtain⟨dx,ln,h1,h2⟩:=id hx
   have T:=VQ _ (eV c (.snc k bd f0 l0))
   obtain⟨hk1,hb,d0,d1,d2⟩:=id ok
   have nxl:x≠la:=λz=>by obtain⟨xs,e⟩:=hT.lst;rw [<- z,h1]at e;cases e
   have hn:len2 f0 l0<=400:=by unfold len2;omega
   refine ag (aw ?_)
   walk_at "d"
   refine ag ⟨_,rfl,x,c.snc,dx,_,_,rfl,h1,T.cl,T.a_first,rfl,_,rfl,x,c.snc,dx,_,_,rfl,h1,T.cl,T.a_last,rfl,_,_,rfl,rfl,f0,l0+1,rfl,⟨by omega,by omega,by omega,by omega⟩,cX (lo:=f0) (n:=len2 f0 l0) (SpI H x f la tb kvs rs k bd f0) ⟨none,rs,rfl,(λ_ _ e _=>e),hT,(List.append_nil _).symm⟩ (λi σ H2 hi hh=>?_) λσ H2 hh=>?_⟩
   ·obtain⟨v3,rs2,rfl,o2,t2,p2⟩:=hh
    have hl2:=jd p2
    rw [lm,gE]at hl2
    walk_at "d"
    have h12:=o2 _ _ h1 nxl
    obtain⟨tt,ht,ha⟩:=id t2
    refine aO ⟨_,rfl,x,c.snc,dx,_,iZ c,rfl,h12,.mk,ow ‹0›,_,rfl,f,_,rfl,⟨la,tb,kvs,rfl⟩,tt.fn,_,rfl,x,c.snc,dx,_,_,rfl,h12,T.cl,T.a_key,rfl,_,rfl,tt.fn,k,f0+i,rs2,rfl,tt,ht,ha,by omega,λp H3 _ o3 a3=>?_⟩
    have t3:=t2.off o3 a3
    have p3:prs (rs2++[((k,f0+(i:Int)),p)])=prs rs++aK k f0 (i+1):=by
     rw [qB,<- List.append_assoc,<- p2]
     unfold prs
     rw [List.map_append]
     rfl
    have o23:=o2.trans o3
    refine⟨x,_,k,bd,f0,l0,rfl,tab _ _,⟨dx,ln,o3 _ _ h12 nxl⟩,?_⟩
    have hj:=jC (cE (tel kvs) k bd f0) i
    have eg:rch bd (tel kvs k (f0+(i:Int)))=cE (tel kvs) k bd f0 i:=rfl
    rw [eg]
    have es:sncJ (cE (tel kvs) k bd f0) (i+1)=if cE (tel kvs) k bd f0 i=true then sncJ (cE (tel kvs) k bd f0) i else i+1:=rfl
    cases hg:cE (tel kvs) k bd f0 i with
    | false=>
     refine⟨_,rfl,bJ (aw ?_)⟩
     walk_at "d"
     rw [hg,if_neg Bool.false_ne_true]at es
     refine⟨some (.int (f0+(i:Int))),_,?_,o23,t3,p3⟩
     rw [es]
     unfold gL
     rw [if_neg (Nat.lt_irrefl _)]
    | true=>
     rw [hg,if_pos rfl]at es
     refine⟨_,rfl,br (aO ?_)⟩
     unfold gL
     by_cases hz:sncJ (cE (tel kvs) k bd f0) i < i
     ·rw [if_pos hz]
      refine⟨_,rfl,_,rfl,br (aD ?_)⟩
      refine⟨some (.int (f0+(i:Int))),_,?_,o23,t3,p3⟩
      unfold gL
      rw [es,if_pos ‹1›]
     ·rw [if_neg hz]
      refine⟨_,rfl,_,rfl,bJ (aw ⟨_,rfl,?_⟩)⟩
      walk_at "d"
      refine⟨some (.int (f0+(i:Int))),_,?_,o23,t3,p3⟩
      unfold gL
      rw [es,if_pos ‹1›,show sncJ (cE (tel kvs) k bd f0) i=i by omega]
   ·obtain⟨v3,rs2,rfl,o2,t2,p2⟩:=hh
    dsimp only
    refine aF ?_
    obtain⟨_,_,a2⟩:=t2
    exact⟨_,rfl,q rs2 H2 o2 a2 p2⟩
  | _=>cases hk
noncomputable def dnS (l:Int):Nat->V
 | 0=>.non
 | i+1=>.int (l - (i:Int))
noncomputable def tX (c:Cs) (n:Nat):Sp:=λvs H Q _=>∃(x f:Addr) (l:Lf),vs=[.ref x,.ref f]/\lfK l=n/\3<=lfK l/\PlI fY qt c l x f H Q
inductive SrI (H:Hp) (x f la tb:Addr) (kvs:List (List Key × V)) (rs:List RZ) (k:Str) (bd f0 l0:Int) (i:Nat) (σ:St) (H2:Hp):Prop
 | mk (v3:Option V) (rs2:List RZ) (h1:σ=[some (.ref x),some (.ref f),some (dnS l0 i),v3]) (h2:Off la H H2) (h3:TeA f la tb kvs H2 rs2) (h4:prs rs2=prs rs++dnP k l0 i) (h5:∀m,len2 f0 l0 - i<=m->m < len2 f0 l0->cE (tel kvs) k bd f0 m=true):SrI H x f la tb kvs rs k bd f0 l0 i σ H2
theorem qV {f0 l0:Int}{i:Nat} (h1:f0<=l0) (hi:i<=len2 f0 l0):gL f0 (len2 f0 l0 - i) (len2 f0 l0)=dnS l0 i:=by
 unfold gL
 cases i with
 | zero=>rw [if_neg ‹1›];rfl
 | succ i=>
  have hl:(len2 f0 l0:Int)=l0+1 - f0:=by unfold len2;omega
  rw [if_pos ‹1›]
  show V.int _=V.int _
  congr 1
  omega
theorem j8:FnScope ["self", "told", "start", "day"] ["self", "told"] (au pJ):=‹2›
theorem vq {f:Addr}{fd:FuncData} (F:Fun K "read" "Since.read" pJ f fd) (N:Free mg){c:Cs} (VQ:∀C∈c.all,QuC K C) (VE:∀C sp,VRe c C sp->MV P w K mg base CX0 "reaches" 1 ["self", "value"] sp C):FnOk P w K mg base CX0 3 f fd ["self", "told"] (tX c 3):=by
 refine F.ok (k:=2) j8 (λvs H Q E h=>?_) (λcdv A outer s H vs Q E hr h=>?_)
 ·obtain⟨x,f,l,rfl,_⟩:=h
  rfl
 ·obtain⟨x,f,l,rfl,hk,_,⟨la,tb,kvs,rs,hx,ok,hT,tab,hl,q⟩⟩:=h
  have hu:=aP hr
  refine⟨_,(af (aA (i:=2) j8.nd rfl (Or.inl rfl) dC)
   (af (ed PassesOwn.never rfl (sD rfl N.range (aa (bH (pv 0) rfl) (aa (aH dg (bH (pv 0) rfl) aj) (aa (zc tK aj) ae)))) (aI (i:=3) j8.nd rfl (Or.inl rfl))
   (af (bx (dZ (dB (fq VE (pv 0) (hr.mono (by decide)) av (aa (fu eC (pv 1) (hr.mono (by decide)) av (aa (bH (pv 0) rfl) (aa (pv 3) ae))) ae)))) (aq (aB (pv 2))) aL)
   (aq (aA (i:=2) j8.nd rfl (Or.inl rfl) (pv 3)))))
   (aq (aB (pv 2))))),?_⟩
  cases l with
  | snc k bd f0 l0=>
   obtain⟨dx,ln,h1,h2⟩:=id hx
   have T:=VQ _ (eV c (.snc k bd f0 l0))
   obtain⟨hk1,hb,d0,d1,d2⟩:=id ok
   have nxl:x≠la:=λz=>by obtain⟨xs,e⟩:=hT.lst;rw [<- z,h1]at e;cases e
   have hn:len2 f0 l0<=400:=by unfold len2;omega
   have hl0:(len2 f0 l0:Int)=l0+1 - f0:=by unfold len2;omega
   have en:(l0 - (f0 - 1)).toNat=len2 f0 l0:=by unfold len2;omega
   refine ag (aw ?_)
   walk_at "d"
   refine ag ⟨_,rfl,x,c.snc,dx,_,_,rfl,h1,T.cl,T.a_last,rfl,_,rfl,x,c.snc,dx,_,_,rfl,h1,T.cl,T.a_first,rfl,_,_,rfl,rfl,_,rfl,l0,f0 - 1,rfl,⟨by omega,by omega,by omega,by omega⟩,?_⟩
   rw [en]
   refine wg (hi:=l0) (n:=len2 f0 l0) (SrI H x f la tb kvs rs k bd f0 l0) ⟨none,rs,rfl,(λ_ _ e _=>e),hT,(List.append_nil _).symm,λm h1 h2=>absurd h2 ‹1›⟩ (λi σ H2 hi hh=>?_) λσ H2 hh=>?_
   ·obtain⟨v3,rs2,rfl,o2,t2,p2,hg2⟩:=hh
    have hl2:=jd p2
    rw [lm,Cv]at hl2
    walk_at "d"
    have h12:=o2 _ _ h1 nxl
    obtain⟨tt,ht,ha⟩:=id t2
    refine ag (aO ⟨_,rfl,x,c.snc,dx,_,iZ c,rfl,h12,.mk,ow ‹0›,_,rfl,f,_,rfl,⟨la,tb,kvs,rfl⟩,tt.fn,_,rfl,x,c.snc,dx,_,_,rfl,h12,T.cl,T.a_key,rfl,_,rfl,tt.fn,k,l0 - i,rs2,rfl,tt,ht,ha,by omega,λp H3 _ o3 a3=>?_⟩)
    have t3:=t2.off o3 a3
    have p3:prs (rs2++[((k,l0 - (i:Int)),p)])=prs rs++dnP k l0 (i+1):=by
     rw [Cu,<- List.append_assoc,<- p2]
     unfold prs
     rw [List.map_append]
     rfl
    have o23:=o2.trans o3
    refine⟨x,_,k,bd,f0,l0,rfl,tab _ _,⟨dx,ln,o3 _ _ h12 nxl⟩,?_⟩
    have ei:l0 - (i:Int)=f0+((len2 f0 l0 - (i+1):Nat):Int):=by omega
    have eg:rch bd (tel kvs k (l0 - (i:Int)))=cE (tel kvs) k bd f0 (len2 f0 l0 - (i+1)):=by rw [ei];rfl
    rw [eg]
    cases hg:cE (tel kvs) k bd f0 (len2 f0 l0 - (i+1)) with
    | false=>
     refine⟨_,rfl,bJ (aF ⟨_,rfl,?_⟩)⟩
     have ej:sncJ (cE (tel kvs) k bd f0) (len2 f0 l0)=len2 f0 l0 - i:=by
      rw [mh (k:=len2 f0 l0 - i) ‹1› hg2,show len2 f0 l0 - i=(len2 f0 l0 - (i+1))+1 by omega,sncJ,if_neg (by rw [hg];exact Bool.false_ne_true)]
     have q':=q _ H3 o23 a3 (by
      rw [p3]
      show _=_++dnP k l0 _
      rw [ej,show len2 f0 l0 - (len2 f0 l0 - i - 1)=i+1 by omega])
     have e9:fY (tel kvs) (.snc k bd f0 l0)=dnS l0 i:=by
      show gL _ _ _=_
      rw [ej]
      exact qV d1 ‹1›
     rw [e9]at q'
     exact q'
    | true=>
     refine⟨_,rfl,br (aD ?_)⟩
     dsimp only
     refine aw ⟨_,rfl,?_⟩
     walk_at "d"
     refine⟨some (.int (l0 - (i:Int))),_,rfl,o23,t3,p3,λm m1 m2=>?_⟩
     by_cases e:m=len2 f0 l0 - (i+1)
     ·rw [e];exact hg
     ·exact hg2 m ‹1› m2
   ·obtain⟨v3,rs2,rfl,o2,t2,p2,hg2⟩:=hh
    dsimp only
    obtain⟨_,_,a2⟩:=t2
    have ej:sncJ (cE (tel kvs) k bd f0) (len2 f0 l0)=0:=by
     rw [mh (k:=0) ‹1› λm _ h=>hg2 m ‹1› h]
     rfl
    have q':=q rs2 H2 o2 a2 (by
     rw [p2]
     show _=_++dnP k l0 _
     rw [ej]
     rfl)
    have e9:fY (tel kvs) (.snc k bd f0 l0)=dnS l0 (len2 f0 l0):=by
     show gL _ _ _=_
     rw [ej,<- qV d1 (Nat.le_refl _),Nat.sub_self]
    rw [e9]at q'
    exact aF ⟨_,rfl,q'⟩
  | _=>cases hk
theorem mC {T:Str->Int->V}{k:Str}{f d:Int}{n:Nat} (h0:0<=d) (h1:d < n):atI (iV T (aK k f n)) d=some (T k (f+d)):=by
 have e:d=((d.toNat:Nat):Int):=by omega
 rw [e]
 refine dY ?_
 unfold iV aK
 rw [List.map_map,List.getElem?_map,List.getElem?_range ‹1›]
 rfl
theorem fN (T:Str->Int->V) (k:Str) (f:Int) (n:Nat):(iV T (aK k f n)).length=n:=by unfold iV;rw [List.length_map,gE]
theorem rF (a b:Int) (n:Nat):dys (a+b) n=(dys b n).map λd=>a+d:=by
 unfold dys
 rw [List.map_map]
 refine List.map_congr_left λi _=>?_
 show a+b+(i:Int)=a+(b+(i:Int))
 omega
theorem gO {u v:V} (h1:iY u) (h2:iY v):zQ u v=true:=by
 rcases h1 with rfl | ⟨m,rfl⟩ <;> rcases h2 with rfl | ⟨n,rfl⟩ <;> rfl
theorem mn:FnScope ["self", "told", "row", "beside"] ["self", "told"] (au pM):=‹2›
theorem vx {f f1:Addr}{fd:FuncData} (F:Fun K "plain" "Part.plain" pM f fd) (N:Free mg){c:Cs} (VQ:∀C∈c.all,QuC K C){fd1:FuncData} (CT:Cal P w K mg base "tellings" 3 ["told", "key", "first", "last"] gi f1 fd1):FnOk P w K mg base CX0 4 f fd ["self", "told"] (sk c 4):=by
 refine F.ok (k:=3) mn (λvs H Q E h=>?_) (λcdv A outer s H vs Q E hr h=>?_)
 ·obtain⟨x,f,l,rfl,_⟩:=h
  rfl
 ·obtain⟨x,f,l,rfl,hk,⟨la,tb,kvs,rs,hx,ok,hT,tab,hl,q⟩⟩:=h
  have hu:=aP hr
  refine⟨_,(af (aA (i:=2) mn.nd rfl (Or.inr rfl) (ay CT.ok (hr.mono (by decide)) rfl CT.nm CT.kp CT.bd .nil av (aa (pv 1) (aa (bH (pv 0) rfl) (aa (bH (pv 0) rfl) (aa (bH (pv 0) rfl) ae))))))
   (af (aA (i:=3) mn.nd rfl (Or.inr rfl) (ay CT.ok (hr.mono (by decide)) rfl CT.nm CT.kp CT.bd .nil av (aa (pv 1) (aa (bH (pv 0) rfl) (aa (bH (pv 0) rfl) (aa (bH (pv 0) rfl) ae))))))
   (aq (aB (aE aJ (by rfl) N.len PySem.boot_len (aa (dS (bh rfl (cV rfl N.range (aa (aE aJ (by rfl) N.len PySem.boot_len (aa (pv 2) ae)) ae)) rfl rfl (by show ∀p∈_,eN [‹"row"›, ‹"beside"›] p;decide) (by decide) rfl (by show ([‹"place"›, ‹"row"›, ‹"beside"›]:List Str).Nodup;decide) (.cons (i:=2) rfl (.inr (.inl rfl)) (by show (some NameKind.cell)≠some NameKind.local;decide) (.inl rfl) rfl (.cons (i:=3) rfl (.inr (.inl rfl)) (by show (some NameKind.cell)≠some NameKind.local;decide) (.inl rfl) rfl .nil)) (λC fp s H=>(gR (aN lr (bv (db (K:=K) rfl) (pv 1) (pv 0) (λ_ _=>rfl)) (bv (db (K:=K) rfl) (pv 2) (pv 0) (λ_ _=>rfl)) (aV _)))) (λC fp s H=>(pv 0)))) ae)))))),?_⟩
  cases l with
  | prt ka kb f0 l0=>
   obtain⟨dx,ln,h1,h2⟩:=id hx
   have T:=VQ _ (eV c (.prt ka kb f0 l0))
   obtain⟨hk1,hk2,hd⟩:=id ok
   obtain⟨d0,d1,d2⟩:=id hd
   have nxl:x≠la:=λz=>by obtain⟨xs,e⟩:=hT.lst;rw [<- z,h1]at e;cases e
   have hn:len2 f0 l0<=400:=by unfold len2;omega
   refine ag (aw ⟨_,rfl,_,rfl,x,c.prt,dx,_,_,rfl,h1,T.cl,T.a_one,rfl,_,rfl,x,c.prt,dx,_,_,rfl,h1,T.cl,T.a_first,rfl,_,rfl,x,c.prt,dx,_,_,rfl,h1,T.cl,T.a_last,rfl,f,la,tb,kvs,rs,ka,f0,l0,rfl,hT,hd,by omega,λD1 H1 rs1 nD1 o1 a1 p1 e1=>?_⟩)
   walk_at "d"
   have t1:=hT.off o1 a1
   have hl1:=jd p1
   rw [lm,gE]at hl1
   have h11:=o1 _ _ h1 nxl
   have nD1l:D1≠la:=λz=>by obtain⟨xs,e⟩:=hT.lst;rw [z,e]at nD1;cases nD1
   refine ag (aw ⟨_,rfl,_,rfl,x,c.prt,dx,_,_,rfl,h11,T.cl,T.a_other,rfl,_,rfl,x,c.prt,dx,_,_,rfl,h11,T.cl,T.a_first,rfl,_,rfl,x,c.prt,dx,_,_,rfl,h11,T.cl,T.a_last,rfl,f,la,tb,kvs,rs1,kb,f0,l0,rfl,t1,hd,by omega,λD2 H2 rs2 nD2 o2 a2 p2 e2=>?_⟩)
   walk_at "d"
   have t2:=t1.off o2 a2
   have e12:=o2 _ _ e1 nD1l
   refine aF (r6 (bZ (bQ ⟨_,rfl,D1,_,rfl,.inl (SqL.of e12),_,rfl,by rw [fN];omega,by rw [fN];omega,?_⟩)))
   rw [fN,Int.toNat_natCast]
   refine ii (lo:=0) (n:=len2 f0 l0) (λd=>!decide (tel kvs ka (f0+d)=tel kvs kb (f0+d))) V.int ‹1› (λd hd0 hd1=>⟨λH3 R g3 hR=>?_,λ_ H3 R g3 hR=>⟨_,rfl,hR _ (λ_ _ e=>e)⟩⟩) λD H3 nD g3 e3=>?_
   ·exact⟨_,rfl,_,rfl,D1,_,d,_,rfl,rfl,SqL.of (g3 _ _ e12),mC hd0 ‹1›,_,rfl,_,rfl,D2,_,d,_,rfl,rfl,SqL.of (g3 _ _ e2),mC hd0 ‹1›,gO (tab _ _) (tab _ _),_,rfl,hR _ (λ_ _ e=>e)⟩
   ·have o3:Off la H H3:=λb o e n=>g3 _ _ (o2 _ _ (o1 _ _ e n) n)
    obtain⟨_,_,a3⟩:=t2.grow g3
    have q':=q rs2 H3 o3 a3 (by rw [p2,p1,List.append_assoc];rfl)
    refine⟨D,_,rfl,.inl (SqL.of e3),?_⟩
    have e9:fY (tel kvs) (.prt ka kb f0 l0)=.int ((((dys 0 (len2 f0 l0)).filter λd=>!decide (tel kvs ka (f0+d)=tel kvs kb (f0+d))).map V.int).length:Int):=by
     show V.int ((xL _ _ _ _ _).length:Int)=_
     unfold xL
     rw [show dys f0 (len2 f0 l0)=dys (f0+0) (len2 f0 l0) from by rw [Int.add_zero],rF,List.filter_map,List.length_map,List.length_map]
     rfl
    rw [e9]at q'
    exact q'
  | _=>cases hk
theorem xq:FnScope ["self", "told"] ["self", "told"] (au pH):=‹2›
theorem vo {f:Addr}{fd:FuncData} (F:Fun K "read" "Question.read" pH f fd){c:Cs} (VP:∀C sp,VPl c C sp->MV P w K mg base CX0 "plain" 4 ["self", "told"] sp C):FnOk P w K mg base CX0 5 f fd ["self", "told"] (tX c 4):=by
 refine F.ok (k:=4) xq (λvs H Q E h=>?_) (λcdv A outer s H vs Q E hr h=>?_)
 ·obtain⟨x,f,l,rfl,_⟩:=h
  rfl
 ·obtain⟨x,f,l,rfl,hk,_,⟨la,tb,kvs,rs,hx,ok,hT,tab,hl,q⟩⟩:=h
  have hu:=aP hr
  refine⟨_,(aq (aB (fq VP (pv 0) (hr.mono (by decide)) av (aa (pv 1) ae)))),?_⟩
  cases l with
  | prt ka kb f0 l0=>
   obtain⟨dx,ln,h1,h2⟩:=id hx
   exact aF ⟨_,rfl,x,c.prt,dx,_,sk c 4,rfl,h1,.mk (.prt ka kb f0 l0) (by show 3<=4;decide),ow ‹0›,_,rfl,x,f,.prt ka kb f0 l0,rfl,rfl,la,tb,kvs,rs,hx,ok,hT,tab,hl,q⟩
  | _=>cases hk
theorem zw (T:Str->Int->V) (k:Str) (f:Int) (i:Nat):cb T k f (i+1)=cb T k f i++(if T k (f+1+(i:Int))=T k (f+(i:Int)) then [] else [f+1+(i:Int)]):=by
 unfold cb
 rw [oN,List.filter_append]
 congr 1
 rw [List.filter_cons,show f+1+(i:Int) - 1=f+i by omega]
 by_cases h:T k (f+1+(i:Int))=T k (f+(i:Int))
 ·rw [if_pos h,decide_eq_true h];rfl
 ·rw [if_neg h,decide_eq_false h];rfl
theorem rP (T:Str->Int->V) (k:Str) (f:Int){i:Nat}:∀{n:Nat},i<=n->∃r,cb T k f n=cb T k f i++r
 | 0,h=>⟨[],by rw [show i=0 by omega,List.append_nil]⟩
 | n+1,h=>by
  by_cases e:i=n+1
  ·exact⟨[],by rw [e,List.append_nil]⟩
  ·obtain⟨r,hr⟩:=rP T k f (n:=n) (i:=i) ‹1›
   exact⟨_,by rw [zw,hr,List.append_assoc]⟩
theorem yy (T:Str->Int->V) (k:Str) (f:Int) (n:Nat):(((dys 1 n).filter λd=>!decide (T k (f+d)=T k (f+d - 1))).map λd=>V.int (f+d))=(cb T k f n).map V.int:=by
 unfold cb
 rw [rF,List.filter_map,List.map_map]
 rfl
theorem mo:FnScope ["self", "told", "row", "days"] ["self", "told"] (au pN):=‹2›
theorem vy {f f1:Addr}{fd:FuncData} (F:Fun K "plain" "Change.plain" pN f fd) (N:Free mg){c:Cs} (VQ:∀C∈c.all,QuC K C){fd1:FuncData} (CT:Cal P w K mg base "tellings" 3 ["told", "key", "first", "last"] gi f1 fd1):FnOk P w K mg base CX0 4 f fd ["self", "told"] (sk c 5):=by
 refine F.ok (k:=3) mo (λvs H Q E h=>?_) (λcdv A outer s H vs Q E hr h=>?_)
 ·obtain⟨x,f,l,rfl,_⟩:=h
  rfl
 ·obtain⟨x,f,l,rfl,hk,⟨la,tb,kvs,rs,hx,ok,hT,tab,hl,q⟩⟩:=h
  have hu:=aP hr
  refine⟨_,(af (aA (i:=2) mo.nd rfl (Or.inr rfl) (ay CT.ok (hr.mono (by decide)) rfl CT.nm CT.kp CT.bd .nil av (aa (pv 1) (aa (cA (K:=K) rfl (pv 0) rfl) (aa (cA (K:=K) rfl (pv 0) rfl) (aa (cA (K:=K) rfl (pv 0) rfl) ae))))))
   (af (jb (i:=3) mo.nd rfl (Or.inl rfl) (bh rfl (bX rfl N.range (aa aj (aa (aE aJ (by rfl) N.len PySem.boot_len (aa (pv 2) ae)) ae))) rfl rfl (by show ∀p∈_,eN [‹"self"›, ‹"row"›] p;decide) (by decide) rfl (by show ([‹"place"›, ‹"self"›, ‹"row"›]:List Str).Nodup;decide) (.cons (i:=0) rfl (.inr (.inl rfl)) (by show (some NameKind.cell)≠some NameKind.local;decide) (.inl rfl) rfl (.cons (i:=2) rfl (.inr (.inl rfl)) (by show (some NameKind.cell)≠some NameKind.local;decide) (.inl rfl) rfl .nil)) (λC fp s H=>(gR (aN lr (bv (db (K:=K) rfl) (pv 2) (pv 0) (λ_ _=>rfl)) (bv (db (K:=K) rfl) (pv 2) (aH dg (pv 0) aj) (λ_ _=>rfl)) (aV _)))) (λC fp s H=>(aH bw (cA (K:=K) rfl (pv 1) rfl) (pv 0)))))
   (aq (aB (jM (aN jP (cA (K:=K) rfl (pv 0) rfl) (aE aJ (by rfl) N.len PySem.boot_len (aa (pv 3) ae)) (aV _)) (bv (db (K:=K) rfl) (pv 3) (aH dg (cA (K:=K) rfl (pv 0) rfl) aj) (λ_ _=>rfl)) dC))))),?_⟩
  cases l with
  | chg r k f0 l0=>
   obtain⟨dx,ln,h1,h2⟩:=id hx
   have T:=VQ _ (eV c (.chg r k f0 l0))
   obtain⟨⟨hr1,hr2⟩,hk2,hd⟩:=id ok
   obtain⟨d0,d1,d2⟩:=id hd
   have nxl:x≠la:=λz=>by obtain⟨xs,e⟩:=hT.lst;rw [<- z,h1]at e;cases e
   have hn:len2 f0 l0<=400:=by unfold len2;omega
   have hn1:1<=len2 f0 l0:=by unfold len2;omega
   refine ag (aw ⟨_,rfl,_,rfl,x,c.chg,dx,_,_,rfl,h1,T.cl,T.a_key,rfl,_,rfl,x,c.chg,dx,_,_,rfl,h1,T.cl,T.a_first,rfl,_,rfl,x,c.chg,dx,_,_,rfl,h1,T.cl,T.a_last,rfl,f,la,tb,kvs,rs,k,f0,l0,rfl,hT,hd,by omega,λD1 H1 rs1 nD1 o1 a1 p1 e1=>?_⟩)
   walk_at "d"
   have t1:=hT.off o1 a1
   have h11:=o1 _ _ h1 nxl
   refine ag (aw (bQ ⟨_,rfl,D1,_,rfl,.inl (SqL.of e1),1,_,rfl,⟨by omega,by omega,by rw [fN];omega,by rw [fN];omega⟩,?_⟩))
   rw [fN,show ((len2 f0 l0:Nat) - 1:Int).toNat=len2 f0 l0 - 1 by omega]
   refine ii (lo:=1) (n:=len2 f0 l0 - 1) (λd=>!decide (tel kvs k (f0+d)=tel kvs k (f0+d - 1))) (λd=>V.int (f0+d)) ‹1› (λd hd0 hd1=>⟨λH3 R g3 hR=>?_,λ_ H3 R g3 hR=>?_⟩) λD H3 nD g3 e3=>?_
   ·have ex:f0+(d - 1)=f0+d - 1:=by omega
    have ea:=mC (T:=tel kvs) (k:=k) (f:=f0) (d:=d - 1) (n:=len2 f0 l0) ‹1› ‹1›
    rw [ex]at ea
    exact⟨_,rfl,_,rfl,D1,_,d,_,rfl,rfl,SqL.of (g3 _ _ e1),mC ‹1› ‹1›,_,rfl,_,rfl,_,_,rfl,rfl,D1,_,d - 1,_,rfl,rfl,SqL.of (g3 _ _ e1),ea,gO (tab _ _) (tab _ _),_,rfl,hR _ (λ_ _ e=>e)⟩
   ·exact⟨_,rfl,x,c.chg,dx,_,_,rfl,g3 _ _ h11,T.cl,T.a_first,rfl,_,rfl,_,_,rfl,rfl,hR _ (λ_ _ e=>e)⟩
   ·walk_at "d"
    rw [yy]at e3
    have o3:Off la H H3:=λb o e n=>g3 _ _ (o1 _ _ e n)
    obtain⟨_,_,a3⟩:=t1.grow g3
    have h13:=g3 _ _ h11
    have q':=q rs1 H3 o3 a3 p1
    refine aF ⟨_,rfl,x,c.chg,dx,_,_,rfl,h13,T.cl,T.a_rank,rfl,_,rfl,D,_,rfl,.inl (SqL.of e3),_,_,rfl,rfl,?_⟩
    rw [List.length_map]
    by_cases hz:r<=((cb (tel kvs) k f0 (len2 f0 l0 - 1)).length:Int)
    ·have hi:(r - 1).toNat < (cb (tel kvs) k f0 (len2 f0 l0 - 1)).length:=by omega
     obtain⟨d,ei⟩:∃d,(cb (tel kvs) k f0 (len2 f0 l0 - 1))[(r - 1).toNat]?=some d:=⟨_,List.getElem?_eq_getElem hi⟩
     have e9:fY (tel kvs) (.chg r k f0 l0)=V.int d:=by
      show oE _=_
      rw [ei]
      rfl
     rw [e9]at q'
     have eat:atI ((cb (tel kvs) k f0 (len2 f0 l0 - 1)).map V.int) (r - 1)=some (V.int d):=by
      rw [show r - 1=(((r - 1).toNat:Nat):Int) by omega]
      refine dY ?_
      rw [List.getElem?_map,ei]
      rfl
     refine⟨_,rfl,?_⟩
     rw [decide_eq_true hz]
     exact bJ ⟨_,rfl,_,rfl,x,c.chg,dx,_,_,rfl,h13,T.cl,T.a_rank,rfl,_,_,rfl,rfl,D,_,r - 1,_,rfl,rfl,SqL.of e3,eat,q'⟩
    ·have e9:fY (tel kvs) (.chg r k f0 l0)=V.non:=by
      show oE _=_
      rw [List.getElem?_eq_none ‹1›]
      rfl
     rw [e9]at q'
     refine⟨_,rfl,?_⟩
     rw [decide_eq_false hz]
     exact br q'
  | _=>cases hk
inductive ChI (H:Hp) (x f la tb:Addr) (kvs:List (List Key × V)) (rs:List RZ) (r:Int) (k:Str) (f0:Int) (i:Nat) (σ:St) (H2:Hp):Prop
 | mk (v4 v5:Option V) (rs2:List RZ) (h1:σ=[some (.ref x),some (.ref f),some (.int (r - (cb (tel kvs) k f0 i).length)),some (tel kvs k (f0+(i:Int))),v4,v5]) (h2:Off la H H2) (h3:TeA f la tb kvs H2 rs2) (h4:prs rs2=prs rs++aK k f0 (i+1)) (h5:((cb (tel kvs) k f0 i).length:Int) < r):ChI H x f la tb kvs rs r k f0 i σ H2
theorem eO:FnScope ["self", "told", "left", "ahead", "day", "here"] ["self", "told"] (au pK):=‹2›
theorem vt {f:Addr}{fd:FuncData} (F:Fun K "read" "Change.read" pK f fd) (N:Free mg){c:Cs} (VQ:∀C∈c.all,QuC K C):FnOk P w K mg base CX0 3 f fd ["self", "told"] (tX c 5):=by
 refine F.ok (k:=2) eO (λvs H Q E h=>?_) (λcdv A outer s H vs Q E hr h=>?_)
 ·obtain⟨x,f,l,rfl,_⟩:=h
  rfl
 ·obtain⟨x,f,l,rfl,hk,_,⟨la,tb,kvs,rs,hx,ok,hT,tab,hl,q⟩⟩:=h
  have hu:=aP hr
  refine⟨_,(af (aA (i:=2) eO.nd rfl (Or.inl rfl) (cA (K:=K) rfl (pv 0) rfl))
   (af (aA (i:=3) eO.nd rfl (Or.inl rfl) (fu eC (pv 1) (hr.mono (by decide)) av (aa (cA (K:=K) rfl (pv 0) rfl) (aa (cA (K:=K) rfl (pv 0) rfl) ae))))
   (af (ed PassesOwn.never rfl (bX rfl N.range (aa (aH bw (cA (K:=K) rfl (pv 0) rfl) aj) (aa (aH bw (cA (K:=K) rfl (pv 0) rfl) aj) ae))) (aI (i:=4) eO.nd rfl (Or.inl rfl))
   (af (aA (i:=5) eO.nd rfl (Or.inl rfl) (fu eC (pv 1) (hr.mono (by decide)) av (aa (cA (K:=K) rfl (pv 0) rfl) (aa (pv 4) ae))))
   (af (bx (aN lr (pv 5) (pv 3) (aV _)) (aq (Am (i:=2) eO.nd rfl (Or.inl rfl) aj AM)) aL)
   (af (bx (aN cH (pv 2) aj (aV _)) (aq (aB (pv 4))) aL)
   (aq (aA (i:=3) eO.nd rfl (Or.inl rfl) (pv 5)))))))
   (aq (aB dC))))),?_⟩
  cases l with
  | chg r k f0 l0=>
   obtain⟨dx,ln,h1,h2⟩:=id hx
   have T:=VQ _ (eV c (.chg r k f0 l0))
   obtain⟨⟨hr1,hr2⟩,hk2,hd⟩:=id ok
   obtain⟨d0,d1,d2⟩:=id hd
   have nxl:x≠la:=λz=>by obtain⟨xs,e⟩:=hT.lst;rw [<- z,h1]at e;cases e
   have hn:len2 f0 l0<=400:=by unfold len2;omega
   have hn1:1<=len2 f0 l0:=by unfold len2;omega
   have en:(l0+1 - (f0+1)).toNat=len2 f0 l0 - 1:=by unfold len2;omega
   obtain⟨tt,ht,ha⟩:=id hT
   refine ag (aw ⟨_,rfl,x,c.chg,dx,_,_,rfl,h1,T.cl,T.a_rank,rfl,?_⟩)
   walk_at "d"
   refine ag (aw ⟨_,rfl,f,_,rfl,⟨la,tb,kvs,rfl⟩,tt.fn,_,rfl,x,c.chg,dx,_,_,rfl,h1,T.cl,T.a_key,rfl,_,rfl,x,c.chg,dx,_,_,rfl,h1,T.cl,T.a_first,rfl,tt.fn,k,f0,rs,rfl,tt,ht,ha,by omega,λp H1 _ o1 a1=>?_⟩)
   walk_at "d"
   have t1:=hT.off o1 a1
   have h11:=o1 _ _ h1 nxl
   have p1:prs (rs++[((k,f0),p)])=prs rs++aK k f0 (0+1):=by
    rw [qB]
    unfold prs
    rw [List.map_append]
    show _=_++([]++[(k,f0+((0:Nat):Int))])
    rw [List.nil_append,Int.natCast_zero,Int.add_zero]
    rfl
   refine ag ⟨_,rfl,x,c.chg,dx,_,_,rfl,h11,T.cl,T.a_first,rfl,_,_,rfl,rfl,_,rfl,x,c.chg,dx,_,_,rfl,h11,T.cl,T.a_last,rfl,_,_,rfl,rfl,f0+1,l0+1,rfl,⟨by omega,by omega,by omega,by omega⟩,?_⟩
   rw [en]
   refine cX (lo:=f0+1) (n:=len2 f0 l0 - 1) (ChI H x f la tb kvs rs r k f0) ⟨none,none,_,?_,o1,t1,p1,?_⟩ (λi σ H2 hi hh=>?_) λσ H2 hh=>?_
   ·show _=[_,_,some (V.int (r - ((0:Nat):Int))),some (tel kvs k (f0+((0:Nat):Int))),_,_]
    rw [Int.natCast_zero,Int.add_zero,Int.sub_zero]
    rfl
   ·show ((0:Nat):Int) < r
    omega
   ·obtain⟨v4,v5,rs2,rfl,o2,t2,p2,hc⟩:=hh
    have hl2:=jd p2
    rw [lm,gE]at hl2
    walk_at "d"
    have h12:=o2 _ _ h1 nxl
    obtain⟨tt,ht,ha⟩:=id t2
    refine ag (aw ⟨_,rfl,f,_,rfl,⟨la,tb,kvs,rfl⟩,tt.fn,_,rfl,x,c.chg,dx,_,_,rfl,h12,T.cl,T.a_key,rfl,_,rfl,tt.fn,k,f0+1+i,rs2,rfl,tt,ht,ha,by omega,λp H3 _ o3 a3=>?_⟩)
    walk_at "d"
    have t3:=t2.off o3 a3
    have o23:=o2.trans o3
    have p3:prs (rs2++[((k,f0+1+(i:Int)),p)])=prs rs++aK k f0 (i+1+1):=by
     rw [qB k f0 (i+1),<- List.append_assoc,<- p2]
     unfold prs
     rw [List.map_append,show f0+((i+1:Nat):Int)=f0+1+(i:Int) by omega]
     rfl
    have es:=zw (tel kvs) k f0 i
    have ead:f0+((i+1:Nat):Int)=f0+1+(i:Int):=by omega
    obtain⟨rr,hrr⟩:=rP (tel kvs) k f0 (n:=len2 f0 l0 - 1) (i:=i+1) ‹1›
    refine ag (aO ⟨_,rfl,_,rfl,gO (tab _ _) (tab _ _),_,rfl,?_⟩)
    by_cases hz:tel kvs k (f0+1+(i:Int))=tel kvs k (f0+(i:Int))
    ·rw [decide_eq_true hz]
     rw [if_pos hz,List.append_nil]at es
     refine br (aD ?_)
     dsimp only
     refine ag (aO ⟨_,rfl,rfl,_,rfl,?_⟩)
     rw [decide_eq_false (λz=>by have:=V.int.inj z;omega)]
     refine br (aD ?_)
     dsimp only
     refine aw ⟨_,rfl,?_⟩
     walk_at "d"
     exact⟨_,_,_,by rw [es,ead],o23,t3,p3,by rw [es];exact hc⟩
    ·rw [decide_eq_false hz]
     rw [if_neg hz]at es
     refine bJ ⟨_,rfl,_,_,rfl,rfl,?_⟩
     walk_at "d"
     refine ag (aO ⟨_,rfl,rfl,_,rfl,?_⟩)
     by_cases h0:r - ((cb (tel kvs) k f0 i).length:Int) - 1=0
     ·rw [decide_eq_true (by rw [h0])]
      refine bJ (aF ⟨_,rfl,?_⟩)
      have ei:(cb (tel kvs) k f0 (len2 f0 l0 - 1))[(r - 1).toNat]?=some (f0+1+(i:Int)):=by
       rw [hrr,es,show (r - 1).toNat=(cb (tel kvs) k f0 i).length by omega,List.append_assoc,List.getElem?_append_right (Nat.le_refl _),Nat.sub_self]
       rfl
      have q':=q _ H3 o23 a3 (by
       rw [p3]
       show _=_++(match (cb (tel kvs) k f0 (len2 f0 l0 - 1))[(r - 1).toNat]? with
        | some d=>aK k f0 (d - f0+1).toNat
        | none=>aK k f0 (len2 f0 l0))
       rw [ei,show i+1+1=(f0+1+(i:Int) - f0+1).toNat by omega])
      have e9:fY (tel kvs) (.chg r k f0 l0)=V.int (f0+1+(i:Int)):=by
       show oE _=_
       rw [ei]
       rfl
      rw [e9]at q'
      exact q'
     ·rw [decide_eq_false (λz=>h0 (V.int.inj z))]
      refine br (aD ?_)
      dsimp only
      refine aw ⟨_,rfl,?_⟩
      walk_at "d"
      have ln1:((cb (tel kvs) k f0 (i+1)).length:Int)=(cb (tel kvs) k f0 i).length+1:=by rw [es,List.length_append];rfl
      exact⟨_,_,_,by rw [ln1,ead,Int.sub_sub],o23,t3,p3,by omega⟩
   ·obtain⟨v4,v5,rs2,rfl,o2,t2,p2,hc⟩:=hh
    dsimp only
    obtain⟨_,_,a2⟩:=t2
    have ei:(cb (tel kvs) k f0 (len2 f0 l0 - 1))[(r - 1).toNat]?=none:=List.getElem?_eq_none ‹1›
    have q':=q rs2 H2 o2 a2 (by
     rw [p2,Nat.sub_add_cancel hn1]
     show _=_++(match (cb (tel kvs) k f0 (len2 f0 l0 - 1))[(r - 1).toNat]? with
      | some d=>aK k f0 (d - f0+1).toNat
      | none=>aK k f0 (len2 f0 l0))
     rw [ei])
    have e9:fY (tel kvs) (.chg r k f0 l0)=V.non:=by
     show oE _=_
     rw [ei]
     rfl
    rw [e9]at q'
    exact aF q'
  | _=>cases hk
noncomputable abbrev pG:Stmt:=top 53
def kO (kvs:List (List Key × V)):Prop:=∀k v,valV kvs k=some v->iY v
theorem kO.ok {kvs:List (List Key × V)} (h:kO kvs):zA kvs:=λk d=>by
 unfold tel
 cases e:valV kvs [.inr k,.inl d] with
 | none=>exact .inl rfl
 | some v=>exact h _ v e
theorem kO.put {kvs:List (List Key × V)} (h:kO kvs){v:V} (hv:iY v) (k:List Key):kO (gQ kvs k v):=λj u e=>by
 rw [tJ]at e
 by_cases z:j=k
 ·rw [if_pos z]at e;cases e;exact hv
 ·rw [if_neg z]at e;exact h j u e
inductive TbI (s ln t:Addr) (H:Hp) (Q:VK):Prop
 | mk (ss:List Str) (lo wd:Int) (hs:SAt H s) (el:H ln=some (.lst (ss.map V.str))) (hss:Nm2 ss) (nls:ln≠s) (et:H t=some (.tup [.int lo,.int wd])) (nts:t≠s) (h0:0<=lo) (h1:1<=wd) (h2:lo+wd<=400) (q:∀(p:Addr) (kvs:List (List Key × V)) (H':Hp),H p=none->Off s H H'->SAt H' s->H' p=some (.dT kvs)->kO kvs->kvs.length<=10000->Q (.ref p) H'):TbI s ln t H Q
noncomputable def qP:Sp:=λvs H Q _=>∃(s ln t:Addr),vs=[.ref s,.ref ln,.ref t]/\TbI s ln t H Q
inductive TaI (H:Hp) (s ln t p:Addr) (i:Nat) (σ:St) (H2:Hp):Prop
 | mk (kvs:List (List Key × V)) (v4 v5 v6 v7 v8 v9:Option V) (h1:σ=[some (.ref s),some (.ref ln),some (.ref t),some (.ref p),v4,v5,v6,v7,v8,v9]) (h2:Off s H H2) (h3:SAt H2 s) (h4:H2 p=some (.dT kvs)) (h5:kO kvs) (h6:kvs.length<=400 * i):TaI H s ln t p i σ H2
inductive TdI (H:Hp) (s ln t p:Addr) (m:Nat) (ki:V) (nm:Str) (f0 l0:Int) (am:V) (i:Nat) (σ:St) (H2:Hp):Prop
 | mk (kvs:List (List Key × V)) (v9:Option V) (h1:σ=[some (.ref s),some (.ref ln),some (.ref t),some (.ref p),some ki,some (.str nm),some (.int f0),some (.int l0),some am,v9]) (h2:Off s H H2) (h3:SAt H2 s) (h4:H2 p=some (.dT kvs)) (h5:kO kvs) (h6:kvs.length<=m+i):TdI H s ln t p m ki nm f0 l0 am i σ H2
theorem dP:FnScope ["_law_state", "_law_names_here", "_law_window_here", "_law_table_here", "_law_k", "_law_name", "_law_first", "_law_last", "_law_amount_here", "_law_day"] ["_law_state", "_law_names_here", "_law_window_here"] (au pG):=‹2›
theorem vn {f f1 f2 f3:Addr}{fd:FuncData} (F:Fun K "_law_table" "_law_table" pG f fd) (N:Free mg){fd1:FuncData} (CP:Cal P w K mg base "_law_pull" 2 ["_law_state", "_law_many"] gj f1 fd1){fd2:FuncData} (CD:Cal P w K mg base "_law_days" 3 ["_law_state", "_law_window_here"] pA f2 fd2){fd3:FuncData} (CA:Cal P w K mg base "_law_amount" 3 ["_law_state"] jB f3 fd3):FnOk P w K mg base CX0 4 f fd ["_law_state", "_law_names_here", "_law_window_here"] qP:=by
 refine F.ok (k:=3) dP (λvs H Q E h=>?_) (λcdv A outer s H vs Q E hr h=>?_)
 ·obtain⟨s,ln,t,rfl,_⟩:=h
  rfl
 ·obtain⟨s,ln,t,rfl,⟨ss,lo,wd,hs,el,hss,nls,et,nts,h0,h1,h2,q⟩⟩:=h
  have hu:=aP hr
  refine⟨_,(af (aA (i:=3) dP.nd rfl (Or.inl rfl) vf)
   (af (ed PassesOwn.never rfl (cV rfl N.range (aa (ay CP.ok (hr.mono (by decide)) rfl CP.nm CP.kp CP.bd .nil av (aa (pv 0) (aa aj ae))) ae)) (aI (i:=4) dP.nd rfl (Or.inl rfl))
   (@af _ _ _ _ _ (@aA (i:=5) _ _ _ _ _ _ dP.nd rfl (Or.inl rfl) (@bv _ _ _ _ _ _ _ bp (pv 1) (ay CP.ok (hr.mono (by decide)) rfl CP.nm CP.kp CP.bd .nil av (@aa _ _ _ _ _ (pv 0) (@aa _ _ _ _ _ (@bv _ _ _ _ _ _ _ bp (@be _ _ _ _ (@aa _ _ _ _ _ (aE aJ (by rfl) N.len PySem.boot_len (@aa _ _ _ _ _ (pv 1) ae rfl)) (@aa _ _ _ _ _ (aE (iJ rfl) (by rfl) N.min PyProof.Rows.Boot.«min» (@aa _ _ _ _ _ aj (@aa _ _ _ _ _ (aE aJ (by rfl) N.len PySem.boot_len (@aa _ _ _ _ _ (pv 1) ae rfl)) ae rfl) rfl)) ae rfl) rfl)) (ay CP.ok (hr.mono (by decide)) rfl CP.nm CP.kp CP.bd .nil av (@aa _ _ _ _ _ (pv 0) (@aa _ _ _ _ _ aj ae rfl) rfl)) (λ_ _=>rfl)) ae rfl) rfl)) (λ_ _=>rfl)) (by rfl) (by first | exact .inl rfl | exact .inr rfl))
   (af (eQ (ay CD.ok (hr.mono (by decide)) rfl CD.nm CD.kp CD.bd .nil av (aa (pv 0) (aa (pv 2) ae))) (gx rfl (aS (aI (i:=6) dP.nd rfl (Or.inl rfl)) (aS (aI (i:=7) dP.nd rfl (Or.inl rfl)) eS))))
   (@af _ _ _ _ _ (@aA (i:=8) _ _ _ _ _ _ dP.nd rfl (Or.inl rfl) (@bv _ _ _ _ _ _ _ bp (@be _ _ _ _ (@aa _ _ _ _ _ (ay CA.ok (hr.mono (by decide)) rfl CA.nm CA.kp CA.bd .nil av (@aa _ _ _ _ _ (pv 0) ae rfl)) (@aa _ _ _ _ _ dC ae rfl) rfl)) (aM iK (by rfl) N.int PyProof.Rows.Boot.«int» (@aa _ _ _ _ _ (c9 cH (ay CP.ok (hr.mono (by decide)) rfl CP.nm CP.kp CP.bd .nil av (@aa _ _ _ _ _ (pv 0) (@aa _ _ _ _ _ aj ae rfl) rfl)) aj (aV _)) ae rfl)) (λ_ _=>rfl)) (by rfl) (by first | exact .inl rfl | exact .inr rfl))
   (aq (ed PassesOwn.never rfl (bX rfl N.range (aa (pv 6) (aa (aH bw (pv 7) aj) ae))) (aI (i:=9) dP.nd rfl (Or.inl rfl))
   (aq (xK hu (pv 3) (bG (aa (pv 5) (aa (pv 9) ae))) (pv 8) rfl))))))))
   (aq (aB (pv 3))))),?_⟩
  have hsl:(ss.length:Int)=8\/(ss.length:Int)=2:=by rcases hss.1 with z | z <;> omega
  refine ag (aw λp np=>?_)
  walk_at "d"
  obtain⟨g1,e1⟩:=laid (o:=.dT []) np
  have hs1:=hs.keep g1
  have nps:p≠s:=λz=>by obtain⟨xs,e⟩:=hs.lst;rw [z,e]at np;cases np
  generalize upd H p _=H1 at g1 e1 hs1 ⊢
  refine ag ⟨_,rfl,s,12,rfl,hs1,by decide,by decide,λr H2 r0 r1 o2 hs2=>⟨_,rfl,by omega,by omega,cX (n:=r.toNat) (TaI H s ln t p) ⟨[],none,none,none,none,none,none,rfl,(Off.grow g1).trans o2,hs2,o2 _ _ e1 nps,(λk v e=>by cases e),Nat.zero_le _⟩ (λi σ H3 hi hh=>?_) λσ H3 hh=>?_⟩⟩
  ·obtain⟨kvs,v4,v5,v6,v7,v8,v9,rfl,o3,hs3,ep3,tv3,hl3⟩:=hh
   walk_at "d"
   have okn:∀{H':Hp},Off s H H'->H' ln=some (.lst (ss.map V.str)):=λo=>o _ _ el nls
   refine ag (aw ⟨_,rfl,_,rfl,_,rfl,ln,_,rfl,.inl (SqL.of (okn o3)),_,rfl,ln,_,rfl,.inl (SqL.of (okn o3)),_,_,rfl,by show 2<=sizeLine;decide,λl2 nl2=>?_⟩)
   rw [List.length_map]
   obtain⟨mm,emm,mm1,mm2⟩:∃mm:Int,mm=(if (ss.length:Int) < 2 then (ss.length:Int) else 2)/\1<=mm/\mm<=ss.length:=⟨_,rfl,by split <;> omega,by split <;> omega⟩
   rw [<- emm]
   obtain⟨g4,e4⟩:=laid (o:=.lst [V.int (ss.length:Int),V.int mm]) nl2
   have hs4:=hs3.keep g4
   have n2s:l2≠s:=λz=>by obtain⟨xs,e⟩:=hs3.lst;rw [z,e]at nl2;cases nl2
   have o4:=o3.trans (Off.grow g4)
   have ep4:=g4 _ _ ep3
   generalize upd H3 l2 _=H4 at g4 e4 hs4 o4 ep4 ⊢
   refine⟨_,rfl,s,2,rfl,hs4,by decide,by decide,λn5 H5 n50 n51 p5 hs5=>?_⟩
   have o5:=o4.trans p5
   obtain⟨m6,em6,hm1,hm2⟩:∃m6:Int,atI [V.int (ss.length:Int),V.int mm] n5=some (.int m6)/\1<=m6/\m6<=ss.length:=by
    rcases (show n5=0\/n5=1 by omega) with rfl | rfl
    ·exact⟨_,rfl,by omega,by omega⟩
    ·exact⟨_,rfl,by omega,by omega⟩
   refine⟨l2,_,_,_,rfl,rfl,SqL.of (p5 _ _ e4 n2s),em6,s,m6,rfl,hs5,by omega,by omega,λn6 H6 n60 n61 p6 hs6=>?_⟩
   have o6:=o5.trans p6
   obtain⟨k,ek,hk,hkm⟩:=vQ hss n60 ‹1›
   refine⟨ln,_,_,_,rfl,rfl,SqL.of (okn o6),ek,?_⟩
   walk_at "d"
   refine ag (aw ⟨_,rfl,_,rfl,s,t,lo,wd,rfl,hs6,o6 _ _ et nts,nts,h0,h1,h2,λu f0 l0 H7 p7 hs7 eu d1 d2 d3=>?_⟩)
   refine⟨u,_,rfl,SqT.of eu,rfl,_,_,rfl,_,_,rfl,rfl,?_⟩
   walk_at "d"
   have o7:=o6.trans p7
   refine ag (aw ⟨_,rfl,s,rfl,hs7,λz H8 p8 hs8 z0 z1=>⟨by show 2<=sizeLine;decide,λl3 nl3=>?_⟩⟩)
   have o8:=o7.trans p8
   obtain⟨g9,e9⟩:=laid (o:=.lst [V.int z,V.non]) nl3
   have hs9:=hs8.keep g9
   have n3s:l3≠s:=λz=>by obtain⟨xs,e⟩:=hs8.lst;rw [z,e]at nl3;cases nl3
   have o9:=o8.trans (Off.grow g9)
   have ep9:(upd H8 l3 (.lst [V.int z,V.non])) p=some (.dT kvs):=g9 _ _ (p8 _ _ (p7 _ _ (p6 _ _ (p5 _ _ ep4 nps) nps) nps) nps)
   change kU _ _ _ _ _ (upd H8 l3 (.lst [V.int z,V.non])) _
   generalize upd H8 l3 _=H9 at g9 e9 hs9 o9 ep9 ⊢
   refine⟨_,rfl,s,5,rfl,hs9,by decide,by decide,λn9 H10 n90 n91 p10 hs10=>?_⟩
   have o10:=o9.trans p10
   obtain⟨am,eam,ham⟩:∃am,atI [V.int z,V.non] (if decide (V.int n9=V.int 0)=true then 1 else 0)=some am/\iY am:=by
    by_cases z9:decide (V.int n9=V.int 0)=true
    ·rw [if_pos z9];exact⟨_,rfl,.inl rfl⟩
    ·rw [if_neg z9];exact⟨_,rfl,.inr ⟨_,rfl⟩⟩
   have ep10:=p10 _ _ ep9 nps
   refine⟨rfl,.inr ⟨_,rfl,l3,_,_,_,rfl,rfl,SqL.of (p10 _ _ e9 n3s),eam,?_⟩⟩
   walk_at "d"
   have hn4:len2 f0 l0<=400:=by unfold len2;omega
   refine⟨_,rfl,_,rfl,_,_,rfl,rfl,f0,l0+1,rfl,⟨by omega,by omega,by omega,by omega⟩,cX (n:=len2 f0 l0) (TdI H s ln t p kvs.length (.int (0+i)) k f0 l0 am) ⟨kvs,_,rfl,o10,hs10,ep10,tv3,Nat.le_refl _⟩ (λj σ H11 hj hh=>?_) λσ H11 hh=>?_⟩
   ·obtain⟨kv2,v9',rfl,o11,hs11,ep11,tv11,hl11⟩:=hh
    walk_at "d"
    refine⟨_,rfl,_,rfl,_,rfl,_,rfl,by show 2<=sizeLine;decide,λtq ntq=>?_⟩
    obtain⟨g12,e12⟩:=laid (o:=.tup [V.str k,V.int (f0+j)]) ntq
    have ep12:=g12 _ _ ep11
    have hs12:=hs11.keep g12
    have o12:=o11.trans (Off.grow g12)
    generalize upd H11 tq _=H12 at g12 e12 ep12 hs12 o12 ⊢
    refine⟨p,_,rfl,.inr ⟨kv2,[.inr k,.inl (f0+j)],tq,ep12,rfl,e12,Nat.lt_of_le_of_lt (show _<=100000 by have:=hi;omega) (by decide),rfl⟩,gQ kv2 [.inr k,.inl (f0+j)] am,_,rfl,λb o e nb=>?_,hs12.off nps (λb o e nb=>by rw [ah nb];exact e),ai,tv11.put ham _,?_⟩
    ·rw [ah (ao e np)];exact o12 _ _ e nb
    ·have:=fF kv2 [.inr k,.inl (f0+j)] am;omega
   ·obtain⟨kv2,v9',rfl,o11,hs11,ep11,tv11,hl11⟩:=hh
    exact⟨kv2,_,_,_,_,_,_,rfl,o11,hs11,ep11,tv11,by omega⟩
  ·obtain⟨kvs,v4,v5,v6,v7,v8,v9,rfl,o3,hs3,ep3,tv3,hl3⟩:=hh
   exact aF ⟨_,rfl,q p kvs H3 np o3 hs3 ep3 tv3 ‹1›⟩
end Mine
namespace L2
open PySem PySem.Spec PyProof.Rows
section
variable {X:Cx}
end
end L2
namespace Mine
open PySem L2
variable {P:Program}{w:World}{K:W.Frag}{mg:Str->Option Value}{base:Heap}
noncomputable def gW (ks:List Str):V->V
 | .int i=>.str (si i)
 | .ref _=>.str (jc ks)
 | v=>v
theorem ni.bf {f l:Int} (h:ni f l):Big f/\Big l:=by
 obtain⟨h1,h2,h3⟩:=h
 unfold Big
 omega
theorem lf_item {p:Addr}{l:Lf}{x:V} (ok:eL l) (h:x∈(lfV p l).tail):(∃z,x=.str z)\/(∃i,x=.int i/\Big i)\/(x=.ref p/\∃w ks f0 l0,l=.gth w ks f0 l0):=by
 have cs:∀{z:Str},x=.str z->(∃z,x=.str z)\/(∃i,x=.int i/\Big i)\/(x=.ref p/\∃w ks f0 l0,l=.gth w ks f0 l0):=λe=>.inl ⟨_,e⟩
 have ci:∀{z:Int},x=.int z->Big z->(∃z,x=.str z)\/(∃i,x=.int i/\Big i)\/(x=.ref p/\∃w ks f0 l0,l=.gth w ks f0 l0):=λe b=>.inr (.inl ⟨_,e,b⟩)
 cases l with
 | num z=>
  exact ci (List.mem_singleton.mp (show x∈[V.int z] from h)) ok
 | val k d=>
  rcases List.mem_cons.mp (show x∈[V.str k,V.int d] from h) with e | h
  ·exact cs e
  ·exact ci (List.mem_singleton.mp h) ⟨by have:=ok.2.1;omega,by have:=ok.2.2;omega⟩
 | gth w ks f0 l0=>
  rcases List.mem_cons.mp (show x∈[V.ref p,V.int f0,V.int l0] from h) with e | h
  ·exact .inr (.inr ⟨e,w,ks,f0,l0,rfl⟩)
  ·rcases List.mem_cons.mp h with e | h
   ·exact ci e ok.2.2.bf.1
   ·exact ci (List.mem_singleton.mp h) ok.2.2.bf.2
 | snc k b0 f0 l0=>
  rcases List.mem_cons.mp (show x∈[V.str k,V.int b0,V.int f0,V.int l0] from h) with e | h
  ·exact cs e
  ·rcases List.mem_cons.mp h with e | h
   ·exact ci e ok.2.1
   ·rcases List.mem_cons.mp h with e | h
    ·exact ci e ok.2.2.bf.1
    ·exact ci (List.mem_singleton.mp h) ok.2.2.bf.2
 | prt k k2 f0 l0=>
  rcases List.mem_cons.mp (show x∈[V.str k,V.str k2,V.int f0,V.int l0] from h) with e | h
  ·exact cs e
  ·rcases List.mem_cons.mp h with e | h
   ·exact cs e
   ·rcases List.mem_cons.mp h with e | h
    ·exact ci e ok.2.2.bf.1
    ·exact ci (List.mem_singleton.mp h) ok.2.2.bf.2
 | chg r0 k f0 l0=>
  rcases List.mem_cons.mp (show x∈[V.int r0,V.str k,V.int f0,V.int l0] from h) with e | h
  ·exact ci e ⟨by have:=ok.1.1;omega,by have:=ok.1.2;omega⟩
  ·rcases List.mem_cons.mp h with e | h
   ·exact cs e
   ·rcases List.mem_cons.mp h with e | h
    ·exact ci e ok.2.2.bf.1
    ·exact ci (List.mem_singleton.mp h) ok.2.2.bf.2
theorem ku {k:Str}{lo:Int}{n:Nat}{sub:List Nat}{te:TE}{σ:St}{Q:VK}{H:Hp} (hn:n<=1000)
  (hte:∀(d:Int) (H2:Hp) (R:VK),(∀p,H2 p=none->R (.ref p) (upd H2 p (.tup [.str k,.int d])))->te (some (.int d)::bP sub σ) H2 R)
  (hq:∀(D:Addr) (H':Hp) (rs:List RZ),H D=none->aZ H H'->Askd H' D rs->prs rs=aK k lo n->Q (.ref D) H'):fL (Itr lo n) sub (λ_ H Q=>Q true H) te σ Q H:=by
 intro D nD
 refine dJ (lo:=lo) (n:=n) (sub:=sub) (tt:=λ_ H Q=>Q true H) (te:=te) (Q:=Q) (σ:=σ) (λi ys H2=>∃rs:List RZ,ys=rs.map (λr=>V.ref r.2)/\aZ H H2/\Askd H2 D rs/\prs rs=aK k lo i) ⟨[],rfl,(laid nD).1,⟨ai,λr hr=>by cases hr⟩,rfl⟩ (λi ys H2 hi hh=>?_) λys H2 hh=>?_
 ·obtain⟨rs,rfl,g2,⟨a1,a2⟩,p2⟩:=hh
  have hz:rs.length=i:=by
   have:=congrArg List.length p2
   unfold prs aK at this
   rw [List.length_map,List.length_map,List.length_range]at this
   exact this
  refine bJ (hte _ _ _ λp np=>?_)
  have npD:D≠p:=ao a1 np
  have ep:aK k lo (i+1)=aK k lo i++[(k,lo+i)]:=by unfold aK;rw [List.range_succ,List.map_append];rfl
  refine⟨by rw [ah npD];exact a1,by rw [List.length_map];exact bu ‹1›,rs++[((k,lo+i),p)],by rw [List.map_append];rfl,λb o e=>?_,⟨by rw [ai,List.map_append];rfl,λr hr=>?_⟩,?_⟩
  ·rw [ah (ao e nD),ah (ao (g2 _ _ e) np)];exact g2 _ _ e
  ·rcases List.mem_append.mp hr with hr | hr
   ·have e:=a2 r hr
    rw [ah (cQ e a1 (λz=>nomatch z)),ah (ao e np)];exact e
   ·rw [List.mem_singleton.mp hr]
    show upd (upd H2 p _) D _ p=_
    rw [ah (Ne.symm npD),ai]
    rfl
  ·unfold prs at p2 ⊢
   rw [ep,<- p2,List.map_append]
   rfl
 ·obtain⟨rs,rfl,g2,a2,p2⟩:=hh
  exact hq D H2 rs nD g2 a2 p2
noncomputable abbrev uG:Stmt:=top 56
noncomputable def u6:Sp:=λvs H Q _=>∃(x y:V),vs=[x,y]/\iY x/\iY y/\Q (.bl (decide (x=y))) H
theorem zU:FnScope ["_law_found", "_law_due"] ["_law_found", "_law_due"] (au uG):=‹2›
theorem xV {f:Addr}{fd:FuncData} (F:Fun K "_law_like" "_law_like" uG f fd) (N:Free mg):FnOk P w K mg base CX0 1 f fd ["_law_found", "_law_due"] u6:=by
 refine F.ok (k:=0) zU (λvs H Q E h=>?_) (λcdv A outer s H vs Q E hr h=>?_)
 ·obtain⟨x,y,rfl,_⟩:=h
  rfl
 ·obtain⟨x,y,rfl,hx,hy,q⟩:=h
  have hu:=aP hr
  refine⟨_,(af (bx (PW.pt (v0 (mG (iB (pv 0))) (qd (mG (iB (pv 1)))))) (aq (aB (fw (mH (iB (pv 0))) (fo (mH (iB (pv 1))))))) aL)
   (aq (aB (fw (aE dc (by rfl) N.isinstance PyProof.Rows.Boot.«isinstance» (aa (pv 0) (aa (gY (v:=.ty "int") (by rfl) N.int PyProof.Rows.Boot.«int» rfl) ae))) (fw (Aq (aE dc (by rfl) N.isinstance PyProof.Rows.Boot.«isinstance» (aa (pv 0) (aa (gY (v:=.ty "bool") (by rfl) N.bool PyProof.Rows.Boot.«bool» rfl) ae)))) (fo (c9 cH (pv 0) (pv 1) (aV _)))))))),?_⟩
  rcases hx with rfl | ⟨i,rfl⟩
  ·refine ag (aO ⟨_,rfl,_,rfl,?_⟩)
   refine bJ (bJ (aF ⟨_,rfl,_,rfl,bJ ⟨_,rfl,?_⟩⟩))
   rw [show decide (y=V.non)=decide (V.non=y) from by simp [eq_comm]]
   exact q
  ·refine ag (aO ⟨_,rfl,_,rfl,?_⟩)
   rw [decide_eq_false (λz=>nomatch z)]
   refine br ?_
   rcases hy with rfl | ⟨j,rfl⟩
   ·refine⟨_,rfl,_,rfl,bJ (aF ⟨_,rfl,_,rfl,?_⟩)⟩
    rw [decide_eq_false (λz=>nomatch z)]at q ⊢
    exact br q
   ·refine⟨_,rfl,_,rfl,?_⟩
    rw [decide_eq_false (λz=>nomatch z)]
    refine br (aD ?_)
    dsimp only
    exact aF ⟨_,rfl,_,"int", _,true,rfl,.int i,by rfl,_,rfl,bJ ⟨_,rfl,_,"bool", _,false,rfl,.int i,by rfl,_,rfl,_,rfl,bJ ⟨_,rfl,_,rfl,rfl,q⟩⟩⟩
end Mine
namespace L2
open PySem PySem.Spec PyProof.Rows
theorem qL:∀{xs:List V}{us:List Value},xs.length=us.length->(∀(i:Nat) (x:V) (u:Value),xs[i]?=some x->us[i]?=some u->aW x u)->aU xs us
 | [],[],_,_=>.nil
 | [],_::_,h,_=>by cases h
 | _::_,[],h,_=>by cases h
 | x::xs,u::us,h,hh=>.cons (hh 0 x u rfl rfl) (qL (Nat.succ.inj h) λi y v e1 e2=>hh (i+1) y v e1 e2)
section
variable {X:Cx}
theorem tm:cD X (.type "range") (λxs H Q=>∃i j:Int,xs=[.int i,.int j]/\∀p,H p=none->Q (.ref p) (upd H p (.rng i j))):=by
 intro pins s σ H xs us Q I r h
 obtain⟨i,j,rfl,q⟩:=h
 obtain⟨u,v,rfl,⟨t,rfl⟩,⟨t',rfl⟩⟩:=qM r
 exact call_range_2 ⟨.ref _,_,I.laid (o:=.rng i j) (t':=s.toks+1) (λb o e=>zH0 _ e) (Nat.le_refl _) ⟨_,_,_,Heap.get?_push_size _ rfl⟩,rfl,q _ (I.hok.fresh (Nat.le_refl _))⟩
noncomputable def mD (lo:Int) (n:Nat):List V:=(List.range n).map λi:Nat=>V.int (lo+(i:Int))
inductive rLRng (xs:List V) (H:Hp) (Q:VK):Prop
 | mk (p:Addr) (lo hi:Int) (h1:xs=[.ref p]) (h2:H p=some (.rng lo hi)) (h3 : -(2 ^ 62)<=lo/\lo < 2 ^ 62/\-(2 ^ 62)<=hi/\hi < 2 ^ 62/\hi - lo<=100000) (h4:∀l,H l=none->Q (.ref l) (upd H l (.lst (mD lo (hi - lo).toNat)))):rLRng xs H Q
theorem kM (hc:X.calm=true):cD X (.type "list") rLRng:=by
 intro pins s σ H xs us Q I r h
 obtain⟨p,lo,hi,rfl,hp,⟨b1,b2,b3,b4,b5⟩,q⟩:=h
 obtain⟨u,rfl,rx⟩:=da r
 cases rx
 obtain⟨t,u,v,e⟩:=(I.hok p _ hp:bB X.prog X.w H s.heap p (.rng lo hi))
 refine call_list_range (n:=(hi - lo).toNat) (I.ok.hd hc) e (small_one b1 b2 b3 b4) (by rw [rangeSize_one];split <;> omega) ‹1› λh' tk acc c' hk hS hacc=>?_
 have hv:aU (mD lo (hi - lo).toNat) acc.toList:=by
  refine qL ?_ λi x u e1 e2=>?_
  ·unfold mD
   rw [List.length_map,List.length_range,Array.length_toList,hacc.1]
  ·rw [Array.getElem?_toList]at e2
   obtain⟨t1,rfl⟩:=hacc.2 i u e2
   unfold mD at e1
   rw [List.getElem?_map]at e1
   obtain⟨j,hj,rfl⟩:=Option.map_eq_some_iff.mp e1
   have hj:=(List.getElem?_eq_some_iff.mp hj)
   obtain⟨h1,h2⟩:=hj
   rw [List.getElem_range]at h2
   subst h2
   exact⟨t1,by rw [Int.mul_one]⟩
 refine⟨.ref _,_,I.laid (t':=tk) hk (Nat.le_refl _) (show bB X.prog X.w _ h' _ (.lst (mD lo (hi - lo).toNat)) from ⟨?_,acc.toList,c',hv,?_⟩),rfl,q _ (I.hok.fresh (Nat.le_refl _))⟩
 ·unfold mD
  rw [List.length_map,List.length_range]
  exact Nat.le_trans (show _<=100000 by omega) (by decide)
 ·simpa using hS
end
end L2
namespace Mine
open PySem L2
variable {P:Program}{w:World}{K:W.Frag}{mg:Str->Option Value}{base:Heap}
noncomputable abbrev A4:Stmt:=top 54
theorem uh (g:Nat->Bool):∀n,(∀i,sncJ g n<=i->i < n->g i=true)/\(sncJ g n=0\/g (sncJ g n - 1)=false)
 | 0=>⟨λi _ h=>absurd h (Nat.not_lt_zero _),.inl rfl⟩
 | n+1=>by
  obtain⟨h1,h2⟩:=uh g n
  unfold sncJ
  by_cases hg:g n=true
  ·rw [if_pos hg]
   refine⟨λi h3 h4=>?_,h2⟩
   by_cases e:i=n
   ·rw [e];exact hg
   ·exact h1 i h3 ‹1›
  ·rw [if_neg hg]
   exact⟨λi h3 h4=>absurd h4 ‹1›,.inr (by rw [Nat.add_sub_cancel];exact Bool.eq_false_iff.mpr hg)⟩
noncomputable def flL (T:Str->Int->V) (k:Str) (bd f:Int) (n:Nat):List Int:=(dys f n).filter λd=>!rch bd (T k d)
theorem xh {T:Str->Int->V}{k:Str}{bd f M:Int}{n:Nat} (h1:M∈(f - 1)::flL T k bd f n) (h2:∀x∈(f - 1)::flL T k bd f n,x<=M):M=f - 1+(sncJ (cE T k bd f) n:Int):=by
 obtain⟨h3,h4⟩:=uh (cE T k bd f) n
 have hj:=jC (cE T k bd f) n
 have l0:f - 1<=M:=h2 _ List.mem_cons_self
 have lo:f - 1+(sncJ (cE T k bd f) n:Int)<=M:=by
  rcases h4 with e | e
  ·rw [e];exact(show f - 1+((0:Nat):Int)<=M by omega)
  ·by_cases z:sncJ (cE T k bd f) n=0
   ·rw [z];exact(show f - 1+((0:Nat):Int)<=M by omega)
   ·have:=h2 (f+((sncJ (cE T k bd f) n - 1:Nat):Int)) (List.mem_cons_of_mem _ (List.mem_filter.mpr ⟨jo.mpr ‹1›,by
     have e:rch bd (T k (f+((sncJ (cE T k bd f) n - 1:Nat):Int)))=false:=e
     rw [e];rfl⟩))
    omega
 rcases List.mem_cons.mp h1 with e | e
 ·omega
 ·obtain⟨m1,m2⟩:=List.mem_filter.mp e
  have m1:=jo.mp m1
  have:¬(sncJ (cE T k bd f) n<=(M - f).toNat):=λz=>by
   have e:rch bd (T k (f+(((M - f).toNat:Nat):Int)))=true:=h3 _ z ‹1›
   rw [show f+(((M - f).toNat:Nat):Int)=M by omega]at e
   rw [e]at m2
   cases m2
  omega
noncomputable def Bx (T:Str->Int->V):Lf->List (Str × Int)
 | .snc k bd f l=>aK k (f+((sncJ (cE T k bd f) (len2 f l) - 1:Nat):Int)) (len2 f l - (sncJ (cE T k bd f) (len2 f l) - 1))
 | l=>qt T l
theorem r8 {v:V}{σ:St}{H:Hp}{Q:VK} (h:Q v H):tC v σ H Q:=h
theorem wu (k:Str) (f:Int) (n:Nat):((dys f n).map λd=>(k,d))=aK k f n:=by
 unfold dys aK
 rw [List.map_map]
 rfl
theorem yq (f:Int) (n:Nat):mD f n=(dys f n).map V.int:=by
 unfold dys mD
 rw [List.map_map]
 rfl
theorem oU {K:W.Frag}{la:Addr}{xs:List Int}{k:Str}{sub:List Nat}{te:TE}{σ:St}{Q:VK}{H:Hp} (hn:xs.length<=1000) (ha:H la=some (.lst (xs.map V.int)))
  (hte:∀(d:Int) (H2:Hp) (R:VK),(∀p,H2 p=none->R (.ref p) (upd H2 p (.tup [.str k,.int d])))->te (some (.int d)::bP sub σ) H2 R)
  (hq:∀(D:Addr) (H':Hp) (rs:List RZ),H D=none->aZ H H'->Askd H' D rs->prs rs=xs.map (λd=>(k,d))->Q (.ref D) H'):fL (Itl K la) sub (λ_ H Q=>Q true H) te σ Q H:=by
 intro D nD
 refine eK (K:=K) (a:=la) (xs:=xs.map V.int) (sub:=sub) (tt:=λ_ H Q=>Q true H) (te:=te) (Q:=Q) (σ:=σ) (λi ys H2=>∃rs:List RZ,ys=rs.map (λr=>V.ref r.2)/\aZ H H2/\Askd H2 D rs/\prs rs=(xs.take i).map λd=>(k,d)) ⟨[],rfl,(laid nD).1,⟨ai,λr hr=>by cases hr⟩,rfl⟩ (λi ys H2 _ hh=>?_) (λi x ys H2 hi hh=>?_) λys H2 hh=>?_
 ·obtain⟨rs,_,g2,_⟩:=hh
  exact SqL.of (g2 _ _ ha)
 ·obtain⟨rs,rfl,g2,⟨a1,a2⟩,p2⟩:=hh
  rw [List.getElem?_map]at hi
  obtain⟨d,hd,rfl⟩:=Option.map_eq_some_iff.mp hi
  have hil:=(List.getElem?_eq_some_iff.mp hd).1
  have hz:rs.length<=i:=by
   have:=congrArg List.length p2
   unfold prs at this
   rw [List.length_map,List.length_map,List.length_take]at this
   omega
  refine bJ (hte _ _ _ λp np=>?_)
  have npD:D≠p:=ao a1 np
  refine⟨by rw [ah npD];exact a1,by rw [List.length_map];exact bu ‹1›,rs++[((k,d),p)],by rw [List.map_append];rfl,λb o e=>?_,⟨by rw [ai,List.map_append];rfl,λr hr=>?_⟩,?_⟩
  ·rw [ah (ao e nD),ah (ao (g2 _ _ e) np)];exact g2 _ _ e
  ·rcases List.mem_append.mp hr with hr | hr
   ·have e:=a2 r hr
    rw [ah (cQ e a1 (λz=>nomatch z)),ah (ao e np)];exact e
   ·rw [List.mem_singleton.mp hr]
    show upd (upd H2 p _) D _ p=_
    rw [ah (Ne.symm npD),ai]
    rfl
  ·unfold prs at p2 ⊢
   rw [List.take_add_one,hd,List.map_append,List.map_append,p2]
   rfl
 ·obtain⟨rs,rfl,g2,a2,p2⟩:=hh
  rw [List.length_map,List.take_length]at p2
  exact hq D H2 rs nD g2 a2 p2
inductive RoI (l:Lf) (a tb:Addr) (H:Hp) (Q:VK):Prop
 | mk (kvs:List (List Key × V)) (h:LN l H a) (ok:eL l) (h3:3<=lfK l) (ht:H tb=some (.dT kvs)) (tv:kO kvs) (q:∀(u ld:Addr) (rs:List RZ) (H':Hp),aZ H H'->H u=none->H ld=none->H' u=some (.tup [fY (tel kvs) l,.ref ld])->Askd H' ld rs->prs rs=Bx (tel kvs) l->Q (.ref u) H'):RoI l a tb H Q
noncomputable def yQ:Sp:=λvs H Q _=>∃(a tb:Addr) (l:Lf),vs=[.ref a,.ref tb]/\RoI l a tb H Q
theorem cu:FnScope ["_law_node_here", "_law_table_here", "_law_word", "_law_name", "_law_least", "_law_first", "_law_last", "_law_good_here", "_law_start", "_law_other", "_law_days_here", "_law_many", "_law_turn", "_law_some"] ["_law_node_here", "_law_table_here"] (au A4):=‹2›
theorem Ar {f:Addr}{fd:FuncData} (F:Fun K "_law_row" "_law_row" A4 f fd) (N:Free mg):FnOk P w K mg base CX0 1 f fd ["_law_node_here", "_law_table_here"] yQ:=by
 refine F.ok (k:=0) cu (λvs H Q E h=>?_) (λcdv A outer s H vs Q E hr h=>?_)
 ·obtain⟨a,tb,l,rfl,_⟩:=h
  rfl
 ·obtain⟨a,tb,l,rfl,⟨kvs,⟨pk,ea,hk⟩,ok,h3,ht,tv,q⟩⟩:=h
  have hu:=aP hr
  refine⟨_,(af (aA (i:=2) cu.nd rfl (Or.inl rfl) (bv iF (pv 0) aj (λ_ _=>rfl)))
   (af (bx (aN cH (pv 2) aR (aV _)) (af (eQ (pv 0) (gx rfl (aS (aI (i:=2) cu.nd rfl (Or.inl rfl)) (aS (aI (i:=3) cu.nd rfl (Or.inr rfl)) (aS (aI (i:=4) cu.nd rfl (Or.inr rfl)) (aS (aI (i:=5) cu.nd rfl (Or.inl rfl)) (aS (aI (i:=6) cu.nd rfl (Or.inl rfl)) eS)))))))
   (af (jb (i:=7) cu.nd rfl (Or.inl rfl) (bh rfl (bX rfl N.range (aa (pv 5) (aa (aH bw (pv 6) aj) ae))) rfl rfl (by show ∀p∈_,eN [‹"_law_table_here"›, ‹"_law_name"›, ‹"_law_least"›] p;decide) (by decide) rfl (by show ([‹"_law_day"›, ‹"_law_table_here"›, ‹"_law_name"›, ‹"_law_least"›]:List Str).Nodup;decide) (.cons (i:=1) rfl (.inr (.inl rfl)) (by show (some NameKind.cell)≠some NameKind.local;decide) (.inl rfl) rfl (.cons (i:=3) rfl (.inr (.inl rfl)) (by show (some NameKind.cell)≠some NameKind.local;decide) (.inl rfl) rfl (.cons (i:=4) rfl (.inr (.inl rfl)) (by show (some NameKind.cell)≠some NameKind.local;decide) (.inl rfl) rfl .nil))) (λC fp s H=>(gR (PW.pt (v0 (mG (iB (eF hu (pv 1) (bG (aa (pv 2) (aa (pv 0) ae))) ⟨rfl,rfl,rfl,rfl⟩))) (qd (aN jO (xM hu (pv 1) (bG (aa (pv 2) (aa (pv 0) ae))) (λ_ _=>rfl)) (pv 3) (aV _))))))) (λC fp s H=>(pv 0))))
   (af (aA (i:=8) cu.nd rfl (Or.inl rfl) (aH bw (aE (lL rfl) (by rfl) N.max PyProof.Rows.Boot.«max» (aa (aH qf (be (aa (aH dg (pv 5) aj) ae)) (pv 7)) ae)) aj))
   (aq (aB (bG (aa (bv (db (K:=K) rfl) (be (aa (pv 8) (aa dC ae))) (aM iK (by rfl) N.int PyProof.Rows.Boot.«int» (aa (c9 zd (pv 8) (pv 6) (aV _)) ae)) (λ_ _=>rfl)) (aa (dS (bh rfl (bX rfl N.range (aa (aE (lM rfl) (by rfl) N.max PyProof.Rows.Boot.«max» (aa (pv 5) (aa (aH dg (pv 8) aj) ae))) (aa (aH bw (pv 6) aj) ae))) rfl rfl (by show ∀p∈_,eN [‹"_law_name"›] p;decide) (by decide) rfl (by show ([‹"_law_day"›, ‹"_law_name"›]:List Str).Nodup;decide) (.cons (i:=3) rfl (.inr (.inl rfl)) (by show (some NameKind.cell)≠some NameKind.local;decide) (.inl rfl) rfl .nil) (λC fp s H=>cp) (λC fp s H=>(bG (aa (pv 1) (aa (pv 0) ae)))))) ae)))))))) aL)
   (af (bx (aN cH (pv 2) aR (aV _)) (af (eQ (pv 0) (gx rfl (aS (aI (i:=2) cu.nd rfl (Or.inl rfl)) (aS (aI (i:=3) cu.nd rfl (Or.inr rfl)) (aS (aI (i:=9) cu.nd rfl (Or.inr rfl)) (aS (aI (i:=5) cu.nd rfl (Or.inl rfl)) (aS (aI (i:=6) cu.nd rfl (Or.inl rfl)) eS)))))))
   (af (aA (i:=10) cu.nd rfl (Or.inl rfl) (aM (kM rfl) (by rfl) N.list PyProof.Rows.Boot.«list» (aa (aM tm (by rfl) N.range PyProof.Rows.boot_range (aa (pv 5) (aa (aH bw (pv 6) aj) ae))) ae)))
   (af (aA (i:=11) cu.nd rfl (Or.inl rfl) (aE aJ (by rfl) N.len PySem.boot_len (aa (dS (bh rfl (dR (pv 10)) rfl rfl (by show ∀p∈_,eN [‹"_law_table_here"›, ‹"_law_other"›, ‹"_law_name"›] p;decide) (by decide) rfl (by show ([‹"_law_day"›, ‹"_law_table_here"›, ‹"_law_other"›, ‹"_law_name"›]:List Str).Nodup;decide) (.cons (i:=1) rfl (.inr (.inl rfl)) (by show (some NameKind.cell)≠some NameKind.local;decide) (.inl rfl) rfl (.cons (i:=9) rfl (.inr (.inl rfl)) (by show (some NameKind.cell)≠some NameKind.local;decide) (.inl rfl) rfl (.cons (i:=3) rfl (.inr (.inl rfl)) (by show (some NameKind.cell)≠some NameKind.local;decide) (.inl rfl) rfl .nil))) (λC fp s H=>(gR (aN lr (eF hu (pv 1) (bG (aa (pv 3) (aa (pv 0) ae))) ⟨rfl,rfl,rfl,rfl⟩) (eF hu (pv 1) (bG (aa (pv 2) (aa (pv 0) ae))) ⟨rfl,rfl,rfl,rfl⟩) (aV _)))) (λC fp s H=>(pv 0)))) ae)))
   (aq (aB (bG (aa (pv 11) (aa (aH qf (dS (bh rfl (dR (pv 10)) rfl rfl (by show ∀p∈_,eN [‹"_law_name"›] p;decide) (by decide) rfl (by show ([‹"_law_day"›, ‹"_law_name"›]:List Str).Nodup;decide) (.cons (i:=3) rfl (.inr (.inl rfl)) (by show (some NameKind.cell)≠some NameKind.local;decide) (.inl rfl) rfl .nil) (λC fp s H=>cp) (λC fp s H=>(bG (aa (pv 1) (aa (pv 0) ae)))))) (dS (bh rfl (dR (pv 10)) rfl rfl (by show ∀p∈_,eN [‹"_law_other"›] p;decide) (by decide) rfl (by show ([‹"_law_day"›, ‹"_law_other"›]:List Str).Nodup;decide) (.cons (i:=9) rfl (.inr (.inl rfl)) (by show (some NameKind.cell)≠some NameKind.local;decide) (.inl rfl) rfl .nil) (λC fp s H=>cp) (λC fp s H=>(bG (aa (pv 1) (aa (pv 0) ae))))))) ae)))))))) aL)
   (af (eQ (pv 0) (gx rfl (aS (aI (i:=2) cu.nd rfl (Or.inl rfl)) (aS (aI (i:=12) cu.nd rfl (Or.inl rfl)) (aS (aI (i:=3) cu.nd rfl (Or.inr rfl)) (aS (aI (i:=5) cu.nd rfl (Or.inl rfl)) (aS (aI (i:=6) cu.nd rfl (Or.inl rfl)) eS)))))))
   (af (jb (i:=13) cu.nd rfl (Or.inl rfl) (bh rfl (bX rfl N.range (aa (aH bw (pv 5) aj) (aa (aH bw (pv 6) aj) ae))) rfl rfl (by show ∀p∈_,eN [‹"_law_table_here"›, ‹"_law_name"›] p;decide) (by decide) rfl (by show ([‹"_law_day"›, ‹"_law_table_here"›, ‹"_law_name"›]:List Str).Nodup;decide) (.cons (i:=1) rfl (.inr (.inl rfl)) (by show (some NameKind.cell)≠some NameKind.local;decide) (.inl rfl) rfl (.cons (i:=3) rfl (.inr (.inl rfl)) (by show (some NameKind.cell)≠some NameKind.local;decide) (.inl rfl) rfl .nil)) (λC fp s H=>(gR (aN lr (eF hu (pv 1) (bG (aa (pv 2) (aa (pv 0) ae))) ⟨rfl,rfl,rfl,rfl⟩) (eF hu (pv 1) (bG (aa (pv 2) (aa (aH dg (pv 0) aj) ae))) ⟨rfl,rfl,rfl,rfl⟩) (aV _)))) (λC fp s H=>(pv 0))))
   (af (bx (aN jO (aE aJ (by rfl) N.len PySem.boot_len (aa (pv 13) ae)) (pv 12) (aV _)) (aq (aB (bG (aa dC (aa (dS (bh rfl (bX rfl N.range (aa (pv 5) (aa (aH bw (pv 6) aj) ae))) rfl rfl (by show ∀p∈_,eN [‹"_law_name"›] p;decide) (by decide) rfl (by show ([‹"_law_day"›, ‹"_law_name"›]:List Str).Nodup;decide) (.cons (i:=3) rfl (.inr (.inl rfl)) (by show (some NameKind.cell)≠some NameKind.local;decide) (.inl rfl) rfl .nil) (λC fp s H=>cp) (λC fp s H=>(bG (aa (pv 1) (aa (pv 0) ae)))))) ae))))) aL)
   (aq (aB (bG (aa (bv (db (K:=K) rfl) (pv 13) (aH dg (pv 12) aj) (λ_ _=>rfl)) (aa (dS (bh rfl (bX rfl N.range (aa (pv 5) (aa (aH bw (bv (db (K:=K) rfl) (pv 13) (aH dg (pv 12) aj) (λ_ _=>rfl)) aj) ae))) rfl rfl (by show ∀p∈_,eN [‹"_law_name"›] p;decide) (by decide) rfl (by show ([‹"_law_day"›, ‹"_law_name"›]:List Str).Nodup;decide) (.cons (i:=3) rfl (.inr (.inl rfl)) (by show (some NameKind.cell)≠some NameKind.local;decide) (.inl rfl) rfl .nil) (λC fp s H=>cp) (λC fp s H=>(bG (aa (pv 1) (aa (pv 0) ae)))))) ae))))))))))),?_⟩
  have g00:aZ H H:=λ_ _ e=>e
  cases l with
  | snc k bd f0 l0=>
   obtain⟨hk1,hb,d0,d1,d2⟩:=id ok
   have hn:len2 f0 l0<=400:=by unfold len2;omega
   have hl0:(len2 f0 l0:Int)=l0+1 - f0:=by unfold len2;omega
   refine ag (aw ⟨_,rfl,a,_,0,_,rfl,rfl,SqT.of ea,rfl,?_⟩)
   walk_at "d"
   refine ag (aO ⟨_,rfl,rfl,_,rfl,bJ ?_⟩)
   refine ag (aw ⟨_,rfl,a,_,rfl,SqT.of ea,rfl,_,_,rfl,_,_,rfl,_,_,rfl,_,_,rfl,_,_,rfl,rfl,?_⟩)
   walk_at "d"
   refine ag (aw (bQ ⟨_,rfl,_,rfl,_,_,rfl,rfl,f0,l0+1,rfl,⟨by omega,by omega,by omega,by omega⟩,?_⟩))
   refine ii (lo:=f0) (n:=len2 f0 l0) (λd=>!rch bd (tel kvs k d)) V.int ‹1› (λd hd0 hd1=>⟨λH2 R g2 hR=>?_,λ_ H2 R g2 hR=>⟨_,rfl,hR _ (λ_ _ e=>e)⟩⟩) λD H2 nD g2 e2=>?_
   ·have ht2:=g2 _ _ ht
    refine⟨_,rfl,tb,rfl,.inr ⟨kvs,.of ht2⟩,_,rfl,_,rfl,by show 2<=sizeLine;decide,λt1 n1=>?_⟩
    obtain⟨g3,e3⟩:=laid (o:=.tup [V.str k,V.int d]) n1
    generalize upd H2 t1 _=H3 at g3 e3 ⊢
    have ht3:=g3 _ _ ht2
    refine⟨_,.inr ⟨kvs,[.inr k,.inl d],t1,.of ht3,rfl,e3,rfl⟩,_,rfl,?_⟩
    have hv:=tv.ok k d
    change (if decide (tel kvs k d=V.non)=true then _ else _)
    rcases hv with hv | ⟨n,hv⟩
    ·rw [decide_eq_true hv]
     refine bJ ?_
     have:R (!rch bd (tel kvs k d)) H3:=hR H3 g3
     rw [hv]at this
     exact this
    ·rw [decide_eq_false (λz=>by rw [hv]at z;cases z)]
     refine br ?_
     refine⟨_,rfl,_,rfl,_,rfl,by show 2<=sizeLine;decide,λt2 n2=>?_⟩
     obtain⟨g4,e4⟩:=laid (o:=.tup [V.str k,V.int d]) n2
     generalize upd H3 t2 _=H4 at g4 e4 ⊢
     have ev:valV kvs [.inr k,.inl d]=some (tel kvs k d):=by
      unfold tel at hv ⊢
      cases e9:valV kvs [.inr k,.inl d] with
      | none=>rw [e9]at hv;cases hv
      | some x=>rfl
     refine⟨tb,_,rfl,.inr ⟨kvs,[.inr k,.inl d],t2,.of (g4 _ _ ht3),rfl,e4,ev.symm⟩,_,rfl,?_⟩
     have:R (!rch bd (tel kvs k d)) H4:=hR H4 (g3.trans g4)
     rw [hv]at this ⊢
     refine⟨n,bd,rfl,rfl,_,rfl,?_⟩
     rw [show decide (n < bd) = !rch bd (V.int n) from by show _ = !decide (bd<=n);by_cases z:n < bd <;> simp [z] <;> omega]
     exact this
   ·walk_at "d"
    have e2:H2 D=some (.lst ((flL (tel kvs) k bd f0 (len2 f0 l0)).map V.int)):=e2
    refine ag (aw ⟨_,rfl,_,_,rfl,rfl,by show 1<=sizeLine;decide,λl1 n1=>?_⟩)
    obtain⟨g3,e3⟩:=laid (o:=.lst [V.int (f0 - 1)]) n1
    generalize upd H2 l1 _=H3 at g3 e3 ⊢
    have hfl:(flL (tel kvs) k bd f0 (len2 f0 l0)).length<=400:=by
     unfold flL
     have:=List.length_filter_le (λd=>!rch bd (tel kvs k d)) (dys f0 (len2 f0 l0))
     rw [fU]at this
     omega
    refine⟨_,rfl,l1,D,_,_,rfl,rfl,e3,g3 _ _ e2,by rw [List.length_map];exact Nat.le_trans (show _<=100000 by show 1+_<=_;omega) (by decide),λl2 n2=>?_⟩
    obtain⟨g4,e4⟩:=laid (o:=.lst (((f0 - 1)::flL (tel kvs) k bd f0 (len2 f0 l0)).map V.int)) n2
    change rMaxL _ _ (upd H3 l2 (.lst (((f0 - 1)::flL (tel kvs) k bd f0 (len2 f0 l0)).map V.int))) _
    generalize upd H3 l2 _=H4 at g4 e4 ⊢
    refine⟨l2,(f0 - 1)::flL (tel kvs) k bd f0 (len2 f0 l0),rfl,SqL.of e4,(λz=>nomatch z),λM m1 m2=>?_⟩
    have eM:=xh m1 m2
    have hJ:=jC (cE (tel kvs) k bd f0) (len2 f0 l0)
    generalize hJe:sncJ (cE (tel kvs) k bd f0) (len2 f0 l0)=J at eM hJ
    refine⟨_,_,rfl,rfl,?_⟩
    walk_at "d"
    have g04:=(g2.trans g3).trans g4
    refine aF ⟨_,rfl,by show 2<=sizeLine;decide,λl3 n3=>?_⟩
    obtain⟨g5,e5⟩:=laid (o:=.lst [V.int (M+1),V.non]) n3
    generalize upd H4 l3 _=H5 at g5 e5 ⊢
    have eam:atI [V.int (M+1),V.non] (if decide (l0 < M+1)=true then 1 else 0)=some (fY (tel kvs) (.snc k bd f0 l0)):=by
     show _=some (gL f0 _ (len2 f0 l0))
     rw [hJe]
     unfold gL
     by_cases z:J < len2 f0 l0
     ·rw [if_pos z,if_neg (by rw [decide_eq_true_eq];omega),show f0+(J:Int)=M+1 by omega]
      rfl
     ·rw [if_neg z,if_pos (by rw [decide_eq_true_eq];omega)]
      rfl
    refine⟨_,rfl,_,rfl,_,_,rfl,rfl,.inr ⟨_,rfl,l3,_,_,_,rfl,rfl,SqL.of e5,eam,?_⟩⟩
    have emx:(if M+1 - 1 > f0 then M+1 - 1 else f0)=f0+((J - 1:Nat):Int):=by split <;> omega
    have en:(l0+1 - (f0+((J - 1:Nat):Int))).toNat=len2 f0 l0 - (J - 1):=by omega
    refine bZ (bQ ⟨_,rfl,_,rfl,_,_,rfl,rfl,_,_,rfl,_,rfl,_,_,rfl,rfl,_,l0+1,rfl,?_,?_⟩)
    ·rw [emx]
     exact⟨by omega,by omega,by omega,by omega⟩
    rw [emx,en]
    refine ku (k:=k) ‹1› (λd H6 R hR=>⟨_,rfl,_,rfl,by show 2<=sizeLine;decide,hR⟩) λld H6 rs6 nld g6 a6 p6=>?_
    refine⟨by show 2<=sizeLine;decide,λu nu=>?_⟩
    obtain⟨g7,e7⟩:=laid (o:=.tup [fY (tel kvs) (.snc k bd f0 l0),.ref ld]) nu
    have g05:=g04.trans g5
    exact q u ld rs6 _ ((g05.trans g6).trans g7) (bN (g05.trans g6) nu) (bN g05 nld) e7 (a6.grow g7) (by rw [p6];show _=aK _ _ _;rw [hJe])
  | prt ka kb f0 l0=>
   obtain⟨hk1,hk2,d0,d1,d2⟩:=id ok
   have hn:len2 f0 l0<=400:=by unfold len2;omega
   refine ag (aw ⟨_,rfl,a,_,0,_,rfl,rfl,SqT.of ea,rfl,?_⟩)
   walk_at "d"
   refine ag (aO ⟨_,rfl,rfl,_,rfl,?_⟩)
   rw [show decide (V.str ‹"part"›=V.str ‹"since"›)=false from ‹0›]
   refine br (aD ?_)
   dsimp only
   refine ag (aO ⟨_,rfl,rfl,_,rfl,bJ ?_⟩)
   refine ag (aw ⟨_,rfl,a,_,rfl,SqT.of ea,rfl,_,_,rfl,_,_,rfl,_,_,rfl,_,_,rfl,_,_,rfl,rfl,?_⟩)
   walk_at "d"
   refine ag (aw ⟨_,rfl,_,rfl,_,_,rfl,rfl,f0,l0+1,rfl,λp np=>⟨p,f0,l0+1,rfl,ai,⟨by omega,by omega,by omega,by omega,by omega⟩,λld0 nd0=>?_⟩⟩)
   walk_at "d"
   obtain⟨g1,_⟩:=laid (o:=.rng f0 (l0+1)) np
   generalize upd H p _=H1 at g1 nd0 ⊢
   rw [show mD f0 (l0+1 - f0).toNat=(dys f0 (len2 f0 l0)).map V.int from yq _ _]
   obtain⟨g2,e2⟩:=laid (o:=.lst ((dys f0 (len2 f0 l0)).map V.int)) nd0
   generalize upd H1 ld0 _=H2 at g2 e2 ⊢
   have g02:=g1.trans g2
   refine ag (aw (r6 (bZ (bQ ⟨_,rfl,ld0,rfl,⟨_,SqL.of e2⟩,wG (xs:=dys f0 (len2 f0 l0)) (λd=>!decide (tel kvs ka d=tel kvs kb d)) V.int (by rw [fU];omega) e2 (λd _=>⟨λH3 R g3 hR=>?_,λ_ H3 R g3 hR=>⟨_,rfl,hR _ (λ_ _ e=>e)⟩⟩) λD H3 nD g3 e3=>?_⟩))))
   ·have ht3:=(g02.trans g3) _ _ ht
    refine⟨_,rfl,tb,rfl,.inr ⟨kvs,.of ht3⟩,_,rfl,_,rfl,by show 2<=sizeLine;decide,λt1 n1=>?_⟩
    obtain⟨g4,e4⟩:=laid (o:=.tup [V.str ka,V.int d]) n1
    generalize upd H3 t1 _=H4 at g4 e4 ⊢
    have ht4:=g4 _ _ ht3
    refine⟨_,.inr ⟨kvs,[.inr ka,.inl d],t1,.of ht4,rfl,e4,rfl⟩,?_⟩
    refine⟨_,rfl,tb,rfl,.inr ⟨kvs,.of ht4⟩,_,rfl,_,rfl,by show 2<=sizeLine;decide,λt2 n2=>?_⟩
    obtain⟨g5,e5⟩:=laid (o:=.tup [V.str kb,V.int d]) n2
    generalize upd H4 t2 _=H5 at g5 e5 ⊢
    exact⟨_,.inr ⟨kvs,[.inr kb,.inl d],t2,.of (g5 _ _ ht4),rfl,e5,rfl⟩,gO (tv.ok _ _) (tv.ok _ _),_,rfl,hR _ (g4.trans g5)⟩
   ·refine⟨D,_,rfl,.inl (SqL.of e3),?_⟩
    walk_at "d"
    have e23:=g3 _ _ e2
    refine aF ⟨_,rfl,bZ (yX (bQ ⟨_,rfl,ld0,rfl,⟨_,SqL.of e23⟩,oU (k:=ka) (xs:=dys f0 (len2 f0 l0)) (by rw [fU];omega) e23 (λd H6 R hR=>⟨_,rfl,_,rfl,by show 2<=sizeLine;decide,hR⟩) λD4 H4 rs4 nD4 g4 a4 p4=>?_⟩))⟩
    have e24:=g4 _ _ e23
    refine bQ ⟨_,rfl,ld0,rfl,⟨_,SqL.of e24⟩,oU (k:=kb) (xs:=dys f0 (len2 f0 l0)) (by rw [fU];omega) e24 (λd H6 R hR=>⟨_,rfl,_,rfl,by show 2<=sizeLine;decide,hR⟩) λD5 H5 rs5 nD5 g5 a5 p5=>?_⟩
    obtain⟨b1,b2⟩:=a4
    obtain⟨c1,c2⟩:=a5
    rw [wu]at p4 p5
    have hz4:rs4.length=len2 f0 l0:=by have:=congrArg List.length p4;rw [lm,gE]at this;exact this
    have hz5:rs5.length=len2 f0 l0:=by have:=congrArg List.length p5;rw [lm,gE]at this;exact this
    refine⟨D4,D5,_,_,rfl,rfl,g5 _ _ b1,c1,by rw [List.length_map,List.length_map];exact Nat.le_trans (show _<=100000 by omega) (by decide),λld nld=>?_⟩
    obtain⟨g6,e6⟩:=laid (o:=.lst (rs4.map (λr=>V.ref r.2)++rs5.map (λr=>V.ref r.2))) nld
    generalize upd H5 ld _=H6 at g6 e6 ⊢
    refine⟨by show 2<=sizeLine;decide,λu nu=>?_⟩
    have g05:=((g02.trans g3).trans g4).trans g5
    have e9:fY (tel kvs) (.prt ka kb f0 l0)=V.int ((((dys f0 (len2 f0 l0)).filter λd=>!decide (tel kvs ka d=tel kvs kb d)).map V.int).length:Int):=by
     show V.int ((xL _ _ _ _ _).length:Int)=_
     rw [List.length_map]
     rfl
    rw [e9]at q
    obtain⟨g7,e7⟩:=laid (o:=.tup [V.int ((((dys f0 (len2 f0 l0)).filter λd=>!decide (tel kvs ka d=tel kvs kb d)).map V.int).length:Int),.ref ld]) nu
    refine q u ld (rs4++rs5) _ ((g05.trans g6).trans g7) (bN (g05.trans g6) nu) (bN g05 nld) e7 ⟨by rw [List.map_append];exact g7 _ _ e6,λr hr=>?_⟩ ?_
    ·rcases List.mem_append.mp hr with hr | hr
     ·exact g7 _ _ (g6 _ _ (g5 _ _ (b2 r hr)))
     ·exact g7 _ _ (g6 _ _ (c2 r hr))
    ·unfold prs at p4 p5 ⊢
     rw [List.map_append,p4,p5]
     rfl
  | chg r k f0 l0=>
   obtain⟨⟨hr1,hr2⟩,hk2,d0,d1,d2⟩:=id ok
   have hn:len2 f0 l0<=400:=by unfold len2;omega
   have hl0:(len2 f0 l0:Int)=l0+1 - f0:=by unfold len2;omega
   have en1:(l0+1 - (f0+1)).toNat=len2 f0 l0 - 1:=by unfold len2;omega
   refine ag (aw ⟨_,rfl,a,_,0,_,rfl,rfl,SqT.of ea,rfl,?_⟩)
   walk_at "d"
   refine ag (aO ⟨_,rfl,rfl,_,rfl,?_⟩)
   rw [show decide (V.str ‹"change"›=V.str ‹"since"›)=false from ‹0›]
   refine br (aD ?_)
   dsimp only
   refine ag (aO ⟨_,rfl,rfl,_,rfl,?_⟩)
   rw [show decide (V.str ‹"change"›=V.str ‹"part"›)=false from ‹0›]
   refine br (aD ?_)
   dsimp only
   refine ag (aw ⟨_,rfl,a,_,rfl,SqT.of ea,rfl,_,_,rfl,_,_,rfl,_,_,rfl,_,_,rfl,_,_,rfl,rfl,?_⟩)
   walk_at "d"
   refine ag (aw (bQ ⟨_,rfl,_,_,rfl,rfl,_,rfl,_,_,rfl,rfl,f0+1,l0+1,rfl,⟨by omega,by omega,by omega,by omega⟩,?_⟩))
   rw [en1]
   refine ii (lo:=f0+1) (n:=len2 f0 l0 - 1) (λd=>!decide (tel kvs k d=tel kvs k (d - 1))) V.int ‹1› (λd hd0 hd1=>⟨λH2 R g2 hR=>?_,λ_ H2 R g2 hR=>⟨_,rfl,hR _ (λ_ _ e=>e)⟩⟩) λD H2 nD g2 e2=>?_
   ·have ht2:=g2 _ _ ht
    refine⟨_,rfl,tb,rfl,.inr ⟨kvs,.of ht2⟩,_,rfl,_,rfl,by show 2<=sizeLine;decide,λt1 n1=>?_⟩
    obtain⟨g4,e4⟩:=laid (o:=.tup [V.str k,V.int d]) n1
    generalize upd H2 t1 _=H4 at g4 e4 ⊢
    have ht4:=g4 _ _ ht2
    refine⟨_,.inr ⟨kvs,[.inr k,.inl d],t1,.of ht4,rfl,e4,rfl⟩,?_⟩
    refine⟨_,rfl,tb,rfl,.inr ⟨kvs,.of ht4⟩,_,rfl,_,rfl,_,_,rfl,rfl,by show 2<=sizeLine;decide,λt2 n2=>?_⟩
    obtain⟨g5,e5⟩:=laid (o:=.tup [V.str k,V.int (d - 1)]) n2
    generalize upd H4 t2 _=H5 at g5 e5 ⊢
    exact⟨_,.inr ⟨kvs,[.inr k,.inl (d - 1)],t2,.of (g5 _ _ ht4),rfl,e5,rfl⟩,gO (tv.ok _ _) (tv.ok _ _),_,rfl,hR _ (g4.trans g5)⟩
   ·walk_at "d"
    have e2:H2 D=some (.lst ((cb (tel kvs) k f0 (len2 f0 l0 - 1)).map V.int)):=e2
    have hcl:(cb (tel kvs) k f0 (len2 f0 l0 - 1)).length<=400:=by
     unfold cb
     have:=List.length_filter_le (λd=>!decide (tel kvs k d=tel kvs k (d - 1))) (dys (f0+1) (len2 f0 l0 - 1))
     rw [fU]at this
     omega
    refine ag (aO ⟨_,rfl,D,_,rfl,.inl (SqL.of e2),_,rfl,_,_,rfl,rfl,?_⟩)
    rw [List.length_map]
    refine⟨_,rfl,?_⟩
    by_cases hz:((cb (tel kvs) k f0 (len2 f0 l0 - 1)).length:Int) < r
    ·rw [decide_eq_true hz]
     have ei:(cb (tel kvs) k f0 (len2 f0 l0 - 1))[(r - 1).toNat]?=none:=List.getElem?_eq_none ‹1›
     have e9:fY (tel kvs) (.chg r k f0 l0)=V.non:=by
      show oE _=_
      rw [ei]
      rfl
     rw [e9]at q
     have en:(l0+1 - f0).toNat=len2 f0 l0:=rfl
     refine bJ (aF (bZ ?_))
     refine r8 ?_
     refine bZ (bQ ⟨_,rfl,_,rfl,_,_,rfl,rfl,f0,l0+1,rfl,⟨by omega,by omega,by omega,by omega⟩,ku (k:=k) (n:=len2 f0 l0) ‹1› (λd H6 R hR=>⟨_,rfl,_,rfl,by show 2<=sizeLine;decide,hR⟩) λld H6 rs6 nld g6 a6 p6=>?_⟩)
     refine⟨by show 2<=sizeLine;decide,λu nu=>?_⟩
     obtain⟨g7,e7⟩:=laid (o:=.tup [V.non,.ref ld]) nu
     exact q u ld rs6 _ ((g2.trans g6).trans g7) (bN (g2.trans g6) nu) (bN g2 nld) e7 (a6.grow g7) (by
      rw [p6]
      show _=(match (cb (tel kvs) k f0 (len2 f0 l0 - 1))[(r - 1).toNat]? with
       | some d=>aK k f0 (d - f0+1).toNat
       | none=>aK k f0 (len2 f0 l0))
      rw [ei])
    ·rw [decide_eq_false hz]
     have hi:(r - 1).toNat < (cb (tel kvs) k f0 (len2 f0 l0 - 1)).length:=by omega
     obtain⟨d,ei⟩:∃d,(cb (tel kvs) k f0 (len2 f0 l0 - 1))[(r - 1).toNat]?=some d:=⟨_,List.getElem?_eq_getElem hi⟩
     have hdm:f0+1<=d/\d < f0+1+((len2 f0 l0 - 1:Nat):Int):=jo.mp (List.mem_filter.mp (List.mem_of_getElem? ei)).1
     have e9:fY (tel kvs) (.chg r k f0 l0)=V.int d:=by
      show oE _=_
      rw [ei]
      rfl
     rw [e9]at q
     have eat:atI ((cb (tel kvs) k f0 (len2 f0 l0 - 1)).map V.int) (r - 1)=some (V.int d):=by
      rw [show r - 1=(((r - 1).toNat:Nat):Int) by omega]
      refine dY ?_
      rw [List.getElem?_map,ei]
      rfl
     refine br (aD ?_)
     dsimp only
     refine aF ⟨_,rfl,_,rfl,_,_,rfl,rfl,D,_,r - 1,_,rfl,rfl,SqL.of e2,eat,?_⟩
     refine bZ (bQ ⟨_,rfl,_,rfl,_,rfl,_,_,rfl,rfl,D,_,r - 1,_,rfl,rfl,SqL.of e2,eat,_,_,rfl,rfl,f0,d+1,rfl,⟨by omega,by omega,by omega,by omega⟩,?_⟩)
     rw [show (d+1 - f0).toNat=(d - f0+1).toNat by omega]
     refine ku (k:=k) (n:=(d - f0+1).toNat) ‹1› (λd H6 R hR=>⟨_,rfl,_,rfl,by show 2<=sizeLine;decide,hR⟩) λld H6 rs6 nld g6 a6 p6=>?_
     refine⟨by show 2<=sizeLine;decide,λu nu=>?_⟩
     obtain⟨g7,e7⟩:=laid (o:=.tup [V.int d,.ref ld]) nu
     exact q u ld rs6 _ ((g2.trans g6).trans g7) (bN (g2.trans g6) nu) (bN g2 nld) e7 (a6.grow g7) (by
      rw [p6]
      show _=(match (cb (tel kvs) k f0 (len2 f0 l0 - 1))[(r - 1).toNat]? with
       | some d=>aK k f0 (d - f0+1).toNat
       | none=>aK k f0 (len2 f0 l0))
      rw [ei])
  | num=>exact absurd h3 (by show ¬3<=0;decide)
  | val=>exact absurd h3 (by show ¬3<=1;decide)
  | gth=>exact absurd h3 (by show ¬3<=2;decide)
theorem lH (f:Int) (n:Nat):∀ks:List Str,(ks.flatMap λk=>aK k f n).length<=n * ks.length
 | []=>Nat.zero_le _
 | k::ks=>by
  rw [List.flatMap_cons,List.length_append,List.length_cons,Nat.mul_succ]
  have:=lH f n ks
  have h:=gE k f n
  omega
noncomputable def tw (acc:List RZ) (r:RZ):List RZ:=if r.1∈acc.map (·.1) then acc else acc++[r]
noncomputable def ddR (rs:List RZ):List RZ:=rs.foldl tw []
theorem oA {r r':RZ}:(dh r).1=(dh r').1↔r.1=r'.1:=by
 constructor
 ·intro h
  have h:[(Sum.inr r.1.1:Key),.inl r.1.2]=[.inr r'.1.1,.inl r'.1.2]:=h
  injection h with h1 h2
  injection h2 with h2 _
  exact Prod.ext (Sum.inr.inj h1) (Sum.inl.inj h2)
 ·intro h
  show [(Sum.inr r.1.1:Key),.inl r.1.2]=_
  rw [h]
  rfl
theorem wQ (acc:List RZ) (r:RZ):iX (acc.map dh) (dh r)=(tw acc r).map dh:=by
 have e:(dh r).1∈(acc.map dh).map (·.1)↔r.1∈acc.map (·.1):=by
  rw [List.map_map,List.mem_map,List.mem_map]
  exact⟨λ⟨x,h1,h2⟩=>⟨x,h1,oA.mp h2⟩,λ⟨x,h1,h2⟩=>⟨x,h1,oA.mpr h2⟩⟩
 unfold iX tw
 by_cases h:r.1∈acc.map (·.1)
 ·rw [if_pos (e.mpr h),if_pos h]
 ·rw [if_neg (λz=>h (e.mp z)),if_neg h,List.map_append]
  rfl
theorem oJ:∀(l acc:List RZ),(l.map dh).foldl iX (acc.map dh)=(l.foldl tw acc).map dh
 | [],_=>rfl
 | r::l,acc=>by
  rw [List.map_cons,List.foldl_cons,wQ,List.foldl_cons,oJ l]
theorem rM (rs:List RZ) (n:Nat):ddZ (rs.map dh) n=(ddR (rs.take n)).map dh:=by
 unfold ddZ ddR
 rw [<- List.map_take]
 exact oJ _ []
structure DdI (rs acc:List RZ):Prop where
 nd:(acc.map (·.1)).Nodup
 sub:∀r∈acc,r∈rs
 all:∀p∈prs rs,p∈acc.map (·.1)
theorem gD:∀(n:Nat) (rs:List RZ),rs.length=n->DdI rs (ddR rs)
 | 0,rs,h=>by rw [List.length_eq_zero_iff.mp h];exact⟨.nil,(λ_ h=>by cases h),λ_ h=>by cases h⟩
 | n+1,rs,h=>by
  obtain⟨xs,x,rfl⟩:∃xs x,rs=xs++[x]:=⟨rs.dropLast,rs.getLast (by intro z;rw [z]at h;cases h),(List.dropLast_concat_getLast _).symm⟩
  rw [List.length_append,List.length_singleton]at h
  obtain⟨h1,h2,h3⟩:=gD n xs ‹1›
  have e:ddR (xs++[x])=tw (ddR xs) x:=by unfold ddR;rw [List.foldl_append];rfl
  rw [e]
  unfold tw
  by_cases z:x.1∈(ddR xs).map (·.1)
  ·rw [if_pos z]
   refine⟨h1,λr hr=>List.mem_append_left _ (h2 r hr),λp hp=>?_⟩
   unfold prs at hp
   rw [List.map_append]at hp
   rcases List.mem_append.mp hp with hp | hp
   ·exact h3 p hp
   ·rw [List.mem_singleton.mp hp];exact z
  ·rw [if_neg z]
   refine⟨?_,λr hr=>?_,λp hp=>?_⟩
   ·rw [List.map_append,List.nodup_append]
    refine⟨h1,by simp,λa ha b hb=>?_⟩
    rw [List.mem_singleton.mp hb]
    intro e
    rw [e]at ha
    exact z ha
   ·rcases List.mem_append.mp hr with hr | hr
    ·exact List.mem_append_left _ (h2 r hr)
    ·exact List.mem_append_right _ hr
   ·unfold prs at hp
    rw [List.map_append]at hp ⊢
    rcases List.mem_append.mp hp with hp | hp
    ·exact List.mem_append_left _ (h3 p hp)
    ·exact List.mem_append_right _ hp
theorem rh {α:Type}:∀{l u:List α},l.Nodup->(∀x∈l,x∈u)->l.length<=u.length
 | [],_,_,_=>Nat.zero_le _
 | a::l,u,nd,hs=>by
  obtain⟨n1,n2⟩:=List.nodup_cons.mp nd
  obtain⟨x,y,rfl⟩:=List.append_of_mem (hs a List.mem_cons_self)
  have:=rh (l:=l) (u:=x++y) n2 λz hz=>by
   have:=hs z (List.mem_cons_of_mem _ hz)
   rw [List.mem_append,List.mem_cons]at this
   rw [List.mem_append]
   rcases this with q | q | q
   ·exact .inl q
   ·exact absurd (q ▸ hz) n1
   ·exact .inr q
  rw [List.length_append]at this
  rw [List.length_cons,List.length_append,List.length_cons]
  omega
theorem wn {rs:List RZ}{U:List (Str × Int)} (hU:U.length < 1000) (h:∀p∈prs rs,p∈U):tz (rs.map dh):=λi _=>by
 rw [rM,List.length_map]
 obtain⟨h1,h2,_⟩:=gD _ (rs.take i) rfl
 have:=rh (u:=U) h1 λx hx=>by
  obtain⟨r,hr,rfl⟩:=List.mem_map.mp hx
  exact h _ (List.mem_map_of_mem (List.mem_of_mem_take (h2 r hr)))
 rw [List.length_map]at this
 omega
theorem oR (rs:List RZ):ddZ (rs.map dh) (rs.map dh).length=(ddR rs).map dh:=by
 rw [rM,List.length_map,List.take_length]
theorem ug {rs rs':List RZ} (h1:kA rs) (h2:kA rs') (hp:(prs rs).Perm (prs rs')):prs rs=prs rs':=by
 refine List.Perm.eq_of_pairwise (le:=λa b=>ltK b a=false) (λa b _ _ x y=>lA y x) ?_ ?_ hp
 ·unfold prs;rw [List.pairwise_map];exact h1
 ·unfold prs;rw [List.pairwise_map];exact h2
noncomputable def yu (p:Str × Int):PySem.W.Dat:=.tuple [.str p.1,.int p.2]
theorem oZ {H:Hp}{a:Addr}{rs:List RZ} (h:Askd H a rs):DatV H (.ref a) (.list ((prs rs).map yu)):=by
 obtain⟨h1,h2⟩:=h
 refine .lst h1 ?_
 clear h1
 induction rs with
 | nil=>exact .nil
 | cons r rs ih=>exact .cons (.tup (h2 r List.mem_cons_self) (.cons (.str _) (.cons (.int _) .nil))) (ih λx hx=>h2 x (List.mem_cons_of_mem _ hx))
theorem vP {k:Str} (h:kE k):PyData.strOk k=true:=by
 obtain⟨h1,h2,h3⟩:=lv h
 unfold PyData.strOk
 rw [<- Array.all_toList,List.all_eq_true]
 intro c hc
 have:=h3 c hc
 exact decide_eq_true ‹1›
theorem yt {ps:List (Str × Int)} (h:∀p∈ps,kE p.1):PySem.W.kqdOk 9 (.list (ps.map yu))=true:=by
 show (ps.map yu).all (PySem.W.kqdOk 8)=true
 refine List.all_eq_true.mpr λd hd=>?_
 obtain⟨p,hp,rfl⟩:=List.mem_map.mp hd
 show [PySem.W.Dat.str p.1,.int p.2].all (PySem.W.kqdOk 7)=true
 have:PySem.W.kqdOk 7 (.str p.1)=true:=vP (h p hp)
 rw [List.all_cons,this]
 rfl
noncomputable def rY (ss:List Str) (lo wd:Int):List (Str × Int):=ss.flatMap λk=>aK k lo wd.toNat
theorem fV {k:Str}{f:Int}{n:Nat}{p:Str × Int}:p∈aK k f n↔p.1=k/\f<=p.2/\p.2 < f+n:=by
 unfold aK
 rw [List.mem_map]
 constructor
 ·rintro⟨i,hi,rfl⟩
  have:=List.mem_range.mp hi
  exact⟨rfl,by show f<=f+(i:Int);omega,by show f+(i:Int) < f+n;omega⟩
 ·rintro⟨h1,h2,h3⟩
  refine⟨(p.2 - f).toNat,List.mem_range.mpr ‹1›,Prod.ext h1.symm ?_⟩
  show f+((p.2 - f).toNat:Int)=p.2
  omega
theorem gI {ss:List Str}{lo wd:Int}{p:Str × Int} (h1:p.1∈ss) (h2:lo<=p.2) (h3:p.2 < lo+wd):p∈rY ss lo wd:=by
 unfold rY
 rw [List.mem_flatMap]
 exact⟨p.1,h1,fV.mpr ⟨rfl,h2,by omega⟩⟩
theorem lW {ss:List Str}{lo wd:Int} (hss:ss.length=8/\wd<=40\/ss.length=2/\wd<=400):(rY ss lo wd).length < 1000:=by
 have:=lH lo wd.toNat ss
 unfold rY
 rcases hss with⟨h1,h2⟩ | ⟨h1,h2⟩
 ·rw [h1]at this;omega
 ·rw [h1]at this;omega
theorem ww {k:Str}{l:Int}{n:Nat}{p:Str × Int}:p∈dnP k l n↔p.1=k/\l - n < p.2/\p.2<=l:=by
 unfold dnP
 rw [List.mem_map]
 constructor
 ·rintro⟨i,hi,rfl⟩
  have:=List.mem_range.mp hi
  exact⟨rfl,by show l - (n:Int) < l - (i:Int);omega,by show l - (i:Int)<=l;omega⟩
 ·rintro⟨h1,h2,h3⟩
  refine⟨(l - p.2).toNat,List.mem_range.mpr ‹1›,Prod.ext h1.symm ?_⟩
  show l - ((l - p.2).toNat:Int)=p.2
  omega
theorem jj {f l:Int} (h:f<=l):(len2 f l:Int)=l+1 - f:=by unfold len2;omega
theorem nM {T:Str->Int->V}{l:Lf} (ok:eL l){p:Str × Int}:p∈Bx T l↔p∈qt T l:=by
 cases l with
 | snc k bd f l=>
  have hd:=ok.2.2
  have hn:=jj hd.2.1
  have hJ:=jC (cE T k bd f) (len2 f l)
  show p∈aK k _ _↔p∈dnP k l _
  rw [fV,ww]
  generalize sncJ (cE T k bd f) (len2 f l)=J at hJ ⊢
  constructor
  ·rintro⟨h1,h2,h3⟩
   exact⟨h1,by omega,by omega⟩
  ·rintro⟨h1,h2,h3⟩
   exact⟨h1,by omega,by omega⟩
 | _=>exact Iff.rfl
theorem jh {T:Str->Int->V}{ss:List Str}{lo wd:Int}{l:Lf} (h:C4 ss lo wd l) (ok:eL l) (h3:3<=lfK l):∀p∈qt T l,p∈rY ss lo wd/\kE p.1:=by
 cases l with
 | snc k bd f l=>
  intro p hp
  obtain⟨e1,e2,e3⟩:=ww.mp (show p∈dnP k l _ from hp)
  have hn:=jj ok.2.2.2.1
  obtain⟨h1,h2,h4⟩:=h
  exact⟨gI (by rw [e1];exact h1) ‹1› ‹1›,by rw [e1];exact ok.1⟩
 | prt a b f l=>
  intro p hp
  have hn:=jj ok.2.2.2.1
  obtain⟨⟨h1,h1'⟩,h2,h4⟩:=h
  rcases List.mem_append.mp (show p∈aK a f _++aK b f _ from hp) with hp | hp
  ·obtain⟨e1,e2,e3⟩:=fV.mp hp
   exact⟨gI (by rw [e1];exact h1) ‹1› ‹1›,by rw [e1];exact ok.1⟩
  ·obtain⟨e1,e2,e3⟩:=fV.mp hp
   exact⟨gI (by rw [e1];exact h1') ‹1› ‹1›,by rw [e1];exact ok.2.1⟩
 | chg r k f l=>
  intro p hp
  have hd:=ok.2.2.2.1
  have hn:=jj hd
  obtain⟨h1,h2,h4⟩:=h
  have hp:p∈(match (cb T k f (len2 f l - 1))[(r - 1).toNat]? with
   | some d=>aK k f (d - f+1).toNat
   | none=>aK k f (len2 f l)):=hp
  cases e9:(cb T k f (len2 f l - 1))[(r - 1).toNat]? with
  | none=>
   rw [e9]at hp
   obtain⟨e1,e2,e3⟩:=fV.mp hp
   exact⟨gI (by rw [e1];exact h1) ‹1› ‹1›,by rw [e1];exact ok.2.1⟩
  | some d=>
   rw [e9]at hp
   obtain⟨e1,e2,e3⟩:=fV.mp hp
   have hdm:=jo.mp (List.mem_filter.mp (List.mem_of_getElem? e9)).1
   exact⟨gI (by rw [e1];exact h1) ‹1› ‹1›,by rw [e1];exact ok.2.1⟩
 | num=>exact absurd h3 (by show ¬3<=0;decide)
 | val=>exact absurd h3 (by show ¬3<=1;decide)
 | gth=>exact absurd h3 (by show ¬3<=2;decide)
theorem ji {T:Str->Int->V}{l:Lf} (h3:3<=lfK l):iY (fY T l):=by
 cases l with
 | snc k bd f l=>show iY (gL _ _ _);unfold gL;split;exact .inr ⟨_,rfl⟩;exact .inl rfl
 | prt a b f l=>exact .inr ⟨_,rfl⟩
 | chg r k f l=>
  show iY (oE _)
  cases (cb T k f (len2 f l - 1))[(r - 1).toNat]? with
  | none=>exact .inl rfl
  | some d=>exact .inr ⟨_,rfl⟩
 | num=>exact absurd h3 (by show ¬3<=0;decide)
 | val=>exact absurd h3 (by show ¬3<=1;decide)
 | gth=>exact absurd h3 (by show ¬3<=2;decide)
theorem sy {rs ds rs3 rs4:List RZ} (e1:∀p,p∈prs rs↔p∈prs ds) (p3:rs3.Perm (ddR rs)) (s3:kA rs3) (p4:rs4.Perm (ddR ds)) (s4:kA rs4):prs rs3=prs rs4:=by
 obtain⟨h1,h2,h3⟩:=gD _ rs rfl
 obtain⟨k1,k2,k3⟩:=gD _ ds rfl
 have m1:∀x,x∈(ddR rs).map (·.1)->x∈(ddR ds).map (·.1):=λx hx=>by
  obtain⟨r,hr,rfl⟩:=List.mem_map.mp hx
  exact k3 _ ((e1 _).mp (List.mem_map_of_mem (h2 r hr)))
 have m2:∀x,x∈(ddR ds).map (·.1)->x∈(ddR rs).map (·.1):=λx hx=>by
  obtain⟨r,hr,rfl⟩:=List.mem_map.mp hx
  exact h3 _ ((e1 _).mpr (List.mem_map_of_mem (k2 r hr)))
 have q1:((ddR rs).map (·.1)).Perm ((ddR ds).map (·.1)):=jL h1 m1 (rh k1 m2)
 exact ug s3 s4 (((p3.map λr:RZ=>r.1).trans q1).trans (p4.map λr:RZ=>r.1).symm)
noncomputable abbrev uE:Stmt:=top 58
inductive NoI (s ln t:Addr) (H:Hp) (Q:VK):Prop
 | mk (ss:List Str) (lo wd:Int) (hs:SAt H s) (el:H ln=some (.lst (ss.map V.str))) (hss:Nm2 ss) (nls:ln≠s) (et:H t=some (.tup [.int lo,.int wd])) (nts:t≠s) (h0:0<=lo) (h1:1<=wd) (h2:lo+wd<=400) (q:∀(a:Addr) (l:Lf) (H':Hp),eL l->C4 ss lo wd l->3<=lfK l->Off s H H'->SAt H' s->LN l H' a->Q (.ref a) H'):NoI s ln t H Q
noncomputable def u0:Sp:=λvs H Q _=>∃(s ln t:Addr),vs=[.ref s,.ref ln,.ref t]/\NoI s ln t H Q
theorem Cw {n:Int} (n0:0<=n) (n1:n < 3):∃m:Int,atI [V.int 1,V.int 4,V.int 400] n=some (.int m)/\1<=m/\m<=400:=by
 rcases (show n=0\/n=1\/n=2 by omega) with rfl | rfl | rfl
 ·exact⟨1,rfl,by decide,by decide⟩
 ·exact⟨4,rfl,by decide,by decide⟩
 ·exact⟨400,rfl,by decide,by decide⟩
theorem jH:FnScope ["_law_state", "_law_names_here", "_law_window_here", "_law_first", "_law_last", "_law_name", "_law_way"] ["_law_state", "_law_names_here", "_law_window_here"] (au uE):=‹2›
theorem xT {f f1 f2 f3:Addr}{fd:FuncData} (F:Fun K "_law_node" "_law_node" uE f fd) (N:Free mg){fd1:FuncData} (CP:Cal P w K mg base "_law_pull" 2 ["_law_state", "_law_many"] gj f1 fd1){fd2:FuncData} (CD:Cal P w K mg base "_law_days" 3 ["_law_state", "_law_window_here"] pA f2 fd2){fd3:FuncData} (CA:Cal P w K mg base "_law_amount" 3 ["_law_state"] jB f3 fd3):FnOk P w K mg base CX0 4 f fd ["_law_state", "_law_names_here", "_law_window_here"] u0:=by
 refine F.ok (k:=3) jH (λvs H Q E h=>?_) (λcdv A outer s H vs Q E hr h=>?_)
 ·obtain⟨s,ln,t,rfl,_⟩:=h
  rfl
 ·obtain⟨s,ln,t,rfl,⟨ss,lo,wd,hs,el,hss,nls,et,nts,h0,h1,h2,q⟩⟩:=h
  have hu:=aP hr
  refine⟨_,(af (eQ (ay CD.ok (hr.mono (by decide)) rfl CD.nm CD.kp CD.bd .nil av (aa (pv 0) (aa (pv 2) ae))) (gx rfl (aS (aI (i:=3) jH.nd rfl (Or.inl rfl)) (aS (aI (i:=4) jH.nd rfl (Or.inl rfl)) eS))))
   (@af _ _ _ _ _ (@aA (i:=5) _ _ _ _ _ _ jH.nd rfl (Or.inl rfl) (@bv _ _ _ _ _ _ _ bp (pv 1) (ay CP.ok (hr.mono (by decide)) rfl CP.nm CP.kp CP.bd .nil av (@aa _ _ _ _ _ (pv 0) (@aa _ _ _ _ _ (@bv _ _ _ _ _ _ _ bp (@be _ _ _ _ (@aa _ _ _ _ _ (aE aJ (by rfl) N.len PySem.boot_len (@aa _ _ _ _ _ (pv 1) ae rfl)) (@aa _ _ _ _ _ (aE (iJ rfl) (by rfl) N.min PyProof.Rows.Boot.«min» (@aa _ _ _ _ _ aj (@aa _ _ _ _ _ (aE aJ (by rfl) N.len PySem.boot_len (@aa _ _ _ _ _ (pv 1) ae rfl)) ae rfl) rfl)) ae rfl) rfl)) (ay CP.ok (hr.mono (by decide)) rfl CP.nm CP.kp CP.bd .nil av (@aa _ _ _ _ _ (pv 0) (@aa _ _ _ _ _ aj ae rfl) rfl)) (λ_ _=>rfl)) ae rfl) rfl)) (λ_ _=>rfl)) (by rfl) (by first | exact .inl rfl | exact .inr rfl))
   (af (aA (i:=6) jH.nd rfl (Or.inl rfl) (ay CP.ok (hr.mono (by decide)) rfl CP.nm CP.kp CP.bd .nil av (aa (pv 0) (aa aj ae))))
   (af (bx (aN cH (pv 6) aj (aV _)) (aq (aB (bG (aa aR (aa (pv 5) (aa (ay CA.ok (hr.mono (by decide)) rfl CA.nm CA.kp CA.bd .nil av (aa (pv 0) ae)) (aa (pv 3) (aa (pv 4) ae)))))))) aL)
   (af (bx (aN cH (pv 6) aj (aV _)) (aq (aB (bG (aa aR (aa (pv 5) (aa (bv bp (pv 1) (ay CP.ok (hr.mono (by decide)) rfl CP.nm CP.kp CP.bd .nil av (aa (pv 0) (aa (aE aJ (by rfl) N.len PySem.boot_len (aa (pv 1) ae)) ae))) (λ_ _=>rfl)) (aa (pv 3) (aa (pv 4) ae)))))))) aL)
   (aq (aB (bG (aa aR (aa (aH bw aj (ay CP.ok (hr.mono (by decide)) rfl CP.nm CP.kp CP.bd .nil av (aa (pv 0) (aa (bv bp (be (aa aj (aa aj (aa aj ae)))) (ay CP.ok (hr.mono (by decide)) rfl CP.nm CP.kp CP.bd .nil av (aa (pv 0) (aa aj ae))) (λ_ _=>rfl)) ae)))) (aa (pv 5) (aa (pv 3) (aa (pv 4) ae))))))))))))),?_⟩
  have hsl:(ss.length:Int)=8\/(ss.length:Int)=2:=by rcases hss.1 with z | z <;> omega
  refine ag (aw ⟨_,rfl,_,rfl,s,t,lo,wd,rfl,hs,et,nts,h0,h1,h2,λu f0 l0 H1 o1 hs1 eu d1 d2 d3=>?_⟩)
  refine⟨u,_,rfl,SqT.of eu,rfl,_,_,rfl,_,_,rfl,rfl,?_⟩
  walk_at "d"
  have okn:∀{H':Hp},Off s H H'->H' ln=some (.lst (ss.map V.str)):=λo=>o _ _ el nls
  refine ag (aw ⟨_,rfl,_,rfl,_,rfl,ln,_,rfl,.inl (SqL.of (okn o1)),_,rfl,ln,_,rfl,.inl (SqL.of (okn o1)),_,_,rfl,by show 2<=sizeLine;decide,λl2 nl2=>?_⟩)
  rw [List.length_map]
  obtain⟨mm,emm,mm1,mm2⟩:∃mm:Int,mm=(if (ss.length:Int) < 2 then (ss.length:Int) else 2)/\1<=mm/\mm<=ss.length:=⟨_,rfl,by split <;> omega,by split <;> omega⟩
  rw [<- emm]
  obtain⟨g4,e4⟩:=laid (o:=.lst [V.int (ss.length:Int),V.int mm]) nl2
  have hs4:=hs1.keep g4
  have n2s:l2≠s:=λz=>by obtain⟨xs,e⟩:=hs1.lst;rw [z,e]at nl2;cases nl2
  have o4:=o1.trans (Off.grow g4)
  generalize upd H1 l2 _=H4 at g4 e4 hs4 o4 ⊢
  refine⟨_,rfl,s,2,rfl,hs4,by decide,by decide,λn5 H5 n50 n51 p5 hs5=>?_⟩
  have o5:=o4.trans p5
  obtain⟨m6,em6,hm1,hm2⟩:∃m6:Int,atI [V.int (ss.length:Int),V.int mm] n5=some (.int m6)/\1<=m6/\m6<=ss.length:=by
   rcases (show n5=0\/n5=1 by omega) with rfl | rfl
   ·exact⟨_,rfl,by omega,by omega⟩
   ·exact⟨_,rfl,by omega,by omega⟩
  refine⟨l2,_,_,_,rfl,rfl,SqL.of (p5 _ _ e4 n2s),em6,s,m6,rfl,hs5,by omega,by omega,λn6 H6 n60 n61 p6 hs6=>?_⟩
  have o6:=o5.trans p6
  obtain⟨k,ek,hk,hkm⟩:=vQ hss n60 ‹1›
  refine⟨ln,_,_,_,rfl,rfl,SqL.of (okn o6),ek,?_⟩
  walk_at "d"
  have hd:ni f0 l0:=⟨by omega,d2,by omega⟩
  refine ag (aw ⟨_,rfl,s,3,rfl,hs6,by decide,by decide,λw H7 w0 w1 p7 hs7=>?_⟩)
  walk_at "d"
  have o7:=o6.trans p7
  refine ag (aO ⟨_,rfl,rfl,_,rfl,?_⟩)
  by_cases z0:w=0
  ·rw [decide_eq_true (show V.int w=V.int 0 by rw [z0])]
   refine bJ (aF ⟨_,rfl,_,rfl,s,rfl,hs7,λz H8 p8 hs8 b0 b1=>⟨_,rfl,_,rfl,by show 5<=sizeLine;decide,λa na=>?_⟩⟩)
   obtain⟨g9,e9⟩:=laid (o:=.tup [V.str ‹"since"›,V.str k,V.int z,V.int f0,V.int l0]) na
   exact q a (.snc k z f0 l0) _ ⟨hk,⟨b0,b1⟩,hd⟩ ⟨hkm,d1,d3⟩ (by show 3<=3;decide) ((o7.trans p8).trans (Off.grow g9)) (hs8.keep g9) ⟨a,e9,trivial⟩
  rw [decide_eq_false (λz=>z0 (V.int.inj z))]
  refine br (aD ?_)
  dsimp only
  refine ag (aO ⟨_,rfl,rfl,_,rfl,?_⟩)
  by_cases z1:w=1
  ·rw [decide_eq_true (show V.int w=V.int 1 by rw [z1])]
   refine bJ (aF ⟨_,rfl,_,rfl,_,rfl,_,rfl,ln,_,rfl,.inl (SqL.of (okn o7)),s,_,rfl,hs7,by rw [List.length_map];omega,by rw [List.length_map];omega,λn8 H8 n80 n81 p8 hs8=>?_⟩)
   rw [List.length_map]at n81
   have o8:=o7.trans p8
   obtain⟨k2,ek2,hk2,hkm2⟩:=vQ hss n80 ‹1›
   refine⟨ln,_,_,_,rfl,rfl,SqL.of (okn o8),ek2,_,rfl,_,rfl,by show 5<=sizeLine;decide,λa na=>?_⟩
   obtain⟨g9,e9⟩:=laid (o:=.tup [V.str ‹"part"›,V.str k,V.str k2,V.int f0,V.int l0]) na
   exact q a (.prt k k2 f0 l0) _ ⟨hk,hk2,hd⟩ ⟨⟨hkm,hkm2⟩,d1,d3⟩ (by show 3<=4;decide) (o8.trans (Off.grow g9)) (hs8.keep g9) ⟨a,e9,trivial⟩
  rw [decide_eq_false (λz=>z1 (V.int.inj z))]
  refine br (aD ?_)
  dsimp only
  refine aF ⟨_,rfl,by show 3<=sizeLine;decide,λl3 nl3=>?_⟩
  obtain⟨g8,e8⟩:=laid (o:=.lst [V.int 1,V.int 4,V.int 400]) nl3
  have hs8:=hs7.keep g8
  have n3s:l3≠s:=λz=>by obtain⟨xs,e⟩:=hs7.lst;rw [z,e]at nl3;cases nl3
  have o8:=o7.trans (Off.grow g8)
  change kU _ _ _ _ _ (upd H7 l3 (.lst [V.int 1,V.int 4,V.int 400])) _
  generalize upd H7 l3 _=H8 at g8 e8 hs8 o8 ⊢
  refine⟨_,rfl,s,3,rfl,hs8,by decide,by decide,λn9 H9 n90 n91 p9 hs9=>?_⟩
  obtain⟨m,em,m1,m2⟩:=Cw n90 n91
  refine⟨l3,_,_,_,rfl,rfl,SqL.of (p9 _ _ e8 n3s),em,s,m,rfl,hs9,by omega,by omega,λr H10 r0 r1 p10 hs10=>?_⟩
  have o10:=(o8.trans p9).trans p10
  refine⟨_,_,rfl,rfl,_,rfl,_,rfl,_,rfl,by show 5<=sizeLine;decide,λa na=>?_⟩
  obtain⟨g11,e11⟩:=laid (o:=.tup [V.str ‹"change"›,V.int (1+r),V.str k,V.int f0,V.int l0]) na
  exact q a (.chg (1+r) k f0 l0) _ ⟨⟨by omega,by omega⟩,hk,hd⟩ ⟨hkm,d1,d3⟩ (by show 3<=5;decide) (o10.trans (Off.grow g11)) (hs10.keep g11) ⟨a,e11,trivial⟩
noncomputable abbrev pW:Stmt:=top 57
noncomputable abbrev uP:Stmt:=top 59
noncomputable abbrev sA:Stmt:=top 60
inductive VRd (c:Cs):Addr->Sp->Prop
 | mk (l0:Lf) (h:3<=lfK l0):VRd c (lfC c l0) (tX c (lfK l0))
theorem B1 (xs:List V) (i:Nat) (h:i<=xs.length):fK xs none (some (i:Int))=xs.take i:=by
 unfold fK
 rw [HT.sIx_nat,Nat.min_eq_left h]
 rfl
theorem Lm.gr {T:Addr}{H H':Hp} (L:Lm T H) (g:aZ H H'):Lm T H':=by
 rcases L with e | ⟨c,e1,e2⟩
 ·exact .inl (g _ _ e)
 ·exact .inr ⟨c,g _ _ e1,g _ _ e2⟩
theorem Lm.of {T la:Addr}{H H':Hp} (L:Lm T H) (o:Off la H H'){xs:List V} (h:H la=some (.lst xs)):Lm T H':=by
 rcases L with e | ⟨c,e1,e2⟩
 ·exact .inl (o _ _ e λz=>by rw [z,h]at e;cases e)
 ·exact .inr ⟨c,o _ _ e1 (λz=>by rw [z,h]at e1;cases e1),o _ _ e2 (λz=>by rw [z,h]at e2;cases e2)⟩
theorem vM {s:Addr}{H H1 H2:Hp} (n:H s=none) (g:aZ H H1) (o:Off s H1 H2):aZ H H2:=λb u e=>o _ _ (g _ _ e) (ao e n)
noncomputable def ue (T:Addr):Sp:=λvs H Q _=>∃(cc:Int),vs=[.int cc]/\Lm T H/\∀H',Gm T H H'->Q (.bl true) H'
inductive DrQ (H:Hp) (Q:VK):Prop
 | mk (q:∀(u s ln t tb:Addr) (ss:List Str) (lo wd dp:Int) (kvs:List (List Key × V)) (H':Hp),H s=none->aZ H H'->H' u=some (.tup [.ref s,.ref ln,.ref t,.ref tb,.int dp])->SAt H' s->H' ln=some (.lst (ss.map V.str))->Nm2 ss->(ss.length=8/\wd<=40\/ss.length=2/\wd<=400)->ln≠s->H' t=some (.tup [.int lo,.int wd])->0<=lo->1<=wd->lo+wd<=400->H' tb=some (.dT kvs)->kO kvs->Q (.ref u) H'):DrQ H Q
noncomputable def qT:Sp:=λvs H Q _=>∃(cc:Int),vs=[.int cc]/\DrQ H Q
inductive GoA (H:Hp) (cc:Int) (s t:Addr) (lo wd:Int) (σ:St) (H2:Hp):Prop
 | mk (ln:Addr) (ss:List Str) (dp:Int) (h1:σ=[some (.int cc),some (.ref s),some (.ref ln),some (.ref t),some (.int dp),none]) (h2:aZ H H2) (h3:SAt H2 s) (h4:H2 ln=some (.lst (ss.map V.str))) (h5:Nm2 ss) (h6:ss.length=8/\wd<=40\/ss.length=2/\wd<=400) (h7:H2 t=some (.tup [.int lo,.int wd])) (h8:ln≠s):GoA H cc s t lo wd σ H2
theorem dQ:FnScope ["_law_cell_here", "_law_state", "_law_names_here", "_law_window_here", "_law_deep", "_law_table_here"] ["_law_cell_here"] (au pW):=‹2›
theorem vJ {f f1 f2 f3 f4 f5:Addr}{fd:FuncData} (F:Fun K "_law_drawn" "_law_drawn" pW f fd) (N:Free mg){fd1:FuncData} (CB:Cal P w K mg base "_law_begun" 1 ["_law_cell_here"] me f1 fd1){fd2:FuncData} (CM2:Cal P w K mg base "_law_names" 3 ["_law_cell_here"] qQ f2 fd2){fd3:FuncData} (CM:Cal P w K mg base "_law_mix" 1 ["_law_cell_here", "_law_k"] u5 f3 fd3){fd4:FuncData} (CI:Cal P w K mg base "_law_window" 3 ["_law_state"] nE f4 fd4){fd5:FuncData} (CTb:Cal P w K mg base "_law_table" 4 ["_law_state", "_law_names_here", "_law_window_here"] qP f5 fd5):FnOk P w K mg base CX0 5 f fd ["_law_cell_here"] qT:=by
 refine F.ok (k:=4) dQ (λvs H Q E h=>?_) (λcdv A outer s H vs Q E hr h=>?_)
 ·obtain⟨cc,rfl,_⟩:=h
  rfl
 ·obtain⟨cc,rfl,⟨q⟩⟩:=h
  have hu:=aP hr
  refine⟨_,(af (aA (i:=1) dQ.nd rfl (Or.inl rfl) (ay CB.ok (hr.mono (by decide)) rfl CB.nm CB.kp CB.bd .nil av (aa (pv 0) ae)))
   (af (aA (i:=2) dQ.nd rfl (Or.inl rfl) (ay CM2.ok (hr.mono (by decide)) rfl CM2.nm CM2.kp CM2.bd .nil av (aa (ay CM.ok (hr.mono (by decide)) rfl CM.nm CM.kp CM.bd .nil av (aa (pv 0) (aa aj ae))) ae)))
   (af (aA (i:=3) dQ.nd rfl (Or.inl rfl) (ay CI.ok (hr.mono (by decide)) rfl CI.nm CI.kp CI.bd .nil av (aa (pv 1) ae)))
   (af (aA (i:=4) dQ.nd rfl (Or.inl rfl) aj)
   (af (bx (aN cH (bv iF (pv 3) aj (λ_ _=>rfl)) aj (aV _)) (af (aA (i:=2) dQ.nd rfl (Or.inl rfl) (fm j7 (pv 2) gU (gT aj)))
   (aq (aA (i:=4) dQ.nd rfl (Or.inl rfl) aj))) aL)
   (af (aA (i:=5) dQ.nd rfl (Or.inl rfl) (ay CTb.ok (hr.mono (by decide)) rfl CTb.nm CTb.kp CTb.bd .nil av (aa (pv 1) (aa (pv 2) (aa (pv 3) ae)))))
   (aq (aB (bG (aa (pv 1) (aa (pv 2) (aa (pv 3) (aa (pv 5) (aa (pv 4) ae)))))))))))))),?_⟩
  refine ag (aw ⟨_,rfl,cc,rfl,λs H1 ns g1 hs1=>?_⟩)
  walk_at "d"
  refine ag (aw ⟨_,rfl,cc,99,rfl,λmx _ _=>⟨mx,rfl,λln ss H2 nln g2 eln hss=>?_⟩⟩)
  walk_at "d"
  have hs2:=hs1.keep g2
  have nls:ln≠s:=λz=>by obtain⟨xs,e⟩:=hs1.lst;rw [z,e]at nln;cases nln
  refine ag (aw ⟨_,rfl,s,rfl,hs2,λt lo wd H3 o3 hs3 et nts h0 h1 h2 hw=>?_⟩)
  walk_at "d"
  have g3:aZ H H3:=vM ns (g1.trans g2) o3
  have eln3:=o3 _ _ eln nls
  refine ag (aw ?_)
  refine r8 ?_
  walk_at "d"
  refine Ag (GoA H cc s t lo wd) (λR hR=>?_) λσ H4 hh=>?_
  ·refine aO ⟨_,rfl,t,_,1,_,rfl,rfl,SqT.of et,rfl,rfl,_,rfl,?_⟩
   by_cases z4:wd=400
   ·rw [decide_eq_true (show V.int wd=V.int 400 by rw [z4])]
    refine bJ (ag (aw ⟨_,rfl,_,rfl,ln,_,rfl,SqL.of eln3,λp np=>?_⟩))
    walk_at "d"
    have e2:=B1 (ss.map V.str) 2 (by rw [List.length_map,hss.1];decide)
    rw [show fK (ss.map V.str) none (some 2)=(ss.take 2).map V.str from by rw [List.map_take];exact e2]
    obtain⟨g4,e4⟩:=laid (o:=.lst ((ss.take 2).map V.str)) np
    have nps:p≠s:=λz=>by obtain⟨xs,e⟩:=hs3.lst;rw [z,e]at np;cases np
    have hl2:(ss.take 2).length=2:=by rw [List.length_take,hss.1];decide
    refine aw (r8 ?_)
    walk_at "d"
    exact hR _ _ ⟨p,ss.take 2,0,rfl,g3.trans g4,hs3.keep g4,e4,⟨.inr hl2,hss.2.1.sublist (List.take_sublist _ _),λx hx=>hss.2.2 x (List.mem_of_mem_take hx)⟩,.inr ⟨hl2,by omega⟩,g4 _ _ et,nps⟩
   ·rw [decide_eq_false (λz=>z4 (V.int.inj z))]
    refine br (aD ?_)
    exact hR _ _ ⟨ln,ss,3,rfl,g3,hs3,eln3,⟨.inl hss.1,hss.2⟩,.inl ⟨hss.1,hw.resolve_right z4⟩,et,nls⟩
  obtain⟨ln,ss,dp,rfl,g4,hs4,eln,hss,huni,et,nls⟩:=hh
  have nts:t≠s:=hs4.ne et
  refine ag (aw ⟨_,rfl,_,rfl,_,rfl,s,ln,t,rfl,ss,lo,wd,hs4,eln,hss,nls,et,nts,h0,h1,h2,λtb kvs H5 ntb o5 hs5 etb tv htl=>?_⟩)
  walk_at "d"
  have g5:=vM ns g4 o5
  have eln5:=o5 _ _ eln nls
  refine aF ⟨_,rfl,_,rfl,_,rfl,_,rfl,_,rfl,by show 5<=sizeLine;decide,λu nu=>?_⟩
  obtain⟨g6,e6⟩:=laid (o:=.tup [V.ref s,.ref ln,.ref t,.ref tb,.int dp]) nu
  exact q u s ln t tb ss lo wd dp kvs _ ns (g5.trans g6) e6 (hs5.keep g6) (g6 _ _ eln5) hss huni nls (g6 _ _ (o5 _ _ et nts)) h0 h1 h2 (g6 _ _ etb) tv
theorem BG (p:Addr) (l:Lf):∃r,lfV p l=.str (cM l)::r/\r=(lfV p l).tail:=by cases l <;> exact⟨_,rfl,rfl⟩
theorem all_item {p:Addr}{l:Lf}{x:V} (ok:eL l) (h3:3<=lfK l) (h:x∈lfV p l):(∃z,x=.str z)\/∃i,x=.int i/\Big i:=by
 have ht:x∈(lfV p l).tail->(∃z,x=.str z)\/∃i,x=.int i/\Big i:=λh=>by
  rcases lf_item ok h with e | e | ⟨_,w,ks,f0,l0,rfl⟩
  ·exact .inl e
  ·exact .inr e
  ·exact absurd h3 (by show ¬3<=2;decide)
 obtain⟨r,e1,e2⟩:=BG p l
 rw [e1]at h
 rcases List.mem_cons.mp h with e | e
 ·exact .inl ⟨_,e⟩
 ·exact ht (by rw [<- e2];exact e)
theorem B5 {p:Addr}{l:Lf} (h3:3<=lfK l):(lfV p l).map (gW [])=(aX l).map V.str:=by
 cases l with
 | num=>exact absurd h3 (by show ¬3<=0;decide)
 | val=>exact absurd h3 (by show ¬3<=1;decide)
 | gth=>exact absurd h3 (by show ¬3<=2;decide)
 | _=>rfl
inductive GoL (T:Addr) (H:Hp) (cc dp:Int) (s ln t tb:Addr) (ss:List Str) (lo wd:Int) (kvs:List (List Key × V)) (i:Nat) (σ:St) (H2:Hp):Prop
 | mk (v6 v7 v8 v9 v10 v11:Option V) (h1:σ=[some (.int cc),some (.ref s),some (.ref ln),some (.ref t),some (.ref tb),some (.int dp),v6,v7,v8,v9,v10,v11]) (h2:Gm T H H2) (h3:SAt H2 s) (h4:H2 ln=some (.lst (ss.map V.str))) (h5:H2 t=some (.tup [.int lo,.int wd])) (h6:H2 tb=some (.dT kvs)):GoL T H cc dp s ln t tb ss lo wd kvs i σ H2
theorem df:FnScope ["_law_cell_here", "_law_state", "_law_names_here", "_law_window_here", "_law_table_here", "_law_deep", "_law_turn", "_law_node_here", "_law_question", "_law_due", "_law_days_here", "_law_asked"] ["_law_cell_here"] (au uP):=‹2›
theorem ya {f f1 f2 f3 f4 f5 f6 T:Addr}{fd:FuncData} (F:Fun K "_law_good" "_law_good" uP f fd) (N:Free mg){c:Cs} (VP:∀C sp,VPl c C sp->MV P w K mg base CX0 "plain" 4 ["self", "told"] sp C) (VR:∀C sp,VRd c C sp->MV P w K mg base CX0 "read" 5 ["self", "told"] sp C){fd1:FuncData} (CDr:Cal P w K mg base "_law_drawn" 5 ["_law_cell_here"] qT f1 fd1){fd2:FuncData} (CN:Cal P w K mg base "_law_node" 4 ["_law_state", "_law_names_here", "_law_window_here"] u0 f2 fd2){fd3:FuncData} (CQ:Cal P w K mg base "question_of" 13 ["text"] (yR c) f3 fd3){fd4:FuncData} (CR:Cal P w K mg base "_law_row" 1 ["_law_node_here", "_law_table_here"] yQ f4 fd4){fd5:FuncData} (CK:Cal P w K mg base "_law_like" 1 ["_law_found", "_law_due"] u6 f5 fd5){fd6:FuncData} (CT:Cal P w K mg base "_law_telling" 2 ["_law_table_here", "_law_asked"] (kY T) f6 fd6):FnOk P w K mg base CX0 14 f fd ["_law_cell_here"] (ue T):=by
 refine F.ok (k:=13) df (λvs H Q E h=>?_) (λcdv A outer s H vs Q E hr h=>?_)
 ·obtain⟨cc,rfl,_⟩:=h
  rfl
 ·obtain⟨cc,rfl,L,q⟩:=h
  have hu:=aP hr
  refine⟨_,(af (eQ (ay CDr.ok (hr.mono (by decide)) rfl CDr.nm CDr.kp CDr.bd .nil av (aa (pv 0) ae)) (gx rfl (aS (aI (i:=1) df.nd rfl (Or.inl rfl)) (aS (aI (i:=2) df.nd rfl (Or.inl rfl)) (aS (aI (i:=3) df.nd rfl (Or.inl rfl)) (aS (aI (i:=4) df.nd rfl (Or.inl rfl)) (aS (aI (i:=5) df.nd rfl (Or.inl rfl)) eS)))))))
   (af (ed PassesOwn.never rfl (cV rfl N.range (aa aj ae)) (aI (i:=6) df.nd rfl (Or.inl rfl))
   (af (aA (i:=7) df.nd rfl (Or.inl rfl) (ay CN.ok (hr.mono (by decide)) rfl CN.nm CN.kp CN.bd .nil av (aa (pv 1) (aa (pv 2) (aa (pv 3) ae)))))
   (af (aA (i:=8) df.nd rfl (Or.inl rfl) (ay CQ.ok (hr.mono (by decide)) rfl CQ.nm CQ.kp CQ.bd .nil av (aa (dU PySem.F.plainAttrs_str PySem.F.slot_str_join PySem.F.type_str_join jg aR (aa (dS (bh rfl (An (pv 7)) rfl rfl (by show ∀p∈_,eN [] p;decide) (by decide) rfl (by show ([‹"_law_one"›]:List Str).Nodup;decide) .nil (λC fp s H=>cp) (λC fp s H=>(aM t8 (by rfl) N.str PyProof.Rows.Boot.«str» (aa (pv 0) ae))))) ae)) ae)))
   (af (eQ (ay CR.ok (hr.mono (by decide)) rfl CR.nm CR.kp CR.bd .nil av (aa (pv 7) (aa (pv 4) ae))) (gx rfl (aS (aI (i:=9) df.nd rfl (Or.inl rfl)) (aS (aI (i:=10) df.nd rfl (Or.inl rfl)) eS))))
   (af (aA (i:=11) df.nd rfl (Or.inl rfl) (be ae))
   (af (bx (dZ (dB (ay CK.ok (hr.mono (by decide)) rfl CK.nm CK.kp CK.bd .nil av (aa (fq VR (pv 8) (hr.mono (by decide)) av (aa (ay CT.ok (hr.mono (by decide)) rfl CT.nm CT.kp CT.bd .nil av (aa (pv 4) (aa (pv 11) ae))) ae)) (aa (pv 9) ae))))) (aq (aB jN)) aL)
   (af (bx (aN (vi hr.units) (aE (il rfl) (by rfl) N.sorted PyProof.Rows.Boot.«sorted» (aa (aM (lK rfl (Nat.lt_of_le_of_lt (Nat.add_le_add_left (show 8<=64 by decide) _) hr.units)) (by rfl) N.set PyProof.Rows.Boot.«set» (aa (pv 11) ae)) ae)) (aE (il rfl) (by rfl) N.sorted PyProof.Rows.Boot.«sorted» (aa (aM (lK rfl (Nat.lt_of_le_of_lt (Nat.add_le_add_left (show 8<=64 by decide) _) hr.units)) (by rfl) N.set PyProof.Rows.Boot.«set» (aa (pv 10) ae)) ae)) (aV _)) (aq (aB jN)) aL)
   (aq (bx (dZ (dB (ay CK.ok (hr.mono (by decide)) rfl CK.nm CK.kp CK.bd .nil av (aa (fq VP (pv 8) (hr.mono (by decide)) av (aa (ay CT.ok (hr.mono (by decide)) rfl CT.nm CT.kp CT.bd .nil av (aa (pv 4) (aa (be ae) ae))) ae)) (aa (pv 9) ae))))) (aq (aB jN)) aL)))))))))
   (aq (aB jN)))),?_⟩
  refine ag (aw ⟨_,rfl,cc,rfl,⟨λu s ln t tb ss lo wd dp kvs H1 ns g1 eu hs1 eln hss huni nls et h0 h1 h2 etb tv=>?_⟩⟩)
  refine⟨u,_,rfl,SqT.of eu,rfl,_,_,rfl,_,_,rfl,_,_,rfl,_,_,rfl,_,_,rfl,rfl,?_⟩
  walk_at "d"
  have nts:t≠s:=hs1.ne et
  have ntbs:tb≠s:=λz=>by obtain⟨xs,e⟩:=hs1.lst;rw [z,e]at etb;cases etb
  refine ag ⟨3,rfl,by decide,by decide,cX (lo:=0) (n:=3) (GoL T H cc dp s ln t tb ss lo wd kvs) ⟨none,none,none,none,none,none,rfl,⟨λb o n e=>g1 _ _ e,L.gr g1⟩,hs1,eln,et,etb⟩ (λi σ Ha _ hh=>?_) λσ Ha hh=>?_⟩
  ·obtain⟨v6,v7,v8,v9,v10,v11,rfl,GA,hsa,elna,eta,etba⟩:=hh
   walk_at "d"
   clear hs1 eln et etb g1 eu
   refine ag (aw ⟨_,rfl,_,rfl,_,rfl,s,ln,t,rfl,⟨ss,lo,wd,hsa,elna,hss,nls,eta,nts,h0,h1,h2,λa l Hb okl hin h3 ob hsb hln=>?_⟩⟩)
   walk_at "d"
   have Lb:Lm T Hb:=by obtain⟨xs,e⟩:=hsa.lst;exact Lm.of GA.lam ob e
   have etb:Hb tb=some (.dT kvs):=ob _ _ etba ntbs
   suffices fin:∀(σ':St) (He:Hp),(∃v7 v8 v9 v10 v11:Option V,σ'=[some (.int cc),some (.ref s),some (.ref ln),some (.ref t),some (.ref tb),some (.int dp),some (.int (0+(i:Int))),v7,v8,v9,v10,v11])->Gm T Hb He->GoL T H cc dp s ln t tb ss lo wd kvs (i+1) σ' He by
    obtain⟨pk,ea,hk⟩:=id hln
    refine ag (aw ⟨rfl,?_⟩)
    refine bZ (bQ ⟨_,rfl,a,rfl,⟨_,SqT.of ea⟩,qD (g:=gW []) (Nat.lt_of_le_of_lt (show (lfV pk l).length<=5 from by cases l <;> exact Nat.le_of_ble_eq_true rfl) (by decide)) ea (λx H4 R hx g4 hR=>?_) λD nD=>?_⟩)
    ·rcases all_item okl h3 hx with⟨z,rfl⟩ | ⟨j,rfl,hb⟩
     ·exact⟨_,rfl,.str z rfl hR⟩
     ·exact⟨_,rfl,.int j rfl (cq hb.1 hb.2) hR⟩
    rw [B5 h3]
    obtain⟨g8,e8⟩:=laid (o:=.lst ((aX l).map V.str)) nD
    generalize upd Hb D _=H8 at g8 e8 ⊢
    refine⟨_,D,aX l,rfl,rfl,e8,mP (λw hw=>Nat.le_trans (rl okl w hw).hi (by decide)) (Nat.le_trans (jS l).2 (by decide)),0,.leaf l,rfl,okl,by decide,λx H9 nx g9 qn=>?_⟩
    walk_at "d"
    have g79:=g8.trans g9
    have hx9:LfX c l H9 x:=LfX.keep (show LfX c l (wo H8 H9) x from qn) (Kq.grow yG)
    refine ag (aw ⟨_,rfl,_,rfl,a,tb,l,rfl,⟨kvs,hln.keep g79,okl,h3,g79 _ _ etb,tv,λu ld rsd H10 g10 nu nld eu ad pd=>?_⟩⟩)
    refine⟨u,_,rfl,SqT.of eu,rfl,_,_,rfl,_,_,rfl,rfl,?_⟩
    walk_at "d"
    refine ag (aw ⟨by show 0<=sizeLine;decide,λla nla=>?_⟩)
    walk_at "d"
    obtain⟨g11,e11⟩:=laid (o:=.lst []) nla
    have g0:aZ Hb (upd H10 la (.lst [])):=(g79.trans g10).trans g11
    have hx11:LfX c l (upd H10 la (.lst [])) x:=hx9.keep (Kq.grow (g10.trans g11))
    have etb11:=g11 _ _ (g10 _ _ (g79 _ _ etb))
    have ad11:=ad.grow g11
    have n11:∀b o,H10 b=some o->b≠la:=λb o e=>ao e nla
    have nltb:tb≠la:=n11 _ _ (g10 _ _ (g79 _ _ etb))
    generalize hH11:upd H10 la (.lst [])=H11 at g11 e11 g0 hx11 etb11 ad11 ⊢
    have L11:Lm T H11:=Lb.gr g0
    obtain⟨dx,lnn,hxo,hxn⟩:=id hx11
    have nlnn:lnn≠la:=by
     obtain⟨_,ln9,h9o,h9n⟩:=hx9.keep (Kq.grow g10)
     have:=g11 _ _ h9o
     rw [hxo]at this
     have e:lnn=ln9:=by
      have e2:=congrArg (λo:Option HO=>match o with | some (.ins _ _ fs)=>fs.lookup ("names" : Str) | _=>none) this
      have e2:(mN l lnn).lookup ("names" : Str)=(mN l ln9).lookup ("names" : Str):=e2
      rw [show (mN l lnn).lookup ("names" : Str)=some (.ref lnn) from q_n _ _ _ _,show (mN l ln9).lookup ("names" : Str)=some (.ref ln9) from q_n _ _ _ _]at e2
      exact V.ref.inj (Option.some.inj e2)
     rw [e]
     exact n11 _ _ h9n
    have nxl:x≠la:=λz=>by rw [z,e11]at hxo;cases hxo
    refine ag (aO ⟨_,rfl,x,lfC c l,dx,_,tX c (lfK l),rfl,hxo,.mk l h3,ow ‹0›,_,rfl,_,rfl,tb,la,rfl,L11,λf H12 nf G12 T12=>?_⟩)
    have k12:∀b o,H11 b=some o->(∀ps,o≠.tbl ps)->H12 b=some o:=λb o e n=>G12.at L11 e n
    have hx12:LfX c l H12 x:=⟨dx,lnn,k12 _ _ hxo (λ_ z=>nomatch z),k12 _ _ hxn (λ_ z=>nomatch z)⟩
    have TA12:TeA f la tb kvs H12 []:=⟨T12,k12 _ _ etb11 (λ_ z=>nomatch z),⟨k12 _ _ e11 (λ_ z=>nomatch z),λr hr=>by cases hr⟩⟩
    have ad12:Askd H12 ld rsd:=by
     obtain⟨b1,b2⟩:=ad11
     exact⟨k12 _ _ b1 (λ_ z=>nomatch z),λr hr=>k12 _ _ (b2 r hr) (λ_ z=>nomatch z)⟩
    have nld:ld≠la:=by
     obtain⟨b1,_⟩:=ad
     exact n11 _ _ b1
    refine⟨x,f,l,rfl,rfl,h3,la,tb,kvs,[],hx12,okl,TA12,tv.ok,by decide,λrs13 H13 o13 a13 p13=>?_⟩
    have p13:prs rs13=qt (tel kvs) l:=p13
    refine⟨_,rfl,_,_,rfl,ji h3,ji h3,?_⟩
    rw [decide_eq_true rfl]
    refine⟨_,rfl,br (aD ?_)⟩
    dsimp only
    have L13:Lm T H13:=by
     obtain⟨c1,_⟩:=id TA12
     obtain⟨_,_,⟨b1,_⟩⟩:=TA12
     exact Lm.of G12.lam o13 b1
    have G13:Gm T Hb H13:=⟨λb o n e=>o13 _ _ (G12.same b o n (g0 _ _ e)) (λz=>by rw [<- hH11]at g0;have:=ao ((g79.trans g10) _ _ e) nla;exact this z),L13⟩
    have hx13:LfX c l H13 x:=by
     obtain⟨_,_,_,_⟩:=hx12
     exact⟨dx,lnn,o13 _ _ (k12 _ _ hxo (λ_ z=>nomatch z)) nxl,o13 _ _ (k12 _ _ hxn (λ_ z=>nomatch z)) nlnn⟩
    have ad13:Askd H13 ld rsd:=by
     obtain⟨b1,b2⟩:=ad12
     obtain⟨_,_,⟨c1,_⟩⟩:=TA12
     exact⟨o13 _ _ b1 nld,λr hr=>o13 _ _ (b2 r hr) λz=>by have:=b2 r hr;rw [z,c1]at this;cases this⟩
    have etb13:H13 tb=some (.dT kvs):=o13 _ _ (k12 _ _ etb11 (λ_ z=>nomatch z)) nltb
    obtain⟨al,at'⟩:=id a13
    have few:tz (rs13.map dh):=wn (lW huni) λp hp=>(jh hin okl h3 p (by rw [<- p13];exact hp)).1
    refine ag (aO ⟨_,rfl,la,rs13.map dh,rfl,(by rw [List.map_map];exact al),(λz hz=>by obtain⟨r,hr,rfl⟩:=List.mem_map.mp hz;exact at' r hr),few,λsp nsp=>?_⟩)
    rw [oR]
    obtain⟨g14,e14⟩:=laid (o:=.ext (dO P w sp (ee w) ((ddR rs13).map dh))) nsp
    have hdd:=gD _ rs13 rfl
    change rSortS _ _ _ (upd H13 sp (.ext (dO P w sp (ee w) ((ddR rs13).map dh)))) _
    generalize upd H13 sp _=H14 at g14 e14 ⊢
    have uni2:=lW (lo:=lo) huni
    have dl:∀{rs:List RZ},(∀p∈prs rs,p∈qt (tel kvs) l)->(ddR rs).length<=sizeLine:=λ{rs} hrs=>by
     have hd1:=gD _ rs rfl
     have h1:=rh (u:=rY ss lo wd) hd1.nd λy hy=>by
      obtain⟨r,hr,rfl⟩:=List.mem_map.mp hy
      exact(jh hin okl h3 r.1 (hrs _ (List.mem_map_of_mem (hd1.sub r hr)))).1
     rw [List.length_map]at h1
     exact Nat.le_trans (show _<=1000 by omega) (by decide)
    refine⟨sp,ddR rs13,rfl,e14,λr hr=>g14 _ _ (at' r (hdd.sub r hr)),dl (λp hp=>by rw [<- p13];exact hp),λD rs3 nD p3 s3=>?_⟩
    obtain⟨g15,e15⟩:=laid (o:=.lst (rs3.map λr=>V.ref r.2)) nD
    generalize upd H14 D _=H15 at g15 e15 ⊢
    have g135:=g14.trans g15
    obtain⟨b1,b2⟩:=id (ad13.grow g135)
    have mem2:∀p,p∈prs rsd->p∈qt (tel kvs) l:=λp hp=>(nM okl).mp (by rw [<- pd];exact hp)
    have few2:tz (rsd.map dh):=wn (lW huni) λp hp=>(jh hin okl h3 p (mem2 p hp)).1
    refine⟨_,rfl,ld,rsd.map dh,rfl,(by rw [List.map_map];exact b1),(λz hz=>by obtain⟨r,hr,rfl⟩:=List.mem_map.mp hz;exact b2 r hr),few2,λsp2 nsp2=>?_⟩
    rw [oR]
    obtain⟨g15',e15'⟩:=laid (o:=.ext (dO P w sp2 (ee w) ((ddR rsd).map dh))) nsp2
    have hdd2:=gD _ rsd rfl
    change rSortS _ _ _ (upd H15 sp2 (.ext (dO P w sp2 (ee w) ((ddR rsd).map dh)))) _
    generalize upd H15 sp2 _=H15b at g15' e15' ⊢
    refine⟨sp2,ddR rsd,rfl,e15',λr hr=>g15' _ _ (b2 r (hdd2.sub r hr)),dl mem2,λD2 rs4 nD2 p4 s4=>?_⟩
    obtain⟨g16,e16⟩:=laid (o:=.lst (rs4.map λr=>V.ref r.2)) nD2
    generalize upd H15b D2 _=H16 at g16 e16 ⊢
    have g56:=g15'.trans g16
    have g136:=g135.trans g56
    have a3:Askd H16 D rs3:=⟨g56 _ _ e15,λr hr=>g136 _ _ (at' r (hdd.sub r (p3.mem_iff.mp hr)))⟩
    have a4:Askd H16 D2 rs4:=⟨e16,λr hr=>g56 _ _ (b2 r (hdd2.sub r (p4.mem_iff.mp hr)))⟩
    have esame:=sy (rs:=rs13) (ds:=rsd) (λp=>by rw [p13,pd];exact(nM okl).symm) p3 s3 p4 s4
    have ok4:PySem.W.kqdOk 9 (.list ((prs rs4).map yu))=true:=yt λp hp=>by
     obtain⟨r,hr,rfl⟩:=List.mem_map.mp hp
     exact(jh hin okl h3 r.1 (mem2 _ (List.mem_map_of_mem (hdd2.sub r (p4.mem_iff.mp hr))))).2
    refine⟨_,_,oZ a3,oZ a4,by rw [esame];exact ok4,ok4,true,⟨λ_=>by rw [esame],λ_=>rfl⟩,?_⟩
    refine⟨_,rfl,br (aD ?_)⟩
    dsimp only
    have hx16:=hx13.keep (Kq.grow g136)
    obtain⟨dx',ln',hxo',hxn'⟩:=id hx16
    refine aO ⟨_,rfl,x,lfC c l,dx',_,sk c (lfK l),rfl,hxo',.mk l h3,ow ‹0›,_,rfl,by show 0<=sizeLine;decide,λl2 nl2=>?_⟩
    obtain⟨g17,e17⟩:=laid (o:=.lst []) nl2
    have hx17:LfX c l (upd H16 l2 (.lst [])) x:=hx16.keep (Kq.grow g17)
    have L17:Lm T (upd H16 l2 (.lst [])):=L13.gr (g136.trans g17)
    have etb17:=g17 _ _ (g136 _ _ etb13)
    have hn17:∀b o,H16 b=some o->b≠l2:=λb o e=>ao e nl2
    generalize upd H16 l2 (.lst [])=H17 at g17 e17 hx17 L17 etb17 ⊢
    refine⟨tb,l2,rfl,L17,λf2 H18 nf2 G18 T18=>?_⟩
    have k18:∀b o,H17 b=some o->(∀ps,o≠.tbl ps)->H18 b=some o:=λb o e n=>G18.at L17 e n
    have hx18:LfX c l H18 x:=by
     obtain⟨d1,n1,q1,q2⟩:=hx17
     exact⟨d1,n1,k18 _ _ q1 (λ_ z=>nomatch z),k18 _ _ q2 (λ_ z=>nomatch z)⟩
    have T18':TeA f2 l2 tb kvs H18 []:=⟨T18,k18 _ _ etb17 (λ_ z=>nomatch z),⟨k18 _ _ e17 (λ_ z=>nomatch z),λr hr=>by cases hr⟩⟩
    refine⟨x,f2,l,rfl,rfl,l2,tb,kvs,[],hx18,okl,T18',tv.ok,by decide,λrs19 H19 o19 a19 _=>?_⟩
    refine⟨_,rfl,_,_,rfl,ji h3,ji h3,?_⟩
    rw [decide_eq_true rfl]
    obtain⟨_,_,⟨c18,_⟩⟩:=T18'
    refine⟨_,rfl,br (aD ?_)⟩
    refine fin _ H19 ⟨_,_,_,_,_,rfl⟩ ⟨λb o n e=>o19 _ _ (G18.same b o n (g17 _ _ (g136 _ _ (G13.same b o n e)))) ?_,Lm.of G18.lam o19 c18⟩
    exact hn17 _ _ (g136 _ _ (G13.same b o n e))
   rintro σ' He ⟨w7,w8,w9,w10,w11,rfl⟩ Ge
   have at_:∀{b:Addr}{o:HO},Hb b=some o->(∀ps,o≠.tbl ps)->He b=some o:=λe n=>Ge.at Lb e n
   refine⟨_,_,_,_,_,_,rfl,⟨λb o n e=>Ge.same b o n (ob _ _ (GA.same b o n e) (ao e ns)),Ge.lam⟩,?_,at_ (ob _ _ elna nls) (λ_ z=>nomatch z),at_ (ob _ _ eta nts) (λ_ z=>nomatch z),at_ etb (λ_ z=>nomatch z)⟩
   obtain⟨x1,x2,x3,e,h9⟩:=hsb
   exact⟨x1,x2,x3,at_ e (λ_ z=>nomatch z),h9⟩
  ·obtain⟨v6,v7,v8,v9,v10,v11,rfl,GA,_⟩:=hh
   dsimp only
   exact aF (r8 (q _ GA))
noncomputable def qR (K:PySem.W.Frag) (T:Addr):Sp:=λvs H Q _=>∃(a:Addr) (ns:List Int),vs=[.ref a]/\Lm T H/\SqL K H a (ns.map V.int)/\ns.length<=63/\∀H',Q (.bl true) H'
theorem zN {K:W.Frag}{T a:Addr}{H H':Hp}{xs:List V} (h:SqL K H a xs) (L:Lm T H) (G:Gm T H H'):SqL K H' a xs:=by
 rcases h with(h | ⟨o,h⟩) | h
 ·exact .inl (.inl (G.at L h (λ_ z=>nomatch z)))
 ·exact .inl (.inr ⟨o,G.at L h (λ_ z=>nomatch z)⟩)
 ·exact .inr h
theorem yV:FnScope ["_law_script", "_law_k"] ["_law_script"] (au sA):=‹2›
theorem Ax {f f1 f2 T:Addr}{fd:FuncData} (F:Fun K "law" "law" sA f fd) (N:Free mg){fd1:FuncData} (CC:Cal P w K mg base "_law_cell" 1 ["_law_script", "_law_k"] (uf K) f1 fd1){fd2:FuncData} (CG:Cal P w K mg base "_law_good" 14 ["_law_cell_here"] (ue T) f2 fd2):FnOk P w K mg base CX0 15 f fd ["_law_script"] (qR K T):=by
 refine F.ok (k:=14) yV (λvs H Q E h=>?_) (λcdv A outer s H vs Q E hr h=>?_)
 ·obtain⟨sa,ns,rfl,_⟩:=h
  rfl
 ·obtain⟨sa,ns,rfl,L,hS,h63,q⟩:=h
  have hu:=aP hr
  refine⟨_,(af (ed PassesOwn.never rfl (cV rfl N.range (aa (aE (lM rfl) (by rfl) N.max PyProof.Rows.Boot.«max» (aa aj (aa (aE (iJ rfl) (by rfl) N.min PyProof.Rows.Boot.«min» (aa (aE aJ (by rfl) N.len PySem.boot_len (aa (pv 0) ae)) (aa aj ae))) ae))) ae)) (aI (i:=1) yV.nd rfl (Or.inl rfl))
   (aq (bx (dZ (dB (ay CG.ok (hr.mono (by decide)) rfl CG.nm CG.kp CG.bd .nil av (aa (ay CC.ok (hr.mono (by decide)) rfl CC.nm CC.kp CC.bd .nil av (aa (pv 0) (aa (pv 1) ae))) ae)))) (aq (aB jN)) aL)))
   (aq (aB jN))),?_⟩
  refine ag ?_
  refine⟨_,rfl,sa,_,rfl,.inl hS,_,_,rfl,_,_,rfl,?_⟩
  rw [List.length_map]
  have hr1:∀x:Int,x<=10->(if x > 2 then x else 2)<=10:=λx h=>by split <;> omega
  have hr2:(if (10:Int) < (ns.length:Int) then 10 else (ns.length:Int))<=10:=by split <;> omega
  have hr3:=hr1 _ hr2
  have hr4:2<=(if (if (10:Int) < (ns.length:Int) then 10 else (ns.length:Int)) > 2 then (if (10:Int) < (ns.length:Int) then 10 else (ns.length:Int)) else 2):=by split <;> omega
  generalize (if (if (10:Int) < (ns.length:Int) then 10 else (ns.length:Int)) > 2 then (if (10:Int) < (ns.length:Int) then 10 else (ns.length:Int)) else 2)=m at hr3 hr4 ⊢
  refine⟨m,rfl,by omega,by omega,cX (lo:=0) (n:=m.toNat) (λi σ H2=>Lm T H2/\SqL K H2 sa (ns.map V.int)/\∃v1,σ=[some (.ref sa),v1]) ⟨L,hS,none,rfl⟩ (λk σ H2 hk hh=>?_) λσ H2 hh=>?_⟩
  ·obtain⟨L2,hS2,v1,rfl⟩:=hh
   walk_at "d"
   rw [Int.zero_add]
   refine aO ⟨_,rfl,_,rfl,sa,ns,_,rfl,hS2,by omega,by omega,λc1=>⟨c1,rfl,L2,λH3 G3=>⟨_,rfl,br (aD ?_)⟩⟩⟩
   exact⟨G3.lam,zN hS2 L2 G3,_,rfl⟩
  ·obtain⟨L2,hS2,v1,rfl⟩:=hh
   dsimp only
   refine aF ?_
   exact q H2
theorem ar1 {P:List Value->Prop} (h:∀a,P [a]):∀us:List Value,us.length=1->P us:=λus e=>by
 obtain⟨a,rfl⟩:=List.length_eq_one_iff.mp e
 exact h a
theorem ar2 {P:List Value->Prop} (h:∀x1 x2,P [x1,x2]) (us:List Value) (e:us.length=2):P us:=by
 cases us with
 | nil=>cases e
 | cons a t=>exact ar1 (P:=λt=>P (a::t)) (λx1=>h a x1) t (Nat.succ.inj e)
theorem ar3 {P:List Value->Prop} (h:∀x1 x2 x3,P [x1,x2,x3]) (us:List Value) (e:us.length=3):P us:=by
 cases us with
 | nil=>cases e
 | cons a t=>exact ar2 (P:=λt=>P (a::t)) (λx1 x2=>h a x1 x2) t (Nat.succ.inj e)
theorem ar4 {P:List Value->Prop} (h:∀x1 x2 x3 x4,P [x1,x2,x3,x4]) (us:List Value) (e:us.length=4):P us:=by
 cases us with
 | nil=>cases e
 | cons a t=>exact ar3 (P:=λt=>P (a::t)) (λx1 x2 x3=>h a x1 x2 x3) t (Nat.succ.inj e)
theorem ar5 {P:List Value->Prop} (h:∀x1 x2 x3 x4 x5,P [x1,x2,x3,x4,x5]) (us:List Value) (e:us.length=5):P us:=by
 cases us with
 | nil=>cases e
 | cons a t=>exact ar4 (P:=λt=>P (a::t)) (λx1 x2 x3 x4=>h a x1 x2 x3 x4) t (Nat.succ.inj e)
theorem ar6 {P:List Value->Prop} (h:∀x1 x2 x3 x4 x5 x6,P [x1,x2,x3,x4,x5,x6]) (us:List Value) (e:us.length=6):P us:=by
 cases us with
 | nil=>cases e
 | cons a t=>exact ar5 (P:=λt=>P (a::t)) (λx1 x2 x3 x4 x5=>h a x1 x2 x3 x4 x5) t (Nat.succ.inj e)
noncomputable def mQ (f:Addr):Option (Option Value)->Bool
 | some (some (.ref g))=>decide (g=f)
 | _=>false
noncomputable def qv (n:String):Option (Option Value)->Bool
 | some (some (.builtin m))=>decide (m=n)
 | _=>false
noncomputable def zk:Option (Option Value)->Bool
 | some none=>true
 | _=>false
noncomputable def vZ:Option Bool->Bool
 | some true=>true
 | _=>false
theorem iG {f:Addr}:∀{x:Option (Option Value)},mQ f x=true->x=some (some (.ref f))
 | some (some (.ref g)),h=>by rw [of_decide_eq_true (show decide (g=f)=true from h)]
theorem lD {n:String}:∀{x:Option (Option Value)},qv n x=true->x=some (some (.builtin n))
 | some (some (.builtin m)),h=>by rw [of_decide_eq_true (show decide (m=n)=true from h)]
theorem w6:∀{x:Option (Option Value)},zk x=true->x=some none
 | some none,_=>rfl
theorem oC:∀{x:Option Bool},vZ x=true->x=some true
 | some true,_=>rfl
noncomputable def quB (K:PySem.W.Frag) (fT fA fD CQ C:Addr):Bool:=PySem.W.plainGet K C Str.empty && (PySem.W.hasDictIn K C && (PySem.W.plainOver K C && (qv "object.__setattr__" (PySem.W.findIn K (.ref C) "__setattr__") && (cS.all (λf=>zk (PySem.W.findIn K (.ref C) f)) && (mQ fT (PySem.W.findIn K (.ref C) "text") && (mQ fA (PySem.W.findIn K (.ref C) "asked_keys") && (mQ fD (PySem.W.findIn K (.ref C) "depth") && (qv "object.__class__" (PySem.W.findIn K (.ref C) "__class__") && (vZ (PySem.W.mroIn K C (.type "object")) && vZ (PySem.W.kitOne K (.ref C) (.ref CQ)))))))))))
structure QuF (K:PySem.W.Frag) (fT fA fD CQ C:Addr):Prop where
 qu:QuC K C
 tx:‹(K,C,fT,"text")›
 ak:‹(K,C,fA,"asked_keys")›
 dp:‹(K,C,fD,"depth")›
 ha:PySem.W.findIn K (.ref C) "__class__" = some (some (.builtin "object.__class__"))
 hm:PySem.W.mroIn K C (.type "object")=some true
 kt:PySem.W.kitOne K (.ref C) (.ref CQ)=some true
theorem fj {K:W.Frag}{fT fA fD CQ C:Addr} (h:quB K fT fA fD CQ C=true):QuF K fT fA fD CQ C:=by
 unfold quB at h
 simp only [Bool.and_eq_true]at h
 obtain⟨h1,h2,h3,h4,h5,h6,h7,h8,h9,h10,h11⟩:=h
 exact⟨⟨⟨h1,h2,h3,lD h4⟩,λf hf=>w6 (List.all_eq_true.mp h5 f hf)⟩,iG h6,iG h7,iG h8,lD h9,oC h10,oC h11⟩
noncomputable def tT:Value->Option Str
 | .str x _=>some x
 | _=>none
noncomputable def AK:Value->Bool
 | .type n=>decide (n = "tuple")
 | _=>false
noncomputable def Ci (ws:List Str):PySem.Data->Bool
 | .seq its _=>decide (its.toList.map tT=ws.map some)
 | _=>false
noncomputable def sf (K:PySem.W.Frag) (a:Addr) (ws:List Str):Bool:=match K.lookup a with
 | some o=>AK o.cls && Ci ws o.data
 | none=>false
theorem kW:∀{us:List Value}{ws:List Str},us.map tT=ws.map some->aU (ws.map V.str) us
 | [],[],_=>.nil
 | u::us,w::ws,h=>by
  obtain⟨h1,h2⟩:=List.cons.inj h
  refine .cons ?_ (kW h2)
  cases u with
  | str x t=>exact⟨t,by rw [Option.some.inj h1]⟩
  | _=>cases h1
 | [],w::ws,h=>by cases h
 | u::us,[],h=>by cases h
theorem m7 {K:W.Frag}{a:Addr}{ws:List Str} (hl:ws.length<=100) (h:sf K a ws=true) (H:Hp):SqT K H a (ws.map V.str):=by
 unfold sf at h
 cases e:K.lookup a with
 | none=>rw [e]at h;cases h
 | some o=>
  rw [e]at h
  rw [Bool.and_eq_true]at h
  obtain⟨h1,h2⟩:=h
  have hc:o.cls=.type "tuple":=by
   cases z:o.cls with
   | type n=>rw [z]at h1;rw [of_decide_eq_true (show decide (n = "tuple")=true from h1)]
   | _=>rw [z]at h1;cases h1
  cases z:o.data with
  | seq its n=>
   rw [z]at h2
   have h3:=of_decide_eq_true (show decide (its.toList.map tT=ws.map some)=true from h2)
   have hz:=congrArg List.length h3
   rw [List.length_map,List.length_map,Array.length_toList]at hz
   exact .inr ⟨o,its,n,e,hc,z,Nat.le_trans (show its.size<=100 by omega) (by decide),kW h3⟩
  | _=>rw [z]at h2;cases h2
theorem all_mk {l:PySem.W.OpenLaw}{w:World}{K:W.Frag}{h:Heap}{mg:Str->Option Value}{fa cT L R CQ CB c1 c2 c3 c4 c5 c6 c7 c8 t1 t2 t3 t4 f1 f2 f3 f4 f5 f6 f7 f8 f9 f10 f11 f12 f13 f14 f15 f16 f17 f18 f19 f20 f21 f22 f23 f24 f25 f26 f27 f28 f29 f30 f31 f32 f33 f34 f35 f36 f37 f38 f39 f40 f41 f42 f43 f44 f45 f46 f47 f48 f49 f50 f51 f52 f53 f54 f55 f56 f57 f58:Addr}{d1 d2 d3 d4 d5 d6 d7 d8 d9 d10 d11 d12 d13 d14 d15 d16 d17 d18 d19 d20 d21 d22 d23 d24 d25 d26 d27 d28 d29 d30 d31 d32 d33 d34 d35 d36 d37 d38 d39 d40 d41 d42 d43 d44 d45 d46 d47 d48 d49 d50 d51 d52 d53 d54 d55 d56 d57 d58:FuncData}{odT anT:Option Addr}{slT:Array (Option Value)}{ocT kVT dcT pmT ctT:Value} (X:K.In h) (G:h.Ns mainGlobals mg) (hfa:mg "law" = some (.ref fa))
  (amR:‹(K,R,"Reader")›)
  (amCQ:‹(K,CQ,"Question")›)
  (amCB:‹(K,CB,"Bracketed")›)
  (amc1:‹(K,c1,"Number")›)
  (amc2:‹(K,c2,"Value")›)
  (amc3:‹(K,c3,"Gathering")›)
  (amc4:‹(K,c4,"Since")›)
  (amc5:‹(K,c5,"Part")›)
  (amc6:‹(K,c6,"Change")›)
  (amc7:‹(K,c7,"Reckoning")›)
  (amc8:‹(K,c8,"Choice")›)
  (a1:‹(K,f1,"law")›) (F1:Fun K "law" "law" sA f1 d1)
  (a2:‹(K,f2,"_law_cell")›) (F2:Fun K "_law_cell" "_law_cell" uS f2 d2)
  (a3:‹(K,f3,"_law_good")›) (F3:Fun K "_law_good" "_law_good" uP f3 d3)
  (a4:‹(K,c4,f4,"plain")›) (i4:‹[K,f4]›) (F4:Fun K "plain" "Since.plain" pL f4 d4)
  (a5:‹(K,c4,f5,"reaches")›) (i5:‹[K,f5]›) (F5:Fun K "reaches" "Since.reaches" pI f5 d5)
  (a6:‹(K,c5,f6,"plain")›) (i6:‹[K,f6]›) (F6:Fun K "plain" "Part.plain" pM f6 d6)
  (a7:‹(K,f7,"tellings")›) (F7:Fun K "tellings" "tellings" iw f7 d7)
  (a8:‹(K,c6,f8,"plain")›) (i8:‹[K,f8]›) (F8:Fun K "plain" "Change.plain" pN f8 d8)
  (a9:‹(K,c4,f9,"read")›) (i9:‹[K,f9]›) (F9:Fun K "read" "Since.read" pJ f9 d9)
  (a10:‹(K,CQ,f10,"read")›) (i10:‹[K,f10]›) (F10:Fun K "read" "Question.read" pH f10 d10)
  (a11:‹(K,c6,f11,"read")›) (i11:‹[K,f11]›) (F11:Fun K "read" "Change.read" pK f11 d11)
  (a12:‹(K,f12,"_law_drawn")›) (F12:Fun K "_law_drawn" "_law_drawn" pW f12 d12)
  (a13:‹(K,f13,"_law_begun")›) (F13:Fun K "_law_begun" "_law_begun" pY f13 d13)
  (a14:‹(K,f14,"_law_names")›) (F14:Fun K "_law_names" "_law_names" pP f14 d14)
  (a15:‹(K,f15,"_law_pull")›) (F15:Fun K "_law_pull" "_law_pull" uz f15 d15)
  (a16:‹(K,f16,"_law_mix")›) (F16:Fun K "_law_mix" "_law_mix" A6 f16 d16)
  (a17:‹(K,f17,"_law_window")›) (F17:Fun K "_law_window" "_law_window" mq f17 d17)
  (a18:‹(K,f18,"_law_table")›) (F18:Fun K "_law_table" "_law_table" pG f18 d18)
  (a19:‹(K,f19,"_law_days")›) (F19:Fun K "_law_days" "_law_days" uQ f19 d19)
  (a20:‹(K,f20,"_law_amount")›) (F20:Fun K "_law_amount" "_law_amount" mB f20 d20)
  (a21:‹(K,f21,"_law_node")›) (F21:Fun K "_law_node" "_law_node" uE f21 d21)
  (a22:‹(K,f22,"question_of")›) (F22:Fun K "question_of" "question_of" A5 f22 d22)
  (a23:‹(K,R,f23,"__init__")›) (i23:‹[K,f23]›) (F23:Fun K "__init__" "Reader.__init__" pR f23 d23)
  (a24:‹(K,f24,"question_here")›) (F24:Fun K "question_here" "question_here" sQh f24 d24)
  (a25:‹(K,f25,"questions_here")›) (F25:Fun K "questions_here" "questions_here" uy f25 d25)
  (a26:‹(K,R,f26,"beginning_here")›) (i26:‹[K,f26]›) (F26:Fun K "beginning_here" "Reader.beginning_here" A9 f26 d26)
  (a27:‹(K,R,f27,"here")›) (i27:‹[K,f27]›) (F27:Fun K "here" "Reader.here" uO f27 d27)
  (a28:‹(K,R,f28,"go_on")›) (i28:‹[K,f28]›) (F28:Fun K "go_on" "Reader.go_on" sGo f28 d28)
  (a29:‹(K,R,f29,"day_here")›) (i29:‹[K,f29]›) (F29:Fun K "day_here" "Reader.day_here" uR f29 d29)
  (a30:‹(K,R,f30,"number_here")›) (i30:‹[K,f30]›) (F30:Fun K "number_here" "Reader.number_here" uD f30 d30)
  (a31:‹(K,f31,"number_of")›) (F31:Fun K "number_of" "number_of" mw f31 d31)
  (a32:‹(K,f32,"has_only")›) (F32:Fun K "has_only" "has_only" A7 f32 d32)
  (a33:‹(K,R,f33,"keys_here")›) (i33:‹[K,f33]›) (F33:Fun K "keys_here" "Reader.keys_here" pQ f33 d33)
  (a34:‹(K,f34,"are_keys")›) (F34:Fun K "are_keys" "are_keys" jI f34 d34)
  (a35:‹(K,f35,"is_name")›) (F35:Fun K "is_name" "is_name" uF f35 d35)
  (a36:‹(K,f36,"single_here")›) (F36:Fun K "single_here" "single_here" ms f36 d36)
  (a37:‹(K,R,f37,"value_here")›) (i37:‹[K,f37]›) (F37:Fun K "value_here" "Reader.value_here" uw f37 d37)
  (a38:‹(K,R,f38,"key_here")›) (i38:‹[K,f38]›) (F38:Fun K "key_here" "Reader.key_here" uH f38 d38)
  (a39:‹(K,c1,f39,"__init__")›) (i39:‹[K,f39]›) (F39:Fun K "__init__" "Number.__init__" uL f39 d39)
  (a40:‹(K,CQ,f40,"__init__")›) (i40:‹[K,f40]›) (F40:Fun K "__init__" "Question.__init__" pS f40 d40)
  (a41:‹(K,f41,"each_once")›) (F41:Fun K "each_once" "each_once" uC f41 d41)
  (a42:‹(K,c2,f42,"__init__")›) (i42:‹[K,f42]›) (F42:Fun K "__init__" "Value.__init__" uI f42 d42)
  (a43:‹(K,c4,f43,"__init__")›) (i43:‹[K,f43]›) (F43:Fun K "__init__" "Since.__init__" uJ f43 d43)
  (a44:‹(K,c5,f44,"__init__")›) (i44:‹[K,f44]›) (F44:Fun K "__init__" "Part.__init__" uK f44 d44)
  (a45:‹(K,c6,f45,"__init__")›) (i45:‹[K,f45]›) (F45:Fun K "__init__" "Change.__init__" uN f45 d45)
  (a46:‹(K,c3,f46,"__init__")›) (i46:‹[K,f46]›) (F46:Fun K "__init__" "Gathering.__init__" uM f46 d46)
  (a47:‹(K,c7,f47,"__init__")›) (i47:‹[K,f47]›) (F47:Fun K "__init__" "Reckoning.__init__" pT f47 d47)
  (a48:‹(K,CB,f48,"__init__")›) (i48:‹[K,f48]›) (F48:Fun K "__init__" "Bracketed.__init__" pV f48 d48)
  (a49:‹(K,CQ,f49,"text")›) (i49:‹[K,f49]›) (F49:Fun K "text" "Question.text" ux f49 d49)
  (a50:‹(K,CQ,f50,"asked_keys")›) (i50:‹[K,f50]›) (F50:Fun K "asked_keys" "Question.asked_keys" pZ f50 d50)
  (a51:‹(K,CQ,f51,"depth")›) (i51:‹[K,f51]›) (F51:Fun K "depth" "Question.depth" pX f51 d51)
  (a52:‹(K,c8,f52,"__init__")›) (i52:‹[K,f52]›) (F52:Fun K "__init__" "Choice.__init__" pU f52 d52)
  (a53:‹(K,R,f53,"bracket_opens")›) (i53:‹[K,f53]›) (F53:Fun K "bracket_opens" "Reader.bracket_opens" pO f53 d53)
  (a54:‹(K,R,f54,"bracket_closes")›) (i54:‹[K,f54]›) (F54:Fun K "bracket_closes" "Reader.bracket_closes" my f54 d54)
  (a55:‹(K,R,f55,"check_end")›) (i55:‹[K,f55]›) (F55:Fun K "check_end" "Reader.check_end" A8 f55 d55)
  (a56:‹(K,f56,"_law_row")›) (F56:Fun K "_law_row" "_law_row" A4 f56 d56)
  (a57:‹(K,f57,"_law_like")›) (F57:Fun K "_law_like" "_law_like" uG f57 d57)
  (a58:‹(K,f58,"_law_telling")›) (F58:Fun K "_law_telling" "_law_telling" bU f58 d58)
  (lkT:K.lookup f58=some ⟨ocT,odT,.func (PySem.W.fnOf "_law_telling" "_law_telling" (dt bU) (cB bU) (au bU) .none kVT dcT pmT anT (.ref cT) ctT),slT⟩)
  (wread5:‹(K,c5,f10,"read")›)
  (mkR:PySem.W.makesIn K R=true) (kpR:PySem.W.keepIn K (.ref R)=true)
  (mkc1:PySem.W.makesIn K c1=true) (kpc1:PySem.W.keepIn K (.ref c1)=true)
  (mkc2:PySem.W.makesIn K c2=true) (kpc2:PySem.W.keepIn K (.ref c2)=true)
  (mkc3:PySem.W.makesIn K c3=true) (kpc3:PySem.W.keepIn K (.ref c3)=true)
  (mkc4:PySem.W.makesIn K c4=true) (kpc4:PySem.W.keepIn K (.ref c4)=true)
  (mkc5:PySem.W.makesIn K c5=true) (kpc5:PySem.W.keepIn K (.ref c5)=true)
  (mkc6:PySem.W.makesIn K c6=true) (kpc6:PySem.W.keepIn K (.ref c6)=true)
  (mkc7:PySem.W.makesIn K c7=true) (kpc7:PySem.W.keepIn K (.ref c7)=true)
  (mkc8:PySem.W.makesIn K c8=true) (kpc8:PySem.W.keepIn K (.ref c8)=true)
  (TR:RdC K R)
  (g1CQ:PySem.W.specialIn K (.ref CQ) "__getattribute__" = some (some (.builtin "type.__getattribute__"))) (g2CQ:PySem.W.readsIn K CQ (.type "type")=true) (g3CQ:PySem.W.findCls K (.ref CQ) (.type "type") "__init__" = some (.val (.ref f40)))
  (g1CB:PySem.W.specialIn K (.ref CB) "__getattribute__" = some (some (.builtin "type.__getattribute__"))) (g2CB:PySem.W.readsIn K CB (.type "type")=true) (g3CB:PySem.W.findCls K (.ref CB) (.type "type") "__init__" = some (.val (.ref f48)))
  (tyn:PySem.W.specialIn K (.builtin "object.__class__") "__get__" = some (some (.builtin "getset_descriptor.__get__"))) (tyk:PySem.W.takesIn K (.builtin "object.__class__")=some true)
  (qb1:quB K f49 f50 f51 CQ c1=true)
  (qb2:quB K f49 f50 f51 CQ c2=true)
  (qb3:quB K f49 f50 f51 CQ c3=true)
  (qb4:quB K f49 f50 f51 CQ c4=true)
  (qb5:quB K f49 f50 f51 CQ c5=true)
  (qb6:quB K f49 f50 f51 CQ c6=true)
  (qb7:quB K f49 f50 f51 CQ c7=true)
  (qb8:quB K f49 f50 f51 CQ c8=true)
  (tn1:‹(K,t1,"SINGLE")›) (tb1:sf K t1 iU=true)
  (tn2:‹(K,t2,"GATHERING")›) (tb2:sf K t2 gC=true)
  (tn3:‹(K,t3,"RECKONING")›) (tb3:sf K t3 eZ=true)
  (tn4:‹(K,t4,"CHOICE")›) (tb4:sf K t4 fZ=true)
  {tq1 tq2 tq3 tq4 tq5 tq6 tq7 tq8 tq9:Tok} (q1:PySem.W.nsIn K mainGlobals "LETTERS" = some (some (.str dq tq1))) (q2:PySem.W.nsIn K mainGlobals "FIGURES" = some (some (.str ie tq2))) (q3:PySem.W.nsIn K mainGlobals "MOST_LETTERS" = some (some (.int 8 tq3))) (q4:PySem.W.nsIn K mainGlobals "MOST_FIGURES" = some (some (.int 12 tq4))) (q5:PySem.W.nsIn K mainGlobals "LAST_DAY" = some (some (.int 399 tq5))) (q6:PySem.W.nsIn K mainGlobals "MOST_KEYS" = some (some (.int 8 tq6))) (q7:PySem.W.nsIn K mainGlobals "MOST_VALUE" = some (some (.int 1000000000 tq7))) (q8:PySem.W.nsIn K mainGlobals "MOST_OPEN" = some (some (.int 3 tq8))) (q9:PySem.W.nsIn K mainGlobals "MOST_RANK" = some (some (.int 400 tq9)))
  (z1:PySem.W.nsIn K mainGlobals "len" = some none) (z2:PySem.W.nsIn K mainGlobals "range" = some none) (z3:PySem.W.nsIn K mainGlobals "sorted" = some none) (z4:PySem.W.nsIn K mainGlobals "isinstance" = some none) (z5:PySem.W.nsIn K mainGlobals "int" = some none) (z6:PySem.W.nsIn K mainGlobals "bool" = some none) (z7:PySem.W.nsIn K mainGlobals "str" = some none) (z8:PySem.W.nsIn K mainGlobals "list" = some none) (z9:PySem.W.nsIn K mainGlobals "tuple" = some none) (z10:PySem.W.nsIn K mainGlobals "dict" = some none) (z11:PySem.W.nsIn K mainGlobals "set" = some none) (z12:PySem.W.nsIn K mainGlobals "max" = some none) (z13:PySem.W.nsIn K mainGlobals "min" = some none) (z14:PySem.W.nsIn K mainGlobals "all" = some none) (z15:PySem.W.nsIn K mainGlobals "enumerate" = some none) (z16:PySem.W.nsIn K mainGlobals "abs" = some none) (z17:PySem.W.nsIn K mainGlobals "reversed" = some none) (z18:PySem.W.nsIn K mainGlobals "sum" = some none) :
  ∃fd:FuncData,(∀(s:Shared) (v:Value),BindsTo s fd ⟨[v],[]⟩ [("_law_script", v)])/\∀base:Heap,K.In base->base.Ns mainGlobals mg->PySem.W.CodeHd base cT L->base.BuiltinsAt mg L->FnOk l.prog w K mg base CX0 15 fa fd ["_law_script"] (qR K L):=by
 have e:=hfa.symm.trans (PySem.W.mg_of X G a1)
 cases e
 have N:Free mg:=⟨PySem.W.mg_none_of X G z1,PySem.W.mg_none_of X G z2,PySem.W.mg_none_of X G z3,PySem.W.mg_none_of X G z4,PySem.W.mg_none_of X G z5,PySem.W.mg_none_of X G z6,PySem.W.mg_none_of X G z7,PySem.W.mg_none_of X G z8,PySem.W.mg_none_of X G z9,PySem.W.mg_none_of X G z10,PySem.W.mg_none_of X G z11,PySem.W.mg_none_of X G z12,PySem.W.mg_none_of X G z13,PySem.W.mg_none_of X G z14,PySem.W.mg_none_of X G z15,PySem.W.mg_none_of X G z16,PySem.W.mg_none_of X G z17,PySem.W.mg_none_of X G z18⟩
 have Z:Con mg:=⟨⟨_,PySem.W.mg_of X G q1⟩,⟨_,PySem.W.mg_of X G q2⟩,⟨_,PySem.W.mg_of X G q3⟩,⟨_,PySem.W.mg_of X G q4⟩,⟨_,PySem.W.mg_of X G q5⟩,⟨_,PySem.W.mg_of X G q6⟩,⟨_,PySem.W.mg_of X G q7⟩,⟨_,PySem.W.mg_of X G q8⟩,⟨_,PySem.W.mg_of X G q9⟩⟩
 have ZT:ConT K mg:=⟨⟨t1,PySem.W.mg_of X G tn1,m7 (by decide) tb1⟩,⟨t2,PySem.W.mg_of X G tn2,m7 (by decide) tb2⟩,⟨t3,PySem.W.mg_of X G tn3,m7 (by decide) tb3⟩,⟨t4,PySem.W.mg_of X G tn4,m7 (by decide) tb4⟩⟩
 have QB:∀C∈Cs.all (⟨c1,c2,c3,c4,c5,c6,c7,c8⟩:Cs),QuF K f49 f50 f51 CQ C:=λC hC=>by
  simp only [Cs.all,List.mem_cons,List.not_mem_nil,or_false]at hC
  rcases hC with rfl | rfl | rfl | rfl | rfl | rfl | rfl | rfl
  ·exact fj qb1
  ·exact fj qb2
  ·exact fj qb3
  ·exact fj qb4
  ·exact fj qb5
  ·exact fj qb6
  ·exact fj qb7
  ·exact fj qb8
 obtain⟨oc,od,kV,doc,pm,an,cdv,ct,osl,rfl,lk,hcd⟩:=id F1.ex
 refine⟨PySem.W.fnOf "law" "law" (dt sA) (cB sA) (au sA) .none kV doc pm an cdv ct,λs v=>.of_eq rfl,λbase hK hN hC hB=>?_⟩
 have ky:∀{x:Str}{k:Nat}{ps:List Str}{sp:Sp}{f:Addr}{fd:FuncData},FnOk l.prog w K mg base CX0 k f fd ps sp->PySem.W.nsIn K mainGlobals x=some (some (.ref f))->PySem.W.keepIn K (.ref f)=true->cm K fd ps []->Cal l.prog w K mg base x k ps sp f fd:=λa b c d=>⟨a,PySem.W.mg_of X G b,c,d⟩
 have km:∀{m:Str}{k:Nat}{ps:List Str}{sp:Sp}{f:Addr}{fd:FuncData},FnOk l.prog w K mg base CX0 k f fd ps sp->PySem.W.findIn K (.ref R) m=some (some (.ref f))->‹[K,f]›->PySem.W.keepIn K (.ref f)=true->cm K fd ps []->MC l.prog w K mg base R m k ps [] [] sp f fd:=λa b c d e=>⟨TR.cl,⟨b,c,d⟩,a,e,.nil⟩
 have kc:∀{cn:Str}{k:Nat}{ps:List Str}{sp:Sp}{C f:Addr}{fd:FuncData},FnOk l.prog w K mg base CX0 k f fd ps sp->Mk K C f->PySem.W.nsIn K mainGlobals cn=some (some (.ref C))->cm K fd ps []->MkC l.prog w K mg base cn k ps sp C f fd:=λa b c d=>⟨b,a,PySem.W.mg_of X G c,d⟩
 have kg:∀{cn m:Str}{k:Nat}{ps:List Str}{sp:Sp}{C f:Addr}{fd:FuncData}{mc:Value},FnOk l.prog w K mg base CX0 k f fd ps sp->PySem.W.nsIn K mainGlobals cn=some (some (.ref C))->PySem.W.specialIn K (.ref C) "__getattribute__" = some (some (.builtin "type.__getattribute__"))->PySem.W.readsIn K C mc=true->PySem.W.findCls K (.ref C) mc m=some (.val (.ref f))->PySem.W.keepIn K (.ref f)=true->cm K fd ps []->CMc l.prog w K mg base cn m k ps sp C f fd mc:=λa b c d e g i=>⟨PySem.W.mg_of X G b,c,d,e,a,g,i⟩
 have K1:=ky (yd F2 N) a2 F2.kp (F2.binds λ_ _ _ _ _ _=>ar2 λ_ _=>rfl)
 have K2:∀C sp,VRe (⟨c1,c2,c3,c4,c5,c6,c7,c8⟩:Cs) C sp->MV l.prog w K mg base CX0 "reaches" 1 ["self", "value"] sp C:=by
  rintro _ _ ⟨⟩
  exact⟨(QB c4 (by simp [Cs.all])).qu.cl,f5,d5,⟨a5,i5,F5.kp⟩,(vp (c:=(⟨c1,c2,c3,c4,c5,c6,c7,c8⟩:Cs)) F5 (λC hC=>(QB C hC).qu)),(F5.binds λ_ _ _ _ _ _=>ar2 λ_ _=>rfl)⟩
 have K3:=ky (nZ F7 N) a7 F7.kp (F7.binds λ_ _ _ _ _ _=>ar4 λ_ _ _ _=>rfl)
 have K4:∀C sp,VPl (⟨c1,c2,c3,c4,c5,c6,c7,c8⟩:Cs) C sp->MV l.prog w K mg base CX0 "plain" 4 ["self", "told"] sp C:=by
  rintro _ _ ⟨l0,h0⟩
  cases l0 with
  | num=>exact absurd h0 (by show ¬3<=0;decide)
  | val=>exact absurd h0 (by show ¬3<=1;decide)
  | gth=>exact absurd h0 (by show ¬3<=2;decide)
  | snc=>exact⟨(QB c4 (by simp [Cs.all])).qu.cl,f4,d4,⟨a4,i4,F4.kp⟩,(FnOk.mono (j:=3) (k:=4) (vw (c:=(⟨c1,c2,c3,c4,c5,c6,c7,c8⟩:Cs)) F4 N (λC hC=>(QB C hC).qu) K2) (by decide)),(F4.binds λ_ _ _ _ _ _=>ar2 λ_ _=>rfl)⟩
  | prt=>exact⟨(QB c5 (by simp [Cs.all])).qu.cl,f6,d6,⟨a6,i6,F6.kp⟩,(vx (c:=(⟨c1,c2,c3,c4,c5,c6,c7,c8⟩:Cs)) F6 N (λC hC=>(QB C hC).qu) K3),(F6.binds λ_ _ _ _ _ _=>ar2 λ_ _=>rfl)⟩
  | chg=>exact⟨(QB c6 (by simp [Cs.all])).qu.cl,f8,d8,⟨a8,i8,F8.kp⟩,(vy (c:=(⟨c1,c2,c3,c4,c5,c6,c7,c8⟩:Cs)) F8 N (λC hC=>(QB C hC).qu) K3),(F8.binds λ_ _ _ _ _ _=>ar2 λ_ _=>rfl)⟩
 have K5:∀C sp,VRd (⟨c1,c2,c3,c4,c5,c6,c7,c8⟩:Cs) C sp->MV l.prog w K mg base CX0 "read" 5 ["self", "told"] sp C:=by
  rintro _ _ ⟨l0,h0⟩
  cases l0 with
  | num=>exact absurd h0 (by show ¬3<=0;decide)
  | val=>exact absurd h0 (by show ¬3<=1;decide)
  | gth=>exact absurd h0 (by show ¬3<=2;decide)
  | snc=>exact⟨(QB c4 (by simp [Cs.all])).qu.cl,f9,d9,⟨a9,i9,F9.kp⟩,(FnOk.mono (j:=3) (k:=5) (vq (c:=(⟨c1,c2,c3,c4,c5,c6,c7,c8⟩:Cs)) F9 N (λC hC=>(QB C hC).qu) K2) (by decide)),(F9.binds λ_ _ _ _ _ _=>ar2 λ_ _=>rfl)⟩
  | prt=>exact⟨(QB c5 (by simp [Cs.all])).qu.cl,f10,d10,⟨wread5,i10,F10.kp⟩,(vo (c:=(⟨c1,c2,c3,c4,c5,c6,c7,c8⟩:Cs)) F10 K4),(F10.binds λ_ _ _ _ _ _=>ar2 λ_ _=>rfl)⟩
  | chg=>exact⟨(QB c6 (by simp [Cs.all])).qu.cl,f11,d11,⟨a11,i11,F11.kp⟩,(FnOk.mono (j:=3) (k:=5) (vt (c:=(⟨c1,c2,c3,c4,c5,c6,c7,c8⟩:Cs)) F11 N (λC hC=>(QB C hC).qu)) (by decide)),(F11.binds λ_ _ _ _ _ _=>ar2 λ_ _=>rfl)⟩
 have K6:=ky (vK F13) a13 F13.kp (F13.binds λ_ _ _ _ _ _=>ar1 λ_=>rfl)
 have K7:=ky (Aw F16) a16 F16.kp (F16.binds λ_ _ _ _ _ _=>ar2 λ_ _=>rfl)
 have K8:=ky (xQ F15 K7) a15 F15.kp (F15.binds λ_ _ _ _ _ _=>ar2 λ_ _=>rfl)
 have K9:=ky (vC F14 N K6 K8) a14 F14.kp (F14.binds λ_ _ _ _ _ _=>ar1 λ_=>rfl)
 have K10:=ky (sH F17 K8) a17 F17.kp (F17.binds λ_ _ _ _ _ _=>ar1 λ_=>rfl)
 have K11:=ky (yb F19 K8) a19 F19.kp (F19.binds λ_ _ _ _ _ _=>ar2 λ_ _=>rfl)
 have K12:=ky (sM F20 K8) a20 F20.kp (F20.binds λ_ _ _ _ _ _=>ar1 λ_=>rfl)
 have K13:=ky (vn F18 N K8 K11 K12) a18 F18.kp (F18.binds λ_ _ _ _ _ _=>ar3 λ_ _ _=>rfl)
 have K14:=ky (vJ F12 N K6 K9 K7 K10 K13) a12 F12.kp (F12.binds λ_ _ _ _ _ _=>ar1 λ_=>rfl)
 have K15:=ky (xT F21 N K8 K11 K12) a21 F21.kp (F21.binds λ_ _ _ _ _ _=>ar3 λ_ _ _=>rfl)
 have K16:=kc (vE F23 N TR) ⟨mkR,a23,i23,kpR⟩ amR (F23.binds λ_ _ _ _ _ _=>ar2 λ_ _=>rfl)
 have K17:=km (y9 F27 N TR) a27 i27 F27.kp (F27.binds λ_ _ _ _ _ _=>ar1 λ_=>rfl)
 have K18:=km (BE F28 N TR) a28 i28 F28.kp (F28.binds λ_ _ _ _ _ _=>ar2 λ_ _=>rfl)
 have K19:=km (AA F26 N ZT TR K17 K18) a26 i26 F26.kp (F26.binds λ_ _ _ _ _ _=>ar1 λ_=>rfl)
 have K20:=ky (Ay F32 N) a32 F32.kp (F32.binds λ_ _ _ _ _ _=>ar3 λ_ _ _=>rfl)
 have K21:=ky (sJ F31 N Z K20) a31 F31.kp (F31.binds λ_ _ _ _ _ _=>ar3 λ_ _ _=>rfl)
 have K22:=km (xS F30 N TR K17 K18 K21) a30 i30 F30.kp (F30.binds λ_ _ _ _ _ _=>ar3 λ_ _ _=>rfl)
 have K23:=km (yc F29 N Z TR K22) a29 i29 F29.kp (F29.binds λ_ _ _ _ _ _=>ar2 λ_ _=>rfl)
 have K24:=ky (xU F35 N Z K20) a35 F35.kp (F35.binds λ_ _ _ _ _ _=>ar1 λ_=>rfl)
 have K25:=ky (qh F34 N Z K24) a34 F34.kp (F34.binds λ_ _ _ _ _ _=>ar1 λ_=>rfl)
 have K26:=km (vD F33 N TR K17 K18 K25) a33 i33 F33.kp (F33.binds λ_ _ _ _ _ _=>ar1 λ_=>rfl)
 have K27:=km (xO F37 N Z TR K22) a37 i37 F37.kp (F37.binds λ_ _ _ _ _ _=>ar1 λ_=>rfl)
 have K28:=km (xW F38 N TR K17 K18 K24) a38 i38 F38.kp (F38.binds λ_ _ _ _ _ _=>ar1 λ_=>rfl)
 have K29:=ky (xR F41) a41 F41.kp (F41.binds λ_ _ _ _ _ _=>ar1 λ_=>rfl)
 have K30:=kg (vF F40 N K29) amCQ g1CQ g2CQ g3CQ F40.kp (F40.binds λ_ _ _ _ _ _=>ar4 λ_ _ _ _=>rfl)
 have K31:=kc (y0 F39 N K30) ⟨mkc1,a39,i39,kpc1⟩ amc1 (F39.binds λ_ _ _ _ _ _=>ar2 λ_ _=>rfl)
 have K32:=kc (xX F42 N K30) ⟨mkc2,a42,i42,kpc2⟩ amc2 (F42.binds λ_ _ _ _ _ _=>ar3 λ_ _ _=>rfl)
 have K33:=kc (xY F43 N K30) ⟨mkc4,a43,i43,kpc4⟩ amc4 (F43.binds λ_ _ _ _ _ _=>ar5 λ_ _ _ _ _=>rfl)
 have K34:=kc (xZ F44 N K30) ⟨mkc5,a44,i44,kpc5⟩ amc5 (F44.binds λ_ _ _ _ _ _=>ar5 λ_ _ _ _ _=>rfl)
 have K35:=kc (y8 F45 N K30) ⟨mkc6,a45,i45,kpc6⟩ amc6 (F45.binds λ_ _ _ _ _ _=>ar5 λ_ _ _ _ _=>rfl)
 have K36:=ky (sI (c:=(⟨c1,c2,c3,c4,c5,c6,c7,c8⟩:Cs)) F36 N Z (λC hC=>(QB C hC).qu) K27 K23 K28 K22 K31 K32 K33 K34 K35) a36 F36.kp (F36.binds λ_ _ _ _ _ _=>ar2 λ_ _=>rfl)
 have K37:=kc (y6 F46 N K30) ⟨mkc3,a46,i46,kpc3⟩ amc3 (F46.binds λ_ _ _ _ _ _=>ar5 λ_ _ _ _ _=>rfl)
 have K38:∀C∈Cs.all (⟨c1,c2,c3,c4,c5,c6,c7,c8⟩:Cs),MV l.prog w K mg base CX0 "text" 1 ["self"] (pq K) C:=λC hC=>⟨(QB C hC).qu.cl,f49,d49,⟨(QB C hC).tx,i49,F49.kp⟩,(xP F49),(F49.binds λ_ _ _ _ _ _=>ar1 λ_=>rfl)⟩
 have K39:∀C∈Cs.all (⟨c1,c2,c3,c4,c5,c6,c7,c8⟩:Cs),MV l.prog w K mg base CX0 "asked_keys" 1 ["self"] (mf K) C:=λC hC=>⟨(QB C hC).qu.cl,f50,d50,⟨(QB C hC).ak,i50,F50.kp⟩,(vL F50 N),(F50.binds λ_ _ _ _ _ _=>ar1 λ_=>rfl)⟩
 have K40:∀C∈Cs.all (⟨c1,c2,c3,c4,c5,c6,c7,c8⟩:Cs),MV l.prog w K mg base CX0 "depth" 1 ["self"] (jz K) C:=λC hC=>⟨(QB C hC).qu.cl,f51,d51,⟨(QB C hC).dp,i51,F51.kp⟩,(sK F51),(F51.binds λ_ _ _ _ _ _=>ar1 λ_=>rfl)⟩
 have K41:=kg (vI (c:=(⟨c1,c2,c3,c4,c5,c6,c7,c8⟩:Cs)) F48 N K30 (λC hC=>(QB C hC).qu) K38 K39 K40) amCB g1CB g2CB g3CB F48.kp (F48.binds λ_ _ _ _ _ _=>ar3 λ_ _ _=>rfl)
 have K42:=kc (vG (c:=(⟨c1,c2,c3,c4,c5,c6,c7,c8⟩:Cs)) F47 N K41) ⟨mkc7,a47,i47,kpc7⟩ amc7 (F47.binds λ_ _ _ _ _ _=>ar4 λ_ _ _ _=>rfl)
 have K43:=kc (vH (c:=(⟨c1,c2,c3,c4,c5,c6,c7,c8⟩:Cs)) F52 N K41) ⟨mkc8,a52,i52,kpc8⟩ amc8 (F52.binds λ_ _ _ _ _ _=>ar6 λ_ _ _ _ _ _=>rfl)
 have K44:=km (vz F53 N Z TR K17 K18) a53 i53 F53.kp (F53.binds λ_ _ _ _ _ _=>ar1 λ_=>rfl)
 have K45:=km (sL F54 N TR K17 K18) a54 i54 F54.kp (F54.binds λ_ _ _ _ _ _=>ar1 λ_=>rfl)
 have K46:=ky (Av (c:=(⟨c1,c2,c3,c4,c5,c6,c7,c8⟩:Cs)) F24 (PySem.W.mg_of X G a24) (F24.binds λ_ _ _ _ _ _=>ar1 λ_=>rfl) F25 (PySem.W.mg_of X G a25) (F25.binds λ_ _ _ _ _ _=>ar2 λ_ _=>rfl) N ZT (λC hC=>(QB C hC).qu) K19 K23 K26 K36 K37 K42 K43 K44 K45) a24 F24.kp (F24.binds λ_ _ _ _ _ _=>ar1 λ_=>rfl)
 have K47:=km (Az F55 N TR) a55 i55 F55.kp (F55.binds λ_ _ _ _ _ _=>ar1 λ_=>rfl)
 have K48:=ky (Au (c:=(⟨c1,c2,c3,c4,c5,c6,c7,c8⟩:Cs)) F22 N K16 K46 K47) a22 F22.kp (F22.binds λ_ _ _ _ _ _=>ar1 λ_=>rfl)
 have K49:=ky (Ar F56 N) a56 F56.kp (F56.binds λ_ _ _ _ _ _=>ar2 λ_ _=>rfl)
 have K50:=ky (xV F57 N) a57 F57.kp (F57.binds λ_ _ _ _ _ _=>ar2 λ_ _=>rfl)
 have K51:=ky (qg F58 lkT hC hB) a58 F58.kp (F58.binds λ_ _ _ _ _ _=>ar2 λ_ _=>rfl)
 have K52:=ky (ya (c:=(⟨c1,c2,c3,c4,c5,c6,c7,c8⟩:Cs)) F3 N K4 K5 K14 K15 K48 K49 K50 K51) a3 F3.kp (F3.binds λ_ _ _ _ _ _=>ar1 λ_=>rfl)
 exact Ax F1 N K1 K52
theorem walk {l:PySem.W.OpenLaw}{q:Program}{loose:List Str}{XP:(Str->Option Value)->Heap->Prop}{YP:World->Heap->Prop}{d dj:DefRec}{K:Params->PySem.W.Frag}{c L:Addr} (hn:l.most=some 63) (hdf:d.params.defaults=[])
  (hY:∀(w:World) (h:Heap),YP w h->(K w.params).In h)
  (hrj:(PyProof.Rows.recsOf q).find? (λe=>e.name == ("_law_telling" : Str))=some dj) (htab:∀(w:World) (h:Heap),(K w.params).In h->PySem.W.tabIn (K w.params) "_law_telling" = some (c,L)) (hnt:∀(w:World) (h:Heap),(K w.params).In h->PySem.W.noTabs (K w.params)=true)
  (F:∀(w:World) (mg:Str->Option Value) (fa:Addr) (h:Heap),(K w.params).In h->h.Ns mainGlobals mg->mg d.name=some (.ref fa)->
   ∃fd:FuncData,(∀(s:Shared) (u:Value),BindsTo s fd ⟨[u],[]⟩ [("_law_script", u)])/\
    ∀base:Heap,(K w.params).In base->base.Ns mainGlobals mg->PySem.W.CodeHd base c L->base.BuiltinsAt mg L->FnOk l.prog w (K w.params) mg base CX0 15 fa fd ["_law_script"] (qR (K w.params) L)) :
  PySem.W.WalkO q loose XP YP l.row.toRowW d [] (λf vs=>PySem.call f vs):=
 tI (n:=63) (k:=15) (x:="_law_script") (xj:="_law_telling") (sp:=λw=>qR (K w.params) L) hn (by decide) hdf ⟨rfl,by decide,by decide,rfl⟩ hY hrj htab hnt F λw H a ns hl hO hS=>⟨a,ns,rfl,.inl hO.1,hS,hl,λ_=>rfl⟩
end Mine
open PySem PySem.W PyProof.Rows
namespace PySem.W.Fast
theorem tw5675367169833557644:True:=⟨⟩
theorem tw5884042374780843487:True:=⟨⟩
theorem tw14862993001494624315:True:=⟨⟩
theorem tw11993196645291311539:True:=⟨⟩
theorem tw1849780976310350511:True:=⟨⟩
theorem tw18372223905962934186:True:=⟨⟩
theorem tw12525106081872340095:True:=⟨⟩
theorem tw6235239149164187951:True:=⟨⟩
theorem tw3023234650699727987:True:=⟨⟩
theorem tw4863367916013979448:True:=⟨⟩
theorem tw11844792376621696395:True:=⟨⟩
theorem tw10744648623494687179:True:=⟨⟩
theorem tw3290067247909130730:True:=⟨⟩
theorem tw3358895273594498788:True:=⟨⟩
theorem tw11278588339479249261:True:=⟨⟩
theorem tw3795870122238366533:True:=⟨⟩
theorem tw11654656923133812706:True:=⟨⟩
theorem tw14160818278828358862:True:=⟨⟩
theorem tw12207734983533295383:True:=⟨⟩
theorem tw13579374495546356820:True:=⟨⟩
theorem tw16453826090574217169:True:=⟨⟩
theorem tw9795112899294495187:True:=⟨⟩
theorem tw9465440161973197083:True:=⟨⟩
theorem tw11038355851151076188:True:=⟨⟩
theorem tw17162853944006451767:True:=⟨⟩
theorem tw7628820258198460332:True:=⟨⟩
theorem tw4244845149707281949:True:=⟨⟩
theorem tw15450977286279593984:True:=⟨⟩
theorem tw586824282524701758:True:=⟨⟩
theorem tw6428224696691315984:True:=⟨⟩
theorem tw4460794782180352566:True:=⟨⟩
theorem tw5434214966904222564:True:=⟨⟩
theorem tw3753214590206027506:True:=⟨⟩
theorem tw17940751913475566029:True:=⟨⟩
theorem tw17459105565499958661:True:=⟨⟩
theorem tw7613473364095648805:True:=⟨⟩
theorem tw3813690851582746591:True:=⟨⟩
theorem tw10844748493383511867:True:=⟨⟩
theorem tw14394403222559357798:True:=⟨⟩
theorem tw14283545528409813760:True:=⟨⟩
theorem tw3895400306967744896:True:=⟨⟩
theorem tw9115806963487569756:True:=⟨⟩
theorem tw6651153051174202942:True:=⟨⟩
theorem tw17606916758973691335:True:=⟨⟩
theorem tw11830024493882943497:True:=⟨⟩
theorem tw17213546239874982014:True:=⟨⟩
theorem tw617550976162418811:True:=⟨⟩
theorem tw13731798126526146890:True:=⟨⟩
theorem tw2081507380190499314:True:=⟨⟩
theorem tw2050238538126376657:True:=⟨⟩
theorem tw13086525539396975393:True:=⟨⟩
theorem tw13170493401336723538:True:=⟨⟩
theorem tw11221949947964718412:True:=⟨⟩
theorem tw14696916979450622917:True:=⟨⟩
theorem tw13940605352328018456:True:=⟨⟩
theorem tw1948124088148767815:True:=⟨⟩
theorem tw6516468248444351723:True:=⟨⟩
theorem tw13894513094535874910:True:=⟨⟩
theorem tw12761022129232144932:True:=⟨⟩
theorem tw14739686680185623734:True:=⟨⟩
theorem tw14087503541035321719:True:=⟨⟩
theorem tw9923918554034191740:True:=⟨⟩
theorem tw8046661069673123359:True:=⟨⟩
theorem tw16586825225604956485:True:=⟨⟩
theorem tw4391429576611253864:True:=⟨⟩
theorem tw5877202094615432742:True:=⟨⟩
theorem tw286292023521224086:True:=⟨⟩
theorem tw4037625024197967083:True:=⟨⟩
theorem tw13817972281078575218:True:=⟨⟩
theorem tw17643159413607662429:True:=⟨⟩
theorem tw15053826821076585234:True:=⟨⟩
theorem tw11008016245751096484:True:=⟨⟩
theorem tw18436284368028065311:True:=⟨⟩
theorem tw857294237286609249:True:=⟨⟩
theorem tw15121476707875010144:True:=⟨⟩
theorem tw3262649306753177224:True:=⟨⟩
theorem tw7199529428961125190:True:=⟨⟩
theorem tw16343626878835713266:True:=⟨⟩
theorem tw9560779648212376021:True:=⟨⟩
theorem tw14206465639066739023:True:=⟨⟩
theorem tw14099307168908503901:True:=⟨⟩
theorem tw14705508508483476344:True:=⟨⟩
theorem tw3747576418991096277:True:=⟨⟩
theorem tw6842554048010911058:True:=⟨⟩
theorem tw14087071778201441781:True:=⟨⟩
theorem tw6834146433287066507:True:=⟨⟩
theorem tw1442527848223484616:True:=⟨⟩
theorem tw11455059834928578767:True:=⟨⟩
theorem tw3752734109688710283:True:=⟨⟩
theorem tw8445792593990791019:True:=⟨⟩
theorem tw1562012967611064340:True:=⟨⟩
theorem tw7499461390072378169:True:=⟨⟩
theorem tw11220132188039000501:True:=⟨⟩
theorem tw8211627591626019099:True:=⟨⟩
theorem tw12419336669242023850:True:=⟨⟩
theorem tw8158643537579937894:True:=⟨⟩
theorem tw18154534304899112772:True:=⟨⟩
theorem tw15964093814450965936:True:=⟨⟩
theorem tw3371876088365426824:True:=⟨⟩
theorem tw14898937155658787472:True:=⟨⟩
theorem tw9479124377546100302:True:=⟨⟩
theorem tw8351005975290203918:True:=⟨⟩
theorem tw895050110208707037:True:=⟨⟩
theorem tw4483511469018101085:True:=⟨⟩
theorem tw324374946196815044:True:=⟨⟩
theorem tw9547234583800500231:True:=⟨⟩
theorem tw7077286282944573592:True:=⟨⟩
theorem tw11584512652387494731:True:=⟨⟩
theorem tw11496277207711788651:True:=⟨⟩
theorem tw6619151528291507071:True:=⟨⟩
theorem tw9590657373076056532:True:=⟨⟩
theorem tw9557283416489048778:True:=⟨⟩
theorem tw6608606771443173247:True:=⟨⟩
theorem tw9262875351559181432:True:=⟨⟩
theorem tw6926797696269970096:True:=⟨⟩
theorem tw88018558289291519:True:=⟨⟩
theorem tw9279828028359679465:True:=⟨⟩
theorem tw4877758152834527406:True:=⟨⟩
theorem tw16461144752558439187:True:=⟨⟩
theorem tw16548043395168601778:True:=⟨⟩
theorem tw4650482167850386285:True:=⟨⟩
theorem tw12616646859716919972:True:=⟨⟩
theorem tw8575679545785792984:True:=⟨⟩
theorem tw585316527801238856:True:=⟨⟩
theorem tw15733707212811677790:True:=⟨⟩
theorem tw16758350969244124727:True:=⟨⟩
theorem tw2327847531433559573:True:=⟨⟩
theorem tw12646586039545017617:True:=⟨⟩
theorem tw9780310017814691930:True:=⟨⟩
theorem tw18110708110712324692:True:=⟨⟩
theorem tw10498792332375593228:True:=⟨⟩
theorem tw16881390827556758516:True:=⟨⟩
theorem tw12460468090905580026:True:=⟨⟩
theorem tw13183347430375680951:True:=⟨⟩
theorem tw8009902005306963435:True:=⟨⟩
theorem tw9280372925257137124:True:=⟨⟩
theorem tw16825872900925705697:True:=⟨⟩
theorem tw3934250187946684186:True:=⟨⟩
theorem tw2397960706870400459:True:=⟨⟩
theorem tw16945563052422837412:True:=⟨⟩
theorem tw1191546314118830053:True:=⟨⟩
theorem tw5807432156000021017:True:=⟨⟩
theorem tw10589468732094071201:True:=⟨⟩
theorem tw14741047090410029548:True:=⟨⟩
theorem tw8884511381074745488:True:=⟨⟩
theorem tw6313709570685264890:True:=⟨⟩
theorem tw5456759424071902287:True:=⟨⟩
theorem tw8367113264975727739:True:=⟨⟩
theorem tw5766826713287273185:True:=⟨⟩
theorem tw136954834732723023:True:=⟨⟩
theorem tw986269108324886943:True:=⟨⟩
theorem tw17017092296746676448:True:=⟨⟩
theorem tw2879688249521508003:True:=⟨⟩
theorem tw8741530627031971636:True:=⟨⟩
theorem tw3817635696272769256:True:=⟨⟩
theorem tw15069591221391656482:True:=⟨⟩
theorem tw7719848394800626352:True:=⟨⟩
theorem tw6735336927616506910:True:=⟨⟩
theorem tw12354105415611063529:True:=⟨⟩
theorem tw17074775039218213924:True:=⟨⟩
theorem tw9046890299973731488:True:=⟨⟩
theorem tw5562586733093977056:True:=⟨⟩
theorem tw17848923426610404544:True:=⟨⟩
theorem tw16529778127650365385:True:=⟨⟩
theorem tw2867750174871903778:True:=⟨⟩
theorem tw1016758312040380718:True:=⟨⟩
theorem tw1755129866992133695:True:=⟨⟩
theorem tw3702105967783508909:True:=⟨⟩
theorem tw11060482094227527798:True:=⟨⟩
theorem tw15214366485115911000:True:=⟨⟩
theorem tw174783380892515418:True:=⟨⟩
theorem tw7961022608961065362:True:=⟨⟩
theorem tw3772267029928712840:True:=⟨⟩
theorem tw16410593129861330085:True:=⟨⟩
theorem tw16457594281150953804:True:=⟨⟩
theorem tw15102761306695988489:True:=⟨⟩
theorem tw4538831909109476344:True:=⟨⟩
theorem tw9046255749081920268:True:=⟨⟩
theorem tw328591203744856489:True:=⟨⟩
theorem tw17359139320819529249:True:=⟨⟩
theorem tw15720027797157542963:True:=⟨⟩
theorem tw8983958088677158888:True:=⟨⟩
theorem tw4649903804239603361:True:=⟨⟩
theorem tw445105467148210008:True:=⟨⟩
theorem tw9861356609592327711:True:=⟨⟩
theorem tw13002475977662799769:True:=⟨⟩
theorem tw18016481721672165377:True:=⟨⟩
theorem tw2895812015902317151:True:=⟨⟩
theorem tw11111636613267651944:True:=⟨⟩
theorem tw3227511065230833647:True:=⟨⟩
theorem tw16677959170146884897:True:=⟨⟩
theorem tw13202720106556572377:True:=⟨⟩
theorem tw6829354461593442870:True:=⟨⟩
theorem tw10925933658004092018:True:=⟨⟩
theorem tw1423427633369745002:True:=⟨⟩
theorem tw798839052055974841:True:=⟨⟩
theorem tw551397970458944633:True:=⟨⟩
theorem tw12963953500399894965:True:=⟨⟩
theorem tw7120803353713463114:True:=⟨⟩
theorem tw16047592041226265237:True:=⟨⟩
theorem tw306301554676382166:True:=⟨⟩
theorem tw5905940316093603044:True:=⟨⟩
theorem tw1849227172778368349:True:=⟨⟩
theorem tw11243368351198543981:True:=⟨⟩
theorem tw9898399006128602580:True:=⟨⟩
theorem tw3758207280750890625:True:=⟨⟩
theorem tw917787559047766378:True:=⟨⟩
theorem tw11030242097139909628:True:=⟨⟩
theorem tw597076794087342826:True:=⟨⟩
theorem tw7283763363516543849:True:=⟨⟩
theorem tw11452934360508063565:True:=⟨⟩
theorem tw622200055014351330:True:=⟨⟩
theorem tw9107685323799930890:True:=⟨⟩
theorem tw11023335348763093797:True:=⟨⟩
theorem tw14200497656556496557:True:=⟨⟩
theorem tw69612429522548673:True:=⟨⟩
theorem tw13927273208615022359:True:=⟨⟩
theorem tw10491970448213355719:True:=⟨⟩
theorem tw13457058979490097063:True:=⟨⟩
theorem tw18250279945781450789:True:=⟨⟩
theorem tw16734881136985395309:True:=⟨⟩
theorem tw13928990202031106495:True:=⟨⟩
theorem tw501895571547200109:True:=⟨⟩
theorem tw5046551828008699959:True:=⟨⟩
theorem tw13431938486918496159:True:=⟨⟩
theorem tw10861197106042699194:True:=⟨⟩
theorem tw6202206238428375226:True:=⟨⟩
theorem tw1274280414613812228:True:=⟨⟩
theorem tw11733521778216382066:True:=⟨⟩
theorem tw7300737372267477414:True:=⟨⟩
theorem tw9505333045722690164:True:=⟨⟩
theorem tw7236694304965675845:True:=⟨⟩
theorem tw13820052488122046847:True:=⟨⟩
theorem tw12389026166923792365:True:=⟨⟩
theorem tw11479888509440285715:True:=⟨⟩
theorem tw12503999800447176255:True:=⟨⟩
theorem tw5464293704439404848:True:=⟨⟩
theorem tw11465797984930320074:True:=⟨⟩
theorem tw15887985774612338505:True:=⟨⟩
theorem tw12214259782812954373:True:=⟨⟩
theorem tw18233503252184765937:True:=⟨⟩
theorem tw6912614725385612257:True:=⟨⟩
theorem tw5738122214801587996:True:=⟨⟩
theorem tw1905293184297891887:True:=⟨⟩
theorem tw12449322168367661465:True:=⟨⟩
theorem tw11927903911538180669:True:=⟨⟩
theorem tw10717052037068245143:True:=⟨⟩
theorem tw12115858858885023999:True:=⟨⟩
theorem tw1070134621187378758:True:=⟨⟩
theorem tw10731765611915971338:True:=⟨⟩
theorem tw482314887609358085:True:=⟨⟩
theorem tw11081689742739379875:True:=⟨⟩
theorem tw6644378181220792019:True:=⟨⟩
theorem tw3204402916029300219:True:=⟨⟩
theorem tw11361922472662924345:True:=⟨⟩
theorem tw13667706114657440279:True:=⟨⟩
theorem tw538383871722319995:True:=⟨⟩
theorem tw4016756500086373247:True:=⟨⟩
theorem tw7236896987820818979:True:=⟨⟩
theorem tw8768030870474278353:True:=⟨⟩
theorem tw3085296413758210164:True:=⟨⟩
theorem tw1234305812874789238:True:=⟨⟩
theorem tw7123382128404464187:True:=⟨⟩
theorem tw11220753973907858739:True:=⟨⟩
theorem tw13333980087610064792:True:=⟨⟩
theorem tw912235056878836728:True:=⟨⟩
theorem tw17615947713654722283:True:=⟨⟩
theorem tw16137251053974541867:True:=⟨⟩
theorem tw6230246321158863190:True:=⟨⟩
theorem tw8609647618534855337:True:=⟨⟩
theorem tw11566197751664273856:True:=⟨⟩
theorem tw2400108518542038262:True:=⟨⟩
theorem tw5985870316253206980:True:=⟨⟩
theorem tw4861974722078892248:True:=⟨⟩
theorem tw8263710185014832771:True:=⟨⟩
theorem tw3015887465941635536:True:=⟨⟩
theorem tw6030660558619550244:True:=⟨⟩
theorem tw6876549379141034084:True:=⟨⟩
theorem tw15615421200346939023:True:=⟨⟩
theorem tw9075831255539031961:True:=⟨⟩
theorem tw11554041292902577549:True:=⟨⟩
theorem tw10889437764857172103:True:=⟨⟩
theorem tw16580994345100246895:True:=⟨⟩
theorem tw2894633833372609501:True:=⟨⟩
theorem tw14604377736260969146:True:=⟨⟩
theorem tw14516621602586803794:True:=⟨⟩
theorem tw11446083570388081908:True:=⟨⟩
theorem tw14774516173219233019:True:=⟨⟩
theorem tw15899041836681386210:True:=⟨⟩
theorem tw2272880091147521351:True:=⟨⟩
theorem tw3550925493139664768:True:=⟨⟩
theorem tw8035595598286208190:True:=⟨⟩
theorem tw4250660575730069469:True:=⟨⟩
theorem tw9357206709907386130:True:=⟨⟩
theorem tw4326306775926594036:True:=⟨⟩
theorem tw8481915923310595070:True:=⟨⟩
theorem tw12624354897255984722:True:=⟨⟩
theorem tw16982995750185600477:True:=⟨⟩
theorem tw1886153924809354723:True:=⟨⟩
theorem tw16357241025833866644:True:=⟨⟩
theorem tw15296931567226903332:True:=⟨⟩
theorem tw4028205245496630031:True:=⟨⟩
theorem tw12220546904119535631:True:=⟨⟩
theorem tw14899670282781059617:True:=⟨⟩
theorem tw5797884227152300308:True:=⟨⟩
theorem tw11969856141845266009:True:=⟨⟩
theorem tw17130799547583718725:True:=⟨⟩
theorem tw3464886860367449955:True:=⟨⟩
theorem tw14571721737131866802:True:=⟨⟩
theorem tw9934057966237316898:True:=⟨⟩
theorem tw17433139617565229427:True:=⟨⟩
theorem tw18048093584322346695:True:=⟨⟩
theorem tw17251953154009266931:True:=⟨⟩
theorem tw6609945338702880011:True:=⟨⟩
theorem tw6977041865835588246:True:=⟨⟩
theorem tw11839103204422317823:True:=⟨⟩
theorem tw12474163472481353461:True:=⟨⟩
theorem tw3889448450684092091:True:=⟨⟩
theorem tw16071467755452091187:True:=⟨⟩
theorem tw3617812405632971354:True:=⟨⟩
theorem tw6589095931043653910:True:=⟨⟩
theorem tw12946286362096197604:True:=⟨⟩
theorem tw11538956958854109819:True:=⟨⟩
theorem tw2360773706947025523:True:=⟨⟩
theorem tw13157566681960633827:True:=⟨⟩
theorem tw4783033381644070354:True:=⟨⟩
theorem tw10140867044448220952:True:=⟨⟩
theorem tw1171441844026712632:True:=⟨⟩
theorem tw5836889935190543924:True:=⟨⟩
theorem tw8703576264583757912:True:=⟨⟩
theorem tw1495220643560306775:True:=⟨⟩
theorem tw4168947516818467427:True:=⟨⟩
theorem tw3086736308508504628:True:=⟨⟩
theorem tw13502948061292465223:True:=⟨⟩
theorem tw13286532686095329075:True:=⟨⟩
theorem tw14918656590238952206:True:=⟨⟩
end PySem.W.Fast
set_option maxRecDepth 100000 in
set_option maxHeartbeats 0 in
theorem PySem.Challenge.cw_unsaybook_k34_since_part_and_change_holds : PySem.Challenge.rw_unsaybook_k34_since_part_and_change.Holds := by
 w_on;o_law;k_head;(case hw=>w_witness2)
 k_fill
 refine' Mine.walk (l:=PySem.Challenge.rw_unsaybook_k34_since_part_and_change) (L:=605) rfl rfl (λw h Y=>PySem.W.km_in_of Y) ?hrj ?htab ?hnt ?F
 case hrj=>exact rfl
 case F=>
  intro w mg fa h KX G hmg
  refine' Mine.all_mk KX G hmg ?amR ?amCQ ?amCB ?amc1 ?amc2 ?amc3 ?amc4 ?amc5 ?amc6 ?amc7 ?amc8 ?a1 (L2.fun_mk ?l1 ?e1 ?k1) ?a2 (L2.fun_mk ?l2 ?e2 ?k2) ?a3 (L2.fun_mk ?l3 ?e3 ?k3) ?a4 ?i4 (L2.fun_mk ?l4 ?e4 ?k4) ?a5 ?i5 (L2.fun_mk ?l5 ?e5 ?k5) ?a6 ?i6 (L2.fun_mk ?l6 ?e6 ?k6) ?a7 (L2.fun_mk ?l7 ?e7 ?k7) ?a8 ?i8 (L2.fun_mk ?l8 ?e8 ?k8) ?a9 ?i9 (L2.fun_mk ?l9 ?e9 ?k9) ?a10 ?i10 (L2.fun_mk ?l10 ?e10 ?k10) ?a11 ?i11 (L2.fun_mk ?l11 ?e11 ?k11) ?a12 (L2.fun_mk ?l12 ?e12 ?k12) ?a13 (L2.fun_mk ?l13 ?e13 ?k13) ?a14 (L2.fun_mk ?l14 ?e14 ?k14) ?a15 (L2.fun_mk ?l15 ?e15 ?k15) ?a16 (L2.fun_mk ?l16 ?e16 ?k16) ?a17 (L2.fun_mk ?l17 ?e17 ?k17) ?a18 (L2.fun_mk ?l18 ?e18 ?k18) ?a19 (L2.fun_mk ?l19 ?e19 ?k19) ?a20 (L2.fun_mk ?l20 ?e20 ?k20) ?a21 (L2.fun_mk ?l21 ?e21 ?k21) ?a22 (L2.fun_mk ?l22 ?e22 ?k22) ?a23 ?i23 (L2.fun_mk ?l23 ?e23 ?k23) ?a24 (L2.fun_mk ?l24 ?e24 ?k24) ?a25 (L2.fun_mk ?l25 ?e25 ?k25) ?a26 ?i26 (L2.fun_mk ?l26 ?e26 ?k26) ?a27 ?i27 (L2.fun_mk ?l27 ?e27 ?k27) ?a28 ?i28 (L2.fun_mk ?l28 ?e28 ?k28) ?a29 ?i29 (L2.fun_mk ?l29 ?e29 ?k29) ?a30 ?i30 (L2.fun_mk ?l30 ?e30 ?k30) ?a31 (L2.fun_mk ?l31 ?e31 ?k31) ?a32 (L2.fun_mk ?l32 ?e32 ?k32) ?a33 ?i33 (L2.fun_mk ?l33 ?e33 ?k33) ?a34 (L2.fun_mk ?l34 ?e34 ?k34) ?a35 (L2.fun_mk ?l35 ?e35 ?k35) ?a36 (L2.fun_mk ?l36 ?e36 ?k36) ?a37 ?i37 (L2.fun_mk ?l37 ?e37 ?k37) ?a38 ?i38 (L2.fun_mk ?l38 ?e38 ?k38) ?a39 ?i39 (L2.fun_mk ?l39 ?e39 ?k39) ?a40 ?i40 (L2.fun_mk ?l40 ?e40 ?k40) ?a41 (L2.fun_mk ?l41 ?e41 ?k41) ?a42 ?i42 (L2.fun_mk ?l42 ?e42 ?k42) ?a43 ?i43 (L2.fun_mk ?l43 ?e43 ?k43) ?a44 ?i44 (L2.fun_mk ?l44 ?e44 ?k44) ?a45 ?i45 (L2.fun_mk ?l45 ?e45 ?k45) ?a46 ?i46 (L2.fun_mk ?l46 ?e46 ?k46) ?a47 ?i47 (L2.fun_mk ?l47 ?e47 ?k47) ?a48 ?i48 (L2.fun_mk ?l48 ?e48 ?k48) ?a49 ?i49 (L2.fun_mk ?l49 ?e49 ?k49) ?a50 ?i50 (L2.fun_mk ?l50 ?e50 ?k50) ?a51 ?i51 (L2.fun_mk ?l51 ?e51 ?k51) ?a52 ?i52 (L2.fun_mk ?l52 ?e52 ?k52) ?a53 ?i53 (L2.fun_mk ?l53 ?e53 ?k53) ?a54 ?i54 (L2.fun_mk ?l54 ?e54 ?k54) ?a55 ?i55 (L2.fun_mk ?l55 ?e55 ?k55) ?a56 (L2.fun_mk ?l56 ?e56 ?k56) ?a57 (L2.fun_mk ?l57 ?e57 ?k57) ?a58 (L2.fun_mk ?l58 ?e58 ?k58) ?lkT ?wread5 ?mkR ?kpR ?mkc1 ?kpc1 ?mkc2 ?kpc2 ?mkc3 ?kpc3 ?mkc4 ?kpc4 ?mkc5 ?kpc5 ?mkc6 ?kpc6 ?mkc7 ?kpc7 ?mkc8 ?kpc8 ⟨⟨?pg,?hd,?po,?sa⟩,?nn1,?nn2,?nn3⟩ ?g1CQ ?g2CQ ?g3CQ ?g1CB ?g2CB ?g3CB ?tyn ?tyk ?qb1 ?qb2 ?qb3 ?qb4 ?qb5 ?qb6 ?qb7 ?qb8 ?tn1 ?tb1 ?tn2 ?tb2 ?tn3 ?tb3 ?tn4 ?tb4 ?q1 ?q2 ?q3 ?q4 ?q5 ?q6 ?q7 ?q8 ?q9 ?z1 ?z2 ?z3 ?z4 ?z5 ?z6 ?z7 ?z8 ?z9 ?z10 ?z11 ?z12 ?z13 ?z14 ?z15 ?z16 ?z17 ?z18
  case amR | amCQ | amCB | amc1 | amc2 | amc3 | amc4 | amc5 | amc6 | amc7 | amc8 | a1 | l1 | e1 | k1 | a2 | l2 | e2 | k2 | a3 | l3 | e3 | k3 | a4 | i4 | l4 | e4 | k4 | a5 | i5 | l5 | e5 | k5 | a6 | i6 | l6 | e6 | k6 | a7 | l7 | e7 | k7 | a8 | i8 | l8 | e8 | k8 | a9 | i9 | l9 | e9 | k9 | a10 | i10 | l10 | e10 | k10 | a11 | i11 | l11 | e11 | k11 | a12 | l12 | e12 | k12 | a13 | l13 | e13 | k13 | a14 | l14 | e14 | k14 | a15 | l15 | e15 | k15 | a16 | l16 | e16 | k16 | a17 | l17 | e17 | k17 | a18 | l18 | e18 | k18 | a19 | l19 | e19 | k19 | a20 | l20 | e20 | k20 | a21 | l21 | e21 | k21 | a22 | l22 | e22 | k22 | a23 | i23 | l23 | e23 | k23 | a24 | l24 | e24 | k24 | a25 | l25 | e25 | k25 | a26 | i26 | l26 | e26 | k26 | a27 | i27 | l27 | e27 | k27 | a28 | i28 | l28 | e28 | k28 | a29 | i29 | l29 | e29 | k29 | a30 | i30 | l30 | e30 | k30 | a31 | l31 | e31 | k31 | a32 | l32 | e32 | k32 | a33 | i33 | l33 | e33 | k33 | a34 | l34 | e34 | k34 | a35 | l35 | e35 | k35 | a36 | l36 | e36 | k36 | a37 | i37 | l37 | e37 | k37 | a38 | i38 | l38 | e38 | k38 | a39 | i39 | l39 | e39 | k39 | a40 | i40 | l40 | e40 | k40 | a41 | l41 | e41 | k41 | a42 | i42 | l42 | e42 | k42 | a43 | i43 | l43 | e43 | k43 | a44 | i44 | l44 | e44 | k44 | a45 | i45 | l45 | e45 | k45 | a46 | i46 | l46 | e46 | k46 | a47 | i47 | l47 | e47 | k47 | a48 | i48 | l48 | e48 | k48 | a49 | i49 | l49 | e49 | k49 | a50 | i50 | l50 | e50 | k50 | a51 | i51 | l51 | e51 | k51 | a52 | i52 | l52 | e52 | k52 | a53 | i53 | l53 | e53 | k53 | a54 | i54 | l54 | e54 | k54 | a55 | i55 | l55 | e55 | k55 | a56 | l56 | e56 | k56 | a57 | l57 | e57 | k57 | a58 | l58 | e58 | k58 | lkT | wread5 | mkR | kpR | mkc1 | kpc1 | mkc2 | kpc2 | mkc3 | kpc3 | mkc4 | kpc4 | mkc5 | kpc5 | mkc6 | kpc6 | mkc7 | kpc7 | mkc8 | kpc8 | pg | hd | po | sa | nn1 | nn2 | nn3 | g1CQ | g2CQ | g3CQ | g1CB | g2CB | g3CB | tyn | tyk | tn1 | tn2 | tn3 | tn4 | q1 | q2 | q3 | q4 | q5 | q6 | q7 | q8 | q9 | z1 | z2 | z3 | z4 | z5 | z6 | z7 | z8 | z9 | z10 | z11 | z12 | z13 | z14 | z15 | z16 | z17 | z18=>first | k_is | (unfold L2.NoAttr;k_is)
  case qb1 | qb2 | qb3 | qb4 | qb5 | qb6 | qb7 | qb8 | tb1 | tb2 | tb3 | tb4=>kernel_rfl
 case htab=>intro w h KX;kernel_rfl
 case hnt=>intro w h KX;kernel_rfl
